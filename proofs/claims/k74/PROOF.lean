import PyProof.Rows.All
import Wide.All
import OpenK.AllK
import Wide.FinOn
import PyProof.EqAt
import PyProof.EqKinds
import PyProof.TupleCall
import Lean
import PySem.Challenge.RW_samestride_k74_whole_last_calls
set_option Elab.async false
set_option linter.all false
set_option maxRecDepth 100000
open PySem renaming wpAny_bind->Ya
open PySem renaming Shared->Yb
open PySem renaming wpAny_pure->Yc
open PySem renaming mainGlobals->Yd
open PySem renaming sysModules->Ye
open PySem renaming wpAny_mono->Yf
open PySem renaming World->Yg
open PySem renaming Program->Yh
open PySem renaming Addr->Yi
open PySem renaming Value->Yj
open PySem.W renaming Frag->Yk
open PySem.W renaming nsIn->Yl
open PySem.W renaming mg_none_of->Ym
open PySem.Heap renaming lt_size->Yn
open PySem.NameKind renaming free->Yo
open PySem.PyData renaming strOk->Yp
open PySem renaming wpAny_newObj_type->Yq
open List renaming append_nil->Yr
open List renaming length_map->Ys
open Option renaming map_some->Yt
open Nat renaming lt_irrefl->Yu
open Nat renaming zero_le->Yv
open PySem renaming starEach->Yw
open PySem renaming wpAny->Yy
open PySem renaming sizeLine_eq->Yz
open PySem.Value renaming ref->YA
open Sum renaming inr->YB
open Option.some renaming inj->YC
open PySem renaming Heap->YD
open PySem renaming Around->YE
open PySem renaming mem_of_lookup->YF
open PySem.W renaming findIn->YG
open List renaming replicate->YH
open Ne renaming symm->YI
open PySem renaming compareOp->YJ
open PySem.Heap renaming get?_update_other->YK
open PySem.W renaming mg_of->YL
open PySem.PyData renaming eqv->YM
open PySem renaming wpAny_field->YN
open PySem renaming backTo->YO
open PySem.W renaming emptyDict->YQ
open PySem.F renaming plain_max_loop->YR
open PySem.Heap renaming get?_update_self->YS
open PySem renaming wpAny_Call_Name_kw->YT
open PySem.Obj renaming data_mapFields->YU
open PySem.W renaming hideAll->YV
open PySem renaming keywordEach->YW
open PySem renaming wpAny_callSpecial?_slot->YX
open List renaming any_cons->YY
open PySem.W renaming keepIn->YZ
open PySem renaming wpAny_holding->Wa
open PySem renaming wpAny_call_entry->Wb
open PySem.W renaming instObj->Wc
open List renaming lookup->We
open PyProof.Rows renaming slot_tuple_getitem->Wf
open PySem renaming wpAny_of_eq->Wg
open PySem.Builtin.List renaming listTooLong->Wh
open Bool renaming or_eq_true->Wi
open Option renaming some->Wj
open Option renaming none->Wl
open Bool renaming true->Wm
open Bool renaming false->Wn
open Decidable renaming decide->Wo
open PySem.Str renaming ofString->O
open Bool renaming and_eq_true->Oa
open List renaming getElem?_eq_some_iff->Ob
open List renaming getElem?_set_ne->Oc
open PySem.Heap renaming get?_push_of_some->Od
open List renaming getElem?_append_left->Oe
open List renaming size_toArray->Of
open List renaming getElem?_eq_getElem->Og
open List renaming mem_cons_of_mem->Oh
open List renaming mem_cons_self->Oi
open PySem.Heap renaming get?_push_size->Oj
open List renaming mem_of_getElem?->O0
open List renaming getElem?_set_self->Ol
open List renaming getElem?_append_right->Om
open List renaming getElem?_map->On
open Option renaming map_eq_some_iff->Oo
open List renaming map_cons->Op
open Nat renaming le_refl->Oq
open List renaming mem_cons->O1
open List renaming length_cons->Os
open Nat renaming lt_of_lt_of_le->Ot
open Nat renaming ne_of_lt->Ou
open List renaming mem_append_right->Ov
open Bool renaming false_ne_true->Ow
open List renaming mem_singleton->Ox
open List renaming map_nil->Oy
open List renaming append_assoc->Oz
open List renaming length_append->OA
open List renaming nil_append->OB
open List renaming all_eq_true->OC
open List renaming mem_append->OD
open Nat renaming le_trans->OE
open List renaming lookup_cons->OF
open Bool renaming false_eq_true->OG
open Nat renaming lt_succ_self->OH
open List renaming sum_cons->OI
open List renaming getElem?_cons_zero->OJ
open List renaming getElem?_cons_succ->OK
set_option genSizeOf false
section
open PySem PySem.W PyProof.Rows
set_option maxHeartbeats 0
namespace PySem.W.Fast
def tw9730368385492153344:=Nat
def tw3237303260063511584:=Nat
def tw1977568775088363552:=Nat
def tw15766046884875920416:=Nat
def tw17270153138841782336:=Nat
def tw16459479284529835136:=Nat
def tw15517991175608917120:=Nat
def tw15779929902009092224:=Nat
def tw16744672412543135104:=Nat
def tw4267544663873162880:=Nat
def tw6646763590145147552:=Nat
def tw3603485996976422592:=Nat
def tw553846866968704704:=Nat
def tw15278277225404162784:=Nat
def tw14263322329902234368:=Nat
def tw11081444415937126176:=Nat
def tw3974288756490195808:=Nat
def tw8940100072930622368:=Nat
def tw1730380103574235104:=Nat
def tw2509150386303519712:=Nat
def tw17125941478158276641:=Nat
def tw16444567125529235553:=Nat
def tw6993963845248437345:=Nat
def tw3642225914851638401:=Nat
def tw682970313412357377:=Nat
def tw12126079426089292161:=Nat
def tw2403220271247261345:=Nat
def tw643364383943659201:=Nat
def tw16953899245350656897:=Nat
def tw6878745165516338178:=Nat
def tw15618513112283879426:=Nat
def tw11535261479416214626:=Nat
def tw17874407659194869858:=Nat
def tw1069591720822469730:=Nat
def tw2880093652539219202:=Nat
def tw1608954792765298018:=Nat
def tw6789287680239784418:=Nat
def tw1155932085525359138:=Nat
def tw7598383372327737922:=Nat
def tw15399203465801783906:=Nat
def tw13842383455318345314:=Nat
def tw14658279048055860130:=Nat
def tw7628642660830086114:=Nat
def tw17004128917379338210:=Nat
def tw7691967713279727651:=Nat
def tw17302948999624637539:=Nat
def tw16647308539039301955:=Nat
def tw3631793502047249763:=Nat
def tw13193000166660800867:=Nat
def tw6795164623639194019:=Nat
def tw13974077663964946947:=Nat
def tw16818137632836561443:=Nat
def tw7062330393133249155:=Nat
def tw9883172704099899043:=Nat
def tw5216647117380034243:=Nat
def tw9199879276609934147:=Nat
def tw112594052371698563:=Nat
def tw8165305653339968387:=Nat
def tw5687494705815967780:=Nat
def tw14269903584824894532:=Nat
def tw6365831644070943844:=Nat
def tw13987408086122382692:=Nat
def tw8126296664718763364:=Nat
def tw7254716460829446596:=Nat
def tw6358249495378969060:=Nat
def tw13337937219326759428:=Nat
def tw9256219983831117348:=Nat
def tw9256695802444243524:=Nat
def tw9739036641935878756:=Nat
def tw9541263198236220004:=Nat
def tw9512791625456851652:=Nat
def tw1796718982251204292:=Nat
def tw18107631969580980004:=Nat
def tw716177856032971620:=Nat
def tw7458261547818558308:=Nat
def tw3790916555968385988:=Nat
def tw617662543621125125:=Nat
def tw6662243063527182373:=Nat
def tw8832123232639031333:=Nat
def tw8813694656614214693:=Nat
def tw7565979759798848581:=Nat
def tw4241167665796161605:=Nat
def tw15562220909020463173:=Nat
def tw3181717572727075973:=Nat
def tw10025680123229072549:=Nat
def tw8163931389228300549:=Nat
def tw7206717189529268517:=Nat
def tw9645978086242045253:=Nat
def tw5748211178115029349:=Nat
def tw8842402465954032997:=Nat
def tw16542245610810082693:=Nat
def tw7852128491741678981:=Nat
def tw17412947498863638917:=Nat
def tw13478911563818019333:=Nat
def tw10422630380211781125:=Nat
def tw4235250362786129445:=Nat
def tw17720169054183236229:=Nat
def tw9820509842104471269:=Nat
def tw2986235718462823397:=Nat
def tw9576256474601182181:=Nat
def tw1691986833242943558:=Nat
def tw10829087083274379366:=Nat
def tw7085294594866496774:=Nat
def tw15990377059191442694:=Nat
def tw4366465655492946214:=Nat
def tw6452063469984086502:=Nat
def tw16127539169304155686:=Nat
def tw17171723492986876454:=Nat
def tw15544877776478774854:=Nat
def tw14105268048984635078:=Nat
def tw3827436409661569734:=Nat
def tw3409032926808122086:=Nat
def tw7111759844697146214:=Nat
def tw2695824264441024551:=Nat
def tw13377755164160289831:=Nat
def tw231275473151494215:=Nat
def tw9119755816980248647:=Nat
def tw5233487238475261095:=Nat
def tw17340278730946298055:=Nat
def tw8610330307451643111:=Nat
def tw11388250172903524615:=Nat
def tw11253240263024706887:=Nat
def tw8773709428485119431:=Nat
def tw117479033602190823:=Nat
def tw9934305788524341735:=Nat
def tw13429396940430122535:=Nat
def tw16854714296665462375:=Nat
def tw10886584940811140743:=Nat
def tw169323884531212967:=Nat
def tw15437662782558627623:=Nat
def tw9459249604774297383:=Nat
def tw8248126819641275239:=Nat
def tw6747427244015000584:=Nat
def tw7368718419286725768:=Nat
def tw4455572411139523784:=Nat
def tw12443785300967633128:=Nat
def tw9214722576891982088:=Nat
def tw7169124354674979272:=Nat
def tw1497396354912457160:=Nat
def tw3567290023647922696:=Nat
def tw11444286517873852968:=Nat
def tw5671779310728215080:=Nat
def tw15620372523274990344:=Nat
def tw14214101552404253608:=Nat
def tw946254858998624200:=Nat
def tw14574838628341373928:=Nat
def tw5812725652877779017:=Nat
def tw11182756639232755849:=Nat
def tw1236510551048674441:=Nat
def tw13791054453800739017:=Nat
def tw12323516708035588521:=Nat
def tw17084373848146129545:=Nat
def tw13765641847516981897:=Nat
def tw17511064741461194505:=Nat
def tw15594682208225001353:=Nat
def tw223375648510681065:=Nat
def tw11310707462641144842:=Nat
def tw12185538057412970730:=Nat
def tw537866902956663018:=Nat
def tw18444153343956926826:=Nat
def tw3138549474450128266:=Nat
def tw16805736196697444778:=Nat
def tw360103421054414282:=Nat
def tw5827878048374825418:=Nat
def tw5793249866375289322:=Nat
def tw7197437381901044394:=Nat
def tw608367519725656746:=Nat
def tw1639059269964817162:=Nat
def tw16050164971260841738:=Nat
def tw7658601330792084266:=Nat
def tw1742819045615095626:=Nat
def tw8842189028692749130:=Nat
def tw7151974141493825482:=Nat
def tw1019143003423345707:=Nat
def tw10398335445047108715:=Nat
def tw14664880444450186379:=Nat
def tw8776867648463225035:=Nat
def tw15471700541529839851:=Nat
def tw5166024105663884523:=Nat
def tw6969886174490279243:=Nat
def tw11662252878919610795:=Nat
def tw17006917163157594603:=Nat
def tw1247794993713716300:=Nat
def tw17445079078619140236:=Nat
def tw3635516702507471020:=Nat
def tw2914242782517800140:=Nat
def tw11226148630904353100:=Nat
def tw18076479885378060652:=Nat
def tw11494665969289215404:=Nat
def tw16289146442017141260:=Nat
def tw10329900978150422124:=Nat
def tw1325781045211827948:=Nat
def tw14902622889061063436:=Nat
def tw676101338545120044:=Nat
def tw13539586650717532076:=Nat
def tw14332198639192301516:=Nat
def tw7959670619449753677:=Nat
def tw4988713791632576621:=Nat
def tw13515134315193397485:=Nat
def tw1090931315787225357:=Nat
def tw6871857617496909101:=Nat
def tw5886269915784438093:=Nat
def tw9774656768550443405:=Nat
def tw2064836689487733197:=Nat
def tw2735783464756913773:=Nat
def tw4750427936348855949:=Nat
def tw12717599507395644077:=Nat
def tw1785976230364868301:=Nat
def tw6988999834204346093:=Nat
def tw5712574459406591725:=Nat
def tw6604231233435526925:=Nat
def tw1208791673431915437:=Nat
def tw5627119970460657581:=Nat
def tw5563888174266183629:=Nat
def tw14745123920671131726:=Nat
def tw3922325659167704206:=Nat
def tw12290369743567961230:=Nat
def tw16876025421020857518:=Nat
def tw8089371755114796206:=Nat
def tw8492561473185953038:=Nat
def tw2323206626763822382:=Nat
def tw6286403552731782446:=Nat
def tw5137092892076454222:=Nat
def tw17212975009732110702:=Nat
def tw9369833653872436622:=Nat
def tw15879222438550677934:=Nat
def tw14223597285626579438:=Nat
def tw7066453324401583790:=Nat
def tw5403366698747273966:=Nat
def tw10959849018890060558:=Nat
def tw8404332518618780462:=Nat
def tw5398226498235123566:=Nat
def tw9956493219731071886:=Nat
def tw4432890521892856782:=Nat
def tw9001830022888508527:=Nat
def tw9068535131938921615:=Nat
def tw7591477011078373615:=Nat
def tw10492337949954646351:=Nat
def tw17712838870447752591:=Nat
def tw9619267472469042735:=Nat
def tw16297859580982412879:=Nat
def tw15999237014264437327:=Nat
def tw6677029899822468719:=Nat
def tw3728321364521715375:=Nat
def tw14080177436785683215:=Nat
def tw15008308309629613999:=Nat
def tw17087082666500671471:=Nat
def tw14021226106404847632:=Nat
def tw12819551916786817136:=Nat
def tw13704517345851716720:=Nat
def tw14462806046786662544:=Nat
def tw3522386054181670192:=Nat
def tw1723071796956937552:=Nat
def tw3213842712435178864:=Nat
def tw15508991254120477136:=Nat
def tw12182159214399865328:=Nat
def tw10722743537032192496:=Nat
def tw10007984398105515536:=Nat
def tw14821926750663193200:=Nat
def tw7891133618235446928:=Nat
def tw11881128323045377680:=Nat
def tw5935631701526135472:=Nat
def tw6109623112385743696:=Nat
def tw8505433200920110960:=Nat
def tw13708475820367354864:=Nat
def tw12432287376810291184:=Nat
def tw13759375127095816433:=Nat
def tw10906556094702471473:=Nat
def tw12360633185289057649:=Nat
def tw5049457539549368849:=Nat
def tw3626500293157760817:=Nat
def tw11222524103375861649:=Nat
def tw5455189754032313265:=Nat
def tw10099709460556018609:=Nat
def tw5822390132836419537:=Nat
def tw2956011344501607634:=Nat
def tw3964037952700704978:=Nat
def tw3038425026295876914:=Nat
def tw6403136407343432370:=Nat
def tw11139967084497616594:=Nat
def tw14471611879452234578:=Nat
def tw9329062561456762770:=Nat
def tw14332209260712080274:=Nat
def tw14073694242257727442:=Nat
def tw7349702900669579218:=Nat
def tw14777434137141666899:=Nat
def tw2824450326076340339:=Nat
def tw2011593937680718003:=Nat
def tw17527554407245769971:=Nat
def tw8852347057342764339:=Nat
def tw13220374291425709395:=Nat
def tw15474925957343411571:=Nat
def tw904454992132473331:=Nat
def tw13780293242978693747:=Nat
def tw1091395266298996403:=Nat
def tw8046610549365801683:=Nat
def tw8658296889188171475:=Nat
def tw1507222250889838323:=Nat
def tw1465635785890549491:=Nat
def tw9692078330550232947:=Nat
def tw7774834722033114035:=Nat
def tw8062335300982912947:=Nat
def tw18204072436804375572:=Nat
def tw7544475631505602612:=Nat
def tw6573242954048593012:=Nat
def tw17745931983678374036:=Nat
def tw13140734406251773140:=Nat
def tw16717474090505903348:=Nat
def tw5037559312939644148:=Nat
def tw1511438305113365812:=Nat
def tw2737068346243156372:=Nat
def tw7656336422437156340:=Nat
def tw5496900625369471508:=Nat
def tw7185228187228512788:=Nat
def tw4672299043080104564:=Nat
def tw16769013949176612532:=Nat
def tw1928618113199357620:=Nat
def tw16745678137387538132:=Nat
def tw18363219274901995380:=Nat
def tw3281053421328649076:=Nat
def tw13459341137366440021:=Nat
def tw8280952406235351189:=Nat
def tw12254874145267850421:=Nat
def tw10379861437119245557:=Nat
def tw2981764064354056501:=Nat
def tw13356887762238826901:=Nat
def tw10091528226968673781:=Nat
def tw4145926708452969973:=Nat
def tw18333827998555431477:=Nat
def tw9635271627022169749:=Nat
def tw8896154134477240981:=Nat
def tw14789455669515516565:=Nat
def tw8912767148105453301:=Nat
def tw4055302024309249877:=Nat
def tw547296407206782965:=Nat
def tw23373930680680566:=Nat
def tw2207279723098330230:=Nat
def tw14723628415697215766:=Nat
def tw2847266121972240822:=Nat
def tw7491043914484044342:=Nat
def tw6948657644203584086:=Nat
def tw17590862174117952086:=Nat
def tw12256200614054734454:=Nat
def tw13842299528547968662:=Nat
def tw16840587981983305430:=Nat
def tw8768271357460665174:=Nat
def tw11437014615161791478:=Nat
def tw4330834105341252695:=Nat
def tw1343580639805380695:=Nat
def tw4402200338604303447:=Nat
def tw2421207929678208151:=Nat
def tw4998905056489664759:=Nat
def tw15847088150817000919:=Nat
def tw14548485956580288119:=Nat
def tw5349541527768038007:=Nat
def tw8396733701826666135:=Nat
def tw6225900975012391639:=Nat
def tw5456348051685777143:=Nat
def tw7512257887236461399:=Nat
def tw15434874226533619639:=Nat
def tw11323228257187491896:=Nat
def tw3511057311960487000:=Nat
def tw12997644854954506360:=Nat
def tw738873235833641144:=Nat
def tw4435693933781046648:=Nat
def tw12779480352708172184:=Nat
def tw9990621898021208568:=Nat
def tw8495084833061823032:=Nat
def tw5591436630660189912:=Nat
def tw12340426289725292376:=Nat
def tw15720927891066645336:=Nat
def tw16886307649313300472:=Nat
def tw13030746722311804920:=Nat
def tw6021443918439234585:=Nat
def tw8019120791834241081:=Nat
def tw1304831858121987161:=Nat
def tw11687545932998205561:=Nat
def tw15173093102375521433:=Nat
def tw1585076921329114265:=Nat
def tw9391830663429587193:=Nat
def tw17269524514335021593:=Nat
def tw11638961841302846009:=Nat
def tw17738544977315880505:=Nat
def tw11726690092088121945:=Nat
def tw15671210213779375737:=Nat
def tw15749976489061698265:=Nat
def tw6416483013877551833:=Nat
def tw8981990658957686553:=Nat
def tw17309768807982427097:=Nat
def tw14772802256297651193:=Nat
def tw17185992234522920026:=Nat
def tw5318845668943057146:=Nat
def tw7314536280257555706:=Nat
def tw10434944154246683002:=Nat
def tw7751728505009691098:=Nat
def tw11202238825471588858:=Nat
def tw1496594170258796090:=Nat
def tw9505673755161493210:=Nat
def tw14892242799478268666:=Nat
def tw11891195435746498394:=Nat
def tw1329989673843768379:=Nat
def tw4652687069244128347:=Nat
def tw12664775335240010843:=Nat
def tw17911312802811187419:=Nat
def tw8756266348953449723:=Nat
def tw17375999445097153947:=Nat
def tw16760320973649512859:=Nat
def tw9566873226421865019:=Nat
def tw15221420776654978651:=Nat
def tw7691252147807705787:=Nat
def tw18018055708574634715:=Nat
def tw16722141251566082843:=Nat
def tw14040559384628023163:=Nat
def tw1755835647191566364:=Nat
def tw16183250053048500316:=Nat
def tw6205142693234437468:=Nat
def tw15397339924718129532:=Nat
def tw9103972324535153052:=Nat
def tw14825372422272487932:=Nat
def tw4078715734690116220:=Nat
def tw9047444303963281148:=Nat
def tw328682888066874140:=Nat
def tw17669277595190725500:=Nat
def tw4425435058472454012:=Nat
def tw15555411000068066236:=Nat
def tw3139306587456636892:=Nat
def tw17780570874128028636:=Nat
def tw9952263957100945404:=Nat
def tw17410476166428743676:=Nat
def tw1174968383899812925:=Nat
def tw1505998084857674845:=Nat
def tw4876065089928141949:=Nat
def tw2380734332959542493:=Nat
def tw3658364365893543165:=Nat
def tw3787750245711858941:=Nat
def tw11353447730009251101:=Nat
def tw8544674286095505757:=Nat
def tw6317418832058939837:=Nat
def tw14930752190150483421:=Nat
def tw336784633458821661:=Nat
def tw3206576094208090653:=Nat
def tw15148597750848208445:=Nat
def tw11696561954799812221:=Nat
def tw9164972510949537437:=Nat
def tw10120179846460027613:=Nat
def tw6830155813604104957:=Nat
def tw7178803342075860829:=Nat
def tw6692249796510806877:=Nat
def tw2931168726456442942:=Nat
def tw10110846114061464798:=Nat
def tw3597345889449076990:=Nat
def tw12452177216492324158:=Nat
def tw3114694537775493470:=Nat
def tw5396551423306373694:=Nat
def tw15624186201426636350:=Nat
def tw6952406066585262686:=Nat
def tw447530144539732574:=Nat
def tw16629222056782150302:=Nat
def tw10875565827649235710:=Nat
def tw7591909056229717918:=Nat
def tw9983283464308279327:=Nat
def tw690970428765441119:=Nat
def tw17093143623034310847:=Nat
def tw7851391851897263423:=Nat
def tw16090181338742361471:=Nat
def tw10501021618182424991:=Nat
def tw8919346409466547743:=Nat
def tw14461693206111523391:=Nat
def tw7094299641664223871:=Nat
def tw7533854505923749695:=Nat
def tw974242853135127091:=Nat
def tw17915975989033272439:=Nat
end PySem.W.Fast
open_top K74hd for PySem.Challenge.rw_samestride_k74_whole_last_calls
end
section
namespace L2
open PySem PySem.Spec PyProof.Rows
noncomputable abbrev Key:=Sum Int Str
noncomputable def ZgO:Key->Yj->Bool
 |.inl k,v=>Value.isInt k v
 |.inr x,v=>Value.isStrOf x v
noncomputable def ZtV(w:Yg):Key->Int
 |.inl k=>hashInt k
 |.inr x=>hashStr w x
def ZM:∀{k:Key}{v:Yj},ZgO k v=Wm->(∃i t,k=Sum.inl i/\v=Value.int i t)\/(∃x t,k=YB x/\v=Value.str x t)
 |.inl i,v,h=>by obtain⟨t,e⟩:=Value.isInt_shape (k:=i) (v:=v) h;exact .inl ⟨i,t,rfl,e⟩
 |.inr x,v,h=>by obtain⟨t,e⟩:=Value.isStrOf_shape (x:=x) (v:=v) h;exact .inr ⟨x,t,rfl,e⟩
def Zli(i:Int)(t:Tok):ZgO (.inl i) (.int i t)=Wm:=by simp[ZgO,Value.isInt]
def Zt(x:Str)(t:Tok):ZgO (.inr x) (.str x t)=Wm:=by simp[ZgO,Value.isStrOf]
def ZqC(a b:Int):Wo ((Sum.inl a:Key)=Sum.inl b)=(a==b):=by
 by_cases e:a=b
 . subst e;simp
 . have h:¬ (Sum.inl a:Key)=Sum.inl b:=λq=>e (Sum.inl.inj q);rw[decide_eq_false h];exact(beq_eq_false_iff_ne.mpr e).symm
def Zqz(a b:Str):Wo ((YB a:Key)=YB b)=Wo (a=b):=by
 by_cases e:a=b
 . subst e;simp
 . have h:¬ (YB a:Key)=YB b:=λq=>e (Sum.inr.inj q);rw[decide_eq_false h,decide_eq_false e]
def ZqB(a:Int)(b:Str):Wo ((Sum.inl a:Key)=YB b)=Wn:=decide_eq_false (λq=>nomatch q)
def ZqA(a:Str)(b:Int):Wo ((YB a:Key)=Sum.inl b)=Wn:=decide_eq_false (λq=>nomatch q)
noncomputable def ZY(prog:Yh)(w:Yg):PySem.KeyKind prog w Key where
 is:=ZgO
 hash:=ZtV w
 inj:=λv a b ha hb=>by
  rcases ZM ha with ⟨i,t,rfl,rfl⟩|⟨x,t,rfl,rfl⟩
  . rcases ZM hb with ⟨j,u,rfl,e⟩|⟨y,u,rfl,e⟩
    . injection e with e1 _;rw[e1]
    . exact nomatch e
  . rcases ZM hb with ⟨j,u,rfl,e⟩|⟨y,u,rfl,e⟩
    . exact nomatch e
    . injection e with e1 _;rw[e1]
 byValue:=λk v h=>by rcases ZM h with ⟨i,t,rfl,rfl⟩|⟨x,t,rfl,rfl⟩<;>rfl
 pyHash:=λhv h=>by
  rcases ZM hv with ⟨i,t,rfl,rfl⟩|⟨x,t,rfl,rfl⟩
  . exact wpAny_pyHash_int h
  . exact wpAny_pyHash_str h
 eqBool:=λhu hv h=>by
  rcases ZM hu with ⟨i,t,rfl,rfl⟩|⟨x,t,rfl,rfl⟩
  . rcases ZM hv with ⟨j,u,rfl,rfl⟩|⟨y,u,rfl,rfl⟩
    . rw[ZqC]at h;exact wpAny_eqBool_int h
    . rw[ZqB]at h;exact SeqAt.EqAt.int_str i t y u _ _ _ _ h
  . rcases ZM hv with ⟨j,u,rfl,rfl⟩|⟨y,u,rfl,rfl⟩
    . rw[ZqA]at h;exact SeqAt.EqAt.str_int x t j u _ _ _ _ h
    . rw[Zqz]at h;exact wpAny_eqBool_str h
 «strs»:=λk x t v h=>by
  rcases ZM h with ⟨i,u,rfl,e⟩|⟨y,u,rfl,e⟩
  . exact nomatch e
  . injection e with e1 _;subst e1;cases v<;>rfl
def ZiA(prog:Yh)(w:Yg)(i:Int)(t:Tok):(ZY prog w).is (.inl i) (.int i t)=Wm:=Zli i t
def Ziz(prog:Yh)(w:Yg)(x:Str)(t:Tok):(ZY prog w).is (.inr x) (.str x t)=Wm:=Zt x t
inductive V where
 |non|bl (b:Bool)|int (i:Int)|str (x:Str)|byt (b:Array UInt8)|flt (b:UInt64)|ref (a:Yi)|ty (n:String)
 deriving DecidableEq
def RelV:V->Yj->Prop
 |.non,u=>u=Value.none
 |.bl b,u=>u=Value.bool b
 |.int i,u=>∃t,u=Value.int i t
 |.str x,u=>∃t,u=Value.str x t
 |.byt b,u=>∃t,u=Value.bytes b t
 |.flt b,u=>∃t,u=Value.float b t
 |.ref a,u=>u=YA a
 |.ty n,u=>u=Value.type n
abbrev Zk:List V->List Yj->Prop:=Paired RelV
theorem Zk.length{xs:List V}{us:List Yj}(r:Zk xs us):xs.length=us.length:=Paired.length r
theorem Zk.get:∀{xs:List V}{us:List Yj}{i:Nat}{x:V},Zk xs us->xs[i]? = Wj x->∃u,us[i]? = Wj u/\RelV x u
 |_,_,_,_,.nil,e=>by simp at e
 |_,_,0,_,.cons r _,e=>by simp at e;subst e;exact⟨_,rfl,r⟩
 |_,_,i+1,x,.cons _ t,e=>by obtain⟨u,h1,h2⟩:=Zk.get (i:=i) (x:=x) t (by simpa using e);exact⟨u,by simpa using h1,h2⟩
theorem Zk.set{x:V}{u:Yj}(r:RelV x u):∀{xs:List V}{us:List Yj} (i:Nat),Zk xs us->Zk (xs.set i x) (us.set i u)
 |_,_,_,.nil=>.nil
 |_,_,0,.cons _ t=>.cons r t
 |_,_,i+1,.cons q t=>.cons q (Zk.set r i t)
theorem Zk.append:∀{xs ys:List V}{us ws:List Yj},Zk xs us->Zk ys ws->Zk (xs++ys) (us++ws)
 |_,_,_,_,.nil,s=>s
 |_,_,_,_,.cons r t,s=>.cons r (Zk.append t s)
theorem Zk.take:∀{xs:List V}{us:List Yj} (n:Nat),Zk xs us->Zk (xs.take n) (us.take n)
 |_,_,0,_=>.nil
 |_,_,_+1,.nil=>.nil
 |_,_,n+1,.cons r t=>.cons r (Zk.take n t)
theorem Zk.drop:∀{xs:List V}{us:List Yj} (n:Nat),Zk xs us->Zk (xs.drop n) (us.drop n)
 |_,_,0,r=>r
 |_,_,_+1,.nil=>.nil
 |_,_,n+1,.cons _ t=>Zk.drop n t
def Zep:Option V->Option Yj->Prop
 |some v,Wj u=>RelV v u
 |none,Wl=>True
 |_,_=>False
def KV{κ:Type}:List (κ×V)->List (κ×Yj)->Prop:=Paired λ(p:κ×V) (q:κ×Yj)=>p.1=q.1/\RelV p.2 q.2
noncomputable def kV:Key->V
 |.inl i=>.int i
 |.inr x=>.str x
inductive HO where
 |lst (xs:List V)
 |tup (xs:List V)
 |dK (kvs:List (Key×V))|dT (kvs:List (List Key×V))
 |set (S_:Int->Bool) (n:Nat)
 |ins (C dx:Yi) (fs:List (Str×V))
 |own (x:Yi)
 |xd (fs:List (Str×V))
 |met (f x:Yi)
 |rng (lo hi:Int)
 |frz (o:Obj) (u:HO)
 |tbl (ps:Array Yj)
 |ext (φ:YD->Prop)
abbrev Hp:=Yi->Option HO
noncomputable def upd(H:Hp)(a:Yi)(o:HO):Hp:=λb=>if b=a then Wj o else H b
def Zl{H:Hp}{a:Yi}{o:HO}:upd H a o a=Wj o:=by unfold upd;rw[if_pos rfl]
def Zc{H:Hp}{a b:Yi}{o:HO}(h:b≠a):upd H a o b=H b:=by unfold upd;rw[if_neg h]
def ZO{H:Hp}{a b:Yi}{o:HO}(h:H a=Wj o)(h':H b=Wl):a≠b:=by intro e;subst e;rw[h]at h';cases h'
section
variable (P:Yh) (w:Yg)
def Zbc(h:YD)(a:Yi)(items:Array Yj):Prop:=∃o,h.get? a=Wj o/\o.cls=.type "tuple" /\ o.dict=Wl/\∃n,o.data=.seq items n
theorem Zbc.tup{h:YD}{a:Yi}{items:Array Yj}(x:Zbc h a items):IsTup h a items:=let ⟨o,ho,hc,_,r⟩:=x;⟨o,ho,hc,r⟩
theorem Zbc.fresh(h:YD)(items:Array Yj):Zbc (h.push {cls:=.type "tuple",data:=.seq items}) h.objs.size items:=⟨_,Oj _ rfl,rfl,rfl,_,rfl⟩
def Z9(H:Hp)(h:YD)(a:Yi):HO->Prop
 |.lst xs=>xs.length<=sizeLine/\∃(its:List Yj) (n:Nat),Zk xs its/\h.get? a=Wj {cls:=.type "list",data:=.seq its.toArray n}
 |.tup xs=>xs.length<=sizeLine/\∃its:List Yj,Zk xs its/\Zbc h a its.toArray
 |.dK kvs=>kvs.length<=sizeLine/\(a==Ye)=Wn/\∃vs,KV kvs vs/\h.DictOf (ZY P w) a vs
 |.dT kvs=>kvs.length<=sizeLine/\(a==Ye)=Wn/\∃xs:List (List Key×Yi×Yj),
  Paired (λ(p:List Key×V) (q:List Key×Yi×Yj)=>p.1=q.1/\H q.2.1=Wj (.tup (p.1.map kV))/\RelV p.2 q.2.2) kvs xs /\
  ∃o es ep,h.get? a=Wj o/\o.ExactDict/\o.data=.dict es ep/\es.toList=xs.map (entryOfKey (tupleKind (ZY P w)))/\(xs.map (·.1)).Nodup
 |.set S_ n=>h.SetOf (intKind P w) a S_ n
 |.ins C dx fs=>H dx=Wj (.own a)/\fs.length<=1000/\dx≠a/\h.get? a=Wj (Wc C dx) /\
  ∃mA,h.Ns1 dx mA/\(∀f,Zep (fs.lookup f) (mA f))/\PySem.Within mA (fs.map (·.1))
 |.own _=>∃o,h.get? a=Wj o
 |.xd fs=>∃mA,h.Ns1 a mA/\∀f,Zep (fs.lookup f) (mA f)
 |.rng lo hi=>∃t u v,h.get? a=Wj {cls:=.type "range",data:=.fields #[.int lo t,.int hi u,.int 1 v]}
 |.frz o u=>h.get? a=Wj o/\Z9 H h a u
 |.tbl ps=>h.get? a=Wj {cls:=.none,data:=.fields ps}
 |.met f x=>h.get? a=Wj (PySem.W.methodObj (.ref f) (.ref x))
 |.ext φ=>φ h/\(∃o,h.get? a=Wj o)/\∀h1 h2:YD,φ h1->(∀o,h1.get? a=Wj o->h2.get? a=Wj o)->φ h2
def HOk(H:Hp)(h:YD):Prop:=∀a o,H a=Wj o->Z9 P w H h a o
end
section
variable {P:Yh}{w:Yg}{H H':Hp}{h h':YD}{a:Yi}{o:HO}
theorem Z9.lt(x:Z9 P w H h a o):a<h.objs.size:=by
 cases o with
 |lst xs=>obtain⟨_,_,_,_,e⟩:=x;exact Yn e
 |tup xs=>obtain⟨_,_,_,p⟩:=x;exact p.tup.lt
 |dK kvs=>obtain⟨_,_,_,_,o,_,_,e,_⟩:=x;exact Yn e
 |dT kvs=>obtain⟨_,_,_,_,o,_,_,e,_⟩:=x;exact Yn e
 |set S_ n=>obtain⟨o,_,_,_,e,_⟩:=x;exact Yn e
 |ins C dx fs=>obtain⟨_,_,_,e,_⟩:=x;exact Yn e
 |own y=>obtain⟨_,e⟩:=x;exact Yn e
 |xd fs=>obtain⟨_,⟨_,_,_,e,_⟩,_⟩:=x;exact Yn e
 |rng lo hi=>obtain⟨_,_,_,e⟩:=x;exact Yn e
 |frz ob u=>obtain⟨e,_⟩:=x;exact Yn e
 |tbl ps=>exact Yn (show h.get? a=Wj _ from x)
 |met f y=>exact Yn (show h.get? a=Wj _ from x)
 |ext φ=>obtain⟨_,⟨_,e⟩,_⟩:=x;exact Yn e
theorem Paired.mapP{α β:Type}{F G:α->β->Prop}:∀{l₁:List α}{l₂:List β},Paired F l₁ l₂->(∀a b,F a b->G a b)->Paired G l₁ l₂
 |_,_,.nil,_=>.nil
 |_,_,.cons r t,f=>.cons (f _ _ r) (Paired.mapP t f)
def Z9.stay(x:Z9 P w H h a o)(k:∀b u,(b=a\/H b=Wj (.own a))->h.get? b=Wj u->h'.get? b=Wj u)
 (ho:∀b,H b=Wj (.own a)->H' b=Wj (.own a)) (ht:∀b xs,H b=Wj (.tup xs)->H' b=Wj (.tup xs)):Z9 P w H' h' a o:=by
 induction o with
 |lst xs=>obtain⟨z,its,n,r,e⟩:=x;exact⟨z,its,n,r,k _ _ (.inl rfl) e⟩
 |tup xs=>obtain⟨z,its,r,ob,e,c⟩:=x;exact⟨z,its,r,ob,k _ _ (.inl rfl) e,c⟩
 |dK kvs=>obtain⟨z,y,vs,r,ob,es,ep,e,c⟩:=x;exact⟨z,y,vs,r,ob,es,ep,k _ _ (.inl rfl) e,c⟩
 |dT kvs=>obtain⟨z,y,xs,r,ob,es,ep,e,c⟩:=x;exact⟨z,y,xs,Paired.mapP r λp q z=>⟨z.1,ht _ _ z.2.1,z.2.2⟩,ob,es,ep,k _ _ (.inl rfl) e,c⟩
 |set S_ n=>obtain⟨ob,es,ep,t,e,c⟩:=x;exact⟨ob,es,ep,t,k _ _ (.inl rfl) e,c⟩
 |ins C dx fs=>obtain⟨d,z,ne,e,mA,⟨od,es,ep,e2,c⟩,r⟩:=x;exact⟨ho _ d,z,ne,k _ _ (.inl rfl) e,mA,⟨od,es,ep,k _ _ (.inr d) e2,c⟩,r⟩
 |own y=>obtain⟨ob,e⟩:=x;exact⟨ob,k _ _ (.inl rfl) e⟩
 |xd fs=>obtain⟨mA,⟨od,es,ep,e,c⟩,r⟩:=x;exact⟨mA,⟨od,es,ep,k _ _ (.inl rfl) e,c⟩,r⟩
 |rng lo hi=>obtain⟨t,u,v,e⟩:=x;exact⟨t,u,v,k _ _ (.inl rfl) e⟩
 |frz ob u ih=>obtain⟨e,q⟩:=x;exact⟨k _ _ (.inl rfl) e,ih q⟩
 |tbl ps=>have e:h.get? a=Wj {cls:=.none,data:=.fields ps}:=x;show h'.get? a=Wj {cls:=.none,data:=.fields ps};exact k a _ (.inl rfl) e
 |met f y=>have e:h.get? a=Wj (PySem.W.methodObj (.ref f) (.ref y)):=x;show h'.get? a=Wj (PySem.W.methodObj (.ref f) (.ref y));exact k a _ (.inl rfl) e
 |ext φ=>obtain⟨p,⟨o,e⟩,st⟩:=x;exact⟨st _ _ p λo q=>k _ _ (.inl rfl) q,⟨o,k _ _ (.inl rfl) e⟩,st⟩
theorem HOk.lt(x:HOk P w H h)(e:H a=Wj o):a<h.objs.size:=(x a o e).lt
def HOk.fresh(x:HOk P w H h)(e:h.objs.size<=a):H a=Wl:=by
 cases q:H a with
 |none=>rfl
 |some u=>exact absurd (Ot (x.lt q) e) (Yu _)
def HOk.kept(x:HOk P w H h)(k:∀b u,h.get? b=Wj u->h'.get? b=Wj u):HOk P w H h':=λa o e=>(x a o e).stay (λb u _ q=>k b u q) (λ_ q=>q) λ_ _ q=>q
def HOk.laid(x:HOk P w H h)(k:∀b u,h.get? b=Wj u->h'.get? b=Wj u)(hp:h.objs.size<=a)(new:Z9 P w (upd H a o) h' a o):HOk P w (upd H a o) h':=λb u e=>by
 have hn:=x.fresh hp;by_cases hb:b=a
 . subst hb;rw[Zl]at e;cases e;exact new
 . rw[Zc hb]at e;exact(x b u e).stay (λc v _ q=>k c v q) (λc q=>by rw[Zc (ZO q hn)];exact q) λc xs q=>by rw[Zc (ZO q hn)];exact q
end
def Rd(H:Hp)(a:Yi)(u:HO):Prop:=H a=Wj u\/∃o,H a=Wj (.frz o u)
def Rd.ok{P:Yh}{w:Yg}{H:Hp}{h:YD}{a:Yi}{u:HO}(r:Rd H a u)(x:HOk P w H h):Z9 P w H h a u:=by
 rcases r with r|⟨o,r⟩
 . exact x a u r
 . obtain⟨_,q⟩:=x a _ r;exact q
def Mut:Option HO->Prop
 |some (.lst _)=>True
 |some (.dK _)=>True
 |some (.dT _)=>True
 |some (.set _ _)=>True
 |some (.ins _ _ _)=>True
 |some (.ext _)=>True
 |_=>False
section
variable {P:Yh}{w:Yg}{H:Hp}{h h':YD}{x e:Yi}{o':HO}
def HOk.write(ok:HOk P w H h)(mu:Mut (H x))(he:e=x\/H e=Wj (.own x))(k:∀b u,b≠e->h.get? b=Wj u->h'.get? b=Wj u)(heo:∃u,h'.get? e=Wj u)
 (new:Z9 P w (upd H x o') h' x o'):HOk P w (upd H x o') h':=λb u q=>by
 have nown:∀c y,H c=Wj (.own y)->c≠x:=λc y r z=>by subst z;rw[r]at mu;exact mu
 have ntup:∀c xs,H c=Wj (.tup xs)->c≠x:=λc xs r z=>by subst z;rw[r]at mu;exact mu
 by_cases hb:b=x
 . subst hb;rw[Zl]at q;cases q;exact new
 . rw[Zc hb]at q;by_cases hbe:b=e
   . have q':H b=Wj (.own x):=by
      rcases he with z|z
      . exact absurd (hbe.trans z) hb
      . rw[hbe];exact z
     rw[q]at q';cases q';obtain⟨v,hv⟩:=heo;exact⟨v,by rw[hbe];exact hv⟩
   . refine(ok b u q).stay (λc v hc r=>k c v ?_ r) (λc r=>by rw[Zc (nown c b r)];exact r) λc xs r=>by rw[Zc (ntup c xs r)];exact r
     rcases hc with rfl|hc
     . exact hbe
     . rintro rfl;rcases he with z|z
       . exact nown c b hc z
       . rw[hc]at z;cases z;exact hb rfl
end
structure Un(fs ex:List Yi)(H H':Hp)(h h':YD):Prop where
 keep:∀b o,h.get? b=Wj o->H b=Wl->b ∉ fs->b ∉ ex->h'.get? b=Wj o
 slot:∀b o,h.get? b=Wj o->H b=Wl->b∈fs->b ∉ ex->∃sl,h'.get? b=Wj {o with slots:=sl}
 free:∀b o,h.get? b=Wj o->H b=Wl->b ∉ ex->H' b=Wl
 there:∀b o,h.get? b=Wj o->b ∉ ex->∃o',h'.get? b=Wj o'
 tups:∀b xs,H b=Wj (.tup xs)->H' b=Wj (.tup xs)
 frzs:∀b o u,H b=Wj (.frz o u)->H' b=Wj (.frz o u)
 tbls:∀b ps,H b=Wj (.tbl ps)->∃more,H' b=Wj (.tbl (ps++more))
section
variable {fs fs' ex ex':List Yi}{H H1 H2:Hp}{h h1 h2 h':YD}{a x e:Yi}{o:HO}
def Un.any(u:Un fs ex H H1 h h1){b:Yi}{ob:Obj}(q:h.get? b=Wj ob)(n:H b=Wl)(hx:b ∉ ex):∃sl,h1.get? b=Wj {ob with slots:=sl}:=by
 by_cases hb:b∈fs
 . exact u.slot b ob q n hb hx
 . exact⟨ob.slots,u.keep b ob q n hb hx⟩
def Un.trans(a:Un fs ex H H1 h h1)(b:Un fs ex H1 H2 h1 h2):Un fs ex H H2 h h2 where
 keep:=λc ob q n hc hx=>b.keep c ob (a.keep c ob q n hc hx) (a.free c ob q n hx) hc hx
 slot:=λc ob q n hc hx=>by obtain⟨sl,e1⟩:=a.slot c ob q n hc hx;obtain⟨sl',e2⟩:=b.slot c _ e1 (a.free c ob q n hx) hc hx;exact⟨sl',e2⟩
 free:=λc ob q n hx=>by obtain⟨o',e1⟩:=a.there c ob q hx;exact b.free c o' e1 (a.free c ob q n hx) hx
 there:=λc ob q hx=>by obtain⟨o',e1⟩:=a.there c ob q hx;exact b.there c o' e1 hx
 tups:=λc xs q=>b.tups c xs (a.tups c xs q)
 frzs:=λc ob xs q=>b.frzs c ob xs (a.frzs c ob xs q)
 tbls:=λc ps q=>by obtain⟨m1,e1⟩:=a.tbls c ps q;obtain⟨m2,e2⟩:=b.tbls c _ e1;exact⟨m1++m2,by rw[e2,Array.append_assoc]⟩
def Un.kept(k:∀b u,h.get? b=Wj u->h'.get? b=Wj u):Un fs ex H H h h':=⟨λb ob q _ _ _=>k b ob q,λb ob q _ _ _=>⟨ob.slots,k b ob q⟩,λ_ _ _ n _=>n,λb ob q _=>⟨ob,k b ob q⟩,λ_ _ q=>q,λ_ _ _ q=>q,λ_ ps q=>⟨#[],by rw[q];simp⟩⟩
def Un.refl:Un fs ex H H h h:=Un.kept λ_ _ q=>q
def Un.laid(k:∀b u,h.get? b=Wj u->h'.get? b=Wj u)(hp:h.objs.size<=a)(hn:H a=Wl):Un fs ex H (upd H a o) h h' where
 keep:=λb u q _ _ _=>k b u q
 slot:=λb u q _ _ _=>⟨u.slots,k b u q⟩
 free:=λb u q n _=>by rw[Zc (Ou (Ot (Yn q) hp))];exact n
 there:=λb u q _=>⟨u,k b u q⟩
 tups:=λb xs q=>by rw[Zc (ZO q hn)];exact q
 frzs:=λb u xs q=>by rw[Zc (ZO q hn)];exact q
 tbls:=λb ps q=>⟨#[],by rw[Zc (ZO q hn),q];simp⟩
def Un.write(mu:Mut (H x))(he:e=x\/H e=Wj (.own x))(k:∀b u,b≠e->h.get? b=Wj u->h'.get? b=Wj u)(heo:∃u,h'.get? e=Wj u):Un fs ex H (upd H x o) h h':=by
 have hx:∀b,H b=Wl->b≠x:=λb n z=>by subst z;rw[n]at mu;exact mu
 have hb:∀b,H b=Wl->b≠e:=λb n z=>by
  subst z;rcases he with r|r
  . exact hx b n r
  . rw[n]at r;cases r
 have hm:∀b u,H b=Wj u->¬ Mut (Wj u)->b≠x:=λb u q nm z=>by subst z;rw[q]at mu;exact nm mu
 refine⟨λb u q n _ _=>k b u (hb b n) q,λb u q n _ _=>⟨u.slots,k b u (hb b n) q⟩,λb u q n _=>by rw[Zc (hx b n)];exact n,λb u q _=>?_,
  λb xs q=>by rw[Zc (hm b _ q λz=>z)];exact q,λb u xs q=>by rw[Zc (hm b _ q λz=>z)];exact q,λb ps q=>⟨#[],by rw[Zc (hm b _ q λz=>z),q];simp⟩⟩
 by_cases hbe:b=e
 . subst hbe;exact heo
 . exact⟨u,k b u hbe q⟩
end
noncomputable def trk(h:YD)(H:Hp):List Yi:=(List.range h.objs.size).filter λa=>(H a).isSome
noncomputable def ZhG(h:YD)(H:Hp):YD:=YV h (trk h H)
def Zlo(h:YD)(H:Hp):(ZhG h H).objs.size=h.objs.size:=PySem.W.hideAll_size _ _
def ZmK{h:YD}{H:Hp}{b:Yi}{o:Obj}(e:h.get? b=Wj o)(n:H b=Wl):(ZhG h H).get? b=Wj o:=
 PySem.W.hideAll_get _ e λhm=>by have q:(H b).isSome=Wm:=(List.mem_filter.mp hm).2;rw[n]at q;simp at q
def Zok{h:YD}{H:Hp}{b:Yi}{o:Obj}(e:(ZhG h H).get? b=Wj o):h.get? b=Wj o/\H b=Wl:=by
 have e':h.get? b=Wj o:=PySem.W.of_hideAll (trk h H) e;refine⟨e',?_⟩;cases q:H b with
 |none=>rfl
 |some x=>have hm:b∈trk h H:=List.mem_filter.mpr ⟨List.mem_range.mpr (Yn e'),by simp[q]⟩;have z:(ZhG h H).get? b=Wl:=PySem.W.hideAll_none (trk h H) hm;rw[z]at e;cases e
structure Mod(K:Yk)(mg:Str->Option Yj)(base:YD):Prop where
 kin:K.In base
 glob:base.Ns Yd mg
 blt:∃mb,base.Ns builtinsNs mb/\∀x:Str,x ≠ "__name__" -> mb x=bootBuiltins x
 nolimit:base.NoLimit
structure Cx where
 prog:Yh
 w:Yg
 K:Yk
 mg:Str->Option Yj
 base:YD
 A:YE
 N:List Str
 s₀:Yb
 H₀:Hp
 env:Env
 outer:List Env
 stack:List Env
 ex:List Yi
 fn:Str->Bool
 calm:Bool
 pn:List (Yi×Obj)
 xe:Yj->Yb->Prop
noncomputable def frs(l:List Env):List Yi:=l.filterMap (·.frame)
noncomputable abbrev Cx.fs(X:Cx):List Yi:=frs X.outer
def Vis(sc:Scope)(x:Str):Prop:=sc.names.lookup x=Wj .local\/sc.names.lookup x=Wj .cell\/sc.names.lookup x=Wj .free
def Loc(sc:Scope)(x:Str):Prop:=sc.names.lookup x=Wj .local\/sc.names.lookup x=Wj .cell
def Look(env:Env)(h:YD)(m:Str->Option Yj)(x:Str)(u:Yj):Prop:=(env.kindOf x=Wj .local/\m x=Wj u)\/((env.kindOf x=Wj .cell\/env.kindOf x=Wj .free)/\∃c,env.cells.lookup x=Wj c/\h.IsCell c (Wj u))
structure Cx.Ok(X:Cx):Prop where
 mod:Mod X.K X.mg X.base
 kind:X.env.scope.kind=.function
 glob:X.env.globals=Yd
 blt:X.env.builtins=builtinsNs
 above:X.s₀.heap.objs.size<=X.env.locals
 inj:∀x y c,X.env.cells.lookup x=Wj c->X.env.cells.lookup y=Wj c->x=y
 has:∀x,(X.env.kindOf x=Wj .cell\/X.env.kindOf x=Wj .free)->∃c,X.env.cells.lookup x=Wj c
 cab:∀x c,X.fn x=Wm->X.env.cells.lookup x=Wj c->X.s₀.heap.objs.size<=c
 hd:X.calm=Wm->X.A.handled=Wl
 frames:X.A.frames=Wj X.stack
 stk:X.stack=X.outer\/(X.stack=X.env::X.outer/\X.env.frame=Wj X.env.locals)
 exf:∀b∈X.ex,b≠X.env.locals/\∀x c,X.env.cells.lookup x=Wj c->c≠b
 bs:∀b o,X.base.get? b=Wj o->X.s₀.heap.get? b=Wj o/\X.H₀ b=Wl
 bsz:X.base.objs.size<=X.s₀.heap.objs.size
 noex:∀b o,X.base.get? b=Wj o->b ∉ X.ex
 exfs:∀b∈X.ex,b ∉ X.fs
 funs:X.s₀.heap.FunFrames X.base X.outer
 frf:∀b∈X.fs,X.H₀ b=Wl
structure Inv(X:Cx)(pins:List (Yi×Obj))(Z:List (Option V))(H:Hp)(s:Yb):Prop where
 ok:X.Ok
 os:s.os=X.s₀.os
 bare:AllBare s.gens
 base:Un X.fs X.ex X.H₀ H X.s₀.heap s.heap
 loc:∃m,s.heap.Ns X.env.locals m/\∀(i:Nat) (x:Str) (v:V),X.N[i]? = Wj x->Z[i]? = Wj (Wj v)->Vis X.env.scope x->∃u,RelV v u/\Look X.env s.heap m x u
 cell:∀x c,X.env.cells.lookup x=Wj c->∃v,s.heap.IsCell c v
 free:H X.env.locals=Wl
 freeC:∀x c,X.env.cells.lookup x=Wj c->H c=Wl
 pin:∀p∈X.pn++pins,s.heap.get? p.1=Wj p.2/\H p.1=Wl/\p.1≠X.env.locals/\p.1 ∉ X.fs/\∀v,p.2.data≠.cell v
 hok:HOk X.prog X.w H s.heap
 len:Z.length=X.N.length
section
variable {X:Cx}{pins:List (Yi×Obj)}{Z:List (Option V)}{H H':Hp}{s:Yb}{h':YD}
def Cx.Ok.nofr(ok:X.Ok){b:Yi}{o:Obj}(e:X.base.get? b=Wj o):b ∉ X.fs:=λhb=>by have:=(ok.funs.mem hb).1;rw[e]at this;cases this
theorem Inv.bs(I:Inv X pins Z H s):∀b o,X.base.get? b=Wj o->s.heap.get? b=Wj o/\H b=Wl:=λb o e=>⟨I.base.keep b o (I.ok.bs b o e).1 (I.ok.bs b o e).2 (I.ok.nofr e) (I.ok.noex b o e),I.base.free b o (I.ok.bs b o e).1 (I.ok.bs b o e).2 (I.ok.noex b o e)⟩
def Inv.bk(I:Inv X pins Z H s):∀b o,X.base.get? b=Wj o->s.heap.get? b=Wj o:=λb o e=>(I.bs b o e).1
theorem Inv.mod(I:Inv X pins Z H s):Mod X.K X.mg X.base:=I.ok.mod
def Inv.kIn(I:Inv X pins Z H s):X.K.In s.heap:=I.ok.mod.kin.keeps I.bk
theorem Inv.lt(I:Inv X pins Z H s):X.env.locals<s.heap.objs.size:=let ⟨_,hn,_⟩:=I.loc;hn.lt
def Inv.sz(I:Inv X pins Z H s):X.s₀.heap.objs.size<=s.heap.objs.size:=OE I.ok.above (Nat.le_of_lt I.lt)
def Inv.nofs(I:Inv X pins Z H s){a:Yi}(h:s.heap.objs.size<=a):a ∉ X.fs:=λhb=>by obtain⟨_,o,ho,_⟩:=I.ok.funs.mem hb;exact absurd (Ot (Yn ho) (OE I.sz h)) (Yu _)
def Inv.cne(I:Inv X pins Z H s):∀x c,X.env.cells.lookup x=Wj c->c≠X.env.locals:=λx c e z=>by obtain⟨v,o,ho,hd⟩:=I.cell x c e;obtain⟨m,⟨o',es,ep,ho',hd',_⟩,_⟩:=I.loc;rw[z,ho']at ho;cases ho;rw[hd']at hd;cases hd
theorem Inv.funs(I:Inv X pins Z H s):s.heap.FunFrames X.base X.outer:=by
 have all:∀(l:List Env),(∀b∈frs l,b∈X.fs)->X.s₀.heap.FunFrames X.base l->s.heap.FunFrames X.base l:=by
  intro l;induction l with
  |nil=>intro _ _;trivial
  |cons env r ih=>intro hs hl;obtain⟨hk,⟨L,o,hf,hn,ho,hd⟩,hr⟩:=hl;have hL:L∈X.fs:=hs L (by unfold frs;rw[List.filterMap_cons,hf];exact Oi);obtain⟨sl,e⟩:=I.base.slot L o ho (I.ok.frf L hL) hL λz=>I.ok.exfs L z hL;exact⟨hk,⟨L,_,hf,hn,e,hd⟩,ih (λb hb=>hs b (by unfold frs;rw[List.filterMap_cons,hf];exact Oh _ hb)) hr⟩
 exact all X.outer (λ_ hb=>hb) I.ok.funs
theorem Inv.stack(I:Inv X pins Z H s):s.heap.FunFrames X.base X.stack:=by
 rcases I.ok.stk with e|⟨e,hf⟩
 . rw[e];exact I.funs
 . rw[e];obtain⟨m,hn,_⟩:=I.loc;refine .cons (by rw[I.ok.kind];decide) hf hn ?_ I.funs;exact Heap.get?_none_of_le (OE I.ok.bsz I.ok.above)
def Inv.stkSub(I:Inv X pins Z H s):∀b∈frs X.stack,b∈X.env.locals::X.fs:=λb hb=>by
 rcases I.ok.stk with e|⟨e,hf⟩
 . rw[e]at hb;exact Oh _ hb
 . rw[e]at hb;unfold frs at hb;rw[List.filterMap_cons,hf]at hb;exact hb
def Inv.stkFree(I:Inv X pins Z H s):∀b∈frs X.stack,H b=Wl:=λb hb=>by
 rcases O1.mp (I.stkSub b hb)with e|hb
 . rw[e];exact I.free
 . obtain⟨_,o,ho,_⟩:=I.ok.funs.mem hb;exact I.base.free b o ho (I.ok.frf b hb) λz=>I.ok.exfs b z hb
def Inv.step{g':Array GenState}{t':Nat}{d':Drawn}{ch:List Yi}(I:Inv X pins Z H s)
 (hch:∀b∈ch,(b∈X.ex\/X.s₀.heap.objs.size<=b)/\b≠X.env.locals/\(∀x c,X.env.cells.lookup x=Wj c->c≠b)/\∀p∈X.pn++pins,p.1≠b)
 (keep:∀b o,b≠X.env.locals->b ∉ X.fs->b ∉ ch->s.heap.get? b=Wj o->H b=Wl->h'.get? b=Wj o)
 (slot:∀b o,b≠X.env.locals->b∈X.fs->b ∉ ch->s.heap.get? b=Wj o->H b=Wl->∃sl,h'.get? b=Wj {o with slots:=sl}) (free:∀b o,b ∉ ch->s.heap.get? b=Wj o->H b=Wl->H' b=Wl)
 (there:∀b o,b ∉ ch->s.heap.get? b=Wj o->∃o',h'.get? b=Wj o')
 (tups:∀b xs,H b=Wj (.tup xs)->H' b=Wj (.tup xs)) (frzs:∀b o u,H b=Wj (.frz o u)->H' b=Wj (.frz o u)) (tbls:∀b ps,H b=Wj (.tbl ps)->∃more,H' b=Wj (.tbl (ps++more)))
 (ns:∀m,s.heap.Ns X.env.locals m->h'.Ns X.env.locals m) (hok:HOk X.prog X.w H' h') (hg:AllBare g') :
 Inv X pins Z H' {s with heap:=h',gens:=g',drawn:=d',toks:=t'}:=by
 have neL:∀b o,X.s₀.heap.get? b=Wj o->b≠X.env.locals:=λb o e=>Ou (Ot (Yn e) I.ok.above);have neC:∀b o,X.s₀.heap.get? b=Wj o->b ∉ X.ex->b ∉ ch:=λb o e hx hb=>by
  rcases(hch b hb).1 with z|z
  . exact hx z
  . exact absurd (Ot (Yn e) z) (Yu _)
 have cellK:∀x c,X.env.cells.lookup x=Wj c->∀v,s.heap.IsCell c v->h'.IsCell c v:=λx c e v ⟨o,ho,hd⟩=>by
  have nch:c ∉ ch:=λz=>(hch c z).2.2.1 x c e rfl;by_cases hc:c∈X.fs
  . obtain⟨sl,q⟩:=slot c o (I.cne x c e) hc nch ho (I.freeC x c e);exact⟨_,q,hd⟩
  . exact⟨o,keep c o (I.cne x c e) hc nch ho (I.freeC x c e),hd⟩
 refine⟨I.ok,I.os,hg,⟨λb o e n hb hx=>?_,λb o e n hb hx=>?_,λb o e n hx=>?_,λb o e hx=>?_,λb xs e=>tups b xs (I.base.tups b xs e),λb o xs e=>frzs b o xs (I.base.frzs b o xs e),λb ps e=>?_⟩,?_,λx c e=>?_,?_,λx c e=>?_,λp hp=>?_,hok,I.len⟩
 . exact keep b o (neL b o e) hb (neC b o e hx) (I.base.keep b o e n hb hx) (I.base.free b o e n hx)
 . obtain⟨sl,e1⟩:=I.base.slot b o e n hb hx;obtain⟨sl',e2⟩:=slot b _ (neL b o e) hb (neC b o e hx) e1 (I.base.free b o e n hx);exact⟨sl',e2⟩
 . obtain⟨o',e1⟩:=I.base.there b o e hx;exact free b o' (neC b o e hx) e1 (I.base.free b o e n hx)
 . obtain⟨o',e1⟩:=I.base.there b o e hx;exact there b o' (neC b o e hx) e1
 . obtain⟨m1,e1⟩:=I.base.tbls b ps e;obtain⟨m2,e2⟩:=tbls b _ e1;exact⟨m1++m2,by rw[e2,Array.append_assoc]⟩
 . obtain⟨m,hn,hl⟩:=I.loc;refine⟨m,ns m hn,λi x v e1 e2 e3=>?_⟩;obtain⟨u,r,l⟩:=hl i x v e1 e2 e3;refine⟨u,r,?_⟩;rcases l with l|⟨k,c,e,z⟩
   . exact .inl l
   . exact .inr ⟨k,c,e,cellK x c e _ z⟩
 . obtain⟨v,z⟩:=I.cell x c e;exact⟨v,cellK x c e v z⟩
 . obtain⟨m,⟨o,_,_,ho,_⟩,_⟩:=I.loc;exact free _ o (λz=>(hch _ z).2.1 rfl) ho I.free
 . obtain⟨v,o,ho,hd⟩:=I.cell x c e;exact free c o (λz=>(hch c z).2.2.1 x c e rfl) ho (I.freeC x c e)
 . obtain⟨e,n,ne,nf,d⟩:=I.pin p hp;have nch:p.1 ∉ ch:=λz=>(hch p.1 z).2.2.2 p hp rfl;exact⟨keep p.1 p.2 ne nf nch e n,free p.1 p.2 nch e n,ne,nf,d⟩
theorem Inv.un{t':Nat}(I:Inv X pins Z H s)(u:Un X.fs [] H H' s.heap h')(hok:HOk X.prog X.w H' h'):Inv X pins Z H' {s with heap:=h',toks:=t'}:=by
 obtain ⟨m,⟨o,es,ep,ho,r⟩,_⟩:=id I.loc;obtain ⟨sl,hL⟩:=u.any ho I.free (by simp);exact I.step (g':=s.gens) (d':=s.drawn) (ch:=[]) (fun _ z=>nomatch z) (fun b o _ hb _ e n=>u.keep b o e n hb (by simp)) (fun b o _ hb _ e n=>u.slot b o e n hb (by simp)) (fun b o _ e n=>u.free b o e n (by simp)) (fun b o _ e=>u.there b o e (by simp)) u.tups u.frzs u.tbls (fun m' hm=>by
   obtain ⟨o',es',ep',ho',r'⟩:=hm;rw [ho] at ho';cases ho';exact ⟨_,es',ep',hL,r'⟩) hok I.bare
theorem Inv.call{g':Array GenState}{t':Nat}{d':Drawn}{ch:List Yi}(I:Inv X pins Z H s)(u:Un (frs X.stack) ch H H' s.heap h')(hok:HOk X.prog X.w H' h')(hg:AllBare g')
   (hch:∀ b∈ch,(b∈X.ex\/X.s₀.heap.objs.size<=b)/\b≠X.env.locals/\(∀ x c,X.env.cells.lookup x=Wj c->c≠b)/\∀ p∈X.pn++pins,p.1≠b) :
   Inv X pins Z H' {s with heap:=h',gens:=g',drawn:=d',toks:=t'}:=by
 obtain ⟨m,⟨o,es,ep,ho,r⟩,_⟩:=id I.loc;obtain ⟨sl,hL⟩:=u.any ho I.free fun z=>(hch _ z).2.1 rfl;exact I.step (ch:=ch) hch (fun b o hL hb hc e n=>u.keep b o e n (fun z=>(O1.mp (I.stkSub b z)).elim hL hb) hc) (fun b o _ _ hc e n=>u.any e n hc) (fun b o hc e n=>u.free b o e n hc) (fun b o hc e=>u.there b o e hc) u.tups u.frzs u.tbls (fun m' hm=>by
   obtain ⟨o',es',ep',ho',r'⟩:=hm;rw [ho] at ho';cases ho';exact ⟨_,es',ep',hL,r'⟩) hok hg
def Inv.turned{t':Nat}{it:Yi}(I:Inv X pins Z H s)(k:∀b o,b≠it->s.heap.get? b=Wj o->h'.get? b=Wj o)(hn:H it=Wl)(hL:it≠X.env.locals)
 (h1:it∈X.ex\/X.s₀.heap.objs.size<=it) (h2:∀x c,X.env.cells.lookup x=Wj c->c≠it) (h3:∀p∈X.pn++pins,p.1≠it):Inv X pins Z H {s with heap:=h',toks:=t'}:=by
 have nit:∀b u,H b=Wj u->b≠it:=λb u e z=>by rw[z,hn]at e;cases e
 refine I.step (g':=s.gens) (d':=s.drawn) (ch:=[it]) (λb hb=>?_) (λb o _ _ hc e _=>k b o (λz=>hc (by simp[z])) e) (λb o _ _ hc e _=>⟨o.slots,k b o (λz=>hc (by simp[z])) e⟩) (λ_ _ _ _ n=>n)
  (λb o hc e=>⟨o,k b o (λz=>hc (by simp[z])) e⟩) (λ_ _ e=>e) (λ_ _ _ e=>e) (λb ps e=>⟨#[],by rw[e];simp⟩) (λm hm=>?_) (λb u e=>?_) I.bare
 . have e:b=it:=by simpa using hb
   subst e;exact⟨h1,hL,h2,h3⟩
 . obtain⟨o,es,ep,ho,r⟩:=hm;exact⟨o,es,ep,k _ o (YI hL) ho,r⟩
 . refine(I.hok b u e).stay (λc v hc q=>k c v ?_ q) (λ_ q=>q) λ_ _ q=>q;rcases hc with z|z
   . rw[z];exact nit b u e
   . exact nit c _ z
def Inv.tok(I:Inv X pins Z H s)(t:Nat):Inv X pins Z H {s with toks:=t}:=I.un (h':=s.heap) (t':=t) Un.refl I.hok
theorem Inv.kept{t':Nat}(I:Inv X pins Z H s)(k:∀b u,s.heap.get? b=Wj u->h'.get? b=Wj u):Inv X pins Z H {s with heap:=h',toks:=t'}:=I.un (Un.kept k) (I.hok.kept k)
theorem Inv.laid{a:Yi}{o:HO}{t':Nat}(I:Inv X pins Z H s)(k:∀b u,s.heap.get? b=Wj u->h'.get? b=Wj u)(hp:s.heap.objs.size<=a)(new:Z9 X.prog X.w (upd H a o) h' a o):
 Inv X pins Z (upd H a o) {s with heap:=h',toks:=t'}:=I.un (Un.laid k hp (I.hok.fresh hp)) (I.hok.laid k hp new)
theorem Inv.write{x e:Yi}{o:HO}{t':Nat}(I:Inv X pins Z H s)(mu:Mut (H x))(he:e=x\/H e=Wj (.own x))(k:∀b u,b≠e->s.heap.get? b=Wj u->h'.get? b=Wj u)(heo:∃u,h'.get? e=Wj u)
 (new:Z9 X.prog X.w (upd H x o) h' x o):Inv X pins Z (upd H x o) {s with heap:=h',toks:=t'}:=I.un (Un.write mu he k heo) (I.hok.write mu he k heo new)
def Inv.weak{σ':List (Option V)}(I:Inv X pins Z H s)(hl:σ'.length=Z.length)(w:∀(i:Nat) v,σ'[i]? = Wj (Wj v)->Z[i]? = Wj (Wj v)):Inv X pins σ' H s:=⟨I.ok,I.os,I.bare,I.base,let ⟨m,hn,hl'⟩:=I.loc;⟨m,hn,λi x v e1 e2 e3=>hl' i x v e1 (w i v e2) e3⟩,I.cell,I.free,I.freeC,I.pin,I.hok,hl.trans I.len⟩
def Inv.pins_of{pins':List (Yi×Obj)}(I:Inv X pins Z H s)(h:∀p∈pins',s.heap.get? p.1=Wj p.2/\H p.1=Wl/\p.1≠X.env.locals/\p.1 ∉ X.fs/\∀v,p.2.data≠.cell v):Inv X pins' Z H s:=⟨I.ok,I.os,I.bare,I.base,I.loc,I.cell,I.free,I.freeC,λp hp=>(OD.mp hp).elim (λz=>I.pin p (List.mem_append_left _ z)) (h p),I.hok,I.len⟩
def Zix{N:List Str}(hN:N.Nodup){i j:Nat}{x:Str}(a:N[i]? = Wj x)(b:N[j]? = Wj x):i=j:=by obtain⟨h1,e1⟩:=Ob.mp a;obtain⟨h2,e2⟩:=Ob.mp b;exact(List.getElem_inj hN).mp (e1.trans e2.symm)
def ZgF{M:Model}{A:YE}{E:Yj->Yb->Prop}{i:Nat}{x:Str}{v:V}{u:Yj}{Q:Unit->Yb->Prop}(I:Inv X pins Z H s)(hN:X.N.Nodup)(hi:X.N[i]? = Wj x)(hx:Loc X.env.scope x)(r:RelV v u)
 (h:∀s',Inv X pins (Z.set i (Wj v)) H s'->(∃a,Heap.SameBut a s.heap s'.heap/\(a=X.env.locals\/X.env.cells.lookup x=Wj a))->Q () s') (hf:X.fn x=Wm\/X.env.scope.names.lookup x=Wj .local:=by first|exact .inl rfl|exact .inr rfl|assumption):Yy M A (storeName X.env x u) Q E s:=by
 obtain⟨m,hn,hl⟩:=id I.loc;have hcls:(X.env.scope.kind==.class || (X.env.scope.kind==.module&&X.env.locals != X.env.globals))=Wn:=by rw[I.ok.kind];rfl
 have hiσ:i<Z.length:=by rw[I.len];exact(Ob.mp hi).1
 have cne:=I.cne;have tracked:∀{a:Yi}{h':YD},(∃o,s.heap.get? a=Wj o/\H a=Wl)->Heap.SameBut a s.heap h'->HOk X.prog X.w H h':=λ{a h'} ha hs b ob e=>by
  obtain⟨_,_,hfree⟩:=ha;refine(I.hok b ob e).stay (λc w' hc q=>(hs.2 c ?_).trans q) (λ_ q=>q) λ_ _ q=>q;rintro rfl;rcases hc with rfl|hc
  . rw[hfree]at e;cases e
  . rw[hfree]at hc;cases hc
 rcases hx with hk|hk
 . refine wpAny_storeName_local hk hn (λh' hn' hs=>?_) hcls;obtain⟨oL,_,_,hoL,_⟩:=id hn;refine h _ ⟨I.ok,I.os,I.bare,⟨λb o e n hb hx=>?_,λb o e n hb hx=>?_,I.base.free,λb o e hx=>?_,I.base.tups,I.base.frzs,I.base.tbls⟩,⟨_,hn',λj y v' e1 e2 e3=>?_⟩,λy c e=>?_,I.free,I.freeC,λp hp=>?_,tracked ⟨oL,hoL,I.free⟩ hs,by simpa using I.len⟩ ⟨_,hs,.inl rfl⟩
   . exact(hs.2 b (Ou (Ot (Yn e) I.ok.above))).trans (I.base.keep b o e n hb hx)
   . obtain⟨sl,e1⟩:=I.base.slot b o e n hb hx;exact⟨sl,(hs.2 b (Ou (Ot (Yn e) I.ok.above))).trans e1⟩
   . obtain⟨o',e1⟩:=I.base.there b o e hx;exact⟨o',(hs.2 b (Ou (Ot (Yn e) I.ok.above))).trans e1⟩
   . by_cases hj:j=i
     . subst hj;rw[hi]at e1;cases e1;rw[Ol hiσ]at e2;cases e2;exact⟨u,r,.inl ⟨hk,by simp⟩⟩
     . rw[Oc (YI hj)]at e2;obtain⟨u',r',q⟩:=hl j y v' e1 e2 e3;refine⟨u',r',?_⟩;rcases q with ⟨k,e⟩|⟨k,c,e,z⟩
       . refine .inl ⟨k,?_⟩;have:y≠x:=λe=>hj (Zix hN e1 (e ▸ hi));simp[this,e]
       . exact .inr ⟨k,c,e,z.sameBut hs (cne y c e)⟩
   . obtain⟨w',z⟩:=I.cell y c e;exact⟨w',z.sameBut hs (cne y c e)⟩
   . obtain⟨e,n,ne,nf,d⟩:=I.pin p hp;exact⟨(hs.2 p.1 ne).trans e,n,ne,nf,d⟩
 . have hfn:X.fn x=Wm:=by
    rcases hf with z|z
    . exact z
    . rw[z]at hk;cases hk
   obtain⟨c,hc⟩:=I.ok.has x (.inl hk);obtain⟨w',z⟩:=I.cell x c hc;refine wpAny_storeName_cell I.ok.kind hk hc z (λh' hc' hs=>?_);obtain⟨oc,hoc,hocd⟩:=id z;refine h {s with heap:=h'} ⟨I.ok,I.os,I.bare,⟨λb o e n hb hx=>?_,λb o e n hb hx=>?_,I.base.free,λb o e hx=>?_,I.base.tups,I.base.frzs,I.base.tbls⟩,⟨m,hn.sameBut hs (YI (cne x c hc)),λj y v' e1 e2 e3=>?_⟩,λy c' e=>?_,I.free,I.freeC,λp hp=>?_,tracked ⟨oc,hoc,I.freeC x c hc⟩ hs,by simpa using I.len⟩ ⟨c,hs,.inr hc⟩
   . exact(hs.2 b (Ou (Ot (Yn e) (I.ok.cab x c hfn hc)))).trans (I.base.keep b o e n hb hx)
   . obtain⟨sl,e1⟩:=I.base.slot b o e n hb hx;exact⟨sl,(hs.2 b (Ou (Ot (Yn e) (I.ok.cab x c hfn hc)))).trans e1⟩
   . obtain⟨o',e1⟩:=I.base.there b o e hx;exact⟨o',(hs.2 b (Ou (Ot (Yn e) (I.ok.cab x c hfn hc)))).trans e1⟩
   . by_cases hj:j=i
     . subst hj;rw[hi]at e1;cases e1;rw[Ol hiσ]at e2;cases e2;exact⟨u,r,.inr ⟨.inl hk,c,hc,hc'⟩⟩
     . rw[Oc (YI hj)]at e2;obtain⟨u',r',q⟩:=hl j y v' e1 e2 e3;refine⟨u',r',?_⟩;rcases q with q|⟨k,c',e,z'⟩
       . exact .inl q
       . refine .inr ⟨k,c',e,z'.sameBut hs ?_⟩;rintro rfl;exact hj (Zix hN e1 (I.ok.inj _ _ _ e hc ▸ hi))
   . by_cases hcc:c'=c
     . subst hcc;exact⟨_,hc'⟩
     . obtain⟨w2,z2⟩:=I.cell y c' e;exact⟨w2,z2.sameBut hs hcc⟩
   . obtain⟨e,n,ne,nf,d⟩:=I.pin p hp;refine⟨(hs.2 p.1 ?_).trans e,n,ne,nf,d⟩;intro q;rw[q,hoc]at e;have q':oc=p.2:=YC e;exact d w' (by rw[<- q'];exact hocd)
def Zft{M:Model}{A:YE}{E:Yj->Yb->Prop}{i:Nat}{x:Str}{v:V}{u:Yj}{Q:Unit->Yb->Prop}(I:Inv X pins Z H s)(hN:X.N.Nodup)(hi:X.N[i]? = Wj x)(hx:Loc X.env.scope x)(r:RelV v u)
 (h:∀s',Inv X pins (Z.set i (Wj v)) H s'->Q () s') (hf:X.fn x=Wm\/X.env.scope.names.lookup x=Wj .local:=by first|exact .inl rfl|exact .inr rfl|assumption):Yy M A (storeName X.env x u) Q E s:=
 ZgF I hN hi hx r (λs' I' _=>h s' I') hf
def Inv.call'{s':Yb}{ch:List Yi}(I:Inv X pins Z H s)(ho:s'.os=s.os)(u:Un (frs X.stack) ch H H' s.heap s'.heap)(hok:HOk X.prog X.w H' s'.heap)(hg:AllBare s'.gens)
 (hch:∀b∈ch,(b∈X.ex\/X.s₀.heap.objs.size<=b)/\b≠X.env.locals/\(∀x c,X.env.cells.lookup x=Wj c->c≠b)/\∀p∈X.pn++pins,p.1≠b):Inv X pins Z H' s':=by
 obtain⟨h',g',d',t',o'⟩:=s';have e:o'=s.os:=ho;subst e;exact I.call (g':=g') (t':=t') (d':=d') u hok hg hch
end
abbrev XK:=Yj->Option Yi->Hp->Prop
noncomputable abbrev St:=List (Option V)
abbrev VK:=V->Hp->Prop
abbrev TE:=St->Hp->VK->Prop
abbrev TT:=St->Hp->(Bool->Hp->Prop)->Prop
abbrev TA:=St->Hp->(List V->Hp->Prop)->Prop
structure Ends where
 nx:St->Hp->Prop
 rt:VK
 bk:St->Hp->Prop:=λ_ _=>False
 ct:St->Hp->Prop:=λ_ _=>False
abbrev TS:=Ends->St->Hp->Prop
def EP(X:Cx)(pins:List (Yi×Obj))(Z:St)(Q:VK)(u:Yj)(s':Yb):Prop:=∃v H',Inv X pins Z H' s'/\RelV v u/\Q v H'
def TP(X:Cx)(pins:List (Yi×Obj))(Z:St)(Q:Bool->Hp->Prop)(b:Bool)(s':Yb):Prop:=∃H',Inv X pins Z H' s'/\Q b H'
def AP(X:Cx)(pins:List (Yi×Obj))(Z:St)(Q:List V->Hp->Prop)(us:List Yj)(s':Yb):Prop:=∃vs H',Inv X pins Z H' s'/\Zk vs us/\Q vs H'
def SP(X:Cx)(pins:List (Yi×Obj))(D:Ends)(f:Flow)(s':Yb):Prop:=
 match f with
 |.next=>∃σ' H',Inv X pins σ' H' s'/\D.nx σ' H'
 |.brk=>∃σ' H',Inv X pins σ' H' s'/\D.bk σ' H'
 |.cont=>∃σ' H',Inv X pins σ' H' s'/\D.ct σ' H'
 |.ret u=>∃v σ' H',Inv X pins σ' H' s'/\RelV v u/\D.rt v H'
def PE(X:Cx)(e:Expr)(t:TE):Prop:=∀(pins:List (Yi×Obj)) (s:Yb) (Z:St) (H:Hp) (Q:VK),Inv X pins Z H s->t Z H Q->Yy (model X.prog X.w) X.A (eval e X.env) (EP X pins Z Q) X.xe s
def PT(X:Cx)(e:Expr)(t:TT):Prop:=∀(pins:List (Yi×Obj)) (s:Yb) (Z:St) (H:Hp) (Q:Bool->Hp->Prop),Inv X pins Z H s->t Z H Q->Yy (model X.prog X.w) X.A (isTrue e X.env (eval e X.env)) (TP X pins Z Q) X.xe s
def PW(X:Cx)(e:Expr)(t:TT):Prop:=∀(whole:Sem Yj) (pins:List (Yi×Obj)) (s:Yb) (Z:St) (H:Hp) (Q:Bool->Hp->Prop),Inv X pins Z H s->t Z H Q->Yy (model X.prog X.w) X.A (isTrue e X.env whole) (TP X pins Z Q) X.xe s
def PW.pt{X:Cx}{e:Expr}{t:TT}(h:PW X e t):PT X e t:=h _
def PA(X:Cx)(es:List Expr)(t:TA):Prop:=∀(pos:Pos) (pins:List (Yi×Obj)) (s:Yb) (Z:St) (H:Hp) (Q:List V->Hp->Prop),Inv X pins Z H s->t Z H Q->Yy (model X.prog X.w) X.A (spliced (YO pos (Yw es X.env))) (AP X pins Z Q) X.xe s
def PS(X:Cx)(st:Stmt)(t:TS):Prop:=∀(pins:List (Yi×Obj)) (s:Yb) (Z:St) (H:Hp) (D:Ends),Inv X pins Z H s->t D Z H->Yy (model X.prog X.w) X.A (exec st X.env) (SP X pins D) X.xe s
def PSs(X:Cx)(st:List Stmt)(t:TS):Prop:=∀(pins:List (Yi×Obj)) (s:Yb) (Z:St) (H:Hp) (D:Ends),Inv X pins Z H s->t D Z H->Yy (model X.prog X.w) X.A (execs st X.env) (SP X pins D) X.xe s
def thn{α:Type}{t:Sem α}{Q Q':α->Yb->Prop}{M:Model}{A:YE}{E:Yj->Yb->Prop}{s:Yb}(h:Yy M A t Q E s)(hQ:∀a s,Q a s->Q' a s):Yy M A t Q' E s:=Yf h hQ λ_ _ x=>x
section
variable {X:Cx}
noncomputable def Ztj(i:Nat):TE:=λZ H Q=>∃v,Z[i]? = Wj (Wj v)/\Q v H
noncomputable def tC(v:V):TE:=λ_ H Q=>Q v H
def Zp6{i:Nat}{x:Str}{pos:Pos}(hN:X.N[i]? = Wj x)(hv:Vis X.env.scope x)(hd:(x==("__debug__" : Str))=Wn:=by decide)(hcd:(x==("__classdict__" : Str))=Wn:=by decide):PE X (.Name x pos) (Ztj i):=by
 intro pins s Z H Q I h;obtain⟨v,e,h⟩:=h;obtain⟨m,hn,hl⟩:=I.loc;obtain⟨u,r,l⟩:=hl i x v hN e hv;have fin:EP X pins Z Q u s:=⟨v,H,I,r,h⟩
 rcases l with ⟨hk,hm⟩|⟨hk,c,hc,hcell⟩
 . exact wpAny_Name (wpAny_loadName_local I.ok.kind hk hn hm fin) hd
 . rcases hk with hk|hk
   . exact wpAny_Name (wpAny_loadName_cell I.ok.kind hk hc hcell fin) hd
   . exact wpAny_Name (wpAny_loadName_free I.ok.kind hk hc hcell fin hcd) hd
def Zqd{i j pos}:PE X (.Constant (.int i) j pos) (tC (.int i)):=λ_ _ _ H _ I h=>wpAny_Constant_int ⟨.int i,H,I.tok _,⟨_,rfl⟩,h⟩
def Zr6{b j pos}:PE X (.Constant (.bool b) j pos) (tC (.bl b)):=λ_ _ _ H _ I h=>Constant_bool ⟨.bl b,H,I,rfl,h⟩
def Zqb{j pos}:PE X (.Constant .none j pos) (tC .non):=λ_ _ _ H _ I h=>Constant_none ⟨.non,H,I,rfl,h⟩
def Zp9{x j pos}:PE X (.Constant (.str x) j pos) (tC (.str x)):=λ_ _ _ H _ I h=>Calls.Constant_str ⟨.str x,H,I.tok _,⟨_,rfl⟩,h⟩
def Gl(X:Cx)(x:Str):Prop:=X.env.kindOf x=Wj .globalImplicit
def Zfq{E:Yj->Yb->Prop}{pins:List (Yi×Obj)}{s:Yb}{Z:St}{H:Hp}{x:Str}{u:Yj}{pos:Pos}{Q:Yj->Yb->Prop}(I:Inv X pins Z H s)(hg:Gl X x)(hm:X.mg x=Wj u)(h:Q u s)
 (hd:(x==("__debug__" : Str))=Wn:=by decide):Yy (model X.prog X.w) X.A (eval (.Name x pos) X.env) Q E s:=
 Calls.Name_function_global I.ok.kind hg (Calls.loadGlobal_global (by rw[I.ok.glob];exact I.mod.glob.keeps I.bk) hm h) hd
def Zc9{E:Yj->Yb->Prop}{pins:List (Yi×Obj)}{s:Yb}{Z:St}{H:Hp}{x:Str}{u:Yj}{pos:Pos}{Q:Yj->Yb->Prop}(I:Inv X pins Z H s)(hg:Gl X x)(hm:X.mg x=Wl)(hv:bootBuiltins x=Wj u)(h:Q u s)
 (hn:x ≠ "__name__" := by decide) (hd:(x==("__debug__" : Str))=Wn:=by decide):Yy (model X.prog X.w) X.A (eval (.Name x pos) X.env) Q E s:=by
 obtain⟨mb,h1,h2⟩:=I.mod.blt;exact Calls.Name_function_global I.ok.kind hg (Calls.loadGlobal_builtin (by rw[I.ok.glob];exact I.mod.glob.keeps I.bk) hm (by rw[I.ok.blt];exact h1.keeps I.bk) ((h2 x hn).trans hv) h) hd
def ZnY{x:Str}{v:V}{u:Yj}{pos:Pos}(hg:Gl X x)(hm:X.mg x=Wj u)(r:RelV v u)(hd:(x==("__debug__" : Str))=Wn:=by decide):PE X (.Name x pos) (tC v):=λ_ _ _ H _ I h=>Zfq I hg hm ⟨v,H,I,r,h⟩ hd
def Zn3{x:Str}{v:V}{u:Yj}{pos:Pos}(hg:Gl X x)(hm:X.mg x=Wl)(hv:bootBuiltins x=Wj u)(r:RelV v u)(hn:x ≠ "__name__" := by decide)(hd:(x==("__debug__" : Str))=Wn:=by decide):PE X (.Name x pos) (tC v):=λ_ _ _ H _ I h=>Zc9 I hg hm hv ⟨v,H,I,r,h⟩ hn hd
variable {a b:Expr}{ta tb:TE}{pos:Pos}
variable {tA tB':TT}{rest:List Expr}
noncomputable def Ztx(t u:TT):TT:=λZ H Q=>t Z H λc H1=>if c=Wm then u Z H1 Q else Q Wn H1
noncomputable def tOr(t u:TT):TT:=λZ H Q=>t Z H λc H1=>if c=Wm then Q Wm H1 else u Z H1 Q
noncomputable def Ztp(t:TT):TT:=λZ H Q=>t Z H λc H1=>Q (!c) H1
def ZnK(ha:PT X a tA):PW X (.BoolOp .And [a] pos) tA:=by
 intro wh pins s Z H Q I h;refine isTrue_and (thn (ha pins s Z H Q I h) λc s1 e=>?_);cases c with
 |true=>exact isTrue_and_nil e
 |false=>exact e
def ZpW(ha:PT X a tA):PW X (.BoolOp .Or [a] pos) tA:=by
 intro wh pins s Z H Q I h;refine isTrue_or (thn (ha pins s Z H Q I h) λc s1 e=>?_);cases c with
 |false=>exact isTrue_or_nil e
 |true=>exact e
def ZpX(ha:PT X a tA)(hb:PW X (.BoolOp .And (b::rest) pos) tB'):PW X (.BoolOp .And (a::b::rest) pos) (Ztx tA tB'):=by
 intro wh pins s Z H Q I h;refine isTrue_and (thn (ha pins s Z H _ I h) λc s1 ⟨H1,I1,q1⟩=>?_);cases c with
 |true=>exact hb wh pins s1 Z H1 Q I1 q1
 |false=>exact⟨H1,I1,q1⟩
def ZrW(ha:PT X a tA)(hb:PW X (.BoolOp .Or (b::rest) pos) tB'):PW X (.BoolOp .Or (a::b::rest) pos) (tOr tA tB'):=by
 intro wh pins s Z H Q I h;refine isTrue_or (thn (ha pins s Z H _ I h) λc s1 ⟨H1,I1,q1⟩=>?_);cases c with
 |true=>exact⟨H1,I1,q1⟩
 |false=>exact hb wh pins s1 Z H1 Q I1 q1
def ZpZ(ha:PT X a tA):PT X (.UnaryOp .Not a pos) (Ztp tA):=by intro pins s Z H Q I h;exact isTrue_not (ha pins s Z H (λc H1=>Q (!c) H1) I h)
noncomputable def ZrF(ta tb:TE):TE:=λZ H Q=>ta Z H λx H1=>∃c,x=.bl c/\if c=Wm then tb Z H1 Q else Q (.bl Wn) H1
noncomputable def Zto(ta tb:TE):TE:=λZ H Q=>ta Z H λx H1=>∃c,x=.bl c/\if c=Wm then Q (.bl Wm) H1 else tb Z H1 Q
noncomputable def Zrz(ta:TE):TE:=λZ H Q=>ta Z H λx H1=>∃c,x=.bl c/\Q (.bl (!c)) H1
def Zml{op}{t:TE}(h:PE X a t):PE X (.BoolOp op [a] pos) t:=λpins s Z H Q I hw=>BoolOp_one (h pins s Z H Q I hw)
def Zqh(ha:PE X a ta)(hb:PE X (.BoolOp .And (b::rest) pos) tb):PE X (.BoolOp .And (a::b::rest) pos) (ZrF ta tb):=by
 intro pins s Z H Q I h;refine BoolOp_and (thn (ha pins s Z H _ I h) λv s1 ⟨x,H1,I1,r1,q1⟩=>?_);obtain⟨c,rfl,q1⟩:=q1;cases r1;refine wpAny_truthy_bool ?_;cases c with
 |true=>exact hb pins s1 Z H1 Q I1 q1
 |false=>exact⟨.bl Wn,H1,I1,rfl,q1⟩
def Zr2(ha:PE X a ta)(hb:PE X (.BoolOp .Or (b::rest) pos) tb):PE X (.BoolOp .Or (a::b::rest) pos) (Zto ta tb):=by
 intro pins s Z H Q I h;refine BoolOp_or (thn (ha pins s Z H _ I h) λv s1 ⟨x,H1,I1,r1,q1⟩=>?_);obtain⟨c,rfl,q1⟩:=q1;cases r1;refine wpAny_truthy_bool ?_;cases c with
 |false=>exact hb pins s1 Z H1 Q I1 q1
 |true=>exact⟨.bl Wm,H1,I1,rfl,q1⟩
def Zqa(ha:PE X a ta):PE X (.UnaryOp .Not a pos) (Zrz ta):=by intro pins s Z H Q I h;refine UnaryOp_ (thn (ha pins s Z H _ I h) λv s1 ⟨x,H1,I1,r1,q1⟩=>?_);obtain⟨c,rfl,q1⟩:=q1;cases r1;exact not_of (wpAny_truthy_bool ⟨.bl (!c),H1,I1,rfl,q1⟩)
noncomputable def tIf(t:TT)(ta tb:TE):TE:=λZ H Q=>t Z H λc H1=>if c=Wm then ta Z H1 Q else tb Z H1 Q
def Zmo{c:Expr}(hc:PT X c tA)(ha:PE X a ta)(hb:PE X b tb):PE X (.IfExp c a b pos) (tIf tA ta tb):=by
 intro pins s Z H Q I h;refine wpAny_IfExp (thn (hc pins s Z H _ I h) λd s1 ⟨H1,I1,q1⟩=>?_);cases d with
 |true=>exact ha pins s1 Z H1 Q I1 q1
 |false=>exact hb pins s1 Z H1 Q I1 q1
end
def SqL(K:Yk)(H:Hp)(a:Yi)(xs:List V):Prop:=
 Rd H a (.lst xs) \/
  ∃(o:Obj) (its:Array Yj) (n:Nat),K.lookup a=Wj o/\o.cls=.type "list" /\ o.dict=Wl/\o.data=.seq its n/\its.size<=sizeLine/\Zk xs its.toList
def SqT(K:Yk)(H:Hp)(a:Yi)(xs:List V):Prop:=
 Rd H a (.tup xs) \/
  ∃(o:Obj) (its:Array Yj) (n:Nat),K.lookup a=Wj o/\o.cls=.type "tuple" /\ o.data=.seq its n/\its.size<=sizeLine/\Zk xs its.toList
noncomputable def Zuj:Yj->Option V
 |.none=>Wj .non
 |.bool b=>Wj (.bl b)
 |.int i _=>Wj (.int i)
 |.str x _=>Wj (.str x)
 |.bytes b _=>Wj (.byt b)
 |.float b _=>Wj (.flt b)
 |.ref a=>Wj (.ref a)
 |.type n=>Wj (.ty n)
 |_=>Wl
def RelV.abs{x:V}{u:Yj}(r:RelV x u):Zuj u=Wj x:=by
 cases x with
 |non=>cases r;rfl
 |bl _=>cases r;rfl
 |int _=>obtain⟨t,rfl⟩:=r;rfl
 |str _=>obtain⟨t,rfl⟩:=r;rfl
 |byt _=>obtain⟨t,rfl⟩:=r;rfl
 |flt _=>obtain⟨t,rfl⟩:=r;rfl
 |ref _=>cases r;rfl
 |ty _=>cases r;rfl
def RelV.inj{x y:V}{u:Yj}(r:RelV x u)(q:RelV y u):x=y:=YC (r.abs.symm.trans q.abs)
theorem Zk.inj:∀{xs ys:List V}{us:List Yj},Zk xs us->Zk ys us->xs=ys
 |_,_,_,.nil,.nil=>rfl
 |_,_,_,.cons r t,.cons r' t'=>by rw[r.inj r',Zk.inj t t']
section
variable {X:Cx}{pins:List (Yi×Obj)}{Z:St}{H:Hp}{s:Yb}{a:Yi}{xs ys:List V}
def SqL.of{K:Yk}(h:H a=Wj (.lst xs)):SqL K H a xs:=.inl (.inl h)
def Inv.list(I:Inv X pins Z H s)(h:SqL X.K H a xs):∃its:List Yj,Zk xs its/\PlainL s.heap a its.toArray/\xs.length<=sizeLine:=by
 rcases h with h|⟨o,its,n,hk,hc,hd,hs,hz,r⟩
 . obtain⟨z,its,n,r,e⟩:=h.ok I.hok;exact⟨its,r,⟨_,n,e,rfl,rfl,rfl⟩,z⟩
 . refine⟨its.toList,r,⟨o,n,I.kIn a o hk,hc,hd,by simpa using hs⟩,?_⟩;have e:=r.length;simp only[Array.length_toList]at e
   lia
def Inv.tuple(I:Inv X pins Z H s)(h:SqT X.K H a xs):∃its:List Yj,Zk xs its/\IsTup s.heap a its.toArray/\xs.length<=sizeLine:=by
 rcases h with h|⟨o,its,n,hk,hc,hs,hz,r⟩
 . obtain⟨z,its,r,p⟩:=h.ok I.hok;exact⟨its,r,p.tup,z⟩
 . refine⟨its.toList,r,⟨o,I.kIn a o hk,hc,n,by simpa using hs⟩,?_⟩;have e:=r.length;simp only[Array.length_toList]at e
   lia
def Inv.list_inj(I:Inv X pins Z H s)(h:SqL X.K H a xs)(h':SqL X.K H a ys):xs=ys:=by
 obtain⟨its,r,⟨o,n,e,_,_,d⟩,_⟩:=I.list h;obtain⟨its',r',⟨o',n',e',_,_,d'⟩,_⟩:=I.list h';rw[e]at e';cases e';rw[d]at d';injection d' with d1 _;have:its=its':=by simpa using congrArg Array.toList d1
 subst this;exact r.inj r'
def Inv.tuple_inj(I:Inv X pins Z H s)(h:SqT X.K H a xs)(h':SqT X.K H a ys):xs=ys:=by
 obtain⟨its,r,⟨o,e,_,n,d⟩,_⟩:=I.tuple h;obtain⟨its',r',⟨o',e',_,n',d'⟩,_⟩:=I.tuple h';rw[e]at e';cases e';rw[d]at d';injection d' with d1 _;have:its=its':=by simpa using congrArg Array.toList d1
 subst this;exact r.inj r'
end
section
variable {X:Cx}{st:Stmt}{rest:List Stmt}{t u:TS}{e:Expr}{te:TE}{pos:Pos}
noncomputable def Zo1:TS:=λD Z H=>D.nx Z H
noncomputable def Ztm(t u:TS):TS:=λD Z H=>t {D with nx:=u D} Z H
def ZnM:PSs X [] Zo1:=λ_ _ Z H _ I h=>wpAny_execs_nil ⟨Z,H,I,h⟩
def Zmc(h1:PS X st t)(h2:PSs X rest u):PSs X (st::rest) (Ztm t u):=by
 intro pins s Z H D I h;refine wpAny_execs_cons (thn (h1 pins s Z H {D with nx:=u D} I h) λf s1 q=>?_);cases f with
 |next=>obtain⟨σ',H',I',q⟩:=q;exact h2 pins s1 σ' H' D I' q
 |ret v=>exact q
 |brk=>exact q
 |cont=>exact q
noncomputable def ZpF:TS:=λD Z H=>D.bk Z H
noncomputable def ZrC:TS:=λD Z H=>D.ct Z H
def ZnN:PS X (.Pass pos) Zo1:=λ_ _ Z H _ I h=>wpAny_Pass ⟨Z,H,I,h⟩
def Zmf:PS X (.Break pos) ZpF:=λ_ _ Z H _ I h=>wpAny_Break ⟨Z,H,I,h⟩
def Zis:PS X (.Continue pos) ZrC:=λ_ _ Z H _ I h=>wpAny_Continue ⟨Z,H,I,h⟩
def Inv.quiet{pins:List (Yi×Obj)}{Z:St}{H:Hp}{s:Yb}(I:Inv X pins Z H s):interactive X.env=Wn:=by simp[interactive,I.ok.kind]
noncomputable def ZrA(te:TE):TS:=λD Z H=>te Z H λ_ H1=>D.nx Z H1
def ZnO(he:PE X e te)(hs:swapsWith e Wl pos.line X.env=pure Wn:=by rfl):PS X (.Expr e pos) (ZrA te):=by intro pins s Z H D I h;exact wpAny_Expr_any (thn (he pins s Z H _ I h) λv s1 ⟨x,H1,I1,r1,q1⟩=>⟨Z,H1,I1,q1⟩) I.quiet hs
noncomputable def Ztn(te:TE):TS:=λD Z H=>te Z H D.rt
def Zp0(he:PE X e te):PS X (.Return (Wj e) pos) (Ztn te):=by intro pins s Z H D I h;exact wpAny_Return_some (thn (he pins s Z H _ I h) λv s1 ⟨x,H1,I1,r1,q1⟩=>⟨x,Z,H1,I1,r1,q1⟩)
noncomputable def Ztr(c:TT)(t u:TS):TS:=λD Z H=>c Z H λb H1=>if b=Wm then t D Z H1 else u D Z H1
def Zr0{c:Expr}{a b:List Stmt}{tc:TT}(hc:PT X c tc)(ha:PSs X a t)(hb:PSs X b u):PS X (.If c a b pos) (Ztr tc t u):=by
 intro pins s Z H D I h;refine wpAny_If (thn (hc pins s Z H _ I h) λd s1 ⟨H1,I1,q1⟩=>?_);cases d with
 |true=>exact ha pins s1 Z H1 D I1 q1
 |false=>exact hb pins s1 Z H1 D I1 q1
end
abbrev TG:=V->St->Hp->(St->Hp->Prop)->Prop
abbrev TGs:=List V->St->Hp->(St->Hp->Prop)->Prop
def PG(X:Cx)(target:Expr)(t:TG):Prop:=
 ∀(pins:List (Yi×Obj)) (s:Yb) (Z:St) (H:Hp) (v:V) (u:Yj) (Q:St->Hp->Prop),Inv X pins Z H s->RelV v u->t v Z H Q ->
  Yy (model X.prog X.w) X.A (assign target X.env u) (λ_ s'=>∃σ' H',Inv X pins σ' H' s'/\Q σ' H') X.xe s
def PGs(X:Cx)(ts:List Expr)(t:TGs):Prop:=
 ∀(pins:List (Yi×Obj)) (s:Yb) (Z:St) (H:Hp) (vs:List V) (us:List Yj) (Q:St->Hp->Prop),Inv X pins Z H s->Zk vs us->t vs Z H Q ->
  Yy (model X.prog X.w) X.A (assignInOrder ((assignEach ts X.env).map (·.2)) us) (λ_ s'=>∃σ' H',Inv X pins σ' H' s'/\Q σ' H') X.xe s
abbrev Znh:=V->V->V->Hp->(Hp->Prop)->Prop
def ZoW(X:Cx)(t:Znh):Prop:=
 ∀(pins:List (Yi×Obj)) (s:Yb) (Z:St) (H:Hp) (o i v:V) (ov iv u:Yj) (Q:Hp->Prop),Inv X pins Z H s->RelV o ov->RelV i iv->RelV v u->t o i v H Q ->
  Yy (model X.prog X.w) X.A (setItem ov iv u) (λ_ s'=>∃H',Inv X pins Z H' s'/\Q H') X.xe s
abbrev TIp:=V->V->Hp->VK->Prop
def PIp(X:Cx)(op:Operator)(t:TIp):Prop:=
 ∀(pins:List (Yi×Obj)) (s:Yb) (Z:St) (H:Hp) (x y:V) (v u:Yj) (Q:VK),Inv X pins Z H s->RelV x v->RelV y u->t x y H Q ->
  Yy (model X.prog X.w) X.A (inplaceOp op v u) (EP X pins Z Q) X.xe s
section
variable {X:Cx}{pos:Pos}
noncomputable def Zda(i:Nat):TG:=λv Z H Q=>Q (Z.set i (Wj v)) H
def Zfo{i:Nat}{x:Str}(hN:X.N.Nodup)(hi:X.N[i]? = Wj x)(hx:Loc X.env.scope x)(hf:X.fn x=Wm\/X.env.scope.names.lookup x=Wj .local:=by first|exact .inl rfl|exact .inr rfl|assumption):PG X (.Name x pos) (Zda i):=by intro pins s Z H v u Q I r h;exact wpAny_assign_Name (Zft I hN hi hx r (λs' I'=>⟨_,H,I',h⟩) hf)
noncomputable def Zow:TGs:=λvs Z H Q=>vs=[]/\Q Z H
noncomputable def ZiO(t:TG)(u:TGs):TGs:=λvs Z H Q=>∃v r,vs=v::r/\t v Z H λσ' H'=>u r σ' H' Q
def Zkn:PGs X [] Zow:=by intro pins s Z H vs us Q I r h;obtain⟨e,h⟩:=h;subst e;cases r;exact assignInOrder_nil ⟨Z,H,I,h⟩
def ZfK{e:Expr}{es:List Expr}{t:TG}{u:TGs}(h1:PG X e t)(h2:PGs X es u)
 (hs:(assignEach (e::es) X.env).map (·.2)=assign e X.env::(assignEach es X.env).map (·.2):=by rfl):PGs X (e::es) (ZiO t u):=by
 intro pins s Z H vs us Q I r h;obtain⟨v,vr,e1,h⟩:=h;subst e1;cases r with
 |cons r rr=>rw[hs];refine assignInOrder_cons (thn (h1 pins s Z H _ _ _ I r h) λ_ s1 ⟨σ1,H1,I1,q1⟩=>?_);exact h2 pins s1 σ1 H1 _ _ Q I1 rr q1
noncomputable def Zov(K:Yk)(n:Nat)(t:TGs):TG:=λv Z H Q=>∃a xs,v=.ref a/\SqT K H a xs/\xs.length=n/\t xs Z H Q
def Zmj{es:List Expr}{k:Nat}{t:TGs}{n:Nat}(hc:X.calm=Wm)(h:PGs X es t)
 (hn:(assignEach es X.env).length=n:=by rfl) (hst:(assignEach es X.env).findIdx? (·.1)=Wl:=by rfl):PG X (.Tuple es k pos) (Zov X.K n t):=by
 intro pins s Z H v u Q I r hw;obtain⟨a,xs,e1,hq,hl,hw⟩:=hw;subst e1;cases r;obtain⟨its,rv,ht,hz⟩:=I.tuple hq;refine assign_Tuple_tuple (I.ok.hd hc) ht (by simp[hn,<- hl,rv.length]) hst λh' hx=>?_;have I1:Inv X pins Z H {s with heap:=h'}:=I.kept (t':=s.toks) λb o e=>hx b o (Ou (Yn e)) e;exact h pins _ Z H xs _ Q I1 (by simpa using rv) hw
noncomputable def ZtW(to ti:TE)(t:Znh):TG:=λv Z H Q=>to Z H λo H1=>ti Z H1 λi H2=>t o i v H2 λH3=>Q Z H3
def Zp5{o i:Expr}{to ti:TE}{t:Znh}(ho:PE X o to)(hi:PE X i ti)(hs:ZoW X t)
 (ha:∀v,assign (.Subscript o i pos) X.env v=(do
  let ov <- holding [v] (eval o X.env);let iv <- holding [v,ov] (eval i X.env)
  standAt pos
  holding [v,ov,iv] (setItem ov iv v)
  release [v,ov,iv] []):=by intro _;rfl):PG X (.Subscript o i pos) (ZtW to ti t):=by
 intro pins s Z H v u Q I r h;rw[ha];refine Ya (Wa (thn (ho pins s Z H _ I h) λov s1 ⟨x,H1,I1,r1,q1⟩=>?_));refine Ya (Wa (thn (hi pins s1 Z H1 _ I1 q1) λiv s2 ⟨y,H2,I2,r2,q2⟩=>?_));refine Ya (wpAny_standAt (Ya (Wa (thn (hs pins s2 Z H2 x y v ov iv u _ I2 r1 r2 r q2) λ_ s3 ⟨H3,I3,q3⟩=>?_))));exact wpAny_release ⟨Z,H3,I3,q3⟩
noncomputable def ZlK(te:TE)(g:TG):TS:=λD Z H=>te Z H λx H1=>g x Z H1 D.nx
def Zjq{tg e:Expr}{te:TE}{g:TG}(he:PE X e te)(hg:PG X tg g)(hs:swapsWithSole [tg] e pos.line X.env=pure Wn:=by rfl)(hw:swappedStores [tg] e X.env=pure Wl:=by rfl)
 (h1:(assignEach [tg] X.env).map (·.2)=[assign tg X.env]:=by rfl):PS X (.Assign [tg] e pos) (ZlK te g):=by
 intro pins s Z H D I h;refine wpAny_Assign_stores (thn (he pins s Z H _ I h) λv s1 ⟨x,H1,I1,r1,q1⟩=>?_) hs hw;rw[h1];exact thn (hg pins s1 Z H1 x v _ I1 r1 q1) λ_ s2 q=>q
def Zme{i:Nat}{x:Str}{e:Expr}{te:TE}{pos':Pos}(hN:X.N.Nodup)(hi:X.N[i]? = Wj x)(hx:Loc X.env.scope x)(he:PE X e te)(hs:swapsWith e (Wj (.Name x pos')) pos.line X.env=pure Wn:=by rfl)(hf:X.fn x=Wm\/X.env.scope.names.lookup x=Wj .local:=by first|exact .inl rfl|exact .inr rfl|assumption):
 PS X (.Assign [.Name x pos'] e pos) (ZlK te (Zda i)):=by
 intro pins s Z H D I h;refine wpAny_Assign_Name (thn (he pins s Z H _ I h) λv s1 ⟨y,H1,I1,r1,q1⟩=>?_) hs;exact Zft I1 hN hi hx r1 (λs2 I2=>⟨_,H1,I2,q1⟩) hf
noncomputable def Ztw(i:Nat)(te:TE)(ti:TIp):TS:=λD Z H=>∃x,Z[i]? = Wj (Wj x)/\te Z H λy H1=>ti x y H1 λz H2=>D.nx (Z.set i (Wj z)) H2
def Zp3{i:Nat}{x:Str}{e:Expr}{te:TE}{op:Operator}{ti:TIp}{pos':Pos}(hN:X.N.Nodup)(hi:X.N[i]? = Wj x)(hx:Loc X.env.scope x)(he:PE X e te)(ho:PIp X op ti)(hf:X.fn x=Wm\/X.env.scope.names.lookup x=Wj .local:=by first|exact .inl rfl|exact .inr rfl|assumption):
 PS X (.AugAssign (.Name x pos') op e pos) (Ztw i te ti):=by
 intro pins s Z H D I h;obtain⟨v,e1,h⟩:=h;obtain⟨m,hn,hl⟩:=I.loc;have vis:Vis X.env.scope x:=by rcases hx with k|k;exact .inl k;exact .inr (.inl k)
 obtain⟨u,r,l⟩:=hl i x v hi e1 vis;refine wpAny_AugAssign_Name ?_;have go:Yy (model X.prog X.w) X.A (eval e X.env) (λw s₂=>Yy (model X.prog X.w) X.A (inplaceOp op u w) (λr s₃=>Yy (model X.prog X.w) X.A (storeName X.env x r) (λ_=>SP X pins D .next) X.xe s₃) X.xe s₂) X.xe s:=by refine thn (he pins s Z H _ I h) λw s1 ⟨y,H1,I1,r1,q1⟩=>?_;refine thn (ho pins s1 Z H1 v y u w _ I1 r r1 q1) λz s2 ⟨zv,H2,I2,r2,q2⟩=>?_;exact Zft I2 hN hi hx r2 (λs3 I3=>⟨_,H2,I3,q2⟩) hf
 rcases l with ⟨hk,hm⟩|⟨hk,c,hc,hcell⟩
 . exact wpAny_loadName_local I.ok.kind hk hn hm go
 . rcases hk with hk|hk
   . exact wpAny_loadName_cell I.ok.kind hk hc hcell go
   . rcases hx with k|k
     . have:X.env.scope.names.lookup x=Wj .free:=hk;rw[k]at this;cases this
     . have:X.env.scope.names.lookup x=Wj .free:=hk;rw[k]at this;cases this
noncomputable def ipI(f:Int->Int->Int):TIp:=λx y H Q=>∃i j,x=.int i/\y=.int j/\Q (.int (f i j)) H
def ZqH:PIp X .Add (ipI λi j=>i+j):=by intro pins s Z H x y v u Q I r1 r2 h;obtain⟨i,j,e1,e2,q⟩:=h;subst e1;subst e2;obtain⟨t,rfl⟩:=r1;obtain⟨t',rfl⟩:=r2;exact iadd_int ⟨.int _,H,I.tok _,⟨_,rfl⟩,q⟩
end
section
variable {X:Cx}{pos:Pos}
noncomputable def ZpC(c:TT)(tb:TS):TS:=λD Z H=>∃W:Nat->St->Hp->Prop,(∃m,W m Z H)/\∀m Z H,W m Z H ->
 c Z H λb H1=>if b=Wm then ∃N:St->Hp->Prop,(∀σ' H',N σ' H'->∃m',m'<m/\W m' σ' H')/\tb {D with nx:=N,ct:=N,bk:=D.nx} Z H1 else D.nx Z H1
def Zmd{c:Expr}{body:List Stmt}{tc:TT}{tb:TS}(hp:PassesOwn (model X.prog X.w) X.A X.env X.xe)(hc:PT X c tc)(hb:PSs X body tb):PS X (.While c body [] pos) (ZpC tc tb):=by
 intro pins s Z H D I h;obtain⟨W,⟨m0,w0⟩,turn⟩:=h;refine wpAny_While (codeAny_whileLoop (λn s'=>∃σ' H',Inv X pins σ' H' s'/\W n σ' H') ?_ m0 ⟨Z,H,I,w0⟩);rintro n s1 ⟨σ1,H1,I1,w1⟩;refine wpAny_passesOwn hp (thn (hc pins s1 σ1 H1 _ I1 (turn n σ1 H1 w1)) λb s2 ⟨H2,I2,q2⟩=>?_);cases b with
 |true=>
  obtain⟨N,hN,q2⟩:=q2;rw[if_pos rfl];refine wpAny_passesOwn hp (thn (hb pins s2 σ1 H2 _ I2 q2) λf s3 q3=>?_);cases f with
  |next=>obtain⟨σ3,H3,I3,n3⟩:=q3;obtain⟨m',hm,w3⟩:=hN σ3 H3 n3;exact⟨m',hm,σ3,H3,I3,w3⟩
  |cont=>obtain⟨σ3,H3,I3,n3⟩:=q3;obtain⟨m',hm,w3⟩:=hN σ3 H3 n3;exact⟨m',hm,σ3,H3,I3,w3⟩
  |brk=>exact q3
  |ret v=>exact q3
 |false=>rw[if_neg Ow];exact wpAny_execs_nil ⟨σ1,H2,I2,q2⟩
end
structure It where
 go:Nat->Hp->Prop
 yld:Nat->Hp->V->Hp->Prop
 stop:Nat->Hp->Prop
def Zbg(X:Cx)(pins:List (Yi×Obj))(H:Hp)(b:Yi):Prop:=H b=Wl/\b≠X.env.locals/\b ∉ X.fs/\(b∈X.ex\/X.s₀.heap.objs.size<=b)/\(∀x c,X.env.cells.lookup x=Wj c->c≠b)/\∀p∈X.pn++pins,p.1≠b
def Inv.fpOk{X:Cx}{pins:List (Yi×Obj)}{Z:St}{H H':Hp}{s:Yb}{b:Yi}(I:Inv X pins Z H s)(hb:s.heap.objs.size<=b)(hn:H' b=Wl):Zbg X pins H' b:=by
 refine⟨hn,Nat.ne_of_gt (Ot I.lt hb),I.nofs hb,.inr (OE I.sz hb),λx c e z=>?_,λp hp z=>?_⟩
 . obtain⟨v,q⟩:=I.cell x c e;exact absurd (Ot q.lt (by rw[z];exact hb)) (Yu _)
 . exact absurd (Ot (Yn (I.pin p hp).1) (by rw[z];exact hb)) (Yu _)
structure Turn(P:Yh)(w:Yg)(K:Yk)(tg:Expr)(J:It)(fp:List Yi)(it:Yi)(tn:Nat->YD->Prop):Prop where
 mem:it∈fp
 obj:∀i h,tn i h->∀b∈fp,∃o,h.get? b=Wj o/\∀v,o.data≠.cell v
 keep:∀i h h',tn i h->(∀b∈fp,∀o,h.get? b=Wj o->h'.get? b=Wj o)->tn i h'
 item:∀(X:Cx),X.prog=P->X.w=w->X.K=K->X.calm=Wm->∀(i:Nat) (pins:List (Yi×Obj)) (s:Yb) (Z:St) (H:Hp) (E:Yj->Yb->Prop),Inv X pins Z H s->(∀b∈fp,Zbg X pins H b)->tn i s.heap->J.go i H ->
  Yy (model P w) X.A (pyNext (.ref it)) (λr s1=>∃u,r=Wj u /\
   Yy (model P w) X.A (letOwnedTupleGo tg (.ref it) u) (λ_ s2=>∃x H',Inv X pins Z H' s2/\RelV x u/\J.yld i H x H'/\tn (i+1) s2.heap/\∀b∈fp,H' b=Wl) E s1) E s
 done:∀(X:Cx),X.prog=P->X.w=w->X.K=K->X.calm=Wm->∀(i:Nat) (pins:List (Yi×Obj)) (s:Yb) (Z:St) (H:Hp) (E:Yj->Yb->Prop),Inv X pins Z H s->(∀b∈fp,Zbg X pins H b)->tn i s.heap->J.stop i H ->
  Yy (model P w) X.A (pyNext (.ref it)) (λr s1=>r=Wl/\Inv X pins Z H s1) E s
 self:∀(A:YE) (i:Nat) (s:Yb) (Q:Yj->Yb->Prop) (E:Yj->Yb->Prop),tn i s.heap->Q (.ref it) s->Yy (model P w) A (pyIter (.ref it)) Q E s
abbrev TI:=St->Hp->(It->Hp->Prop)->Prop
def PIE(X:Cx)(pins:List (Yi×Obj))(Z:St)(tg:Expr)(R:It->Hp->Prop)(itv:Yj)(s2:Yb):Prop:=∃(it:Yi) (fp:List Yi) (tn:Nat->YD->Prop) (J:It) (H':Hp),itv=.ref it/\Inv X pins Z H' s2/\Turn X.prog X.w X.K tg J fp it tn/\tn 0 s2.heap/\(∀b∈fp,Zbg X pins H' b)/\R J H'
def PI(X:Cx)(tg iter:Expr)(wi:TI):Prop:=
 ∀(pins:List (Yi×Obj)) (s:Yb) (Z:St) (H:Hp) (R:It->Hp->Prop),Inv X pins Z H s->wi Z H R ->
  Yy (model X.prog X.w) X.A (eval iter X.env) (λv s1=>Yy (model X.prog X.w) X.A (pyIter v) (PIE X pins Z tg R) X.xe s1) X.xe s
theorem ZiM{M:Model}{A:YE}{E:Yj->Yb->Prop}{s:Yb}{tg:Expr}{it:Yi}{u:Yj}{o:Obj}{n:String}{vs:Array Yj}{Q:Unit->Yb->Prop}(ho:s.heap.get? it=Wj o)(hc:o.cls=.type n)(hd:o.data=.fields vs)
   (hn:["enumerate", "zip", "dict_itemiterator", "dict_reverseitemiterator", "odict_iterator", "itertools.zip_longest", "itertools.pairwise"].contains n=Wn) (hQ:Q () s):Yy M A (letOwnedTupleGo tg (.ref it) u) Q E s:=by
 unfold letOwnedTupleGo;cases tg<;>first
   | exact Yc hQ
   | (cases u<;>first
       | exact Yc hQ
       | (refine Ya (wpAny_load ho ?_)
          rw [hc,hd];show Yy M A (if (["enumerate", "zip", "dict_itemiterator", "dict_reverseitemiterator", "odict_iterator", "itertools.zip_longest", "itertools.pairwise"].contains n&&vs[0]?==Wj (rawInt _))=Wm then _ else _) Q E s;rw [if_neg (by intro h;rw [hn,Bool.false_and] at h;cases h)];exact Yc hQ))
noncomputable def Itl(K:Yk)(a:Yi):It:=⟨λi H=>∃xs x,SqL K H a xs/\xs[i]? = Wj x,λi H x H'=>H'=H/\∀xs,SqL K H a xs->xs[i]? = Wj x,λi H=>∃xs,SqL K H a xs/\xs.length<=i⟩
noncomputable def Itt(K:Yk)(a:Yi):It:=⟨λi H=>∃xs x,SqT K H a xs/\xs[i]? = Wj x,λi H x H'=>H'=H/\∀xs,SqT K H a xs->xs[i]? = Wj x,λi H=>∃xs,SqT K H a xs/\xs.length<=i⟩
noncomputable def Itr(lo:Int)(n:Nat):It:=⟨λi _=>i<n,λi H x H'=>H'=H/\x=.int (lo+i),λi _=>n<=i⟩
def ZkN{P:Yh}{w:Yg}{K:Yk}{tg:Expr}(a it:Yi):Turn P w K tg (Itl K a) [it] it (λi h=>h.IsListIter it a i) where
 mem:=by simp
 obj:=λi h st b hb=>by
  have e:b=it:=by simpa using hb
  subst e;obtain⟨o,e,c,d⟩:=st;exact⟨o,e,λv z=>by rw[d]at z;cases z⟩
 keep:=λi h h' st k=>st.at λo e=>k it (by simp) o e
 item:=by intro X hP hw hK hc i pins s Z H E I hf st hg;subst hP hw hK;obtain⟨xs,x,hq,hx⟩:=hg;obtain⟨its,rv,p,hz⟩:=I.list hq;obtain⟨u,hu,ru⟩:=rv.get hx;obtain⟨f0,f1,f2,f3,f4,f5⟩:=hf it (by simp);refine wpAny_pyNext_list_item st p.isList (x:=u) (by simpa using hu) λh' st' sb=>?_;have I1:Inv X pins Z H {s with heap:=h'}:=I.turned (t':=s.toks) (λb o hb e=>(sb.2 b hb).trans e) f0 f1 f3 f4 f5;obtain⟨o,e,c,d⟩:=id st';exact⟨u,rfl,ZiM (s:={s with heap:=h'}) e c d (by decide) ⟨x,H,I1,ru,⟨rfl,λys hy=>by rw[I.list_inj hy hq];exact hx⟩,st',λb hb=>(hf b hb).1⟩⟩
 done:=by intro X hP hw hK hc i pins s Z H E I hf st hg;subst hP hw hK;obtain⟨xs,hq,hx⟩:=hg;obtain⟨its,rv,p,hz⟩:=I.list hq;obtain⟨f0,f1,f2,f3,f4,f5⟩:=hf it (by simp);have hl:=rv.length;exact wpAny_pyNext_list_end (I.ok.hd hc) st p.isList (by simp;lia) λh' eb=>⟨rfl,I.turned (t':=s.toks) (λb o hb e=>eb b o hb e) f0 f1 f3 f4 f5⟩
 self:=λ_ _ _ _ _ st h=>wpAny_pyIter_listiter st h
def Zje{P:Yh}{w:Yg}{K:Yk}{tg:Expr}(a it:Yi):Turn P w K tg (Itt K a) [it] it (λi h=>h.IsTupleIter it a i) where
 mem:=by simp
 obj:=λi h st b hb=>by
  have e:b=it:=by simpa using hb
  subst e;obtain⟨o,e,c,d⟩:=st;exact⟨o,e,λv z=>by rw[d]at z;cases z⟩
 keep:=λi h h' st k=>st.at λo e=>k it (by simp) o e
 item:=by intro X hP hw hK hc i pins s Z H E I hf st hg;subst hP hw hK;obtain⟨xs,x,hq,hx⟩:=hg;obtain⟨its,rv,p,hz⟩:=I.tuple hq;obtain⟨u,hu,ru⟩:=rv.get hx;obtain⟨f0,f1,f2,f3,f4,f5⟩:=hf it (by simp);refine wpAny_pyNext_tuple_item st (show s.heap.IsTuple a its.toArray from p) (x:=u) (by simpa using hu) λh' st' sb=>?_;have I1:Inv X pins Z H {s with heap:=h'}:=I.turned (t':=s.toks) (λb o hb e=>(sb.2 b hb).trans e) f0 f1 f3 f4 f5;obtain⟨o,e,c,d⟩:=id st';exact⟨u,rfl,ZiM (s:={s with heap:=h'}) e c d (by decide) ⟨x,H,I1,ru,⟨rfl,λys hy=>by rw[I.tuple_inj hy hq];exact hx⟩,st',λb hb=>(hf b hb).1⟩⟩
 done:=by intro X hP hw hK hc i pins s Z H E I hf st hg;subst hP hw hK;obtain⟨xs,hq,hx⟩:=hg;obtain⟨its,rv,p,hz⟩:=I.tuple hq;obtain⟨f0,f1,f2,f3,f4,f5⟩:=hf it (by simp);have hl:=rv.length;exact wpAny_pyNext_tuple_end (I.ok.hd hc) st (show s.heap.IsTuple a its.toArray from p) (by simp;lia) λh' eb=>⟨rfl,I.turned (t':=s.toks) (λb o hb e=>eb b o hb e) f0 f1 f3 f4 f5⟩
 self:=λ_ _ _ _ _ st h=>wpAny_pyIter_tupleiter st h
theorem Zjf{P:Yh}{w:Yg}{K:Yk}{tg:Expr}(it:Yi)(lo:Int)(n:Nat):Turn P w K tg (Itr lo n) [it] it (fun i h=>IsRangeIter h it (lo+(i:Nat) * 1) ((n:Int) - (i:Nat)) 1) where
 mem:=by simp
 obj:=fun i h st b hb=>by
   have e:b=it:=by simpa using hb
   subst e;exact ⟨_,st,fun v z=>by
     have z':Data.fields _=Data.cell v:=z;cases z'⟩
 keep:=fun i h h' st k=>k it (by simp) _ st
 item:=by
   intro X hP hw hK hc i pins s Z H E I hf st hg;subst hP hw hK;obtain ⟨f0,f1,f2,f3,f4,f5⟩:=hf it (by simp);have W:=Walks.range (prog:=X.prog) (w:=X.w) (I.ok.hd hc) it lo 1 n;refine W.item i s _ _ hg st fun v h' tk hv st' kk=>?_;obtain ⟨t,rfl⟩:=hv;have I1:Inv X pins Z H {s with heap:=h',toks:=tk}:=I.turned (fun b o hb e=>kk b o (by simpa using hb) e) f0 f1 f3 f4 f5;refine ⟨_,rfl,ZiM (s:={s with heap:=h',toks:=tk}) (n := "range_iterator") st' rfl rfl (by decide) ⟨.int (lo+i),H,I1,⟨t,?_⟩,⟨rfl,rfl⟩,st',fun b hb=>(hf b hb).1⟩⟩;rw [Int.mul_one]
 done:=by
   intro X hP hw hK hc i pins s Z H E I hf st hg;subst hP hw hK;obtain ⟨f0,f1,f2,f3,f4,f5⟩:=hf it (by simp);exact wpAny_pyNext_range_end (I.ok.hd hc) st (by have:n<=i:=hg;lia) fun h' eb=>⟨rfl,I.turned (t':=s.toks) (fun b o hb e=>eb b o hb e) f0 f1 f3 f4 f5⟩
 self:=fun _ _ _ _ _ st h=>wpAny_pyIter_rangeiter st h
section
variable {X:Cx}{tg:Expr}
def ZlV{pins:List (Yi×Obj)}{Z:St}{H:Hp}{s:Yb}{R:It->Hp->Prop}{E:Yj->Yb->Prop}{lo hi:Int}{t u v:Tok}{tk:Nat}(I:Inv X pins Z H s)(h1:-(2 ^ 62)<=lo)(h2:lo<2 ^ 62)(h3:-(2 ^ 62)<=hi)(h4:hi<2 ^ 62)
 (q:R (Itr lo (hi - lo).toNat) H):Yy (model X.prog X.w) X.A (pyIter (.ref s.heap.objs.size)) (PIE X pins Z tg R) E {s with heap:=s.heap.push {cls:=.type "range",data:=.fields #[.int lo t,.int hi u,.int 1 v]},toks:=tk}:=by
 refine wpAny_pyIter_range (IsRange.new ..) (small_one h1 h2 h3 h4) ?_;have I1:Inv X pins Z H {s with heap:=s.heap.push {cls:=.type "range",data:=.fields #[.int lo t,.int hi u,.int 1 v]},toks:=tk}:=I.kept λb o e=>Od _ e;refine⟨(s.heap.push {cls:=.type "range",data:=.fields #[.int lo t,.int hi u,.int 1 v]}).objs.size,[(s.heap.push {cls:=.type "range",data:=.fields #[.int lo t,.int hi u,.int 1 v]}).objs.size],_,_,H,rfl,
  I1.kept (t':=tk) λb o e=>Od _ e,Zjf _ lo (hi - lo).toNat,?_,λb hb=>?_,q⟩
 . have e1:lo+((0:Nat):Int) * 1=lo:=by simp
   have e2:(((hi - lo).toNat:Nat):Int) - ((0:Nat):Int)=Builtin.Range.rangeSize lo hi 1:=by rw[rangeSize_one];split<;>lia
   show IsRangeIter _ _ (lo+((0:Nat):Int) * 1) ((((hi - lo).toNat:Nat):Int) - ((0:Nat):Int)) 1;rw[e1,e2];exact Oj _ rfl
 . have e:b=(s.heap.push {cls:=.type "range",data:=.fields #[.int lo t,.int hi u,.int 1 v]}).objs.size:=by simpa using hb
   subst e;exact I1.fpOk (Oq _) (I1.hok.fresh (Oq _))
noncomputable def Zss(ta:TA):TI:=λZ H R=>ta Z H λvs H1=>∃j:Int,vs=[.int j]/\-(2 ^ 62)<=j/\j<2 ^ 62/\R (Itr 0 j.toNat) H1
def Zk2{a:Expr}{ta:TA}{p pos:Pos}(hg:Gl X "range")(hm:X.mg "range" = Wl)(ha:PA X [a] ta)(hs:Yw [a] X.env=[(Wn,eval a X.env)]:=by rfl):PI X tg (.Call (.Name "range" p) [a] [] pos) (Zss ta):=by
 intro pins s Z H R I h;refine Call_ (Zc9 I hg hm boot_range (PyProof.Rows.callWith_type1 (thn (ha pos pins s Z H _ I h) λus s1 ⟨vs,H1,I1,r1,q1⟩=>?_) hs rfl));obtain⟨j,e,q1,q2,q⟩:=q1;subst e;cases r1 with
 |cons r rr=>cases rr;obtain⟨t,rfl⟩:=r;exact call_range_1 (ZlV I1 (by lia) (by lia) q1 q2 (by simpa using q))
noncomputable def Zts(wi:TI)(g:TG)(tb:TS):TS:=λD Z H=>wi Z H λJ H1=>∃W:Nat->Nat->St->Hp->Prop,(∃m,W 0 m Z H1)/\∀i m Z H,W i m Z H ->
 (J.stop i H/\D.nx Z H)\/(J.go i H/\∃N:St->Hp->Prop,(∀σ' H',N σ' H'->∃m',m'<m/\W (i+1) m' σ' H')/\∀x H',J.yld i H x H'->g x Z H' λσ2 H2=>tb {D with nx:=N,ct:=N,bk:=D.nx} σ2 H2)
noncomputable def ZfJ(fp:List Yi)(h:YD):List (Yi×Obj):=fp.filterMap λb=>(h.get? b).map λo=>(b,o)
def ZcA{fp:List Yi}{h:YD}{b:Yi}{o:Obj}(hb:b∈fp)(e:h.get? b=Wj o):(b,o)∈ZfJ fp h:=List.mem_filterMap.mpr ⟨b,hb,by rw[e];rfl⟩
def Zlb{fp:List Yi}{h:YD}{p:Yi×Obj}(hp:p∈ZfJ fp h):p.1∈fp/\h.get? p.1=Wj p.2:=by
 obtain⟨b,hb,e⟩:=List.mem_filterMap.mp hp;cases q:h.get? b with
 |none=>rw[q]at e;cases e
 |some o=>rw[q]at e;have e':(b,o)=p:=YC e;subst e';exact⟨hb,q⟩
def Inv.pinned{pins:List (Yi×Obj)}{Z:St}{H:Hp}{s:Yb}{fp:List Yi}(I:Inv X pins Z H s)(hf:∀b∈fp,Zbg X pins H b)(ho:∀b∈fp,∃o,s.heap.get? b=Wj o/\∀v,o.data≠.cell v):Inv X (pins++ZfJ fp s.heap) Z H s:=
 I.pins_of λp hp=>(OD.mp hp).elim (λz=>I.pin p (Ov _ z)) λz=>by obtain⟨hb,e⟩:=Zlb z;obtain⟨f0,f1,f2,_⟩:=hf p.1 hb;obtain⟨o,e',d⟩:=ho p.1 hb;rw[e]at e';cases e';exact⟨e,f0,f1,f2,d⟩
def Inv.unpinned{pins pl:List (Yi×Obj)}{Z:St}{H:Hp}{s:Yb}(I:Inv X (pins++pl) Z H s):Inv X pins Z H s:=I.pins_of λp hp=>I.pin p (Ov _ (List.mem_append_left _ hp))
def Zp1{iter:Expr}{body:List Stmt}{wi:TI}{g:TG}{tb:TS}{pos:Pos}(hp:PassesOwn (model X.prog X.w) X.A X.env X.xe)(hc:X.calm=Wm)(hi:PI X tg iter wi)(hg:PG X tg g)(hb:PSs X body tb)
 (hs:∀x,foldedSetIterable iter X.env x=pure x:=by intro _;rfl):PS X (.For tg iter body [] pos) (Zts wi g tb):=by
 intro pins s Z H D I h;refine wpAny_For (thn (hi pins s Z H _ I h) λv s1 h1=>thn h1 λitv s2 h2=>?_) hs;obtain⟨it,fp,tn,J,H2,e,I2,T,st2,f2,W,⟨m0,w0⟩,turn⟩:=h2;subst e;have stat:∀{H':Hp},(∀b∈fp,H' b=Wl)->∀b∈fp,Zbg X pins H' b:=λhn b hb=>⟨hn b hb,(f2 b hb).2⟩
 refine codeAny_forLoop_any (λn s'=>∃i σ' H',Inv X pins σ' H' s'/\tn i s'.heap/\(∀b∈fp,H' b=Wl)/\W i n σ' H') ?_ m0 ⟨0,Z,H2,I2,st2,λb hb=>(f2 b hb).1,w0⟩;rintro n s3 ⟨i,σ3,H3,I3,st3,fr3,w3⟩;rcases turn i n σ3 H3 w3 with ⟨stop,qn⟩|⟨go,N,hN,step⟩
 . refine wpAny_passesOwn hp (thn (T.done X rfl rfl rfl hc i pins s3 σ3 H3 X.xe I3 (stat fr3) st3 stop) λr s4 ⟨hr,I4⟩=>?_);subst hr;exact wpAny_execs_nil ⟨σ3,H3,I4,qn⟩
 . refine wpAny_passesOwn hp (thn (T.item X rfl rfl rfl hc i pins s3 σ3 H3 X.xe I3 (stat fr3) st3 go) λr s4 ⟨u,hr,h4⟩=>?_);subst hr;refine wpAny_passesOwn hp (thn h4 λ_ s5 ⟨x,H5,I5,r5,y5,st5,fr5⟩=>?_);have I5':=I5.pinned (stat fr5) (T.obj _ _ st5);refine wpAny_passesOwn hp (thn (hg _ s5 σ3 H5 x u _ I5' r5 (step x H5 y5)) λ_ s6 ⟨σ6,H6,I6,q6⟩=>?_);refine wpAny_passesOwn hp (thn (hb _ s6 σ6 H6 _ I6 q6) λf s7 q7=>?_);have again:∀{σ7:St}{H7:Hp},Inv X (pins++ZfJ fp s5.heap) σ7 H7 s7->N σ7 H7->∃m,m<n/\∃i σ' H',Inv X pins σ' H' s7/\tn i s7.heap/\(∀b∈fp,H' b=Wl)/\W i m σ' H':=λ{σ7 H7} I7 n7=>by obtain⟨m',hm,w7⟩:=hN σ7 H7 n7;refine⟨m',hm,i+1,σ7,H7,I7.unpinned,T.keep _ _ _ st5 λb hb o e=>(I7.pin (b,o) (Ov _ (Ov _ (ZcA hb e)))).1,λb hb=>?_,w7⟩;obtain⟨o,e,d⟩:=T.obj _ _ st5 b hb;exact(I7.pin (b,o) (Ov _ (Ov _ (ZcA hb e)))).2.1
   cases f with
   |next=>obtain⟨σ7,H7,I7,n7⟩:=q7;exact again I7 n7
   |cont=>obtain⟨σ7,H7,I7,n7⟩:=q7;exact again I7 n7
   |brk=>obtain⟨σ7,H7,I7,q7⟩:=q7;exact⟨σ7,H7,I7.unpinned,q7⟩
   |ret v=>obtain⟨x7,σ7,H7,I7,r7,q7⟩:=q7;exact⟨x7,σ7,H7,I7.unpinned,r7,q7⟩
end
abbrev R2:=V->V->Hp->VK->Prop
def OpR(X:Cx)(f:Yj->Yj->Sem Yj)(r:R2):Prop:=
 ∀(pins:List (Yi×Obj)) (s:Yb) (Z:St) (H:Hp) (x y:V) (v u:Yj) (Q:VK),Inv X pins Z H s->RelV x v->RelV y u->r x y H Q ->
  Yy (model X.prog X.w) X.A (f v u) (EP X pins Z Q) X.xe s
def UnR(X:Cx)(f:Yj->Sem Yj)(r:V->Hp->VK->Prop):Prop:=
 ∀(pins:List (Yi×Obj)) (s:Yb) (Z:St) (H:Hp) (x:V) (v:Yj) (Q:VK),Inv X pins Z H s->RelV x v->r x H Q ->
  Yy (model X.prog X.w) X.A (f v) (EP X pins Z Q) X.xe s
def Zb0(X:Cx)(f:Yj)(r:List V->Hp->VK->Prop):Prop:=
 ∀(pins:List (Yi×Obj)) (s:Yb) (Z:St) (H:Hp) (xs:List V) (us:List Yj) (Q:VK),Inv X pins Z H s->Zk xs us->r xs H Q ->
  Yy (model X.prog X.w) X.A (call f us) (EP X pins Z Q) X.xe s
def Zuk(X:Cx)(r:V->Hp->(Bool->Hp->Prop)->Prop):Prop:=
 ∀(pins:List (Yi×Obj)) (s:Yb) (Z:St) (H:Hp) (x:V) (v:Yj) (Q:Bool->Hp->Prop),Inv X pins Z H s->RelV x v->r x H Q ->
  Yy (model X.prog X.w) X.A (truthy v) (TP X pins Z Q) X.xe s
noncomputable def tOp(r:R2)(ta tb:TE):TE:=λZ H Q=>ta Z H λx H1=>tb Z H1 λy H2=>r x y H2 Q
noncomputable def tUn(r:V->Hp->VK->Prop)(ta:TE):TE:=λZ H Q=>ta Z H λx H1=>r x H1 Q
noncomputable def rI(C:Int->Int->Prop)(g:Int->Int->V):R2:=λx y H Q=>∃i j,x=.int i/\y=.int j/\C i j/\Q (g i j) H
noncomputable def rI0(g:Int->Int->V):R2:=λx y H Q=>∃i j,x=.int i/\y=.int j/\Q (g i j) H
def rU(g:Int->V):V->Hp->VK->Prop:=λx H Q=>∃i,x=.int i/\Q (g i) H
section
variable {X:Cx}{a b c:Expr}{ta tb tc:TE}{pos:Pos}
def Zq0(ha:PE X a ta)(hb:PE X b tb){pins:List (Yi×Obj)}{s:Yb}{Z:St}{H:Hp}{R:V->V->Hp->Prop}(I:Inv X pins Z H s)
 (h:ta Z H λx H1=>tb Z H1 λy H2=>R x y H2) {Q:Yj->Yb->Prop}{f:Yj->Yj->Sem Yj}
 (hf:∀v u s2 x y H2,Inv X pins Z H2 s2->RelV x v->RelV y u->R x y H2->Yy (model X.prog X.w) X.A (f v u) Q X.xe s2) :
 Yy (model X.prog X.w) X.A (eval a X.env) (λv s₁=>Yy (model X.prog X.w) X.A (eval b X.env) (λu s₂=>Yy (model X.prog X.w) X.A (f v u) Q X.xe s₂) X.xe s₁) X.xe s:=by
 refine thn (ha pins s Z H _ I h) λv s1 ⟨x,H1,I1,r1,q1⟩=>?_;refine thn (hb pins s1 Z H1 _ I1 q1) λu s2 ⟨y,H2,I2,r2,q2⟩=>?_;exact hf v u s2 x y H2 I2 r1 r2 q2
def Zr3{op:Operator}{r:R2}(ho:OpR X (binaryOp op) r)(ha:PE X a ta)(hb:PE X b tb):PE X (.BinOp a op b pos) (tOp r ta tb):=by intro pins s Z H Q I h;exact wpAny_BinOp (Zq0 ha hb I h λv u s2 x y H2 I2 rx ry q=>ho pins s2 Z H2 x y v u Q I2 rx ry q)
def Zr1{op:UnaryOp}{r:V->Hp->VK->Prop}(ho:UnR X (unaryOp op) r)(ha:PE X a ta):PE X (.UnaryOp op a pos) (tUn r ta):=by intro pins s Z H Q I h;exact UnaryOp_ (thn (ha pins s Z H _ I h) λv s1 ⟨x,H1,I1,r1,q1⟩=>ho pins s1 Z H1 x v Q I1 r1 q1)
def opI{f:Yj->Yj->Sem Yj}{C:Int->Int->Prop}{g:Int->Int->Int}
 (rule:∀(i j:Int) (t u:Tok) (s:Yb) (Q:Yj->Yb->Prop) (E:Yj->Yb->Prop),C i j->Q (.int (g i j) s.toks) {s with toks:=s.toks+1}->Yy (model X.prog X.w) X.A (f (.int i t) (.int j u)) Q E s) :
 OpR X f (rI C λi j=>.int (g i j)):=by
 intro pins s Z H x y v u Q I rx ry h;obtain⟨i,j,rfl,rfl,hc,q⟩:=h;obtain⟨t,rfl⟩:=rx;obtain⟨t',rfl⟩:=ry;exact rule i j t t' s _ _ hc ⟨.int (g i j),H,I.tok _,⟨_,rfl⟩,q⟩
def Zse{f:Yj->Yj->Sem Yj}{g:Int->Int->Int}
 (rule:∀(i j:Int) (t u:Tok) (s:Yb) (Q:Yj->Yb->Prop) (E:Yj->Yb->Prop),Q (.int (g i j) s.toks) {s with toks:=s.toks+1}->Yy (model X.prog X.w) X.A (f (.int i t) (.int j u)) Q E s) :
 OpR X f (rI0 λi j=>.int (g i j)):=by
 intro pins s Z H x y v u Q I rx ry h;obtain⟨i,j,rfl,rfl,q⟩:=h;obtain⟨t,rfl⟩:=rx;obtain⟨t',rfl⟩:=ry;exact rule i j t t' s _ _ ⟨.int (g i j),H,I.tok _,⟨_,rfl⟩,q⟩
def Zoj{f:Yj->Yj->Sem Yj}{g:Int->Int->Bool}
 (rule:∀(i j:Int) (t u:Tok) (s:Yb) (Q:Yj->Yb->Prop) (E:Yj->Yb->Prop),Q (.bool (g i j)) s->Yy (model X.prog X.w) X.A (f (.int i t) (.int j u)) Q E s) :
 OpR X f (rI0 λi j=>.bl (g i j)):=by
 intro pins s Z H x y v u Q I rx ry h;obtain⟨i,j,rfl,rfl,q⟩:=h;obtain⟨t,rfl⟩:=rx;obtain⟨t',rfl⟩:=ry;exact rule i j t t' s _ _ ⟨.bl (g i j),H,I,rfl,q⟩
def Zum(i j:Int):Prop:=0<j/\j<1073741824
def Zul(i j:Int):Prop:=0<=j/\j<=1000000/\i.natAbs<2 ^ 64
def Zqo:OpR X (binaryOp .Add) (rI0 λi j=>.int (i+j)):=Zse λ_ _ _ _ _ _ _ q=>add_int q
def Zqi:OpR X (binaryOp .Sub) (rI0 λi j=>.int (i - j)):=Zse λ_ _ _ _ _ _ _ q=>sub_int q
def Zn7:OpR X (binaryOp .FloorDiv) (rI Zum λi j=>.int (i / j)):=opI λi j _ _ _ _ _ hc q=>by have h1:(0:Int)<j:=hc.1;have h2:j<1073741824:=hc.2;exact floordiv_int (by lia) (by rw[Int.fdiv_eq_ediv_of_nonneg i (by lia)];exact q) (.inl (PyProof.noPylong_small (by lia)))
def Zqk:OpR X (binaryOp .Mod) (rI (λ_ j=>0<j) λi j=>.int (i % j)):=opI λi j _ _ _ _ _ hc q=>by have h1:(0:Int)<j:=hc;exact mod_int' (by lia) (by rw[Int.fmod_eq_emod_of_nonneg i (by lia)];exact q)
def Zqj:OpR X (binaryOp .Pow) (rI Zul λi j=>.int (i ^ j.toNat)):=opI λ_ _ _ _ _ _ _ hc q=>pow_int_small hc.1 hc.2.1 hc.2.2 q
def unI{f:Yj->Sem Yj}{g:Int->Int}
 (rule:∀(i:Int) (t:Tok) (s:Yb) (Q:Yj->Yb->Prop) (E:Yj->Yb->Prop),Q (.int (g i) s.toks) {s with toks:=s.toks+1}->Yy (model X.prog X.w) X.A (f (.int i t)) Q E s) :
 UnR X f (rU λi=>.int (g i)):=by
 intro pins s Z H x v Q I rx h;obtain⟨i,rfl,q⟩:=h;obtain⟨t,rfl⟩:=rx;exact rule i t s _ _ ⟨.int (g i),H,I.tok _,⟨_,rfl⟩,q⟩
def Zpu:UnR X (unaryOp .USub) (rU λi=>.int (-i)):=unI λ_ _ _ _ _ q=>neg_int q
end
section
variable {X:Cx}{a b c:Expr}{ta tb tc:TE}{pos:Pos}
def ZmQ{pins:List (Yi×Obj)}{Z:St}{H:Hp}{s:Yb}{Q:VK}{k k':Bool}(I:Inv X pins Z H s)(q:Q (.bl k) H)(e:k=k'):EP X pins Z Q (.bool k') s:=by subst e;exact⟨.bl k,H,I,rfl,q⟩
def Zr7:OpR X (YJ .Lt) (rI0 λi j=>.bl (Wo (i<j))):=Zoj λ_ _ _ _ _ _ _ q=>lt_int q
def Zr8:OpR X (YJ .LtE) (rI0 λi j=>.bl (Wo (i<=j))):=Zoj λ_ _ _ _ _ _ _ q=>le_int q
def Zr9:OpR X (YJ .Gt) (rI0 λi j=>.bl (Wo (j<i))):=Zoj λ_ _ _ _ _ _ _ q=>gt_int q
def Zsa:OpR X (YJ .GtE) (rI0 λi j=>.bl (Wo (j<=i))):=Zoj λ_ _ _ _ _ _ _ q=>ge_int q
def Zql:OpR X (YJ .Is) (λx y H Q=>y=.non/\Q (.bl (Wo (x=.non))) H):=by
 intro pins s Z H x y v u Q I rx ry h;obtain⟨rfl,q⟩:=h;cases ry;refine is_none_gen (ZmQ I q ?_);cases x<;>first
  |(cases rx;rfl)
  |(obtain⟨t,rfl⟩:=rx;rfl)
def Zn5:OpR X (YJ .IsNot) (λx y H Q=>y=.non/\Q (.bl (!Wo (x=.non))) H):=by
 intro pins s Z H x y v u Q I rx ry h;obtain⟨rfl,q⟩:=h;cases ry;refine isnot_none_gen (ZmQ I q ?_);cases x<;>first
  |(cases rx;rfl)
  |(obtain⟨t,rfl⟩:=rx;rfl)
def Zn1{op:CmpOp}{r:R2}(ho:OpR X (YJ op) r)(ha:PE X a ta)(hb:PE X b tb)(hm:behindInMarks op b=Wn):PE X (.Compare a [op] [b] pos) (tOp r ta tb):=by intro pins s Z H Q I h;exact wpAny_Compare1 (Zq0 ha hb I h λv u s2 x y H2 I2 rx ry q=>ho pins s2 Z H2 x y v u Q I2 rx ry q) hm
noncomputable def Zrx(t:TE):TT:=λZ H Q=>t Z H λx H'=>∃k,x=.bl k/\Q k H'
def ZnL{op:CmpOp}{r:R2}(ho:OpR X (YJ op) r)(ha:PE X a ta)(hb:PE X b tb)(hm:behindInMarks op b=Wn):PT X (.Compare a [op] [b] pos) (Zrx (tOp r ta tb)):=by
 intro pins s Z H Q I h;refine wpAny_isTrue_Compare1 (thn (ha pins s Z H _ I h) λv s1 ⟨x,H1,I1,r1,q1⟩=>thn (hb pins s1 Z H1 _ I1 q1) λu s2 ⟨y,H2,I2,r2,q2⟩=>thn (ho pins s2 Z H2 x y v u _ I2 r1 r2 q2) λc s3 ⟨z,H3,I3,r3,k,e,q3⟩=>?_) hm
 subst e;cases r3;exact wpAny_truthy_bool ⟨H3,I3,q3⟩
def Zq7(K:Yk)(x:V)(H:Hp)(k:Bool):Prop:=
 match x with
 |.non=>k=Wn
 |.bl b=>k=b
 |.int i=>k=(i != 0)
 |.str y=>y.length<=sizeLine/\k=((y.length:Int) != 0)
 |.byt y=>y.size<=sizeLine/\k=((y.size:Int) != 0)
 |.ref p=>(∃xs,SqL K H p xs/\k=!xs.isEmpty)\/(∃xs,SqT K H p xs/\k=!xs.isEmpty)\/∃kvs,H p=Wj (.dK kvs)/\k=!kvs.isEmpty
 |_=>False
def ZjR{κ:Type}{kvs:List (κ×V)}{vs:List (κ×Yj)}(r:KV kvs vs):(!vs.isEmpty)=!kvs.isEmpty:=by cases r<;>rfl
def Zf0{xs:List V}{its:List Yj}(r:Zk xs its):(!its.toArray.isEmpty)=!xs.isEmpty:=by cases r<;>simp
def Zbq:(sizeLine:Nat)<2 ^ 63:=by rw[Yz];decide
def Zpz:Zuk X (λx H Q=>∃k,Zq7 X.K x H k/\Q k H):=by
 intro pins s Z H x v Q I rx h;obtain⟨k,e,q⟩:=h;have hl:=Zbq;have hs:sizeLine=16777216:=Yz;cases x with
 |non=>cases rx;have e':k=Wn:=e;subst e';exact truthy_none ⟨H,I,q⟩
 |bl b=>cases rx;have e':k=b:=e;subst e';exact wpAny_truthy_bool ⟨H,I,q⟩
 |int i=>obtain⟨t,rfl⟩:=rx;have e':k=(i != 0):=e;subst e';exact PySem.P.truthy_int ⟨H,I,q⟩
 |str y=>obtain⟨t,rfl⟩:=rx;obtain⟨hy,e'⟩:y.length<=sizeLine/\k=((y.length:Int) != 0):=e;subst e';exact PySem.P.truthy_str (by lia) ⟨H,I.tok _,q⟩
 |byt y=>obtain⟨t,rfl⟩:=rx;obtain⟨hy,e'⟩:y.size<=sizeLine/\k=((y.size:Int) != 0):=e;subst e';exact PySem.W.truthy_bytes (by lia) ⟨H,I.tok _,q⟩
 |ref p=>
  cases rx;have e':(∃xs,SqL X.K H p xs/\k=!xs.isEmpty)\/(∃xs,SqT X.K H p xs/\k=!xs.isEmpty)\/∃kvs,H p=Wj (.dK kvs)/\k=!kvs.isEmpty:=e;rcases e' with ⟨xs,hx,e'⟩|⟨xs,hx,e'⟩|⟨kvs,hx,e'⟩
  . subst e';obtain⟨its,r,pl,hz⟩:=I.list hx;have hlen:=r.length;exact wpAny_truthy_list pl.isList (by simp only[Of];lia) ⟨H,I.tok _,by rw[Zf0 r];exact q⟩
  . subst e';obtain⟨its,r,pl,hz⟩:=I.tuple hx;have hlen:=r.length;exact truthy_tuple pl (by simp only[Of];lia) ⟨H,I.tok _,by rw[Zf0 r];exact q⟩
  . subst e';obtain⟨hz,hS,vs,r,m⟩:kvs.length<=sizeLine/\(p==Ye)=Wn/\∃vs,KV kvs vs/\s.heap.DictOf (ZY X.prog X.w) p vs:=I.hok p _ hx;have hlen:kvs.length=vs.length:=Paired.length r;exact wpAny_truthy_dict hS m (by lia) ⟨H,I.tok _,by rw[ZjR r];exact q⟩
 |_=>exact(show False from e).elim
def Zmb(ha:PE X a ta)(he:∀whole,isTrue a X.env whole=(do let v <- whole;standAt a.pos;holding [v] (truthy v))):
 PT X a (λZ H Q=>ta Z H λx H'=>∃k,Zq7 X.K x H' k/\Q k H'):=by
 intro pins s Z H Q I h;exact isTrue_plain (thn (ha pins s Z H _ I h) λv s1 ⟨x,H1,I1,r1,q1⟩=>Zpz pins s1 Z H1 x v Q I1 r1 q1) (he _)
def Zjt:OpR X (binaryOp .Add) (λx y H Q=>∃i j,x=.str i/\y=.str j/\i.length+j.length<=sizeLine/\Q (.str (i++j)) H):=by intro pins s Z H x y v u Q I rx ry h;obtain⟨i,j,rfl,rfl,hz,q⟩:=h;obtain⟨t,rfl⟩:=rx;obtain⟨t',rfl⟩:=ry;exact add_str (λt' tk=>⟨.str (i++j),H,I.tok _,⟨_,rfl⟩,q⟩) hz
def vals1{x:V}{us:List Yj}(r:Zk [x] us):∃u,us=[u]/\RelV x u:=by
 cases r with
 |cons r1 r2=>cases r2;exact⟨_,rfl,r1⟩
def vals2{x y:V}{us:List Yj}(r:Zk [x,y] us):∃u w',us=[u,w']/\RelV x u/\RelV y w':=by
 cases r with
 |cons r1 r2=>
  cases r2 with
  |cons r3 r4=>cases r4;exact⟨_,_,rfl,r1,r3⟩
def Zlt(hc:X.calm=Wm):Zb0 X (.builtin "max") (λxs H Q=>∃i j,xs=[.int i,.int j]/\Q (.int (if j > i then j else i)) H):=by
 intro pins s Z H xs us Q I r h;obtain⟨i,j,rfl,q⟩:=h;obtain⟨u,w',rfl,⟨t,rfl⟩,⟨t',rfl⟩⟩:=vals2 r;refine max_two_ints (I.ok.hd hc) λh' tk k=>⟨_,H,I.kept k,?_,q⟩
 by_cases hj:j > i
 . rw[if_pos hj,if_pos hj];exact⟨_,rfl⟩
 . rw[if_neg hj,if_neg hj];exact⟨_,rfl⟩
def ZgV:Zb0 X (.type "int") (λxs H Q=>(∃i,xs=[.int i]/\Q (.int i) H)\/∃k,xs=[.bl k]/\Q (.int (if k then 1 else 0)) H):=by
 intro pins s Z H xs us Q I r h;rcases h with ⟨i,rfl,q⟩|⟨k,rfl,q⟩
 . obtain⟨u,rfl,t,rfl⟩:=vals1 r;exact call_int_int ⟨.int i,H,I,⟨_,rfl⟩,q⟩
 . obtain⟨u,rfl,r1⟩:=vals1 r;cases r1;exact call_int_bool ⟨.int (if k then 1 else 0),H,I.tok _,⟨_,rfl⟩,q⟩
end
structure ObjM(h:YD)(x dx C:Yi)(mA:Str->Option Yj):Prop where
 obj:h.get? x=Wj (Wc C dx)
 ns:h.Ns1 dx mA
 ne:dx≠x
def Zlg{h:YD}{dx:Yi}{mA:Str->Option Yj}(n:h.Ns1 dx mA):∃od,h.get? dx=Wj od/\∀name,PySem.W.lookIn name od=Wj (mA name):=by
 obtain⟨o,es,ep,ho,hd,hk,_,hm⟩:=n;refine⟨o,ho,λname=>?_⟩;have e:=hm name;unfold nsFind findBy at e;rw[<- Array.find?_toList]at e;unfold PySem.W.lookIn;rw[hd];dsimp only;split
 . rename_i y q;rw[q]at e;exact congrArg Wj e
 . rename_i q;rw[q]at e;have a:es.toList.any (·.refKey)=Wn:=by rw[List.any_eq_false];intro y hy;obtain⟨z,t,hkey⟩:=hk y (Array.mem_toList_iff.mp hy);simp[DictEntry.refKey,hkey]
   have a':¬ es.toList.any (·.refKey)=Wm:=by rw[a];exact Ow
   rw[if_neg a'];exact congrArg Wj e
def ObjM.look{h:YD}{x dx C:Yi}{mA:Str->Option Yj}(I:ObjM h x dx C mA):∃od,PySem.W.InstAt h x (Wc C dx) C (Wj od)/\∀name,PySem.W.lookIn name od=Wj (mA name):=
 let ⟨od,ho,hl⟩:=Zlg I.ns
 ⟨od,⟨I.obj,rfl,rfl,ho⟩,hl⟩
section
variable {prog:Yh}{w:Yg}{A:YE}{E:Yj->Yb->Prop}{s:Yb}{K:Yk}{x dx C f:Yi}{mA:Str->Option Yj}{name:Str}{v:Yj}
def Zou{expr:Bool}{Q:Yj->Yb->Prop}(X:K.In s.heap)(I:ObjM s.heap x dx C mA)(hg:PySem.W.plainGet K C name=Wm)(hh:PySem.W.hasDictIn K C=Wm)
 (ha:YG K (.ref C) name=Wj Wl) (hv:mA name=Wj v) (hv':PySem.W.handedIn v=Wm) (h:Q v {s with toks:=s.toks+1}) :
 Yy (model prog w) A (getAttr (.ref x) name expr) Q E s:=by
 obtain⟨od,J,hl⟩:=I.look;exact PySem.W.get_value X J (PySem.W.plainGet_of hg).1 (PySem.W.findObj_own hh ha rfl (by rw[hl,hv])) hv' h
def ZmL{pl:Sem Bool}{Q:Yj×List Yj->Yb->Prop}(X:K.In s.heap)(I:ObjM s.heap x dx C mA)(hg:PySem.W.plainGet K C name=Wm)
 (hf:YG K (.ref C) name=Wj (Wj (.ref f))) (ht:PySem.W.isFn K (.ref f)=Wm) (hv:mA name=Wl) (h:Q (.ref f,[.ref x]) s) :
 Yy (model prog w) A (getMethod (.ref x) name pl) Q E s:=by
 obtain⟨od,J,hl⟩:=I.look;exact PySem.W.method_fn X J (PySem.W.plainGet_of hg).1 (PySem.W.plainGet_of hg).2 hf (beq_iff_eq.mp ht) (by show(PySem.W.lookIn name od).map (·.isSome)=Wj Wn;rw[hl,hv];rfl) h
def Zny{ns:List Str}{Q:Unit->Yb->Prop}(X:K.In s.heap)(I:ObjM s.heap x dx C mA)
 (hs:YG K (.ref C) "__setattr__" = Wj (Wj (.builtin "object.__setattr__"))) (hp:PySem.W.plainOver K C=Wm) (ht:PySem.W.takerIn K C name=Wj Wl) (hh:PySem.W.hasDictIn K C=Wm)
 (hw:PySem.Within mA ns) (hsz:ns.length<=sizeLine)
 (h:∀h',ObjM h' x dx C (λy=>if y=name then Wj v else mA y)->Heap.SameBut dx s.heap h'->Q () {s with heap:=h',toks:=s.toks+2}) :
 Yy (model prog w) A (setAttr (.ref x) name v) Q E s:=by
 obtain⟨od,J,hl⟩:=I.look;refine PySem.W.set_plain X J hs (PySem.W.osa_open (s:={s with toks:=s.toks+1}) (r:=Wl) X J hp ht λb=>?_);obtain⟨cd,hc,hd'⟩:=PySem.W.any_some hh;have hx:s.heap.get? x=Wj ⟨.ref C,Wj dx,.plain,#[]⟩:=I.obj;refine Ya (Yc (Ya (Ya (wpAny_loadPart hx (Ya (PySem.W.Looks.here (s:={s with toks:=s.toks+1}) (PySem.W.looks_clsIn X hc) ?_))))));rw[hd'];refine Yc (a:=Wj dx) (Ya (Yc (Ya ?_)));refine wpAny_nsSet1 (s:={s with toks:=s.toks+1}) I.ns λh' hn2 hs2=>?_;obtain⟨oD,esD,epD,hoD,hdD,hcD⟩:=hn2.count (PySem.Within.cons name v hw);refine Ya (wpAny_lookBehind hoD (by rw[hdD];exact pastItsLine_dict (OE hcD (by rw[Os];lia))) ?_);exact Yc (h _ ⟨(hs2.2 _ (YI I.ne)).trans I.obj,hn2,I.ne⟩ hs2)
def Zmy{R:Result->Yb->Prop}{vs:List Yj}{kw:List (Str×Yj)}(X:K.In s.heap)(hm:PySem.W.makesIn K C=Wm)
 (hi:YG K (.ref C) "__init__" = Wj (Wj (.ref f))) (hf:PySem.W.typeIn K (.ref f)=Wj (.type "function"))
 (h:codeAny (model prog w) (A.under (.builtin "type.__call__" ⟨.ref C::vs,kw⟩)) (.call (.ref f) ⟨.ref (s.heap.objs.size+1)::vs,kw⟩) (PySem.W.InitBack (s.heap.objs.size+1) R)
  {s with heap:=(s.heap.push YQ).push (Wc C s.heap.objs.size)}) :
 codeAny (model prog w) A (.call (.ref C) ⟨vs,kw⟩) R s:=by
 obtain⟨hh,g,d,t,os⟩:=s;exact PySem.W.make_core (PySem.W.makes_of X hm) (PySem.W.looks_findIn X hi) (λself=>PySem.W.bind_fn X self hf) (.inl rfl) h
end
noncomputable def Zb2(f:Str)(v:V):List (Str×V)->List (Str×V)
 |[]=>[(f,v)]
 |(g,x)::r=>if g=f then(g,v)::r else(g,x)::Zb2 f v r
theorem ZeX(f g:Str)(v:V):∀fs:List (Str×V),(Zb2 f v fs).lookup g=if g=f then Wj v else fs.lookup g
 |[]=>by
  show We g [(f,v)]=_;by_cases h:g=f
  . have hb:(g==f)=Wm:=beq_iff_eq.mpr h;simp only[We,hb,if_pos h]
  . have hb:(g==f)=Wn:=beq_eq_false_iff_ne.mpr h;simp only[We,hb,if_neg h]
 |(k,x)::r=>by
  have ih:=ZeX f g v r;rw[show Zb2 f v ((k,x)::r)=(if k=f then(k,v)::r else(k,x)::Zb2 f v r)from rfl];by_cases hk:k=f
  . rw[if_pos hk];by_cases h:g=k
    . have hb:(g==k)=Wm:=beq_iff_eq.mpr h;simp only[We,hb,if_pos (h.trans hk)]
    . have hb:(g==k)=Wn:=beq_eq_false_iff_ne.mpr h;simp only[We,hb,if_neg (λe:g=f=>h (e.trans hk.symm))]
  . rw[if_neg hk];by_cases h:g=k
    . have hb:(g==k)=Wm:=beq_iff_eq.mpr h;simp only[We,hb,if_neg (λe:g=f=>hk (h.symm.trans e))]
    . have hb:(g==k)=Wn:=beq_eq_false_iff_ne.mpr h;simp only[We,hb];exact ih
theorem Zez(f:Str)(v:V):∀fs:List (Str×V),f∈(Zb2 f v fs).map (·.1)/\∀g,g∈fs.map (·.1)->g∈(Zb2 f v fs).map (·.1)
 |[]=>⟨by simp[Zb2],λg h=>by simp at h⟩
 |(k,x)::r=>by
  obtain⟨i1,i2⟩:=Zez f v r;rw[show Zb2 f v ((k,x)::r)=(if k=f then(k,v)::r else(k,x)::Zb2 f v r)from rfl];by_cases hk:k=f
  . rw[if_pos hk];subst hk;exact⟨by simp,λg h=>by simpa using h⟩
  . rw[if_neg hk];refine⟨?_,λg h=>?_⟩
    . rw[Op];exact Oh _ i1
    . rw[Op]at h ⊢;rcases O1.mp h with e|e
      . exact O1.mpr (.inl e)
      . exact Oh _ (i2 g e)
theorem ZeZ(f:Str)(v:V):∀fs:List (Str×V),(Zb2 f v fs).length<=fs.length+1
 |[]=>by simp[Zb2]
 |(k,x)::r=>by
  have ih:=ZeZ f v r;rw[show Zb2 f v ((k,x)::r)=(if k=f then(k,v)::r else(k,x)::Zb2 f v r)from rfl];by_cases hk:k=f
  . rw[if_pos hk,Os,Os];lia
  . rw[if_neg hk,Os,Os];lia
def Zep.some_of{v:V}{o:Option Yj}(r:Zep (Wj v) o):∃u,o=Wj u/\RelV v u:=by
 cases o with
 |none=>exact(show False from r).elim
 |some u=>exact⟨u,rfl,r⟩
def Zep.none_of{o:Option Yj}(r:Zep Wl o):o=Wl:=by
 cases o with
 |none=>rfl
 |some u=>exact(show False from r).elim
def Zlp{v:V}{u:Yj}(r:RelV v u):PySem.W.handedIn u=Wm:=by
 cases v with
 |non=>cases (show u=Value.none from r);rfl
 |bl b=>cases (show u=Value.bool b from r);rfl
 |int i=>obtain⟨t,e⟩:=(show ∃t,u=Value.int i t from r);cases e;rfl
 |str x=>obtain⟨t,e⟩:=(show ∃t,u=Value.str x t from r);cases e;rfl
 |byt b=>obtain⟨t,e⟩:=(show ∃t,u=Value.bytes b t from r);cases e;rfl
 |flt b=>obtain⟨t,e⟩:=(show ∃t,u=Value.float b t from r);cases e;rfl
 |ref a=>cases (show u=YA a from r);rfl
 |ty n=>cases (show u=Value.type n from r);rfl
section
variable {P:Yh}{w:Yg}{H H':Hp}{h h':YD}{a C dx:Yi}{fs fs':List (Str×V)}
def ZhF(hok:HOk P w H h)(e:H a=Wj (.ins C dx fs)):∃mA,ObjM h a dx C mA/\(∀f,Zep (fs.lookup f) (mA f))/\PySem.Within mA (fs.map (·.1))/\fs.length<=1000/\H dx=Wj (.own a):=by
 obtain⟨d,z,ne,ob,mA,n,r,q⟩:=(show Z9 P w H h a (.ins C dx fs)from hok a _ e)
 exact⟨mA,⟨ob,n,ne⟩,r,q,z,d⟩
end
structure Cls(K:Yk)(C:Yi):Prop where
 pg:PySem.W.plainGet K C Str.empty=Wm
 hd:PySem.W.hasDictIn K C=Wm
 po:PySem.W.plainOver K C=Wm
 sa:YG K (.ref C) "__setattr__" = Wj (Wj (.builtin "object.__setattr__"))
def Cls.get{K:Yk}{C:Yi}(c:Cls K C)(f:Str):PySem.W.plainGet K C f=Wm:=c.pg
def Z6(K:Yk)(C:Yi)(f:Str):Prop:=YG K (.ref C) f=Wj Wl
def Z6.taker{K:Yk}{C:Yi}{f:Str}(n:Z6 K C f):PySem.W.takerIn K C f=Wj Wl:=by unfold PySem.W.takerIn;rw[show YG K (.ref C) f=Wj Wl from n];rfl
structure Meth(K:Yk)(C:Yi)(m:Str)(f:Yi):Prop where
 at_:YG K (.ref C) m=Wj (Wj (.ref f))
 fn:PySem.W.isFn K (.ref f)=Wm
 kp:YZ K (.ref f)=Wm
section
variable {X:Cx}{pins:List (Yi×Obj)}{Z:St}{H:Hp}{s:Yb}{a C dx:Yi}{fs:List (Str×V)}{f:Str}{v:V}{A:YE}{E:Yj->Yb->Prop}
def Zf4{b:Bool}{Q:Yj->Yb->Prop}(I:Inv X pins Z H s)(e:H a=Wj (.ins C dx fs))(c:Cls X.K C)(n:Z6 X.K C f)(l:fs.lookup f=Wj v)
 (h:∀u s',Inv X pins Z H s'->RelV v u->Q u s'):Yy (model X.prog X.w) A (getAttr (.ref a) f b) Q E s:=by
 obtain⟨mA,O_,r,_,_,_⟩:=ZhF I.hok e;obtain⟨u,hu,ru⟩:=Zep.some_of (v:=v) (o:=mA f) (by rw[<- l];exact r f);exact Zou I.kIn O_ (c.get f) c.hd n hu (Zlp ru) (h u _ (I.tok _) ru)
def Zf3{m:Str}{g:Yi}{pl:Sem Bool}{Q:Yj×List Yj->Yb->Prop}(I:Inv X pins Z H s)(e:H a=Wj (.ins C dx fs))(c:Cls X.K C)(k:Meth X.K C m g)(l:fs.lookup m=Wl)
 (h:Q (.ref g,[.ref a]) s):Yy (model X.prog X.w) A (getMethod (.ref a) m pl) Q E s:=by
 obtain⟨mA,O_,r,_,_,_⟩:=ZhF I.hok e;have hn:mA m=Wl:=Zep.none_of (by rw[<- l];exact r m);exact ZmL I.kIn O_ (c.get m) k.at_ k.fn hn h
def Zfw{y:V}{u:Yj}{Q:Unit->Yb->Prop}(I:Inv X pins Z H s)(e:H a=Wj (.ins C dx fs))(c:Cls X.K C)(n:Z6 X.K C f)(hl:fs.length<1000)(ry:RelV y u)
 (h:∀s',Inv X pins Z (upd H a (.ins C dx (Zb2 f y fs))) s'->Q () s'):Yy (model X.prog X.w) A (setAttr (.ref a) f u) Q E s:=by
 obtain⟨mA,O_,r,wi,_,ho⟩:=ZhF I.hok e;have hz:(fs.map (·.1)).length<=sizeLine:=by rw[Ys,Yz];lia
 refine Zny I.kIn O_ c.sa c.po n.taker c.hd wi hz λh' O' sb=>h _ ?_;have hd:∃o,h'.get? dx=Wj o:=let ⟨o,_,_,e',_⟩:=O'.ns;⟨o,e'⟩;refine I.write (x:=a) (e:=dx) (by rw[e];exact True.intro) (.inr ho) (λb q hb z=>(sb.2 b hb).trans z) hd ?_;refine⟨by rw[Zc O_.ne];exact ho,?_,O_.ne,O'.obj,_,O'.ns,λg=>?_,λg hg=>?_⟩
 . have:=ZeZ f y fs;lia
 . show Zep ((Zb2 f y fs).lookup g) (if g=f then Wj u else mA g);rw[ZeX];by_cases q:g=f
   . rw[if_pos q,if_pos q];exact ry
   . rw[if_neg q,if_neg q];exact r g
 . by_cases q:g=f
   . rw[q];exact(Zez f y fs).1
   . refine(Zez f y fs).2 g (wi g λz=>hg ?_);show(if g=f then Wj u else mA g)=Wl;rw[if_neg q];exact z
def Inv.made(I:Inv X pins Z H s):Inv X pins Z (upd (upd H s.heap.objs.size (.own (s.heap.objs.size+1))) (s.heap.objs.size+1) (.ins C s.heap.objs.size []))
 {s with heap:=(s.heap.push YQ).push (Wc C s.heap.objs.size)}:=by
 have e1:(s.heap.push YQ).get? s.heap.objs.size=Wj YQ:=Oj s.heap rfl;have e2:((s.heap.push YQ).push (Wc C s.heap.objs.size)).get? (s.heap.objs.size+1)=Wj (Wc C s.heap.objs.size):=by
  have:=Oj (s.heap.push YQ) (o:=Wc C s.heap.objs.size) rfl
  rwa [Heap.size_push]at this
 have e3:(s.heap.push YQ).Ns s.heap.objs.size (λ_=>Wl):=⟨YQ,#[],_,e1,rfl,(λe he=>absurd he (by simp)),λ_=>rfl⟩
 have I1:=I.laid (a:=s.heap.objs.size) (o:=.own (s.heap.objs.size+1)) (h':=s.heap.push YQ) (t':=s.toks) (λb u q=>Od _ q) (Oq _) ⟨_,e1⟩;refine I1.laid (a:=s.heap.objs.size+1) (o:=.ins C s.heap.objs.size []) (t':=s.toks) (λb u q=>Od _ q) (Nat.le_of_eq (Heap.size_push _ _)) ?_;have ne:s.heap.objs.size≠s.heap.objs.size+1:=Ou (OH _);refine⟨by rw[Zc ne,Zl],Yv _,ne,e2,λ_=>Wl,(Heap.Ns1.of_empty e3).at λo q=>Od _ q,λ_=>True.intro,λy hy=>absurd rfl hy⟩
def ZoU{prog:Yh}{w:Yg}{env:Env}{e:Expr}{f:Str}{pos:Pos}{s:Yb}{Q:Yj->Yb->Prop}(hb:attributeBase e f env (eval e env)=eval e env)
 (h:Yy (model prog w) A (eval e env) (λo s₁=>Yy (model prog w) A (getAttr o f Wm) Q E s₁) E s):Yy (model prog w) A (eval (.Attribute e f pos) env) Q E s:=
 Attribute_any_ h (by rw[arm_eval_Attribute,hb])
end
noncomputable def Ztt(K:Yk)(ta:TE)(f:Str):TE:=λZ H Q=>ta Z H λx H1=>∃a C dx fs v,x=.ref a/\H1 a=Wj (.ins C dx fs)/\Cls K C/\Z6 K C f/\fs.lookup f=Wj v/\Q v H1
noncomputable def ZtA(K:Yk)(ta tv:TE)(f:Str):TS:=λD Z H=>tv Z H λy H1=>ta Z H1 λx H2=>∃a C dx fs,x=.ref a/\H2 a=Wj (.ins C dx fs)/\Cls K C/\Z6 K C f/\fs.length<1000 /\
 D.nx Z (upd H2 a (.ins C dx (Zb2 f y fs)))
def ZsT(X:Cx)(op:Operator)(rd:V->V->Hp->VK->Prop):Prop:=∀(pins:List (Yi×Obj)) (s:Yb) (Z:St) (H:Hp) (x y:V) (u v:Yj) (Q:VK),Inv X pins Z H s->RelV x u->RelV y v->rd x y H Q->Yy (model X.prog X.w) X.A (inplaceOp op u v) (EP X pins Z Q) X.xe s
noncomputable def ZnB(K:Yk)(ta tv:TE)(rd:V->V->Hp->VK->Prop)(f:Str):TS:=λD Z H=>ta Z H λx H1=>∃a C dx fs v,x=.ref a/\H1 a=Wj (.ins C dx fs)/\Cls K C/\Z6 K C f/\fs.lookup f=Wj v /\
 tv Z H1 λy H2=>rd v y H2 λz H3=>∃dx' fs',H3 a=Wj (.ins C dx' fs')/\fs'.length<1000/\D.nx Z (upd H3 a (.ins C dx' (Zb2 f z fs')))
section
variable {X:Cx}{o e value:Expr}{f:Str}{pos pos' tpos:Pos}{ta tv:TE}
def Zqe(he:PE X e ta)(hb:attributeBase e f X.env (eval e X.env)=eval e X.env):PE X (.Attribute e f pos) (Ztt X.K ta f):=by intro pins s Z H Q I h;refine ZoU hb (thn (he pins s Z H _ I h) λu s1 ⟨x,H1,I1,rx,a,C,dx,fs,v,ex,ea,c,n,l,q⟩=>?_);subst ex;obtain rfl:u=YA a:=rx;exact Zf4 I1 ea c n l λu' s2 I2 ru=>⟨v,H1,I2,ru,q⟩
def Zp2(ha:PE X o ta)(hv:PE X value tv)(hs:swapsWith value (Wj (.Attribute o f pos')) pos.line X.env=pure Wn):PS X (.Assign [.Attribute o f pos'] value pos) (ZtA X.K ta tv f):=by intro pins s Z H D I h;refine plainObj_wpAny_Assign_Attribute (thn (hv pins s Z H _ I h) λu s1 ⟨y,H1,I1,ry,q⟩=>thn (ha pins s1 Z H1 _ I1 q) λov s2 ⟨x,H2,I2,rx,a,C,dx,fs,ex,ea,c,n,l,q2⟩=>?_) hs;subst ex;obtain rfl:ov=YA a:=rx;exact Zfw I2 ea c n l ry λs3 I3=>⟨Z,_,I3,q2⟩
def ZkZ{op:Operator}{rd:V->V->Hp->VK->Prop}(ha:PE X o ta)(hv:PE X value tv)(hop:ZsT X op rd):PS X (.AugAssign (.Attribute o f tpos) op value pos) (ZnB X.K ta tv rd f):=by intro pins s Z H D I h;refine wpAny_AugAssign_AttributeAny (thn (ha pins s Z H _ I h) λov s1 ⟨x,H1,I1,rx,a,C,dx,fs,v,ex,ea,c,n,l,q⟩=>?_);subst ex;obtain rfl:ov=YA a:=rx;refine Zf4 I1 ea c n l λu s2 I2 ru=>thn (hv pins s2 Z H1 _ I2 q) λw3 s3 ⟨y,H2,I3,ry,q3⟩=>thn (hop pins s3 Z H2 v y u w3 _ I3 ru ry q3) λw4 s4 ⟨z,H3,I4,rz,dx',fs',ea',l',q4⟩=>?_;exact Zfw I4 ea' c n l' rz λs5 I5=>⟨Z,_,I5,q4⟩
def ZrV:V->V->Hp->VK->Prop:=λx y H Q=>∃i j,x=.int i/\y=.int j/\Q (.int (i+j)) H
def ZqI:ZsT X .Add ZrV:=by
 rintro pins s Z H x y u v Q I rx ry ⟨i,j,rfl,rfl,q⟩;obtain⟨t,rfl⟩:=(show ∃t,u=Value.int i t from rx)
 obtain⟨t',rfl⟩:=(show ∃t',v=Value.int j t' from ry)
 exact PyProof.Rows.iadd_int ⟨.int (i+j),H,I.tok _,⟨_,rfl⟩,q⟩
end
structure Room(k:Nat)(A:YE):Prop where
 hd:A.handled=Wl
 dp:A.depth+k+5<recursionLimit
 un:A.units+4 * k+1300<cLine
def Room.mono{j k:Nat}{A:YE}(r:Room k A)(h:j<=k):Room j A:=⟨r.hd,by have:=r.dp;lia,by have:=r.un;lia⟩
theorem Room.deeper{k:Nat}{A:YE}(r:Room (k+1) A)(env:Env):Room k (A.deeper env):=⟨r.hd,by have:=r.dp;show A.depth+1+k+5<_;lia,by have:=r.un;show A.units+3+4 * k+1300<_;lia⟩
def Zjz{A:YE}{C:Yi}{us:List Yj}{kw:List (Str×Yj)}:(A.under (.builtin "type.__call__" ⟨.ref C::us,kw⟩)).depth=A.depth+1:=by first|rfl|simp[Around.under,Code.weight,Code.isCreation,Code.isGuard,Code.isCaller,Code.frames,Code.isFrame,guardIds]
def Zjy{A:YE}{C:Yi}{us:List Yj}{kw:List (Str×Yj)}:(A.under (.builtin "type.__call__" ⟨.ref C::us,kw⟩)).units=A.units+1:=by first|rfl|simp[Around.under,Code.cUnits,Code.frames,Code.isFrame]
def Room.make{k:Nat}{A:YE}(r:Room (k+1) A)(C:Yi)(us:List Yj)(kw:List (Str×Yj)):Room k (A.under (.builtin "type.__call__" ⟨.ref C::us,kw⟩)):=⟨r.hd,by have:=r.dp;rw[Zjz];lia,by have:=r.un;rw[Zjy];lia⟩
theorem Room.depth{k:Nat}{A:YE}(r:Room k A):A.depth<recursionLimit:=by have:=r.dp;lia
noncomputable def ZpD:TA:=λ_ H Q=>Q [] H
noncomputable def ZrD(ta:TE)(tr:TA):TA:=λZ H Q=>ta Z H λx H1=>tr Z H1 λxs H2=>Q (x::xs) H2
section
variable {X:Cx}{e:Expr}{es:List Expr}{te:TE}{t:TA}{pos:Pos}
def Zet:PA X [] ZpD:=λ_ _ _ _ H Q I h=>Calls.spliced_nil ⟨[],H,I,.nil,h⟩
def Zdn(ha:PE X e te)(hr:PA X es t)(hs:Yw (e::es) X.env=(Wn,eval e X.env)::Yw es X.env:=by rfl):PA X (e::es) (ZrD te t):=by intro pos pins s Z H Q I h;rw[hs];show Yy _ _ (spliced ((Wn,eval e X.env)::YO pos (Yw es X.env))) _ _ s;refine Calls.spliced_cons (thn (ha pins s Z H _ I h) λu s1 ⟨x,H1,I1,r1,q1⟩=>?_);exact thn (hr pos pins s1 Z H1 _ I1 q1) λus s2 ⟨xs,H2,I2,r2,q2⟩=>⟨x::xs,H2,I2,.cons r1 r2,q2⟩
noncomputable def Ztk(t:TA):TE:=λZ H Q=>t Z H λxs H1=>xs.length<=sizeLine/\∀p,H1 p=Wl->Q (.ref p) (upd H1 p (.tup xs))
noncomputable def Ztq(t:TA):TE:=λZ H Q=>t Z H λxs H1=>xs.length<=sizeLine/\∀p,H1 p=Wl->Q (.ref p) (upd H1 p (.lst xs))
def Zp7{x1}(h:PA X es t):PE X (.Tuple es x1 pos) (Ztk t):=by intro pins s Z H Q I hq;refine wpAny_Tuple_spliced (thn (h pos pins s Z H _ I hq) λus s1 ⟨xs,H1,I1,r,z,q⟩=>⟨by rw[<- r.length];exact z,?_⟩);have hf:H1 s1.heap.objs.size=Wl:=I1.hok.fresh (Oq _);refine⟨.ref s1.heap.objs.size,upd H1 s1.heap.objs.size (.tup xs),I1.laid (t':=s1.toks) (λb u e=>Od _ e) (Oq _) ?_,rfl,q _ hf⟩;exact⟨z,us,r,⟨_,Oj _ rfl,rfl,rfl,_,rfl⟩⟩
def Zqc(h:PA X es t):PE X (.List es pos) (Ztq t):=by intro pins s Z H Q I hq;refine wpAny_List_spliced (thn (h pos pins s Z H _ I hq) λus s1 ⟨xs,H1,I1,r,z,q⟩=>⟨by rw[<- r.length];exact z,?_⟩);have hf:H1 s1.heap.objs.size=Wl:=I1.hok.fresh (Oq _);refine⟨.ref s1.heap.objs.size,upd H1 s1.heap.objs.size (.lst xs),I1.laid (t':=s1.toks) (λb u e=>Od _ e) (Oq _) ?_,rfl,q _ hf⟩;exact⟨z,us,0,r,Oj _ rfl⟩
end
abbrev Sp:=List V->Hp->VK->XK->Prop
abbrev CXT:=List Env->Hp->Yb->XK->Yj->Yb->Prop
structure Env0(P:Yh)(w:Yg)(K:Yk)(mg:Str->Option Yj)(base:YD)(A:YE)(outer:List Env)(s:Yb)(H:Hp):Prop where
 frames:A.frames=Wj outer
 mod:Mod K mg base
 bs:∀b o,base.get? b=Wj o->s.heap.get? b=Wj o/\H b=Wl
 bsz:base.objs.size<=s.heap.objs.size
 funs:s.heap.FunFrames base outer
 frf:∀b∈frs outer,H b=Wl
 hok:HOk P w H s.heap
 bare:AllBare s.gens
def CE(outer:List Env)(P:Yh)(w:Yg)(H:Hp)(s:Yb)(Q:VK)(u:Yj)(s':Yb):Prop:=∃v H',s'.os=s.os/\AllBare s'.gens/\Un (frs outer) [] H H' s.heap s'.heap/\HOk P w H' s'.heap/\RelV v u/\Q v H'
def CR(CX:CXT)(outer:List Env)(P:Yh)(w:Yg)(H:Hp)(s:Yb)(Q:VK)(E:XK)(r:Result)(s':Yb):Prop:=
 match r with
 |.ok (.ret u)=>CE outer P w H s Q u s'
 |.ok _=>False
 |.error e=>CX outer H s E e s'
structure FnOk(P:Yh)(w:Yg)(K:Yk)(mg:Str->Option Yj)(base:YD)(CX:CXT)(k:Nat)(f:Yi)(fd:FuncData)(ps:List Str)(sp:Sp):Prop where
 len:∀vs H Q E,sp vs H Q E->vs.length=ps.length
 run:∀(A:YE) (outer:List Env) (s:Yb) (H:Hp) (args:Args) (us:List Yj) (vs:List V) (Q:VK) (E:XK),Room k A->Env0 P w K mg base A outer s H->BindsTo s fd args (ps.zip us)->Zk vs us->sp vs H Q E ->
  codeAny (model P w) A (.call (.ref f) args) (CR CX outer P w H s Q E) s
def FnOk.imp{P:Yh}{w:Yg}{K:Yk}{mg:Str->Option Yj}{base:YD}{CX:CXT}{k:Nat}{f:Yi}{fd:FuncData}{ps:List Str}{sp sp':Sp}(F:FnOk P w K mg base CX k f fd ps sp)
 (h:∀vs H Q E,sp' vs H Q E->sp vs H Q E):FnOk P w K mg base CX k f fd ps sp':=
 ⟨λvs H Q E q=>F.len vs H Q E (h _ _ _ _ q),λA outer s H args us vs Q E hr he hb hv hs=>F.run A outer s H args us vs Q E hr he hb hv (h _ _ _ _ hs)⟩
def Env0.make{P:Yh}{w:Yg}{K:Yk}{mg:Str->Option Yj}{base:YD}{A:YE}{outer:List Env}{s:Yb}{H:Hp}(e:Env0 P w K mg base A outer s H)(C:Yi)(us:List Yj)(kw:List (Str×Yj)):
 Env0 P w K mg base (A.under (.builtin "type.__call__" ⟨.ref C::us,kw⟩)) outer s H:=⟨by first|exact e.frames|(simpa[Around.under,Code.envs,Code.isFrame,pushEnvs]using e.frames),e.mod,e.bs,e.bsz,e.funs,e.frf,e.hok,e.bare⟩
section
variable {X:Cx}{pins:List (Yi×Obj)}{Z:St}{H:Hp}{s s':Yb}
def Inv.env0(I:Inv X pins Z H s):Env0 X.prog X.w X.K X.mg X.base X.A X.stack s H:=⟨I.ok.frames,I.ok.mod,I.bs,OE I.ok.bsz I.sz,I.stack,I.stkFree,I.hok,I.bare⟩
def Inv.after{Q:VK}{u:Yj}(I:Inv X pins Z H s)(h:CE X.stack X.prog X.w H s Q u s'):EP X pins Z Q u s':=by obtain⟨v,H',os,bare,un,hok,r,q⟩:=h;obtain⟨hh,g,d,t,os'⟩:=s';obtain rfl:os'=s.os:=os;exact⟨v,H',I.call (h':=hh) (g':=g) (d':=d) (t':=t) (ch:=[]) un hok bare (λb z=>absurd z (by simp)),r,q⟩
end
noncomputable def ZrE(sp:Sp)(dvs:List V)(E:XK)(t:TA):TE:=λZ H Q=>t Z H λvs H1=>sp (vs++dvs) H1 Q E
noncomputable def Zo2(C:Yi)(m:Str)(sp:Sp)(dvs:List V)(E:XK)(ta:TE)(t:TA):TE:=λZ H Q=>ta Z H λx H1=>∃a dx fs,x=.ref a/\H1 a=Wj (.ins C dx fs)/\fs.lookup m=Wl /\
 t Z H1 λvs H2=>sp (x::(vs++dvs)) H2 Q E
noncomputable def Zo3(C:Yi)(sp:Sp)(dvs:List V)(E:XK)(t:TA):TE:=λZ H Q=>t Z H λvs H1=>∀x dx,H1 x=Wl->H1 dx=Wl->dx≠x ->
 sp (.ref x::(vs++dvs)) (upd (upd H1 dx (.own x)) x (.ins C dx [])) (λv H2=>v=.non/\Q (.ref x) H2) E
def Binds(K:Yk)(fd:FuncData)(ps:List Str)(ds:List Yj):Prop:=∀(s:Yb) (us:List Yj),K.In s.heap->(us++ds).length=ps.length->BindsTo s fd ⟨us,[]⟩ (ps.zip (us++ds))
def Binds.all{K:Yk}{fd:FuncData}{ps:List Str}(h:∀us:List Yj,us.length=ps.length->bindArgs fd ⟨us,[]⟩=pure (ps.zip us)):Binds K fd ps []:=λs us _ hl=>by rw[Yr]at hl ⊢;exact .of_eq (h us hl)
def ZaO(CX:CXT)(X:Cx)(E:XK):Prop:=∀(pins:List (Yi×Obj)) (Z:St) (H:Hp) (s:Yb) (e:Yj) (s':Yb),Inv X pins Z H s->CX X.stack H s E e s'->X.xe e s'
section
variable {X:Cx}{CX:CXT}{k:Nat}{f C:Yi}{fd:FuncData}{ps:List Str}{sp:Sp}{dvs:List V}{ds:List Yj}{E:XK}{x m:Str}{p pos apos:Pos}{e o:Expr}{es:List Expr}{ta:TE}{t:TA}
def Zjj{pins:List (Yi×Obj)}{Z:St}{H:Hp}{s:Yb}{Q:VK}{us:List Yj}{vs:List V}(F:FnOk X.prog X.w X.K X.mg X.base CX k f fd ps sp)(hr:Room k X.A)(hb:Binds X.K fd ps ds)(hd:Zk dvs ds)(hx:ZaO CX X E)
 (I:Inv X pins Z H s) (r:Zk vs us) (h:sp (vs++dvs) H Q E):Yy (model X.prog X.w) X.A (call (.ref f) us) (EP X pins Z Q) X.xe s:=by
 have r2:Zk (vs++dvs) (us++ds):=r.append hd;have hl:(us++ds).length=ps.length:=by rw[<- r2.length];exact F.len _ _ _ _ h
 refine wpAny_call (codeAny_mono (F.run X.A X.stack s H ⟨us,[]⟩ (us++ds) (vs++dvs) Q E hr I.env0 (hb s us I.kIn hl) r2 h) λr s' hq=>?_);cases r with
 |error e=>exact hx pins Z H s e s' I hq
 |ok fl=>
  cases fl with
  |ret u=>exact I.after hq
  |next=>exact False.elim hq
  |brk=>exact False.elim hq
  |cont=>exact False.elim hq
def Zn2(F:FnOk X.prog X.w X.K X.mg X.base CX k f fd ps sp)(hr:Room k X.A)(hg:Gl X x)(hm:X.mg x=Wj (.ref f))(hk:YZ X.K (.ref f)=Wm)(hb:Binds X.K fd ps ds)(hd:Zk dvs ds)(hx:ZaO CX X E)
 (ha:PA X (e::es) t) (hdb:(x==("__debug__" : Str))=Wn:=by decide) (he:Yw (e::es) X.env=(Wn,eval e X.env)::Yw es X.env:=by rfl) (hpl:(YO pos (Yw es X.env)).any (·.1)=Wn:=by rfl) :
 PE X (.Call (.Name x p) (e::es) [] pos) (ZrE sp dvs E t):=by
 intro pins s Z H Q I h;refine YT (Zfq I hg hm ?_ hdb);refine PySem.W.callWith_K (h₀:=X.base) I.ok.mod.kin hk (thn (ha pos pins s Z H _ I h) λus s1 ⟨vs,H1,I1,r,q⟩=>⟨I1.kIn,?_⟩) he hpl;exact Zjj F hr hb hd hx I1 r q
def ZnW{pl:Sem Bool}(he:PE X o ta)(c:Cls X.K C)(hm:Meth X.K C m f)(F:FnOk X.prog X.w X.K X.mg X.base CX k f fd ps sp)(hr:Room k X.A)(hb:Binds X.K fd ps ds)(hd:Zk dvs ds)(hx:ZaO CX X E)(ha:PA X (e::es) t)
 (hst:Yw (e::es) X.env=(Wn,eval e X.env)::Yw es X.env:=by rfl) (hpl:(YO pos (Yw es X.env)).any (·.1)=Wn:=by rfl)
 (ht:eval (.Call (.Attribute o m apos) (e::es) [] pos) X.env=(do
  let ov <- eval o X.env
  standAt apos.atName
  let (f,first) <- holding [ov] (getMethod ov m pl)
  callWith pos f first (YO pos (Yw (e::es) X.env)) (backToKw pos (YW [] X.env))):=by rfl) :
 PE X (.Call (.Attribute o m apos) (e::es) [] pos) (Zo2 C m sp dvs E ta t):=by
 intro pins s Z H Q I h;refine PySem.W.methodCall_KW (pl:=pl) (thn (he pins s Z H _ I h) λu s1 ⟨x,H1,I1,rx,a,dx,fs,ex,ea,l,q⟩=>?_) ht;subst ex;obtain rfl:u=YA a:=rx;refine Zf3 I1 ea c hm l ?_;refine PySem.W.callWith_K (first:=[.ref a]) (h₀:=X.base) I.ok.mod.kin hm.kp (thn (ha pos pins s1 Z H1 _ I1 q) λus s2 ⟨vs,H2,I2,r,q2⟩=>⟨I2.kIn,?_⟩) hst hpl;exact Zjj (us:=.ref a::us) (vs:=.ref a::vs) F hr hb hd hx I2 (.cons rfl r) q2
def Zmm{pl:Sem Bool}(he:PE X o ta)(c:Cls X.K C)(hm:Meth X.K C m f)(F:FnOk X.prog X.w X.K X.mg X.base CX k f fd ps sp)(hr:Room k X.A)(hb:Binds X.K fd ps ds)(hd:Zk dvs ds)(hx:ZaO CX X E)
 (ht:eval (.Call (.Attribute o m apos) [] [] pos) X.env=(do
  let ov <- eval o X.env
  standAt apos.atName
  let (f,first) <- holding [ov] (getMethod ov m pl)
  callWith pos f first (YO pos (Yw [] X.env)) (backToKw pos (YW [] X.env))):=by rfl) :
 PE X (.Call (.Attribute o m apos) [] [] pos) (Zo2 C m sp dvs E ta ZpD):=by
 intro pins s Z H Q I h;refine PySem.W.methodCall_KW (pl:=pl) (thn (he pins s Z H _ I h) λu s1 ⟨x,H1,I1,rx,a,dx,fs,ex,ea,l,q⟩=>?_) ht;subst ex;obtain rfl:u=YA a:=rx;refine Zf3 I1 ea c hm l ?_;exact PySem.W.callWith_K0 (first:=[.ref a]) I1.kIn hm.kp (Zjj (us:=[.ref a]) (vs:=[.ref a]) F hr hb hd hx I1 (.cons rfl .nil) q)
structure Mk(K:Yk)(C f:Yi):Prop where
 makes:PySem.W.makesIn K C=Wm
 init:YG K (.ref C) "__init__" = Wj (Wj (.ref f))
 fn:PySem.W.isFn K (.ref f)=Wm
 kp:YZ K (.ref C)=Wm
def Zin{pins:List (Yi×Obj)}{Z:St}{H:Hp}{s:Yb}{Q:VK}{us:List Yj}{vs:List V}(M:Mk X.K C f)(F:FnOk X.prog X.w X.K X.mg X.base CX k f fd ps sp)(hr:Room (k+1) X.A)(hb:Binds X.K fd ps ds)(hd:Zk dvs ds)
 (hx:ZaO CX X E) (I:Inv X pins Z H s) (r:Zk vs us)
 (h:∀x dx,H x=Wl->H dx=Wl->dx≠x->sp (.ref x::(vs++dvs)) (upd (upd H dx (.own x)) x (.ins C dx [])) (λv H2=>v=.non/\Q (.ref x) H2) E) :
 Yy (model X.prog X.w) X.A (call (.ref C) us) (EP X pins Z Q) X.xe s:=by
 have hq:=h (s.heap.objs.size+1) s.heap.objs.size (I.hok.fresh (Nat.le_succ _)) (I.hok.fresh (Oq _)) (Ou (OH _));have I2:=Inv.made (C:=C) I;have r2:Zk (V.ref (s.heap.objs.size+1)::(vs++dvs)) (YA (s.heap.objs.size+1)::(us++ds)):=.cons rfl (r.append hd);have hl:(YA (s.heap.objs.size+1)::us++ds).length=ps.length:=by have e:=r2.length;rw[F.len _ _ _ _ hq]at e;exact e.symm
 refine wpAny_call (Zmy (f:=f) I.kIn M.makes M.init (beq_iff_eq.mp M.fn) (codeAny_mono (F.run _ X.stack _ _ ⟨YA (s.heap.objs.size+1)::us,[]⟩ (YA (s.heap.objs.size+1)::(us++ds)) _ _ E (hr.make C us [])
  (I2.env0.make C us []) (hb _ (YA (s.heap.objs.size+1)::us) I2.kIn hl) r2 hq) λr s' hq'=>?_))
 cases r with
 |error e=>exact hx pins Z _ _ e s' I2 hq'
 |ok fl=>
  cases fl with
  |ret u=>obtain⟨v,H',I3,rv,ev,q3⟩:=I2.after hq';subst ev;exact⟨rv,⟨V.ref (s.heap.objs.size+1),H',I3,rfl,q3⟩⟩
  |next=>exact False.elim hq'
  |brk=>exact False.elim hq'
  |cont=>exact False.elim hq'
def ZnX(M:Mk X.K C f)(F:FnOk X.prog X.w X.K X.mg X.base CX k f fd ps sp)(hr:Room (k+1) X.A)(hg:Gl X x)(hm:X.mg x=Wj (.ref C))(hb:Binds X.K fd ps ds)(hd:Zk dvs ds)(hx:ZaO CX X E)
 (ha:PA X (e::es) t) (hdb:(x==("__debug__" : Str))=Wn:=by decide) (he:Yw (e::es) X.env=(Wn,eval e X.env)::Yw es X.env:=by rfl) (hpl:(YO pos (Yw es X.env)).any (·.1)=Wn:=by rfl) :
 PE X (.Call (.Name x p) (e::es) [] pos) (Zo3 C sp dvs E t):=by
 intro pins s Z H Q I h;refine YT (Zfq I hg hm ?_ hdb);refine PySem.W.callWith_K (h₀:=X.base) I.ok.mod.kin M.kp (thn (ha pos pins s Z H _ I h) λus s1 ⟨vs,H1,I1,r,q⟩=>⟨I1.kIn,?_⟩) he hpl;exact Zin M F hr hb hd hx I1 r q
def Zmn(M:Mk X.K C f)(F:FnOk X.prog X.w X.K X.mg X.base CX k f fd ps sp)(hr:Room (k+1) X.A)(hg:Gl X x)(hm:X.mg x=Wj (.ref C))(hb:Binds X.K fd ps ds)(hd:Zk dvs ds)(hx:ZaO CX X E)
 (hdb:(x==("__debug__" : Str))=Wn:=by decide):PE X (.Call (.Name x p) [] [] pos) (Zo3 C sp dvs E ZpD):=by
 intro pins s Z H Q I h;refine YT (Zfq I hg hm ?_ hdb);exact PySem.W.callWith_K0 I.kIn M.kp (Zin (us:=[]) M F hr hb hd hx I .nil h)
end
structure FnScope(N P:List Str)(sc:Scope):Prop where
 kind:sc.kind=.function
 co:sc.isCoroutine=Wn
 gen:sc.isGenerator=Wn
 nd:N.Nodup
 pre:N.take P.length=P
 par:∀x∈P,sc.names.lookup x=Wj .local\/sc.names.lookup x=Wj .cell
 nofree:∀y∈sc.names,y.2≠.free
theorem ZgW{kindOf:Str->Option NameKind}{x:Str}:∀{binds:List (Str×Yj)}{m:Str->Option Yj},(∀v,(x,v) ∉ binds)->bindL kindOf binds m x=m x
 |[],_,_=>rfl
 |(n,v)::r,m,h=>by
  unfold bindL;rw[ZgW λw hw=>h w (Oh _ hw)];split
  . have:x≠n:=by rintro rfl;exact h v Oi
    simp[this]
  . rfl
theorem ZgY{kindOf:Str->Option NameKind}{x:Str}:∀{binds:List (Str×Yj)}{m:Str->Option Yj},(∀v,(x,v) ∉ binds)->bindC kindOf binds m x=m x
 |[],_,_=>rfl
 |(n,v)::r,m,h=>by
  unfold bindC;rw[ZgY λw hw=>h w (Oh _ hw)];split
  . rfl
  . have:x≠n:=by rintro rfl;exact h v Oi
    simp[this]
theorem ZgX{kindOf:Str->Option NameKind}{x:Str}{v:Yj}:∀{P:List Str}{vs:List Yj}{i:Nat}{m:Str->Option Yj},P.Nodup->P[i]? = Wj x->vs[i]? = Wj v->kindOf x=Wj .local ->
 bindL kindOf (P.zip vs) m x=Wj v
 |[],_,_,_,_,h,_,_=>by simp at h
 |_::_,[],_,_,_,_,h,_=>by simp at h
 |p::P,w::vs,0,m,nd,h1,h2,hk=>by simp at h1 h2;subst h1;subst h2;show bindL kindOf ((p,w)::P.zip vs) m p=_;unfold bindL;rw[ZgW λv hv=>(List.nodup_cons.mp nd).1 (List.of_mem_zip hv).1,if_pos hk];simp
 |p::P,w::vs,i+1,m,nd,h1,h2,hk=>by show bindL kindOf ((p,w)::P.zip vs) m x=_;unfold bindL;exact ZgX (i:=i) (List.nodup_cons.mp nd).2 (by simpa using h1) (by simpa using h2) hk
theorem ZgZ{kindOf:Str->Option NameKind}{x:Str}{v:Yj}:∀{P:List Str}{vs:List Yj}{i:Nat}{m:Str->Option Yj},P.Nodup->P[i]? = Wj x->vs[i]? = Wj v->kindOf x≠Wj .local ->
 bindC kindOf (P.zip vs) m x=Wj v
 |[],_,_,_,_,h,_,_=>by simp at h
 |_::_,[],_,_,_,_,h,_=>by simp at h
 |p::P,w::vs,0,m,nd,h1,h2,hk=>by simp at h1 h2;subst h1;subst h2;show bindC kindOf ((p,w)::P.zip vs) m p=_;unfold bindC;rw[ZgY λv hv=>(List.nodup_cons.mp nd).1 (List.of_mem_zip hv).1,if_neg hk];simp
 |p::P,w::vs,i+1,m,nd,h1,h2,hk=>by show bindC kindOf ((p,w)::P.zip vs) m x=_;unfold bindC;exact ZgZ (i:=i) (List.nodup_cons.mp nd).2 (by simpa using h1) (by simpa using h2) hk
noncomputable def start(N:List Str)(vs:List V):St:=vs.map Wj++YH (N.length - vs.length) Wl
noncomputable def ZeK(CX:CXT)(P:Yh)(w:Yg)(K:Yk)(mg:Str->Option Yj)(base:YD)(N:List Str)(qual:Str)(scope:Scope)(f:Yi)(cd:Yj)(A:YE)(outer:List Env)(s:Yb)(H:Hp)(E:XK):Cx where
 prog:=P
 w:=w
 K:=K
 mg:=mg
 base:=base
 A:=A.deeper (envOfC qual scope s.heap.objs.size f cd)
 N:=N
 s₀:=s
 H₀:=H
 env:=envOfC qual scope s.heap.objs.size f cd
 outer:=outer
 stack:=envOfC qual scope s.heap.objs.size f cd::outer
 ex:=[]
 calm:=Wm
 fn:=λ_=>Wm
 pn:=[]
 xe:=λe s'=>Yy (model P w) (A.deeper (envOfC qual scope s.heap.objs.size f cd)) (leaving (envOfC qual scope s.heap.objs.size f cd) e) (λ_ s''=>CX outer H s E e s'') (λe' s''=>CX outer H s E e' s'') s'
def Zi0{sc:Scope}{n:Nat}{x:Str}(h:sc.names.lookup x=Wj .cell):∃c,(cellsFrom n sc.names []).lookup x=Wj c:=by have q:=PySem.W.cellsFrom_some sc.names n [] (.inl h);exact Option.isSome_iff_exists.mp q
def Zln{CX:CXT}{P:Yh}{w:Yg}{K:Yk}{mg:Str->Option Yj}{base:YD}{N ps:List Str}{qual:Str}{scope:Scope}{f:Yi}{cd:Yj}{A:YE}{outer:List Env}{s s1:Yb}{H:Hp}{E:XK}{us:List Yj}{vs:List V}
 (S_:FnScope N ps scope) (hd:A.handled=Wl) (e0:Env0 P w K mg base A outer s H) (hl:vs.length=ps.length) (r:Zk vs us)
 (x:InCallC s s.heap.objs.size (bindL (envOfC qual scope s.heap.objs.size f cd).kindOf (ps.zip us) λ_=>Wl) (cellsFrom (s.heap.objs.size+1) scope.names []) (bindC (envOfC qual scope s.heap.objs.size f cd).kindOf (ps.zip us) λ_=>Wl) s1) :
 Inv (ZeK CX P w K mg base N qual scope f cd A outer s H E) [] (start N vs) H s1:=by
 have hpl:ps.length<=N.length:=by have:=congrArg List.length S_.pre;rw[List.length_take]at this;lia
 obtain⟨h1,tk,rfl,hk⟩:=x.done;have noA:∀b:Yi,b ∉ (ZeK CX P w K mg base N qual scope f cd A outer s H E).ex:=λb z=>absurd (show b∈([]:List Yi)from z) (by simp);refine⟨⟨e0.mod,S_.kind,rfl,rfl,Oq _,λy z c h1 h2=>?_,λy hy=>?_,λy c _ h=>?_,λ_=>hd,Around.frames_deeper e0.frames,.inr ⟨rfl,rfl⟩,λb z=>absurd z (noA b),e0.bs,e0.bsz,λb _ _=>noA b,λb z=>absurd z (noA b),e0.funs,e0.frf⟩,
  rfl,e0.bare,Un.kept hk,⟨_,x.toInCall.ns,λi y v h1 h2 h3=>?_⟩,λy c h=>⟨_,x.cell y c h⟩,e0.hok.fresh (Oq _),λy c h=>?_,λp hp=>absurd (show p∈([]:List (Yi×Obj))from hp) (by simp),e0.hok.kept hk,?_⟩
 . exact name_of_addr x.apart (YF h1) (YF h2)
 . have hy:scope.names.lookup y=Wj .cell\/scope.names.lookup y=Wj .free:=hy;rcases hy with hy|hy
   . exact Zi0 hy
   . exact absurd rfl (S_.nofree _ (YF hy))
 . exact Nat.le_of_lt (x.above y c (YF h))
 . have hi:i<vs.length:=by
    unfold start at h2;by_cases hi:i<vs.length
    . exact hi
    . rw[Om (by simpa using hi)]at h2;rw[List.getElem?_replicate]at h2;split at h2<;>cases h2
   have ha:vs[i]? = Wj v:=by
    unfold start at h2;rw[Oe (by simpa using hi),On]at h2;cases e:vs[i]? with
    |none=>rw[e]at h2;cases h2
    |some a=>rw[e]at h2;cases h2;rfl
   obtain⟨u,hu,rv⟩:=r.get ha;have hp:ps[i]? = Wj y:=by rw[<- S_.pre,List.getElem?_take_of_lt (by lia)];exact h1
   have ndP:ps.Nodup:=by rw[<- S_.pre];exact S_.nd.sublist (List.take_sublist _ _)
   refine⟨u,rv,?_⟩;rcases S_.par y (O0 hp)with k|k
   . exact .inl ⟨k,ZgX ndP hp hu k⟩
   . obtain⟨c,e⟩:=Zi0 (n:=s.heap.objs.size+1) k;refine .inr ⟨.inl k,c,e,?_⟩;have q:=x.cell y c e;rw[ZgZ ndP hp hu (by show scope.names.lookup y≠_;rw[k];decide)]at q;exact q
 . exact e0.hok.fresh (Nat.le_of_lt (x.above y c (YF h)))
 . unfold start;show _=N.length;rw[OA,Ys,List.length_replicate]
   lia
def Zsx{CX:CXT}{P:Yh}{w:Yg}{K:Yk}{mg:Str->Option Yj}{base:YD}{k:Nat}{f:Yi}{name qual:Str}{params:Arguments}{body:List Stmt}{scope:Scope}{dV kV doc pm cdv ct oc:Yj}{an od:Option Yi}
 {osl:Array (Option Yj)}{N ps:List Str}{sp:Sp} (lk:K.lookup f=Wj ⟨oc,od,.func (PySem.W.fnOf name qual params body scope dV kV doc pm an cdv ct),osl⟩) (hcd:PySem.W.codeIn K cdv qual=Wm) (S_:FnScope N ps scope)
 (len:∀vs H Q E,sp vs H Q E->vs.length=ps.length)
 (hbody:∀(A:YE) (outer:List Env) (s:Yb) (H:Hp) (vs:List V) (Q:VK) (E:XK),Room k (A.deeper (envOfC qual scope s.heap.objs.size f cdv))->sp vs H Q E ->
  ∃t,PSs (ZeK CX P w K mg base N qual scope f cdv A outer s H E) body t/\t {nx:=λ_ H'=>Q .non H',rt:=Q} (start N vs) H) :
 FnOk P w K mg base CX (k+1) f (PySem.W.fnOf name qual params body scope dV kV doc pm an cdv ct) ps sp:=by
 refine⟨len,λA outer s H args us vs Q E hr e0 hb r hsp=>?_⟩;have hl:=len _ _ _ _ hsp;have KX:K.In s.heap:=e0.mod.kin.keeps λb o e=>(e0.bs b o e).1;have lim:s.heap.NoLimit:=e0.mod.nolimit.keeps λb o e=>(e0.bs b o e).1;have hkind:∀y∈ps.zip us,scope.names.lookup y.1=Wj .local\/(scope.names.lookup y.1=Wj .cell/\((cellsFrom (s.heap.objs.size+1) scope.names []).lookup y.1).isSome=Wm):=λ⟨n,v⟩ hy=>by
  rcases S_.par n (List.of_mem_zip hy).1 with q|q
  . exact .inl q
  . exact .inr ⟨q,PySem.W.cellsFrom_some _ _ _ (.inl q)⟩
 refine codeAny_call_function hr.depth (KX _ _ lk) rfl S_.co S_.gen rfl (PySem.W.codeRec_of KX hcd) (hb _ _ _ _ ?_);refine wpAny_newFunctionEnv_cells S_.kind hkind λenv he s1 x=>?_;subst he;refine⟨lim.keeps x.toInCall.keep,codeAny_func ?_⟩;obtain⟨t,ht,hq⟩:=hbody A outer s H vs Q E (hr.deeper _) hsp;have I:Inv (ZeK CX P w K mg base N qual scope f cdv A outer s H E) [] (start N vs) H s1:=Zln S_ hr.hd e0 hl r x;refine Yf (ht [] s1 (start N vs) H _ I hq) (λfl s' hs=>?_) λe s' hs=>hs;have fin:∀{σ':St}{H':Hp}{v:V}{u:Yj},Inv (ZeK CX P w K mg base N qual scope f cdv A outer s H E) [] σ' H' s'->RelV v u->Q v H'->CE outer P w H s Q u s':=λ{σ' H' v u} J rv q=>⟨v,H',J.os,J.bare,J.base,J.hok,rv,q⟩
 cases fl with
 |ret u=>obtain⟨v,σ',H',J,rv,q⟩:=hs;exact fin J rv q
 |next=>obtain⟨σ',H',J,q⟩:=hs;exact fin (v:=V.non) (u:=Value.none) J rfl q
 |brk=>obtain⟨_,_,_,q⟩:=hs;exact False.elim q
 |cont=>obtain⟨_,_,_,q⟩:=hs;exact False.elim q
section
variable {X:Cx}{x:Str}{p pos:Pos}{e:Expr}{es:List Expr}{t:TA}{id T:String}{r:List V->Hp->VK->Prop}
noncomputable def tCB(r:List V->Hp->VK->Prop)(t:TA):TE:=λZ H Q=>t Z H λvs H1=>r vs H1 Q
def ZfL(hc:Zb0 X (.builtin id) r)(hg:Gl X x)(hm:X.mg x=Wl)(hv:bootBuiltins x=Wj (.builtin id))(ha:PA X (e::es) t)(hn:x ≠ "__name__" := by decide)(hdb:(x==("__debug__" : Str))=Wn:=by decide)
 (he:Yw (e::es) X.env=(Wn,eval e X.env)::Yw es X.env:=by rfl) (hpl:(YO pos (Yw es X.env)).any (·.1)=Wn:=by rfl):PE X (.Call (.Name x p) (e::es) [] pos) (tCB r t):=by
 intro pins s Z H Q I h;refine YT (Zc9 I hg hm hv ?_ hn hdb);exact PyProof.Rows.callWith_builtin1 (thn (ha pos pins s Z H _ I h) λus s1 ⟨vs,H1,I1,r1,q1⟩=>hc pins s1 Z H1 vs us Q I1 r1 q1) he hpl
def ZgM(hc:Zb0 X (.type T) r)(hg:Gl X x)(hm:X.mg x=Wl)(hv:bootBuiltins x=Wj (.type T))(ha:PA X (e::es) t)(hn:x ≠ "__name__" := by decide)(hdb:(x==("__debug__" : Str))=Wn:=by decide)
 (he:Yw (e::es) X.env=(Wn,eval e X.env)::Yw es X.env:=by rfl) (hpl:(YO pos (Yw es X.env)).any (·.1)=Wn:=by rfl):PE X (.Call (.Name x p) (e::es) [] pos) (tCB r t):=by
 intro pins s Z H Q I h;refine YT (Zc9 I hg hm hv ?_ hn hdb);exact PyProof.Rows.callWith_type1 (thn (ha pos pins s Z H _ I h) λus s1 ⟨vs,H1,I1,r1,q1⟩=>hc pins s1 Z H1 vs us Q I1 r1 q1) he hpl
end
end L2
namespace HT
open PySem PyProof.Rows
section
variable {prog:Yh}{w:Yg}{A:YE}{E:Yj->Yb->Prop}{s:Yb}
def ZoK{t b:Yi}{vs ws:List Yj}{Q:Yj->Yb->Prop}(ht:IsTup s.heap t vs.toArray)(hb:IsTup s.heap b ws.toArray)(hv:vs≠[])
 (h1:ws=[]->Q (.ref t) s) (h2:ws≠[]->Q (.ref s.heap.objs.size) {s with heap:=s.heap.push {cls:=.type "tuple",data:=.seq (vs++ws).toArray}})
 (hsz:vs.length+ws.length<=sizeLine):Yy (model prog w) A (binaryOp .Add (.ref t) (.ref b)) Q E s:=by
 obtain⟨⟨cls,dd,data,sl⟩,ho,hc,n,hd⟩:=id ht;obtain⟨⟨cls2,dd2,data2,sl2⟩,ho2,hc2,n2,hd2⟩:=id hb;simp only at hc hd hc2 hd2;subst hc hd hc2 hd2;have e:vs.toArray++ws.toArray=(vs++ws).toArray:=by simp
 by_cases hw:ws=[]
 . exact concat_meets ⟨_,ho,rfl⟩ ⟨_,ho2,rfl⟩ noFill_tuple_add seq_tuple_add PySem.F.slot_tuple_add PySem.F.entry_tuple_add (PySem.F.args_tuple_add_2 _ _)
    (tuple_addW1 t b vs.toArray ws.toArray n n2 dd dd2 sl sl2 (by simpa using hv) (by simp[hw])) ⟨ho,ho2,h1 hw⟩
 . refine concat_meets ⟨_,ho,rfl⟩ ⟨_,ho2,rfl⟩ noFill_tuple_add seq_tuple_add PySem.F.slot_tuple_add PySem.F.entry_tuple_add (PySem.F.args_tuple_add_2 _ _)
    (tuple_addW2 t b vs.toArray ws.toArray n n2 dd dd2 sl sl2 (by simpa using hv) (by simpa using hw) (by rw[Of,Of];exact hsz)) ⟨ho,ho2,?_⟩
   rw[e];exact h2 hw
noncomputable def sIx(n d:Nat):Option Int->Nat
 |none=>d
 |some v=>if v<0 then(v+(n:Int)).toNat else min v.toNat n
def ZpI(n d:Nat)(hd:d<=n)(o:Option Int):sIx n d o<=n:=by
 cases o with
 |none=>exact hd
 |some v=>
  show(if v<0 then(v+(n:Int)).toNat else min v.toNat n)<=n;by_cases hv:v<0
  . rw[if_pos hv];lia
  . rw[if_neg hv];exact Nat.min_le_right _ _
def ZkG(v:Int)(n d:Nat):(if v<0 then max (v+(n:Int)) 0 else min v (n:Int))=((sIx n d (Wj v):Nat):Int):=by
 show(if v<0 then max (v+(n:Int)) 0 else min v (n:Int))=(((if v<0 then(v+(n:Int)).toNat else min v.toNat n):Nat):Int)
 by_cases hv:v<0
 . simp only[if_pos hv];lia
 . simp only[if_neg hv];lia
def Zj6(lo hi:Option Int)(n:Nat):Builtin.Slice.sliceAdjust lo hi 1 (n:Int)=(((sIx n 0 lo:Nat):Int),((sIx n n hi:Nat):Int)):=by
 have h1:¬ ((1:Int)<0):=by lia
 unfold Builtin.Slice.sliceAdjust;simp only[h1,if_false];refine Prod.ext ?_ ?_
 . cases lo with
   |none=>rfl
   |some v=>exact ZkG v n 0
 . cases hi with
   |none=>rfl
   |some v=>exact ZkG v n n
def Zjs(i j:Nat):Builtin.Slice.slicePlaces (i:Int) (j:Int) 1=j - i:=by
 unfold Builtin.Slice.slicePlaces;have h1:(1:Int) > 0:=by lia
 simp only[h1,if_true,Int.ediv_one];split<;>lia
def Zfv{v:Yj}{o:Option Int}{Q:Option Int->Yb->Prop}(p:IsPart v o)(h:Q o s):Yy (model prog w) A (Builtin.Slice.slicePartIndex v) Q E s:=by
 cases p with
 |none=>exact slicePart_none h
 |int i t=>exact slicePart_int h
def Zca{sl:Yi}{vl vu:Yj}{lo hi:Option Int}{n:Nat}{Q:Int×Int×Nat->Yb->Prop}(hs:s.heap.IsSliceOf sl vl vu .none)(pl:IsPart vl lo)(pu:IsPart vu hi)
 (h:Q (((sIx n 0 lo:Nat):Int),1,sIx n n hi - sIx n 0 lo) s):Yy (model prog w) A (Builtin.Slice.sliceApplied (.ref sl) (pure (n:Int))) Q E s:=by
 obtain⟨os,hos,hcs,hds⟩:=id hs;unfold Builtin.Slice.sliceApplied Builtin.Slice.sliceFields;refine Ya (Ya (YN hos hds (x:=vl) rfl (Ya (YN hos hds (x:=vu) rfl (Ya (YN hos hds (x:=.none) rfl (Yc ?_)))))));refine Ya (slicePart_none ?_);show Yy _ _ (if ((1:Int)==0)=Wm then _ else _) _ _ s;rw[if_neg (by decide)];refine Ya (Zfv pl (Ya (Zfv pu (Ya (Yc ?_)))));show Yy _ _ (match Builtin.Slice.sliceAdjust lo hi 1 (n:Int)with|(lo,hi)=>pure (lo,(1:Int),Builtin.Slice.slicePlaces lo hi 1)) _ _ s;rw[Zj6 lo hi n];show Yy _ _ (pure (((sIx n 0 lo:Nat):Int),(1:Int),Builtin.Slice.slicePlaces ((sIx n 0 lo:Nat):Int) ((sIx n n hi:Nat):Int) 1)) _ _ s;rw[Zjs];exact Yc h
def Zmi(xs:Array Yj)(i k:Nat):((List.range k).filterMap λ(m:Nat)=>xs[((i:Int)+(m:Int) * 1).toNat]?).toArray=((xs.toList.drop i).take k).toArray:=by
 have e:(λ(m:Nat)=>xs[((i:Int)+(m:Int) * 1).toNat]?)=λm=>xs[i+m]? := by
  funext m;have:((i:Int)+(m:Int) * 1).toNat=i+m:=by lia
  rw[this]
 rw[e];have:=pick_run xs i k;rw[List.filterMap_map]at this;have e2:((λx=>xs[x]?) ∘ λx=>i+x)=λm=>xs[i+m]? := rfl;rw[e2]at this;rw[this]
def Zec{t sl:Yi}{items:Array Yj}{vl vu:Yj}{lo hi:Option Int}{Q:Yj->Yb->Prop}(ht:IsTup s.heap t items)(hs:s.heap.IsSliceOf sl vl vu .none)(pl:IsPart vl lo)(pu:IsPart vu hi)
 (hw:¬ (sIx items.size 0 lo=0/\sIx items.size items.size hi=items.size))
 (h:Q (.ref s.heap.objs.size) {s with heap:=s.heap.push {cls:=.type "tuple",data:=.seq ((items.toList.drop (sIx items.size 0 lo)).take (sIx items.size items.size hi - sIx items.size 0 lo)).toArray}})
 (hsz:items.size<=sizeLine):Yy (model prog w) A (getItem (.ref t) (.ref sl)) Q E s:=by
 have htake:sizeOk (.seq ((items.toList.drop (sIx items.size 0 lo)).take (sIx items.size items.size hi - sIx items.size 0 lo)).toArray):=by
  show((items.toList.drop (sIx items.size 0 lo)).take (sIx items.size items.size hi - sIx items.size 0 lo)).toArray.size<=sizeLine;rw[Of,List.length_take,List.length_drop,Array.length_toList]
  lia
 have hj:sIx items.size items.size hi<=items.size:=ZpI _ _ (Oq _) hi;obtain⟨os,hos,hcs,hds⟩:=id hs;have hTs:s.TypeIs (.ref sl) "slice" := ⟨os,hos,hcs⟩
 unfold getItem
 try with_reducible refine Wa ?_
 first|refine Ya (Yc ?_)|skip
 refine Ya (wpAny_sequenceKey ht.typeIs (by decide) ?_);refine Ya (YX (name:=O "__getitem__") ht.typeIs Wf
  (Wb Wf ht.typeIs entry_tuple_getitem ?_ (args_tuple_getitem _ _)))
 show Yy _ _ (Builtin.Tuple.tupleItemsOf (.ref t) >>= _) _ _ s;refine Ya (tupleItemsOf_ ht ?_);refine Ya (wpAny_typeOf hTs ?_);rw[if_pos (by decide)];refine Ya (Zca hs pl pu ?_);have hno:¬ ((((sIx items.size 0 lo:Nat):Int)==0&&(1:Int)==1&&(sIx items.size items.size hi - sIx items.size 0 lo)==items.size)=Wm):=by intro q;rw[Oa,Oa]at q;have q1:((sIx items.size 0 lo:Nat):Int)=0:=eq_of_beq q.1.1;have q2:sIx items.size items.size hi - sIx items.size 0 lo=items.size:=eq_of_beq q.2;exact hw ⟨by lia,by lia⟩
 show Yy _ _ (if (((sIx items.size 0 lo:Nat):Int)==0&&(1:Int)==1&&(sIx items.size items.size hi - sIx items.size 0 lo)==items.size)=Wm then _ else _) _ _ s;rw[if_neg hno,Zmi]
 first
  |exact Ya (m:=Builtin.Tuple.tupleExact _) (Yq (Yc ⟨_,rfl,Yc h⟩) htake)
  |exact Ya (m:=Builtin.Tuple.tupleExact _) (Yq (Ya (Yc (Yc ⟨_,rfl,Yc h⟩))) htake)
  |exact Ya (Ya (m:=Builtin.Tuple.tupleExact _) (Yq (Yc (Yc ⟨_,rfl,Yc h⟩)) htake))
  |exact Ya (Ya (m:=Builtin.Tuple.tupleExact _) (Yq (Yc ⟨_,rfl,Yc h⟩) htake))
end
end HT
namespace L2
open PySem PySem.Spec PyProof.Rows
abbrev TO:=St->Hp->(Option Int->Hp->Prop)->Prop
def PO(X:Cx)(e:Option Expr)(t:TO):Prop:=
 ∀(pins:List (Yi×Obj)) (s:Yb) (Z:St) (H:Hp) (Q:Option Int->Hp->Prop),Inv X pins Z H s->t Z H Q ->
  Yy (model X.prog X.w) X.A (evalPart e X.env) (λu s'=>∃o H',Inv X pins Z H' s'/\IsPart u o/\Q o H') X.xe s
noncomputable def Znu:TO:=λ_ H Q=>Q Wl H
noncomputable def Zry(t:TE):TO:=λZ H Q=>t Z H λx H1=>∃i,x=.int i/\Q (Wj i) H1
section
variable {X:Cx}{e:Expr}{te:TE}{lo hi:Option Expr}{tl th:TO}{pos p2:Pos}
def ZnR:PO X Wl Znu:=by intro pins s Z H Q I h;rw[evalPart_none];exact Yc ⟨Wl,H,I,.none,h⟩
def ZnQ(h:PE X e te):PO X (Wj e) (Zry te):=by intro pins s Z H Q I hw;rw[evalPart_some];refine thn (h pins s Z H _ I hw) λu s1 ⟨x,H1,I1,r1,q1⟩=>?_;obtain⟨i,rfl,q⟩:=q1;obtain⟨t,rfl⟩:=r1;exact⟨Wj i,H1,I1,.int i t,q⟩
def SlR(X:Cx)(r:V->Option Int->Option Int->Hp->VK->Prop):Prop:=
 ∀(pins:List (Yi×Obj)) (s:Yb) (Z:St) (H:Hp) (x:V) (v vl vu:Yj) (lo hi:Option Int) (sl:Yi) (Q:VK),Inv X pins Z H s->RelV x v->s.heap.IsSliceOf sl vl vu .none->IsPart vl lo->IsPart vu hi->r x lo hi H Q ->
  ∃T id,typeLookup (.type T) "__getitem__" = pure (Wj (.builtin id))/\s.TypeIs v T/\Yy (model X.prog X.w) X.A (getItem v (.ref sl)) (EP X pins Z Q) X.xe s
noncomputable def tSl(r:V->Option Int->Option Int->Hp->VK->Prop)(te:TE)(tl th:TO):TE:=λZ H Q=>te Z H λx H1=>tl Z H1 λl H2=>th Z H2 λu H3=>r x l u H3 Q
def Zmk{r:V->Option Int->Option Int->Hp->VK->Prop}(hr:SlR X r)(he:PE X e te)(hl:PO X lo tl)(hu:PO X hi th):PE X (.Subscript e (.Slice lo hi Wl p2) pos) (tSl r te tl th):=by intro pins s Z H Q I h;refine Subscript_ (thn (he pins s Z H _ I h) λv s1 ⟨x,H1,I1,r1,q1⟩=>?_);refine wpAny_Slice (thn (hl pins s1 Z H1 _ I1 q1) λvl s2 ⟨l,H2,I2,pl,q2⟩=>thn (hu pins s2 Z H2 _ I2 q2) λvu s3 ⟨u,H3,I3,pu,q3⟩=>?_);rw[evalPart_none];refine Yc ?_;have I4:Inv X pins Z H3 {s3 with heap:=s3.heap.push {cls:=.type "slice",data:=.fields #[vl,vu,.none]}}:=I3.kept (t':=s3.toks) λb ob q=>Od _ q;obtain⟨T,id,hT,ht,hg⟩:=hr pins {s3 with heap:=s3.heap.push {cls:=.type "slice",data:=.fields #[vl,vu,.none]}} Z H3 x v vl vu l u s3.heap.objs.size Q I4 r1 (Heap.IsSliceOf.new ..) pl pu q3;show Yy (model X.prog X.w) X.A (subscriptTail e (.Slice lo hi Wl p2) v (.ref s3.heap.objs.size)) (EP X pins Z Q) X.xe {s3 with heap:=s3.heap.push {cls:=.type "slice",data:=.fields #[vl,vu,.none]}};exact tail_any (ops:=[.ref s3.heap.objs.size,v]) ht hT hg (by with_unfolding_all rfl)
noncomputable def ZiU(xs:List V)(lo hi:Option Int):List V:=(xs.drop (HT.sIx xs.length 0 lo)).take (HT.sIx xs.length xs.length hi - HT.sIx xs.length 0 lo)
def Ze1(xs:List V)(lo hi:Option Int):(ZiU xs lo hi).length<=xs.length:=by
 unfold ZiU;rw[List.length_take,List.length_drop]
 lia
def ZtE(K:Yk):V->Option Int->Option Int->Hp->VK->Prop:=λx lo hi H Q=>∃a xs,x=.ref a/\SqT K H a xs /\
 ¬ (HT.sIx xs.length 0 lo=0/\HT.sIx xs.length xs.length hi=xs.length)/\∀p,H p=Wl->Q (.ref p) (upd H p (.tup (ZiU xs lo hi)))
def ZpG:SlR X (ZtE X.K):=by
 intro pins s Z H x v vl vu lo hi sl Q I rx hs pl pu h;obtain⟨a,xs,rfl,hx,hw,q⟩:=h;cases rx;obtain⟨its,r,ht,hz⟩:=I.tuple hx;have hlen:its.toArray.size=xs.length:=by rw[Of];exact r.length.symm
 refine⟨"tuple",_,PyProof.Rows.slot_tuple_getitem.lookup,ht.typeIs,?_⟩;refine HT.Zec ht hs pl pu (by rw[hlen];exact hw) ?_ (by rw[hlen];exact hz);rw[hlen];refine⟨.ref s.heap.objs.size,_,I.laid (t':=s.toks) (o:=.tup (ZiU xs lo hi)) (λb ob q=>Od _ q) (Oq _) ?_,rfl,q _ (I.hok.fresh (Oq _))⟩;exact⟨OE (Ze1 xs lo hi) hz,_,(r.drop (HT.sIx xs.length 0 lo)).take (HT.sIx xs.length xs.length hi - HT.sIx xs.length 0 lo),Zbc.fresh _ _⟩
noncomputable def ZrT(K:Yk):R2:=λx y H Q=>∃a b xs ys,x=.ref a/\y=.ref b/\SqT K H a xs/\SqT K H b ys/\xs≠[]/\xs.length+ys.length<=sizeLine /\
 (ys=[]->Q (.ref a) H)/\(ys≠[]->∀p,H p=Wl->Q (.ref p) (upd H p (.tup (xs++ys))))
def Zk.nil_iff{xs:List V}{us:List Yj}(r:Zk xs us):us=[]↔xs=[]:=by
 cases r with
 |nil=>simp
 |cons _ _=>simp
def Zn8:OpR X (binaryOp .Add) (ZrT X.K):=by intro pins s Z H x y v u Q I rx ry h;obtain⟨a,b,xs,ys,rfl,rfl,ha,hb,hx,hz,q1,q2⟩:=h;cases rx;cases ry;obtain⟨its,r1,p1,_⟩:=I.tuple ha;obtain⟨its2,r2,p2,_⟩:=I.tuple hb;refine HT.ZoK p1 p2 (λz=>hx (r1.nil_iff.mp z)) (λz=>⟨.ref a,H,I,rfl,q1 (r2.nil_iff.mp z)⟩) (λz=>?_) (by rw[<- r1.length,<- r2.length];exact hz);refine⟨.ref s.heap.objs.size,_,I.laid (t':=s.toks) (o:=.tup (xs++ys)) (λb ob q=>Od _ q) (Oq _) ?_,rfl,q2 (λw=>z (r2.nil_iff.mpr w)) _ (I.hok.fresh (Oq _))⟩;exact⟨by rw[OA];exact hz,_,r1.append r2,Zbc.fresh _ _⟩
end
noncomputable def ixN(n:Nat)(i:Int):Option Nat:=if 0<=i then(if i<n then Wj i.toNat else Wl)else if -(n:Int)<=i then Wj (i+n).toNat else Wl
noncomputable def atI{α:Type}(xs:List α)(i:Int):Option α:=(ixN xs.length i).bind λj=>xs[j]?
def Zkx{n:Nat}{i:Int}{j:Nat}(h:ixN n i=Wj j):seqIndex? i n=Wj j/\j<n/\-(n:Int)<=i/\i<n:=by
 unfold ixN at h;by_cases h0:0<=i
 . rw[if_pos h0]at h;by_cases h1:i<n
   . rw[if_pos h1]at h;have e:i.toNat=j:=YC h;exact⟨by rw[seqIndex_of h0 h1,e],by lia,by lia,h1⟩
   . rw[if_neg h1]at h;cases h
 . rw[if_neg h0]at h;by_cases h1:-(n:Int)<=i
   . rw[if_pos h1]at h;have e:(i+n).toNat=j:=YC h;exact⟨by rw[seqIndex_neg (by lia) h1,e],by lia,h1,by lia⟩
   . rw[if_neg h1]at h;cases h
def Zif{α:Type}{xs:List α}{i:Int}{v:α}(h:atI xs i=Wj v):∃j,seqIndex? i xs.length=Wj j/\xs[j]? = Wj v/\j<xs.length/\-(xs.length:Int)<=i/\i<xs.length:=by
 unfold atI at h;cases e:ixN xs.length i with
 |none=>rw[e]at h;cases h
 |some j=>rw[e]at h;obtain⟨h1,h2,h3,h4⟩:=Zkx e;exact⟨j,h1,h,h2,h3,h4⟩
def ZkL(b:Expr):Prop:=∀o i,subscripted b Wn o i=operate [o,i] (getItem o i)
def IxR(X:Cx)(r:R2):Prop:=
 ∀(value slice:Expr) (pins:List (Yi×Obj)) (s:Yb) (Z:St) (H:Hp) (x y:V) (v u:Yj) (Q:VK),Inv X pins Z H s->RelV x v->RelV y u->r x y H Q ->
  subscripted slice Wn v u=operate [v,u] (getItem v u)->Yy (model X.prog X.w) X.A (subscriptTail value slice v u) (EP X pins Z Q) X.xe s
def MtR(X:Cx)(id:String)(r:V->List V->Hp->VK->Prop):Prop:=
 ∀(pins:List (Yi×Obj)) (s:Yb) (Z:St) (H:Hp) (x:V) (xs:List V) (v:Yj) (us:List Yj) (Q:VK),Inv X pins Z H s->RelV x v->Zk xs us->r x xs H Q ->
  Yy (model X.prog X.w) X.A (call (.builtin id) (v::us)) (EP X pins Z Q) X.xe s
section
variable {X:Cx}{a b:Expr}{ta tb:TE}{pos:Pos}
def Zr4{r:R2}(hr:IxR X r)(ha:PE X a ta)(hb:PE X b tb)(hs:ZkL b):PE X (.Subscript a b pos) (tOp r ta tb):=by intro pins s Z H Q I h;exact Subscript_ (Zq0 ha hb I h λv u s2 x y H2 I2 rx ry q=>hr a b pins s2 Z H2 x y v u Q I2 rx ry q (hs _ _))
noncomputable def ZtK(K:Yk):R2:=λx y H Q=>∃p xs i v,x=.ref p/\y=.int i/\SqL K H p xs/\atI xs i=Wj v/\Q v H
noncomputable def ZtI(K:Yk):R2:=λx y H Q=>∃p xs i v,x=.ref p/\y=.int i/\SqT K H p xs/\atI xs i=Wj v/\Q v H
noncomputable def ZtJ:R2:=λx y H Q=>∃z i c,x=.str z/\y=.int i/\z.length<=sizeLine/\atI z.cps.toList i=Wj c/\Q (.str ⟨#[c]⟩) H
def Zor:IxR X (ZtK X.K):=by
 intro value slice pins s Z H x y v u Q I rx ry h hs;obtain⟨p,xs,i,z,rfl,rfl,hq,he,q⟩:=h;cases rx;obtain⟨t,rfl⟩:=ry;obtain⟨its,r,pl,hz⟩:=I.list hq;obtain⟨j,h1,h2,h3,h4,h5⟩:=Zif he;obtain⟨w,ew,rw'⟩:=r.get h2;have hl:=r.length;have hn:=Zbq;have fin:EP X pins Z Q w s:=⟨z,H,I,rw',q⟩
 by_cases h0:0<=i
 . have hj:i.toNat=j:=by rw[seqIndex_of h0 h5]at h1;exact YC h1
   exact item_listR pl.isList h0 (by lia) (by rw[hj];simpa using ew) fin hs
 . have hj:(i+(its.toArray.size:Int)).toNat=j:=by rw[seqIndex_neg (by lia) h4]at h1;rw[Of,<- hl];exact YC h1
   exact subscriptTail_builtinR (x:=w) pl.isList.typeIs slot_list_getitem.lookup
    (wpAny_getItem_list_neg (Q:=λr s'=>r=w/\EP X pins Z Q r s') pl.isList (by lia) (by rw[Of]<;>lia) (by lia) (by rw[hj];simpa using ew) ⟨rfl,fin⟩) hs
def ZqD:IxR X (ZtI X.K):=by
 intro value slice pins s Z H x y v u Q I rx ry h hs;obtain⟨p,xs,i,z,rfl,rfl,hq,he,q⟩:=h;cases rx;obtain⟨t,rfl⟩:=ry;obtain⟨its,r,pl,hz⟩:=I.tuple hq;obtain⟨j,h1,h2,h3,h4,h5⟩:=Zif he;obtain⟨w,ew,rw'⟩:=r.get h2;have hl:=r.length;have hn:=Zbq;have fin:EP X pins Z Q w s:=⟨z,H,I,rw',q⟩
 exact subscriptTail_builtinR (x:=w) pl.typeIs slot_tuple_getitem.lookup
  (getItem_tuple (j:=j) (Q:=λr s'=>r=w/\EP X pins Z Q r s') pl (by lia) (by lia) (by rw[Of,<- hl];exact h1) (by simpa using ew) ⟨rfl,fin⟩) hs
theorem ZqE:IxR X ZtJ:=by
 intro value slice pins s Z H x y v u Q I rx ry h hs;obtain ⟨z,i,c,rfl,rfl,hz,he,q⟩:=h;obtain ⟨t,rfl⟩:=rx;obtain ⟨t',rfl⟩:=ry;obtain ⟨j,h1,h2,h3,h4,h5⟩:=Zif he;have hl:z.cps.toList.length=z.length:=by simp [Str.length]
 rw [hl] at h1 h4 h5;have hn:=Zbq;exact tail_any (typeIs_str s z t) slot_str_getitem.lookup (getItem_str (c:=c) (by
   have e1:Wo (i < -(2 ^ 63:Int))=Wn:=decide_eq_false (by lia);have e2:Wo (i ≥ 2 ^ 63)=Wn:=decide_eq_false (by lia);rw [e1,e2,Bool.or_false]) (by rw [h1];simpa using h2) ⟨.str ⟨#[c]⟩,H,I.tok _,⟨_,rfl⟩,q⟩) hs
def Zjx(its:List Yj)(n j:Nat)(u:Yj):Obj.mapSeq (·.setIfInBounds j u) {cls:=.type "list",data:=.seq its.toArray n}={cls:=.type "list",data:=.seq (its.set j u).toArray n}:=by simp[Obj.mapSeq]
theorem Inv.lst{pins:List (Yi×Obj)}{Z:St}{H:Hp}{s:Yb}{p:Yi}{xs:List V}(I:Inv X pins Z H s)(h:H p=Wj (.lst xs)):
 ∃(its:List Yj) (n:Nat),Zk xs its/\s.heap.get? p=Wj {cls:=.type "list",data:=.seq its.toArray n}/\xs.length<=sizeLine:=by
 obtain⟨z,its,n,r,e⟩:=I.hok p _ h;exact⟨its,n,r,e,z⟩
def Inv.lstUpd{pins:List (Yi×Obj)}{Z:St}{H:Hp}{s:Yb}{p:Yi}{xs ys:List V}{its its':List Yj}{n n':Nat}{f:Obj->Obj}(I:Inv X pins Z H s)(h:H p=Wj (.lst xs))
 (ho:s.heap.get? p=Wj {cls:=.type "list",data:=.seq its.toArray n}) (hf:f {cls:=.type "list",data:=.seq its.toArray n}={cls:=.type "list",data:=.seq its'.toArray n'}) (r:Zk ys its') (hz:ys.length<=sizeLine) (t:Nat) :
 Inv X pins Z (upd H p (.lst ys)) {s with heap:=s.heap.update p f,toks:=t}:=by
 have e:(s.heap.update p f).get? p=Wj {cls:=.type "list",data:=.seq its'.toArray n'}:=by rw[YS f ho (by rw[hf]<;>rfl),hf]
 refine I.write (x:=p) (e:=p) (by rw[h];trivial) (.inl rfl) (λb u hb q=>(YK _ _ (YI hb)).trans q) ⟨_,e⟩ ?_;exact⟨hz,its',n',r,e⟩
def ZrR:V->V->V->Hp->(Hp->Prop)->Prop:=λo i v H Q=>∃p xs k j,o=.ref p/\i=.int k/\H p=Wj (.lst xs)/\ixN xs.length k=Wj j/\Q (upd H p (.lst (xs.set j v)))
def set_list:ZoW X ZrR:=by
 intro pins s Z H o i v ov iv u Q I ro ri rv h;obtain⟨p,xs,k,j,rfl,rfl,hp,hj,q⟩:=h;cases ro;obtain⟨t,rfl⟩:=ri;obtain⟨its,n,r,ho,hz⟩:=I.lst hp;obtain⟨h1,h2,h3,h4⟩:=Zkx hj;have hl:=r.length;have hn:=Zbq;have I':Inv X pins Z (upd H p (.lst (xs.set j v))) {s with heap:=s.heap.update p (Obj.mapSeq (·.setIfInBounds j u))}:=I.lstUpd hp ho (Zjx its n j u) (r.set rv j) (by rw[List.length_set];exact hz) s.toks
 by_cases h0:0<=k
 . have hk:k.toNat=j:=by rw[seqIndex_of h0 h4]at h1;exact YC h1
   exact PySem.W.ki_setAt ho h0 (by lia) (by rw[Of,<- hl];exact h4) (by rw[hk];exact⟨_,I',q⟩)
 . have hk:(k+(its.toArray.size:Int)).toNat=j:=by rw[seqIndex_neg (by lia) h3]at h1;rw[Of,<- hl];exact YC h1
   exact PySem.W.ki_setBack ho (by lia) (by rw[Of,<- hl];exact h3) (by lia) (by rw[hk];exact⟨_,I',q⟩)
def Zg8(lo hi:Option Int)(n:Nat):(sliceBounds lo hi Wl n).1=((HT.sIx n 0 lo:Nat):Int)/\(sliceBounds lo hi Wl n).2.1=((HT.sIx n n hi:Nat):Int)/\(sliceBounds lo hi Wl n).2.2=1:=by
 refine⟨?_,?_,rfl⟩
 . cases lo with
   |none=>simp[sliceBounds,HT.sIx]
   |some i=>
    simp only[sliceBounds,HT.sIx,Option.getD_none,show(1:Int) > 0 by decide,if_true];by_cases h:i<0
    . simp only[h,if_true]<;>lia
    . simp only[h,if_false]<;>lia
 . cases hi with
   |none=>simp[sliceBounds,HT.sIx]
   |some i=>
    simp only[sliceBounds,HT.sIx,Option.getD_none,show(1:Int) > 0 by decide,if_true];by_cases h:i<0
    . simp only[h,if_true]<;>lia
    . simp only[h,if_false]<;>lia
def Zgs(its:List Yj)(lo hi:Option Int):slicePick its.toArray lo hi Wl=((its.drop (HT.sIx its.length 0 lo)).take (HT.sIx its.length its.length hi - HT.sIx its.length 0 lo)).toArray:=by obtain⟨h1,h2,h3⟩:=Zg8 lo hi its.toArray.size;unfold slicePick;rw[h1,h2,h3];simp only[sliceRange_one,pick_run,Of]<;>rfl
def ZtG(K:Yk):V->Option Int->Option Int->Hp->VK->Prop:=λx lo hi H Q=>∃a xs,x=.ref a/\SqL K H a xs/\∀p,H p=Wl->Q (.ref p) (upd H p (.lst (ZiU xs lo hi)))
def Znx:SlR X (ZtG X.K):=by intro pins s Z H x v vl vu lo hi sl Q I rx hs pl pu h;obtain⟨a,xs,rfl,hx,q⟩:=h;cases rx;obtain⟨its,r,ht,hz⟩:=I.list hx;have hlen:=r.length;refine⟨"list",_,slot_list_getitem.lookup,ht.isList.typeIs,?_⟩;refine wpAny_getItem_list_slice ht.isList hs pl pu .none (by simp) ?_ (by rw[Of]<;>lia);rw[Zgs,<- hlen];refine⟨.ref s.heap.objs.size,_,I.laid (t':=s.toks) (o:=.lst (ZiU xs lo hi)) (λb ob q=>Od _ q) (Oq _) ?_,rfl,q _ (I.hok.fresh (Oq _))⟩;exact⟨OE (Ze1 xs lo hi) hz,_,0,(r.drop (HT.sIx xs.length 0 lo)).take (HT.sIx xs.length xs.length hi - HT.sIx xs.length 0 lo),Oj _ rfl⟩
noncomputable def ZdD:V->Bool
 |.non=>Wm
 |.bl _=>Wm
 |.int _=>Wm
 |.str _=>Wm
 |_=>Wn
noncomputable def eqV:V->V->Bool
 |.non,.non=>Wm
 |.bl a,.bl b=>a==b
 |.bl a,.int b=>(if a then 1 else 0)==b
 |.int a,.bl b=>a==(if b then 1 else 0)
 |.int a,.int b=>a==b
 |.str a,.str b=>a==b
 |_,_=>Wn
def ZqV{A:YE}{s:Yb}{y x:V}{u v:Yj}(ry:RelV y u)(rx:RelV x v)(fy:ZdD y=Wm)(fx:ZdD x=Wm):SeqAt.EqAt A s u v (eqV y x):=by
 cases y with
 |non=>
  cases ry;cases x with
  |non=>cases rx;exact SeqAt.EqAt.same _
  |bl b=>cases rx;exact SeqAt.EqAt.none_bool b
  |int b=>obtain⟨t,rfl⟩:=rx;exact SeqAt.EqAt.none_int b t
  |str b=>obtain⟨t,rfl⟩:=rx;exact SeqAt.EqAt.none_str b t
  |_=>exact absurd (show Wn=Wm from fx) Ow
 |bl a=>
  cases ry;cases x with
  |non=>cases rx;exact SeqAt.EqAt.bool_none a
  |bl b=>cases rx;exact SeqAt.EqAt.bool_bool a b
  |int b=>obtain⟨t,rfl⟩:=rx;exact SeqAt.EqAt.bool_int a b t
  |str b=>obtain⟨t,rfl⟩:=rx;exact SeqAt.EqAt.bool_str a b t
  |_=>exact absurd (show Wn=Wm from fx) Ow
 |int a=>
  obtain⟨t',rfl⟩:=ry;cases x with
  |non=>cases rx;exact SeqAt.EqAt.int_none a t'
  |bl b=>cases rx;exact SeqAt.EqAt.int_bool a t' b
  |int b=>obtain⟨t,rfl⟩:=rx;exact SeqAt.EqAt.int_int a t' b t
  |str b=>obtain⟨t,rfl⟩:=rx;exact SeqAt.EqAt.int_str a t' b t
  |_=>exact absurd (show Wn=Wm from fx) Ow
 |str a=>
  obtain⟨t',rfl⟩:=ry;cases x with
  |non=>cases rx;exact SeqAt.EqAt.str_none a t'
  |bl b=>cases rx;exact SeqAt.EqAt.str_bool a t' b
  |int b=>obtain⟨t,rfl⟩:=rx;exact SeqAt.EqAt.str_int a t' b t
  |str b=>obtain⟨t,rfl⟩:=rx;exact SeqAt.EqAt.str_str a t' b t
  |_=>exact absurd (show Wn=Wm from fx) Ow
 |_=>exact absurd (show Wn=Wm from fy) Ow
noncomputable def eqU(x:V)(u:Yj):Bool:=match u with
 |.none=>eqV .non x
 |.bool b=>eqV (.bl b) x
 |.int i _=>eqV (.int i) x
 |.str z _=>eqV (.str z) x
 |_=>Wn
def ZmV{x y:V}{u:Yj}(r:RelV y u)(f:ZdD y=Wm):eqU x u=eqV y x:=by
 cases y with
 |non=>cases r;rfl
 |bl b=>cases r;rfl
 |int i=>obtain⟨t,rfl⟩:=r;rfl
 |str z=>obtain⟨t,rfl⟩:=r;rfl
 |_=>exact absurd (show Wn=Wm from f) Ow
theorem Zeo{x:V}:∀{xs:List V}{us:List Yj},Zk xs us->xs.all ZdD=Wm->us.any (eqU x)=xs.any λy=>eqV y x
 |_,_,.nil,_=>rfl
 |y::xs,u::us,.cons r t,f=>by rw[List.all_cons,Oa]at f;rw[YY,YY,ZmV r f.1,Zeo t f.2]
theorem Zc7{A:YE}{s:Yb}{x:V}{v:Yj}(rx:RelV x v)(fx:ZdD x=Wm):∀{xs:List V}{us:List Yj},Zk xs us->xs.all ZdD=Wm->∀u∈us,SeqAt.EqAt A s u v (eqU x u)
 |_,_,.nil,_=>λu hu=>by cases hu
 |y::xs,u::us,.cons r t,f=>λu' hu=>by
  rw[List.all_cons,Oa]at f;rcases O1.mp hu with rfl|hu
  . rw[ZmV r f.1];exact ZqV r rx f.1 fx
  . exact Zc7 rx fx t f.2 u' hu
noncomputable def inV(x:V)(xs:List V):Bool:=xs.any λy=>eqV y x
noncomputable def rIn(K:Yk)(neg:Bool):R2:=λx y H Q=>∃p xs,y=.ref p/\(SqL K H p xs\/SqT K H p xs)/\ZdD x=Wm/\xs.all ZdD=Wm/\Q (.bl (if neg then !inV x xs else inV x xs)) H
def Zk7:OpR X (YJ .In) (rIn X.K Wn):=by
 intro pins s Z H x y v u Q I rx ry h;obtain⟨p,xs,rfl,hq,fx,fs,q⟩:=h;cases ry;rcases hq with hq|hq
 . obtain⟨its,r,pl,hz⟩:=I.list hq;refine SeqAt.in_listAt (eqU x) pl.isList (λw hw=>Zc7 rx fx r fs w (by simpa using hw)) ⟨.bl _,H,I,rfl,?_⟩;rw[show its.toArray.any (eqU x)=its.any (eqU x) by simp,Zeo r fs];exact q
 . obtain⟨its,r,pl,hz⟩:=I.tuple hq;refine SeqAt.in_tupleAt (eqU x) pl (λw hw=>Zc7 rx fx r fs w (by simpa using hw)) ⟨.bl _,H,I,rfl,?_⟩;rw[show its.toArray.any (eqU x)=its.any (eqU x) by simp,Zeo r fs];exact q
def Zhe:OpR X (YJ .NotIn) (rIn X.K Wm):=by
 intro pins s Z H x y v u Q I rx ry h;obtain⟨p,xs,rfl,hq,fx,fs,q⟩:=h;cases ry;rcases hq with hq|hq
 . obtain⟨its,r,pl,hz⟩:=I.list hq;refine SeqAt.notIn_listAt (eqU x) pl.isList (λw hw=>Zc7 rx fx r fs w (by simpa using hw)) ⟨.bl _,H,I,rfl,?_⟩;rw[show its.toArray.any (eqU x)=its.any (eqU x) by simp,Zeo r fs];exact q
 . obtain⟨its,r,pl,hz⟩:=I.tuple hq;refine SeqAt.notIn_tupleAt (eqU x) pl (λw hw=>Zc7 rx fx r fs w (by simpa using hw)) ⟨.bl _,H,I,rfl,?_⟩;rw[show its.toArray.any (eqU x)=its.any (eqU x) by simp,Zeo r fs];exact q
def ZhK:Zb0 X (.builtin "len") (λxs H Q=>∃p ys,xs=[.ref p]/\(SqL X.K H p ys\/SqT X.K H p ys)/\Q (.int ys.length) H):=by
 intro pins s Z H xs us Q I r h;obtain⟨p,ys,rfl,hq,q⟩:=h;obtain⟨u,rfl,rx⟩:=vals1 r;cases rx;have hn:=Zbq;rcases hq with hq|hq
 . obtain⟨its,r',pl,hz⟩:=I.list hq;have hlen:=r'.length;exact Calls.call_len_list pl.isList (by simp only[Of]<;>lia) ⟨.int ys.length,H,I.tok _,⟨s.toks+1,by rw[Of,hlen]⟩,q⟩
 . obtain⟨its,r',pl,hz⟩:=I.tuple hq;have hlen:=r'.length;exact len_tuple pl (by simp only[Of]<;>lia) ⟨.int ys.length,H,I.tok _,⟨s.toks+1,by rw[Of,hlen]⟩,q⟩
def ZhJ:Zb0 X (.builtin "len") (λxs H Q=>∃z,xs=[.str z]/\z.length<=sizeLine/\Q (.int z.length) H):=by intro pins s Z H xs us Q I r h;obtain⟨z,rfl,hz,q⟩:=h;obtain⟨u,rfl,t,rfl⟩:=vals1 r;have hn:=Zbq;exact len_str (by lia) ⟨.int z.length,H,I.tok _,⟨_,rfl⟩,q⟩
def ZdI:Zb0 X (.type "tuple") (λxs H Q=>∃p ys,xs=[.ref p]/\((SqL X.K H p ys/\∀l,H l=Wl->Q (.ref l) (upd H l (.tup ys)))\/(SqT X.K H p ys/\Q (.ref p) H))):=by
 intro pins s Z H xs us Q I r h;obtain⟨p,ys,rfl,h⟩:=h;obtain⟨u,rfl,rx⟩:=vals1 r;cases rx;rcases h with ⟨hq,q⟩|⟨hq,q⟩
 . obtain⟨its,r',pl,hz⟩:=I.list hq;have hlen:=r'.length;refine call_tuple_list pl.isList (λh' kp=>?_) (by simp only[Of]<;>lia);have I1:Inv X pins Z H {s with heap:=h'}:=I.kept (t':=s.toks) kp;have I2:Inv X pins Z (upd H h'.objs.size (.tup ys)) {s with heap:=h'.push {cls:=.type "tuple",data:=.seq its.toArray}}:=I1.laid (t':=s.toks) (λb o e=>Od _ e) (Oq _) (show Z9 X.prog X.w _ _ _ (.tup ys)from⟨hz,its,r',Zbc.fresh _ _⟩)
   exact⟨.ref h'.objs.size,_,I2,rfl,q _ (I1.hok.fresh (Oq _))⟩
 . obtain⟨its,r',pl,hz⟩:=I.tuple hq;exact call_tuple_same pl ⟨.ref p,H,I,rfl,q⟩
def tyV(K:Yk)(T:String)(x:V)(H:Hp):Prop:=match x with
 |.str _=>T = "str"
 |.int _=>T = "int"
 |.ref p=>(T = "list" /\ ∃xs,SqL K H p xs)\/(T = "tuple" /\ ∃o,K.lookup p=Wj o/\o.cls=.type "tuple" /\ o.dict=Wl) \/
  (T = "dict" /\ ((∃kvs,H p=Wj (.dK kvs))\/∃kvs,H p=Wj (.dT kvs)))\/(T = "set" /\ ∃S_ n,H p=Wj (.set S_ n))
 |_=>False
def ZlF{pins:List (Yi×Obj)}{Z:St}{H:Hp}{s:Yb}{T:String}{x:V}{v:Yj}(I:Inv X pins Z H s)(r:RelV x v)(ty:tyV X.K T x H):
 s.TypeIs v T/\∀a,v=.ref a->∃ob,s.heap.get? a=Wj ob/\ob.dict=Wl:=by
 cases x with
 |str z=>obtain⟨t,rfl⟩:=r;cases (show T = "str" from ty);exact⟨typeIs_str s z t,λ_ e=>nomatch e⟩
 |int i=>obtain⟨t,rfl⟩:=r;cases (show T = "int" from ty);exact⟨typeIs_int s i t,λ_ e=>nomatch e⟩
 |ref p=>
  cases r;rcases ty with ⟨rfl,xs,hq⟩|⟨rfl,o,hk,hc,hd⟩|⟨rfl,hk⟩|⟨rfl,S_,n,hk⟩
  . obtain⟨its,_,pl,_⟩:=I.list hq;refine⟨pl.isList.typeIs,λa e=>?_⟩;cases e;obtain⟨o,n,e,c,hd,_⟩:=pl;exact⟨o,e,hd⟩
  . refine⟨⟨o,I.kIn p o hk,hc⟩,λa e=>?_⟩;cases e;exact⟨o,I.kIn _ o hk,hd⟩
  . have z:∃o,s.heap.get? p=Wj o/\o.ExactDict:=by
     rcases hk with ⟨kvs,hk⟩|⟨kvs,hk⟩
     . obtain⟨_,_,_,_,o,_,_,e,ex,_⟩:=I.hok p _ hk;exact⟨o,e,ex⟩
     . obtain⟨_,_,_,_,o,_,_,e,ex,_⟩:=I.hok p _ hk;exact⟨o,e,ex⟩
    obtain⟨o,e,ex⟩:=z;refine⟨⟨o,e,ex.1⟩,λa e2=>?_⟩;cases e2;exact⟨o,e,ex.2.1⟩
  . obtain⟨o,_,_,_,e,ex,_⟩:=I.hok p _ hk;refine⟨⟨o,e,ex.1⟩,λa e2=>?_⟩;cases e2;exact⟨o,e,ex.2.1⟩
 |_=>exact False.elim ty
noncomputable def Ztv(K:Yk)(T:String)(r:V->List V->Hp->VK->Prop)(to:TE):TE:=λZ H Q=>to Z H λx H1=>tyV K T x H1/\r x [] H1 Q
noncomputable def tBM(K:Yk)(T:String)(r:V->List V->Hp->VK->Prop)(to:TE)(t:TA):TE:=λZ H Q=>to Z H λx H1=>tyV K T x H1/\t Z H1 λxs H2=>r x xs H2 Q
variable {o e:Expr}{es:List Expr}{to:TE}{t:TA}{name:Str}{apos cpos:Pos}{T id:String}{r:V->List V->Hp->VK->Prop}
def Zqg(pa:PlainAttrs T)(slot:Slot T name id)(hty:typeOf (.builtin id)=pure (.type "method_descriptor"))(hm:MtR X id r)(ho:PE X o to)
 (hbase:attributeBase o name X.env (eval o X.env)=eval o X.env:=by rfl) (hline:(apos.endLine==cpos.line)=Wm:=by rfl):PE X (.Call (.Attribute o name apos) [] [] cpos) (Ztv X.K T r to):=by
 intro pins s Z H Q I h;refine wpAny_Call_method0_late hbase hline (thn (ho pins s Z H _ I h) λv s1 ⟨x,H1,I1,r1,ty,q1⟩=>?_);obtain⟨h1,h2⟩:=ZlF I1 r1 ty;exact⟨T,id,pa,slot,hty,h1,h2,Calls.callWith_builtin rfl (PySem.evalArgs_none (hm pins s1 Z H1 x [] v [] Q I1 r1 .nil q1))⟩
def Zr5(pa:PlainAttrs T)(slot:Slot T name id)(hty:typeOf (.builtin id)=pure (.type "method_descriptor"))(hm:MtR X id r)(ho:PE X o to)(ha:PA X (e::es) t)
 (hbase:attributeBase o name X.env (eval o X.env)=eval o X.env:=by rfl)
 (hfew:((YO cpos (Yw (e::es) X.env)).all (λx=>!x.1)&&(backToKw cpos (YW [] X.env)).all (λx=>x.1.isSome)
  && Wo ((e::es).length+([]:List Keyword).length+(if ([]:List Keyword).isEmpty then 0 else 1)<30))=Wm:=by rfl)
 (hline:(apos.endLine==cpos.line)=Wm:=by rfl) (hs:Yw (e::es) X.env=(Wn,eval e X.env)::Yw es X.env:=by rfl) (hplain:(YO cpos (Yw es X.env)).any (·.1)=Wn:=by rfl) :
 PE X (.Call (.Attribute o name apos) (e::es) [] cpos) (tBM X.K T r to t):=by
 intro pins s Z H Q I h;refine wpAny_Call_method_late hbase hfew hline rfl (thn (ho pins s Z H _ I h) λv s1 ⟨x,H1,I1,r1,ty,q1⟩=>?_);obtain⟨h1,h2⟩:=ZlF I1 r1 ty;refine⟨T,id,pa,slot,hty,h1,h2,?_⟩;have hA:=ha cpos pins s1 Z H1 _ I1 q1;rw[hs]at hA ⊢;refine Calls.callWith_builtin (by show(Wn || (YO cpos (Yw es X.env)).any (·.1))=Wn;rw[hplain]<;>rfl) (Calls.evalArgs_plain ?_);exact thn hA λus s2 ⟨vs,H2,I2,r2,q2⟩=>hm pins s2 Z H2 x vs v us Q I2 r1 r2 q2
end
def MtM(X:Cx)(id:String)(r:V->List V->Hp->VK->Prop):Prop:=
 ∀(pins:List (Yi×Obj)) (s:Yb) (Z:St) (H:Hp) (x:V) (xs:List V) (v:Yj) (us:List Yj) (Q:VK),Inv X pins Z H s->RelV x v->Zk xs us->r x xs H Q ->
  Yy (model X.prog X.w) X.A (call (.builtin id) (v::us)) (EP X pins Z Q) X.xe s
def Zk.one:∀{x:V}{us:List Yj},Zk [x] us->∃u,us=[u]/\RelV x u
 |_,_,.cons r .nil=>⟨_,rfl,r⟩
def Zk.zero:∀{us:List Yj},Zk [] us->us=[]
 |_,.nil=>rfl
theorem Zk.dropLast{xs:List V}{us:List Yj}(h:Zk xs us):Zk xs.dropLast us.dropLast:=by
 induction h with
 |nil=>exact .nil
 |cons r t ih=>
  cases t with
  |nil=>exact .nil
  |cons q t'=>exact .cons r ih
theorem Zk.reverse{xs:List V}{us:List Yj}(h:Zk xs us):Zk xs.reverse us.reverse:=by
 induction h with
 |nil=>exact .nil
 |cons r t ih=>rw[List.reverse_cons,List.reverse_cons];exact Zk.append ih (.cons r .nil)
def ZjW{α:Type}(l:List α):l.eraseIdx (l.length - 1)=l.dropLast:=by
 induction l with
 |nil=>rfl
 |cons a r ih=>
  cases r with
  |nil=>rfl
  |cons b r=>
   have e:(a::b::r).length - 1=((b::r).length - 1)+1:=by
    have h1:(a::b::r).length=r.length+2:=rfl;have h2:(b::r).length=r.length+1:=rfl
    lia
   rw[e,List.eraseIdx_cons_succ,ih]
   all_goals rfl
section
variable {X:Cx}{pins:List (Yi×Obj)}{Z:St}{H:Hp}{s:Yb}{l b:Yi}{xs ys zs:List V}
def Inv.lset{its its':List Yj}{n:Nat}{f:Array Yj->Array Yj}{t':Nat}(I:Inv X pins Z H s)(hH:H l=Wj (.lst xs))
 (e:s.heap.get? l=Wj {cls:=.type "list",data:=.seq its.toArray n}) (hf:f its.toArray=its'.toArray) (hv:Zk ys its') (hz:ys.length<=sizeLine) :
 Inv X pins Z (upd H l (.lst ys)) {s with heap:=s.heap.update l (Obj.mapSeq f),toks:=t'}:=by
 have q:=PySem.IsL.update e f;rw[hf]at q;refine I.write (x:=l) (e:=l) (by rw[hH];exact trivial) (.inl rfl) (λb' u hb hu=>(YK s.heap (Obj.mapSeq f) (YI hb)).trans hu) ⟨_,q⟩ ?_;exact⟨hz,its',_,hv,q⟩
def Inv.lnew{its:List Yj}{t':Nat}(I:Inv X pins Z H s)(hv:Zk ys its)(hz:ys.length<=sizeLine):
 Inv X pins Z (upd H s.heap.objs.size (.lst ys)) {s with heap:=s.heap.push {cls:=.type "list",data:=.seq its.toArray},toks:=t'}:=
 I.laid (λ_ _ q=>Od _ q) (Oq _) ⟨hz,its,0,hv,Oj _ rfl⟩
theorem Inv.fresh(I:Inv X pins Z H s):H s.heap.objs.size=Wl:=I.hok.fresh (Oq _)
def Inv.lstM(I:Inv X pins Z H s)(hH:H l=Wj (.lst xs)):xs.length<=sizeLine/\∃(its:List Yj) (n:Nat),Zk xs its/\xs.length=its.length/\s.heap.get? l=Wj {cls:=.type "list",data:=.seq its.toArray n}:=by obtain⟨z,its,n,r,e⟩:=I.hok l _ hH;exact⟨z,its,n,r,r.length,e⟩
def Ziw{n:Nat}(h:n<=sizeLine):Wh n=Wn:=by unfold Wh;exact decide_eq_false (by lia)
end
section
variable {X:Cx}
def ZnI:V->List V->Hp->VK->Prop:=λx vs H Q=>∃l xs y,x=.ref l/\vs=[y]/\H l=Wj (.lst xs)/\xs.length<sizeLine/\Q .non (upd H l (.lst (xs++[y])))
def ZgN:MtM X "list.append" ZnI:=by
 intro pins s Z H x vs v us Q I rx rv h;obtain⟨l,xs,y,rfl,rfl,hH,hz,q⟩:=h;cases rx;obtain⟨u,rfl,ru⟩:=rv.one;obtain⟨z,its,n,r,hl,e⟩:=I.lstM hH;refine call_meets F.slot_list_append ⟨_,e,rfl⟩ F.entry_list_append (F.args_list_append_2 _ _) (PySem.list_append l its.toArray n u (by rw[Of];lia)) ⟨e,?_⟩;refine⟨.non,_,I.lset (its':=its++[u]) hH e (by simp) (r.append (.cons ru .nil)) ?_,rfl,q⟩;rw[OA,List.length_singleton]
 lia
def ZnH:V->List V->Hp->VK->Prop:=λx vs H Q=>∃l b xs zs,x=.ref l/\vs=[.ref b]/\H l=Wj (.lst xs)/\H b=Wj (.lst zs)/\xs.length+zs.length<=sizeLine/\Q .non (upd H l (.lst (xs++zs)))
def Zld:MtM X "list.extend" ZnH:=by
 intro pins s Z H x vs v us Q I rx rv h;obtain⟨l,b,xs,zs,rfl,rfl,hH,hB,hz,q⟩:=h;cases rx;obtain⟨u,rfl,ru⟩:=rv.one;cases ru;obtain⟨z,its,n,r,hl,e⟩:=I.lstM hH;obtain⟨z2,its2,n2,r2,hl2,e2⟩:=I.lstM hB;have hsz:its.toArray.size+its2.toArray.size<=sizeLine:=by rw[Of,Of];lia
 have hlong:¬ (!its.toArray.isEmpty&&Wh (its.toArray.size+its2.toArray.size))=Wm:=by rw[Ziw hsz,Bool.and_false];exact Ow
 refine call_meets F.slot_list_extend ⟨_,e,rfl⟩ F.entry_list_extend (F.args_list_extend_2 _ _)
  (AutoSeq1.list_extend_list_list_0 l its.toArray n b its2.toArray n2 hlong (by rw[Of];lia) (by lia)) ⟨e,e2,?_⟩
 refine⟨.non,_,I.lset (its':=its++its2) hH e (by simp) (r.append r2) ?_,rfl,q⟩;rw[OA]
 lia
def ZtH:V->List V->Hp->VK->Prop:=λx vs H Q=>∃l xs y,x=.ref l/\vs=[]/\H l=Wj (.lst xs)/\xs[xs.length - 1]? = Wj y/\Q y (upd H l (.lst xs.dropLast))
def Zqu:MtM X "list.pop" ZtH:=by
 intro pins s Z H x vs v us Q I rx rv h;obtain⟨l,xs,y,rfl,rfl,hH,hy,q⟩:=h;cases rx;have hus:=rv.zero;subst hus;obtain⟨z,its,n,r,hl,e⟩:=I.lstM hH;obtain⟨u,hu,ru⟩:=r.get hy;have hy':its.toArray[its.toArray.size - 1]? = Wj u:=by show its.toArray[its.length - 1]? = Wj u;rw[<- Array.getElem?_toList,<- hl];exact hu
 refine call_meets F.slot_list_pop ⟨_,e,rfl⟩ F.entry_list_pop (F.args_list_pop_1 _) (MeetsSeq.list_pop_last l its.toArray n u hy' (by rw[Of];lia)) ⟨e,?_⟩;refine⟨y,_,I.lset (its':=its.dropLast) hH e ?_ r.dropLast ?_,ru,q⟩
 . show its.toArray.eraseIdxIfInBounds (its.toArray.size - 1)=its.dropLast.toArray;rw[Of,List.eraseIdxIfInBounds_toArray,ZjW]
 . rw[List.length_dropLast]
   lia
def Zl8:V->List V->Hp->VK->Prop:=λx vs H Q=>∃l xs,x=.ref l/\vs=[]/\H l=Wj (.lst xs)/\Q .non (upd H l (.lst xs.reverse))
def Zjv:MtM X "list.reverse" Zl8:=by
 intro pins s Z H x vs v us Q I rx rv h;obtain⟨l,xs,rfl,rfl,hH,q⟩:=h;cases rx;have hus:=rv.zero;subst hus;obtain⟨z,its,n,r,hl,e⟩:=I.lstM hH;refine call_meets F.slot_list_reverse ⟨_,e,rfl⟩ F.entry_list_reverse (F.args_list_reverse_1 _) (AutoSeq1.list_reverse_list_0 l its.toArray n (by rw[Of];lia)) ⟨e,?_⟩;refine⟨.non,_,I.lset (its':=its.reverse) hH e (by simp) r.reverse ?_,rfl,q⟩;rw[List.length_reverse]
 lia
def ZpV:V->List V->Hp->VK->Prop:=λx vs H Q=>∃l xs,x=.ref l/\vs=[]/\H l=Wj (.lst xs)/\Q .non (upd H l (.lst []))
def Zmx:MtM X "list.clear" ZpV:=by intro pins s Z H x vs v us Q I rx rv h;obtain⟨l,xs,rfl,rfl,hH,q⟩:=h;cases rx;have hus:=rv.zero;subst hus;obtain⟨z,its,n,r,hl,e⟩:=I.lstM hH;refine call_meets F.slot_list_clear ⟨_,e,rfl⟩ F.entry_list_clear (F.args_list_clear_1 _) (AutoSeq1.list_clear_list_0 l its.toArray n (by rw[Of];lia)) ⟨e,?_⟩;exact⟨.non,_,I.lset (its':=[]) (ys:=[]) hH e rfl .nil (Yv _),rfl,q⟩
noncomputable def ZtM:R2:=λx y H Q=>∃l b xs zs,x=.ref l/\y=.ref b/\H l=Wj (.lst xs)/\H b=Wj (.lst zs)/\xs.length+zs.length<=sizeLine/\∀p,H p=Wl->Q (.ref p) (upd H p (.lst (xs++zs)))
def Zqn:OpR X (binaryOp .Add) ZtM:=by
 intro pins s Z H x y v u Q I rx ry h;obtain⟨l,b,xs,zs,rfl,rfl,hH,hB,hz,q⟩:=h;cases rx;cases ry;obtain⟨z,its,n,r,hl,e⟩:=I.lstM hH;obtain⟨z2,its2,n2,r2,hl2,e2⟩:=I.lstM hB;refine PySem.P.add_list e e2 ?_ (by rw[Of,Of];lia);have ea:its.toArray++its2.toArray=(its++its2).toArray:=by simp
 rw[ea];exact⟨.ref _,_,I.lnew (t':=s.toks) (r.append r2) (by rw[OA];lia),rfl,q _ I.fresh⟩
end
end L2
namespace Att
open PySem PySem.W PySem.Calls PyProof.Rows
def Zfe{P:Params}{h:YD}:∀(ns:List Int) (vs:List Yj),WellAll P h vs (ns.map WData.int)->IntsAre vs ns:=by
 intro ns;induction ns with
 |nil=>intro vs w;rw[Oy]at w;cases w;exact .nil
 |cons n ns ih=>
  intro vs w;rw[Op]at w;cases w with
  |cons a b=>cases a;exact .cons _ _ (ih _ b)
def ZkS{l:OpenLaw}{n:Nat}(hn:l.most=Wj n){P:Params}{h:YD}{args:List WData}{vals:List Yj}
 (hpre:l.row.toRowW.claim.pre args=Wm) (hwl:WellAll P h vals args) :
 ∃a vs ns,vals=[YA a]/\args=[WData.list (ns.map WData.int)]/\h.get? a=Wj {cls:=.type "list",data:=.seq vs.toArray}/\IntsAre vs ns/\ns.length<=n:=by
 have hsh:WShape.hasAll [] args [.list .int]=Wm:=(pre_splitW hpre).1;have hc:l.pre.holds [] {args:=args}=Wm:=(pre_splitW hpre).2;obtain⟨d,r,rfl,h1,h2⟩:=hasAllW_cons hsh;obtain rfl:=hasAllW_nil h2;obtain⟨xs,rfl,h3⟩:=hasW_list h1;obtain⟨ns,rfl⟩:=items_int h3;have hlen:ns.length<=n:=by
  unfold OpenLaw.pre at hc;have h4:(WTm.not (.lt (.lit (.int (n:Int))) (.len (.arg 0)))).holds [] {args:=[.list (ns.map .int)]}=Wm:=by have h4:=(holds_andW hc).1;rw[hn]at h4;exact h4
  have h5:=condW_of h4 (w_not (w_lt w_lit (w_len_list (w_arg rfl))));rw[Ys]at h5;refine Nat.le_of_not_lt λq=>?_;have q':(n:Int)<((ns.length:Nat):Int):=by lia
  first
   |(rw[decide_eq_true q']at h5;exact absurd h5 (by decide))
   |(simp at h5;lia)
 cases hwl with
 |cons w1 w2=>
  cases w2;cases w1 with
  |list ho hall=>exact⟨_,_,ns,rfl,rfl,ho,Zfe ns _ hall,hlen⟩
def Zk0(l:OpenLaw)(args:List WData):l.row.toRowW.claim.post args (.bool Wm) args=Wm:=
 postW_of (r:=l.row.toRowW) (X:=(Wm==Wm))
  (show WShape.has [] (.bool Wm) .bool=Wm by first|rfl|decide|simp[WShape.has,WShape.arms,WShape.armsAll])
  (show(WTm.eq .res (.lit (.bool Wm))).value [] {args:=args,res:=Wj (.bool Wm),after:=args}=Wj (.bool (Wm==Wm))from w_eq_bool (w_res rfl) w_lit) rfl
def Zjb{l:OpenLaw}{n:Nat}{q:Yh}{loose:List Str}{XP:(Str->Option Yj)->YD->Prop}{YP:Yg->YD->Prop}{d:DefRec}
 (hn:l.most=Wj n) (hdf:d.params.defaults=[])
 (call:∀(w:Yg) (s₀ s₁:Yb) (mg mb:Str->Option Yj) (fa:Yi) (o:Obj) (pm cd doc:Yj) (a:Yi) (vs:List Yj) (ns:List Int),
  Ground q loose [] XP w s₀ mg mb s₁.heap->YP w s₁.heap ->
  s₁.heap.get? fa=Wj o->o.data=.func (docDef d.name d.params d.body d.scope pm cd doc)->s₁.heap.CodeRec cd d.name->mg d.name=Wj (.ref fa) ->
  s₁.heap.get? a=Wj {cls:=.type "list",data:=.seq vs.toArray}->IntsAre vs ns->ns.length<=n->s₁.gens=#[] ->
  codeAny (model l.prog w) callerA (.call (.ref fa) ⟨[.ref a],[]⟩) (λr s'=>r=.ok (.ret (.bool Wm))/\OldK s₁.heap s'.heap/\s'.os=s₁.os/\AllBare s'.gens) s₁) :
 WalkO q loose XP YP l.row.toRowW d [] (λf vs=>PySem.call f vs):=by
 intro w s₀ s₁ mg mb G Y fa o pm cd doc dV kV ho hd hcd hD hmg hg args vals as hpre hlay hrd hwl hlo;obtain rfl:dV=.none:=Dflts.none hD hdf;obtain rfl:kV=.none:=Dflts.noKw hD;obtain⟨a,vs,ns,rfl,rfl,hobj,hints,hlen⟩:=ZkS hn hpre hwl;refine enter_call (codeAny_mono (call w s₀ s₁ mg mb fa o pm cd doc a vs ns G Y ho (fd_plain hd) hcd hmg hobj hints hlen hg) λr s' hq=>?_);obtain⟨rfl,h2,h3,h4⟩:=hq;exact⟨.inl ⟨.bool Wm,.bool Wm,[],rfl,λ_=>rfl,.bool Wm,Zk0 l _,λ_=>⟨List.Pairwise.nil,λ_ hm=>(nomatch hm)⟩⟩,h2,h3,h4⟩
end Att
namespace L2
open PySem PySem.Spec PyProof.Rows
theorem ZgE:∀{vs:List Yj}{ns:List Int},IntsAre vs ns->Zk (ns.map V.int) vs
 |_,_,.nil=>.nil
 |_,_,.cons n t h=>.cons ⟨t,rfl⟩ (ZgE h)
def ZoX(H:Hp):Prop:=∀b,H b=Wl\/∃o xs,H b=Wj (.frz o (.lst xs))
theorem ZmB{P:Yh}{w:Yg}{K:Yk}{mg mb:Str->Option Yj}{CX:CXT}{k:Nat}{fa a:Yi}{fd:FuncData}{x:Str}{sp:Sp}{s₁:Yb}{vs:List Yj}{ns:List Int}
   (KX:K.In s₁.heap) (hns:s₁.heap.Ns Yd mg) (hb:s₁.heap.Ns builtinsNs mb) (hbb:∀ x:Str,x ≠ "__name__" -> mb x=bootBuiltins x) (hlim:s₁.heap.NoLimit) (hg:s₁.gens=#[])
   (ha:s₁.heap.get? a=Wj {cls:=.type "list",data:=.seq vs.toArray}) (hi:IntsAre vs ns) (hl:ns.length<=sizeLine) (hr:Room k callerA)
   (F:∀ base:YD,K.In base->base.Ns Yd mg->FnOk P w K mg base CX k fa fd [x] sp) (hbind:∀ (s:Yb) (u:Yj),BindsTo s fd ⟨[u],[]⟩ [(x,u)])
   (hsp:∀ H:Hp,ZoX H->SqL K H a (ns.map V.int)->sp [.ref a] H (fun v _=>v=.bl Wm) fun _ _ _=>False)
   (hCX:∀ H e s',CX [] H s₁ (fun _ _ _=>False) e s'->False) :
   codeAny (model P w) callerA (.call (.ref fa) ⟨[.ref a],[]⟩) (fun r s'=>r=.ok (.ret (.bool Wm))/\OldK s₁.heap s'.heap/\s'.os=s₁.os/\AllBare s'.gens) s₁:=by
 have rv:=ZgE hi;have lenV:=hi.length;have core:∀ H:Hp,ZoX H->SqL K H a (ns.map V.int)->HOk P w H s₁.heap->(∀ b,H b≠Wl->b=a)->(H a≠Wl->K.lookup a=Wl) ->
     codeAny (model P w) callerA (.call (.ref fa) ⟨[.ref a],[]⟩) (fun r s'=>r=.ok (.ret (.bool Wm))/\OldK s₁.heap s'.heap/\s'.os=s₁.os/\AllBare s'.gens) s₁:=by
   intro H hO hS hok hA hK;have base_of:∀ {b:Yi}{o:Obj},s₁.heap.get? b=Wj o->H b=Wl->(ZhG s₁.heap H).get? b=Wj o:=fun e n=>ZmK e n;have noA:∀ {b:Yi}{o:Obj}{es:Array DictEntry}{ep:Nat},s₁.heap.get? b=Wj o->o.data=.dict es ep->H b=Wl:=fun {b o es ep} e d=>by
     cases q:H b with
     | none=>rfl
     | some u =>
       have e':b=a:=hA b (by rw [q];simp);subst e';rw [ha] at e;cases e;have d':Data.seq vs.toArray _=Data.dict es ep:=d;cases d'
   have nsK:∀ {b:Yi}{m:Str->Option Yj},s₁.heap.Ns b m->(ZhG s₁.heap H).Ns b m:=fun {b m} ⟨o,es,ep,e,d,r⟩=>⟨o,es,ep,base_of e (noA e d),d,r⟩
   have hKb:K.In (ZhG s₁.heap H):=fun b o e=>base_of (KX b o e) (by
     cases q:H b with
     | none=>rfl
     | some u =>
       have e':b=a:=hA b (by rw [q];simp);subst e';rw [hK (by rw [q];simp)] at e;cases e)
   have hM:Mod K mg (ZhG s₁.heap H):=⟨hKb,nsK hns,⟨mb,nsK hb,hbb⟩,let ⟨mc,h1,h2⟩:=hlim;⟨mc,nsK h1,h2⟩⟩
   have e0:Env0 P w K mg (ZhG s₁.heap H) callerA [] s₁ H:=⟨rfl,hM,fun b o e=>Zok e,Nat.le_of_eq (Zlo _ _),trivial,fun b hb=>absurd (show b∈([]:List Yi) from hb) (by simp),hok,.of_eq hg⟩
   refine codeAny_mono ((F _ hKb (nsK hns)).run callerA [] s₁ H ⟨[.ref a],[]⟩ [.ref a] [.ref a] _ _ hr e0 (hbind s₁ (.ref a)) (.cons rfl .nil) (hsp H hO hS)) fun r s' h=>?_;cases r with
   | error e=>exact (hCX H e s' h).elim
   | ok fl =>
     cases fl with
     | next=>exact False.elim h
     | brk=>exact False.elim h
     | cont=>exact False.elim h
     | ret u =>
       obtain ⟨v,H',os,bare,un,hok',r',q⟩:=h;have q':v=.bl Wm:=q;subst q';obtain rfl:u=Value.bool Wm:=r';refine ⟨rfl,OldK.of_keep fun b o e=>?_,os,bare⟩;cases q:H b with
       | none=>exact un.keep b o e q (by intro z;exact absurd (show b∈([]:List Yi) from z) (by simp)) (by simp)
       | some u =>
         rcases hO b with z|⟨ob,xs,z⟩
         . rw [q] at z;cases z
         . have z2:=un.frzs b ob _ z;obtain ⟨e1,_⟩:=hok b _ z;obtain ⟨e2,_⟩:=hok' b _ z2;rw [e] at e1;cases e1;exact e2
 cases hk:K.lookup a with
 | some o =>
   have e:=KX a o hk;rw [ha] at e;cases e;refine core (fun _=>Wl) (fun _=>.inl rfl) (.inr ⟨_,vs.toArray,_,hk,rfl,rfl,rfl,by rw [Of,lenV];exact hl,by simpa using rv⟩) (fun b u z=>by have z':(Wl:Option HO)=Wj u:=z;cases z') (fun b z=>absurd rfl z) fun z=>absurd rfl z
 | none =>
   refine core (fun b=>if b=a then Wj (.frz {cls:=.type "list",data:=.seq vs.toArray} (.lst (ns.map V.int))) else Wl) (fun b=>?_) (.inl (.inr ⟨{cls:=.type "list",data:=.seq vs.toArray},if_pos rfl⟩)) (fun b u z=>?_) (fun b z=>?_) fun _=>hk
   . by_cases hb:b=a
     . exact .inr ⟨_,_,if_pos hb⟩
     . exact .inl (if_neg hb)
   . by_cases hb:b=a
     . have z':=(if_pos hb).symm.trans z;cases z';subst hb;exact ⟨ha,by rw [Ys];exact hl,vs,_,rv,ha⟩
     . have z':=(if_neg hb).symm.trans z;cases z'
   . by_cases hb:b=a
     . exact hb
     . exact absurd (if_neg hb) z
def Znn{l:PySem.W.OpenLaw}{n k:Nat}{q:Yh}{loose:List Str}{XP:(Str->Option Yj)->YD->Prop}{YP:Yg->YD->Prop}{d:DefRec}{K:Params->Yk}{CX:Yg->CXT}{sp:Yg->Sp}{x:Str}
 (hn:l.most=Wj n) (hn2:n<=sizeLine) (hdf:d.params.defaults=[]) (hr:Room k callerA)
 (hY:∀(w:Yg) (h:YD),YP w h->(K w.params).In h)
 (F:∀(w:Yg) (mg:Str->Option Yj) (fa:Yi) (h:YD),(K w.params).In h->h.Ns Yd mg->mg d.name=Wj (.ref fa) ->
  ∃fd:FuncData,(∀(s:Yb) (u:Yj),BindsTo s fd ⟨[u],[]⟩ [(x,u)]) /\
   ∀base:YD,(K w.params).In base->base.Ns Yd mg->FnOk l.prog w (K w.params) mg base (CX w) k fa fd [x] (sp w))
 (hsp:∀(w:Yg) (H:Hp) (a:Yi) (ns:List Int),ns.length<=n->ZoX H->SqL (K w.params) H a (ns.map V.int)->sp w [.ref a] H (λv _=>v=.bl Wm) λ_ _ _=>False)
 (hCX:∀(w:Yg) (H:Hp) (s:Yb) (e:Yj) (s':Yb),CX w [] H s (λ_ _ _=>False) e s'->False) :
 PySem.W.WalkO q loose XP YP l.row.toRowW d [] (λf vs=>PySem.call f vs):=by
 refine Att.Zjb hn hdf λw s₀ s₁ mg mb fa o pm cd doc a vs ns G Y ho hd hcd hmg hobj hints hlen hg=>?_;have KX:=hY w _ Y;obtain⟨fd,hb,hF⟩:=F w mg fa _ KX G.T.g hmg;exact ZmB KX G.T.g G.T.b G.T.builtins G.T.nolimit hg hobj hints (OE hlen hn2) hr hF hb (λH hO hS=>hsp w H a ns hlen hO hS) λH e s'=>hCX w H s₁ e s'
noncomputable def inClass(s:Stmt)(j:Nat):Stmt:=match s with
 |.ClassDef _ _ _ body _ _ _ _ _ _ _=>body.getD j (.Pass ⟨0,0,0,0⟩)
 |_=>.Pass ⟨0,0,0,0⟩
noncomputable def Zdp(s:Stmt):Arguments:=match s with
 |.FunctionDef _ a _ _ _ _ _ _ _ _=>a
 |_=>{posonlyargs:=[],args:=[],vararg:=Wl,kwonlyargs:=[],kw_defaults:=[],kwarg:=Wl,defaults:=[]}
noncomputable def ZbW(s:Stmt):List Stmt:=match s with
 |.FunctionDef _ _ b _ _ _ _ _ _ _=>b
 |_=>[]
noncomputable def ZT(s:Stmt):Scope:=match s with
 |.FunctionDef _ _ _ _ _ _ sc _ _ _=>sc
 |_=>{kind:=.function,names:=[],isGenerator:=false,isCoroutine:=false}
structure Fun(K:Yk)(x qual:Str)(st:Stmt)(f:Yi)(fd:FuncData):Prop where
 ex:∃(oc:Yj) (od:Option Yi) (kV doc pm:Yj) (an:Option Yi) (cdv ct:Yj) (osl:Array (Option Yj)),
  fd=PySem.W.fnOf x qual (Zdp st) (ZbW st) (ZT st) .none kV doc pm an cdv ct/\K.lookup f=Wj ⟨oc,od,.func fd,osl⟩/\PySem.W.codeIn K cdv qual=Wm
 kp:YZ K (.ref f)=Wm
section
variable {P:Yh}{w:Yg}{K:Yk}{mg:Str->Option Yj}{base:YD}
def Fun.binds{x qual:Str}{st:Stmt}{f:Yi}{fd:FuncData}{ps:List Str}(F:Fun K x qual st f fd)
 (h:∀(kV doc pm:Yj) (an:Option Yi) (cdv ct:Yj) (us:List Yj),us.length=ps.length->bindArgs (PySem.W.fnOf x qual (Zdp st) (ZbW st) (ZT st) .none kV doc pm an cdv ct) ⟨us,[]⟩=pure (ps.zip us)):Binds K fd ps []:=by
 obtain⟨oc,od,kV,doc,pm,an,cdv,ct,osl,rfl,lk,hcd⟩:=F.ex;exact .all (h kV doc pm an cdv ct)
def ZmN{x qual:Str}{st:Stmt}{f:Yi}{oc:Yj}{od an:Option Yi}{osl:Array (Option Yj)}{kV doc pm cdv ct:Yj}(l:K.lookup f=Wj ⟨oc,od,.func (PySem.W.fnOf x qual (Zdp st) (ZbW st) (ZT st) .none kV doc pm an cdv ct),osl⟩)
 (c:PySem.W.codeIn K cdv qual=Wm) (k:YZ K (.ref f)=Wm):Fun K x qual st f (PySem.W.fnOf x qual (Zdp st) (ZbW st) (ZT st) .none kV doc pm an cdv ct):=⟨⟨oc,od,kV,doc,pm,an,cdv,ct,osl,rfl,l,c⟩,k⟩
end
def ZjP{A B_:Prop}(h:B_):if Wn=Wm then A else B_:=by rw[if_neg Ow];exact h
def ZjO{A B_:Prop}(h:A):if Wm=Wm then A else B_:=by rw[if_pos rfl];exact h
end L2
end
section
set_option tactic.hygienic false
namespace L2
open PySem PySem.Spec PyProof.Rows
section
variable {κ:Type} [DecidableEq κ]
noncomputable def ZdU(kvs:List (κ×V))(k:κ):Option V:=(kvs.find? λkv=>Wo (kv.1=k)).map (·.2)
noncomputable def putK(kvs:List (κ×V))(k:κ)(v:V):List (κ×V):=if (kvs.any λkv=>Wo (kv.1=k))=Wm then kvs.map (λkv=>if kv.1=k then(kv.1,v)else kv)else kvs++[(k,v)]
def ZlB{p:κ×V}{r:List (κ×V)}{k:κ}(e:p.1=k):ZdU (p::r) k=Wj p.2:=by simp[ZdU,List.find?_cons,e]
def ZlC{p:κ×V}{r:List (κ×V)}{k:κ}(e:¬ p.1=k):ZdU (p::r) k=ZdU r k:=by simp[ZdU,List.find?_cons,e]
def ZeY(kvs:List (κ×V))(k:κ)(v:V):(putK kvs k v).length<=kvs.length+1:=by
 unfold putK;split
 . rw[Ys];lia
 . rw[OA,Os,List.length_nil];lia
def Zep.isSome_eq{o:Option V}{u:Option Yj}(r:Zep o u):o.isSome=u.isSome:=by
 cases o with
 |none=>cases u with
  |none=>rfl
  |some _=>exact(show False from r).elim
 |some _=>cases u with
  |none=>exact(show False from r).elim
  |some _=>rfl
def KV.val{kvs:List (κ×V)}{vs:List (κ×Yj)}(r:KV kvs vs)(k:κ):Zep (ZdU kvs k) (valueAt vs k):=by
 unfold KV at r;induction r with
 |nil=>exact True.intro
 |@cons p q ps qs h t ih=>
  obtain⟨h1,h2⟩:=h;by_cases e:p.1=k
  . have e':q.1=k:=h1.symm.trans e;have b:valueAt (q::qs) k=Wj q.2:=by simp[valueAt,List.find?_cons,e']
    rw[ZlB e,b];exact h2
  . have e':¬ q.1=k:=λz=>e (h1.trans z);have b:valueAt (q::qs) k=valueAt qs k:=by simp[valueAt,List.find?_cons,e']
    rw[ZlC e,b];exact ih
theorem KV.any{kvs:List (κ×V)}{vs:List (κ×Yj)}(r:KV kvs vs)(k:κ):(kvs.any λkv=>Wo (kv.1=k))=vs.any λkv=>Wo (kv.1=k):=by
 unfold KV at r;induction r with
 |nil=>rfl
 |cons h t ih=>rw[YY,YY,ih,h.1]
def KV.repl{kvs:List (κ×V)}{vs:List (κ×Yj)}(r:KV kvs vs)(k:κ){y:V}{u:Yj}(ry:RelV y u):
 KV (kvs.map λkv=>if kv.1=k then(kv.1,y)else kv) (vs.map λkv=>if kv.1=k then(kv.1,u)else kv):=by
 unfold KV at r ⊢;induction r with
 |nil=>exact .nil
 |@cons p q ps qs h t ih=>
  rw[Op,Op];refine .cons ?_ ih;obtain⟨h1,h2⟩:=h;by_cases e:p.1=k
  . rw[if_pos e,if_pos (h1.symm.trans e)];exact⟨h1,ry⟩
  . rw[if_neg e,if_neg (λz=>e (h1.trans z))];exact⟨h1,h2⟩
def KV.put{kvs:List (κ×V)}{vs:List (κ×Yj)}(r:KV kvs vs)(k:κ){y:V}{u:Yj}(ry:RelV y u):KV (putK kvs k y) (stored vs k u):=by
 unfold putK stored;rw[r.any k];by_cases e:(vs.any λkv=>Wo (kv.1=k))=Wm
 . rw[if_pos e,if_pos e];exact r.repl k ry
 . rw[if_neg e,if_neg e];exact Paired.snoc r ⟨rfl,ry⟩
theorem KV.length{kvs:List (κ×V)}{vs:List (κ×Yj)}(r:KV kvs vs):kvs.length=vs.length:=Paired.length r
end
def ZiI{P:Yh}{w:Yg}{k:Key}{u:Yj}(r:RelV (kV k) u):(ZY P w).is k u=Wm:=by
 cases k with
 |inl i=>obtain⟨t,e⟩:=(show ∃t,u=Value.int i t from r);subst e;exact ZiA P w i t
 |inr x=>obtain⟨t,e⟩:=(show ∃t,u=Value.str x t from r);subst e;exact Ziz P w x t
section
variable {P:Yh}{w:Yg}{H:Hp}{h:YD}{a:Yi}
def ZrJ{u:HO}(ok:HOk P w H h)(e:Rd H a u):Z9 P w H h a u:=e.ok ok
def Zpf{kvs:List (Key×V)}(ok:HOk P w H h)(e:Rd H a (.dK kvs)):kvs.length<=sizeLine/\(a==Ye)=Wn/\∃vs,KV kvs vs/\h.DictOf (ZY P w) a vs:=show Z9 P w H h a (.dK kvs)from ZrJ ok e
def Zpg{kvs:List (Key×V)}(ok:HOk P w H h)(e:H a=Wj (.dK kvs)):kvs.length<=sizeLine/\(a==Ye)=Wn/\∃vs,KV kvs vs/\h.DictOf (ZY P w) a vs:=Zpf ok (.inl e)
end
section
variable {X:Cx}{pins:List (Yi×Obj)}{Z:St}{H:Hp}{s:Yb}{a:Yi}{y v:V}{u r:Yj}{o:Option V}{A:YE}{E:Yj->Yb->Prop}
def Inv.big(I:Inv X pins Z H s):Ye<s.heap.objs.size:=by have h:Yd<s.heap.objs.size:=(I.mod.glob.keeps I.bk).lt;exact Nat.lt_trans (by decide) h
def ZkE{h':YD}{t':Nat}{ob:HO}(I:Inv X pins Z H s)(mu:Mut (H a))(hs:Heap.SameBut a s.heap h')(he:∃q,h'.get? a=Wj q)(new:Z9 X.prog X.w (upd H a ob) h' a ob):
 Inv X pins Z (upd H a ob) {s with heap:=h',toks:=t'}:=
 I.write (x:=a) (e:=a) mu (.inl rfl) (λb q hb z=>(hs.2 b hb).trans z) he new
def Zm0{P:Yh}{w:Yg}{H':Hp}{h':YD}{kvs:List (Key×V)}{vs:List (Key×Yj)}(z:kvs.length<=sizeLine)(hd:(a==Ye)=Wn)(rel:KV kvs vs)(dd:h'.DictOf (ZY P w) a vs):
 Z9 P w H' h' a (.dK kvs):=⟨z,hd,vs,rel,dd⟩
end
def ZiT{P:Yh}{w:Yg}{H:Hp}(h:YD)(hb:Ye<h.objs.size):Z9 P w H (h.push {cls:=.type "dict",data:=.dict #[]}) h.objs.size (.dK []):=⟨Yv _,beq_eq_false_iff_ne.mpr (YI (Ou hb)),[],.nil,Heap.DictOf.new h⟩
noncomputable def ZpE:TE:=λ_ H Q=>∀p,H p=Wl->Q (.ref p) (upd H p (.dK []))
section
variable {X:Cx}{pos:Pos}
def Zmp:PE X (.Dict [] [] pos) ZpE:=λpins s Z H Q I h=>wpAny_Dict_empty ⟨.ref s.heap.objs.size,_,I.laid (a:=s.heap.objs.size) (o:=.dK []) (t':=s.toks) (λ_ _ q=>Od _ q) (Oq _) (ZiT s.heap I.big),rfl,h _ (I.hok.fresh (Oq _))⟩
end
def Zg7:List (TE×TE)->St->Hp->(List (V×V)->Hp->Prop)->Prop
 |[],_,H,Q=>Q [] H
 |(tk,tv)::r,Z,H,Q=>tk Z H λx H1=>tv Z H1 λy H2=>Zg7 r Z H2 λps H3=>Q ((x,y)::ps) H3
abbrev VV:List (V×V)->List (Yj×Yj)->Prop:=Paired λp q=>RelV p.1 q.1/\RelV p.2 q.2
def PPs(X:Cx)(pos:Pos)(keys:List (Option Expr))(values:List Expr)(trs:List (TE×TE)):Prop:=
 ∀(pins:List (Yi×Obj)) (s:Yb) (Z:St) (H:Hp) (Q:List (V×V)->Hp->Prop),Inv X pins Z H s->Zg7 trs Z H Q ->
  Yy (model X.prog X.w) X.A (evalPairs (pairTrees keys values X.env pos)) (λvs s'=>∃ps H',Inv X pins Z H' s'/\VV ps vs/\Q ps H') X.xe s
def ZnP{X:Cx}{pos:Pos}:PPs X pos [] [] []:=λpins s Z H Q I h=>pairTrees_nil_walk ⟨[],H,I,.nil,h⟩
def Zmg{X:Cx}{pos:Pos}{k v:Expr}{ks:List (Option Expr)}{vs:List Expr}{tk tv:TE}{trs:List (TE×TE)}(hk:PE X k tk)(hv:PE X v tv)(hr:PPs X pos ks vs trs):
 PPs X pos (Wj k::ks) (v::vs) ((tk,tv)::trs):=λpins s Z H Q I h=>
 pairTrees_cons_walk (thn (hk pins s Z H _ I h) λu s1 ⟨x,H1,I1,rx,q1⟩=>thn (hv pins s1 Z H1 _ I1 q1) λw2 s2 ⟨y,H2,I2,ry,q2⟩=>thn (hr pins s2 Z H2 _ I2 q2) λws s3 ⟨ps,H3,I3,rel,q3⟩=>⟨(x,y)::ps,H3,I3,.cons ⟨rx,ry⟩ rel,q3⟩)
noncomputable def ZdM(kvs more:List (Key×V)):List (Key×V):=more.foldl (λacc kv=>putK acc kv.1 kv.2) kvs
def KV.merge:∀{more:List (Key×V)}{rs:List (Key×Yj)}{kvs:List (Key×V)}{vs:List (Key×Yj)},KV more rs->KV kvs vs->KV (ZdM kvs more) (merged vs rs):=by
 intro more rs kvs vs r;unfold KV at r;induction r generalizing kvs vs with
 |nil=>intro q;exact q
 |@cons p q ps qs h t ih=>
  intro r0;have e:KV (putK kvs p.1 p.2) (stored vs q.1 q.2):=by have:=r0.put p.1 h.2;rw[<- h.1];exact this
  exact ih e
theorem ZdC:∀(more kvs:List (Key×V)),(ZdM kvs more).length<=kvs.length+more.length
 |[],kvs=>by show kvs.length<=kvs.length+0;lia
 |p::r,kvs=>by have h1:=ZdC r (putK kvs p.1 p.2);have h2:=ZeY kvs p.1 p.2;show(ZdM (putK kvs p.1 p.2) r).length<=_;rw[Os];lia
theorem Zgf{P:Yh}{w:Yg}:∀{kvs:List (Key×V)}{ws:List (Yj×Yj)},VV (kvs.map λkv=>(kV kv.1,kv.2)) ws->∃rs,Carries (ZY P w) ws rs/\KV kvs rs
 |[],_,r=>by rw[Oy]at r;cases r;exact⟨[],True.intro,.nil⟩
 |p::kvs,_,r=>by
  rw[Op]at r;cases r with
  |@cons a b as bs h t=>obtain⟨rs,c,q⟩:=Zgf (P:=P) (w:=w) t;obtain⟨b1,b2⟩:=b;exact⟨(p.1,b2)::rs,⟨ZiI h.1,rfl,c⟩,.cons ⟨rfl,h.2⟩ q⟩
noncomputable def ZrB(trs:List (TE×TE)):TE:=λZ H Q=>∀p,H p=Wl->Zg7 trs Z (upd H p (.dK [])) λps H2=>H2 p=Wj (.dK [])/\∃kvs:List (Key×V),ps=kvs.map (λkv=>(kV kv.1,kv.2))/\kvs.length<=15/\Q (.ref p) (upd H2 p (.dK (ZdM [] kvs)))
def ZnZ{X:Cx}{pos:Pos}{keys:List (Option Expr)}{values:List Expr}{trs:List (TE×TE)}(h:PPs X pos keys values trs)(hall:keys.all (·.isSome)=Wm)(hl:keys.length=values.length)(h0:keys≠[])
 (h15:keys.length<=15):PE X (.Dict keys values pos) (ZrB trs):=by
 intro pins s Z H Q I q;have hn:=I.hok.fresh (Oq s.heap.objs.size);have I1:=I.laid (a:=s.heap.objs.size) (o:=.dK []) (h':=s.heap.push {cls:=.type "dict",data:=.dict #[]}) (t':=s.toks) (λ_ _ q=>Od _ q) (Oq _) (ZiT s.heap I.big);refine wpAny_Dict_walk (knd:=ZY X.prog X.w) hall hl h0 h15 (thn (h pins _ Z _ _ I1 (q _ hn)) λws s2 ⟨ps,H2,I2,rel,e,kvs,ep,lk,q2⟩=>?_);subst ep;obtain⟨rs,c,rk⟩:=Zgf (P:=X.prog) (w:=X.w) rel;obtain⟨z,hd,vs0,r0,dd⟩:=Zpg I2.hok e;cases r0;refine⟨rs,c,dd,λh' dd' hs=>⟨.ref s.heap.objs.size,_,?_,rfl,q2⟩⟩;have hz:(ZdM [] kvs).length<=sizeLine:=by have h1:=ZdC kvs [];rw[List.length_nil]at h1;rw[Yz];lia
 have he:∃q,h'.get? s.heap.objs.size=Wj q:=let ⟨q,_,_,hq,_⟩:=dd';⟨q,hq⟩;exact ZkE I2 (by rw[e];exact True.intro) hs he (Zm0 hz hd (rk.merge .nil) dd')
end L2
end
section
namespace L2
open PySem PySem.Spec PyProof.Rows
noncomputable def Its(x:Str):It:=⟨λi _=>i<x.cps.size,λi H v H'=>H'=H/\∃c,x.cps[i]? = Wj c/\v=.str ⟨#[c]⟩,λi _=>i=x.cps.size⟩
def ZqL{M:Model}{A:YE}{E:Yj->Yb->Prop}{s:Yb}{tg:Expr}{it:Yi}{x:Str}{t:Tok}{Q:Unit->Yb->Prop}(hQ:Q () s):Yy M A (letOwnedTupleGo tg (.ref it) (.str x t)) Q E s:=by unfold letOwnedTupleGo;cases tg<;>exact Yc hQ
def Zih{P:Yh}{w:Yg}{K:Yk}{tg:Expr}{it:Yi}{x:Str}{t:Tok}{ty:String}
 (W:∀A':YE,A'.handled=Wl->Walks P w A' it [it] [it] x.cps.size (SignAt x) (λi h=>h.IsStrIter it ty x t i))
 (hself:∀(A:YE) (i:Nat) (s:Yb) (Q:Yj->Yb->Prop) (E:Yj->Yb->Prop),s.heap.IsStrIter it ty x t i->Q (.ref it) s->Yy (model P w) A (pyIter (.ref it)) Q E s) :
 Turn P w K tg (Its x) [it] it (λi h=>h.IsStrIter it ty x t i) where
 mem:=by simp
 obj:=λi h st b hb=>by
  have e:b=it:=by simpa using hb
  subst e;obtain⟨o,e,c,d⟩:=st;exact⟨o,e,λv z=>by rw[d]at z;cases z⟩
 keep:=λi h h' st k=>by obtain⟨o,e,r⟩:=st;exact⟨o,k it (by simp) o e,r⟩
 item:=by intro X hP hw hK hc i pins s Z H E I hf st hg;subst hP hw hK;obtain⟨f0,f1,f2,f3,f4,f5⟩:=hf it (by simp);refine(W X.A (I.ok.hd hc)).item i s _ _ hg st λv h' tk hv st' kk=>?_;obtain⟨c,u,hcx,rfl⟩:=hv;have I1:Inv X pins Z H {s with heap:=h',toks:=tk}:=I.turned (λb o hb e=>kk b o (by simpa using hb) e) f0 f1 f3 f4 f5;exact⟨_,rfl,ZqL ⟨.str ⟨#[c]⟩,H,I1,⟨u,rfl⟩,⟨rfl,c,hcx,rfl⟩,st',λb hb=>(hf b hb).1⟩⟩
 done:=by intro X hP hw hK hc i pins s Z H E I hf st hg;subst hP hw hK;obtain⟨f0,f1,f2,f3,f4,f5⟩:=hf it (by simp);have e:i=x.cps.size:=hg;subst e;exact(W X.A (I.ok.hd hc)).done s _ _ st λh' tk kk=>⟨rfl,I.turned (λb o hb e=>kk b o (by simpa using hb) e) f0 f1 f3 f4 f5⟩
 self:=hself
theorem Zc8{env:Env}:∀(names:List (Str×NameKind)) (x:Str),
 (names.map λ(n,k)=>if (k==Yo&&env.scope.kind==.function&&env.kindOf n==Wj .cell)then(n,NameKind.cell)else(n,k)).lookup x =
  (names.lookup x).map λk=>if (k==Yo&&env.scope.kind==.function&&env.kindOf x==Wj .cell)then NameKind.cell else k
 |[],_=>rfl
 |(n,k)::r,x=>by
  have ih:=@Zc8 env r x;show We x ((if (k==Yo&&env.scope.kind==.function&&env.kindOf n==Wj .cell)=Wm then(n,NameKind.cell)else(n,k))::_)=_;cases hx:x==n with
  |true=>
   have e:x=n:=by simpa using hx
   subst e;by_cases hc:(k==Yo&&env.scope.kind==.function&&env.kindOf x==Wj .cell)=Wm
   . rw[if_pos hc];simp only[OF,hx,Yt,if_pos hc]
   . rw[if_neg hc];simp only[OF,hx,Yt,if_neg hc]
  |false=>
   by_cases hc:(k==Yo&&env.scope.kind==.function&&env.kindOf n==Wj .cell)=Wm
   . rw[if_pos hc];simp only[OF,hx];exact ih
   . rw[if_neg hc];simp only[OF,hx];exact ih
noncomputable def Zdc(env:Env):List (Str×NameKind)->List (Str×Yi)->List (Str×Yi)
 |[],cs=>cs
 |(n,k)::r,cs=>Zdc env r (if (k==.free)=Wm then(n,(env.cells.lookup n).getD 0)::cs else cs)
theorem ZiY{env:Env}:∀(l:List (Str×NameKind)) (cs:List (Str×Yi)),(∀y∈l,y.2=.free->∃c,env.cells.lookup y.1=Wj c) ->
 (∀x c,(x,c)∈cs->env.cells.lookup x=Wj c)->∀x c,(x,c)∈Zdc env l cs->env.cells.lookup x=Wj c
 |[],cs,_,h2,x,c,hm=>h2 x c hm
 |(n,k)::r,cs,h1,h2,x,c,hm=>by
  refine ZiY r _ (λy hy=>h1 y (Oh _ hy)) (λx c hm=>?_) x c hm;by_cases hk:(k==Yo)=Wm
  . rw[if_pos hk]at hm;rcases O1.mp hm with e|hm
    . cases e;have hk':k=.free:=by cases k<;>first|rfl|(exact absurd hk (by decide))
      obtain⟨c,e⟩:=h1 (n,k) Oi hk';rw[e];rfl
    . exact h2 x c hm
  . rw[if_neg hk]at hm;exact h2 x c hm
theorem ZgU{env:Env}:∀(l:List (Str×NameKind)) (cs:List (Str×Yi)) (p:Str×Yi),p∈cs->p∈Zdc env l cs
 |[],_,_,h=>h
 |(n,k)::r,cs,p,h=>by
  refine ZgU r _ p ?_;by_cases hk:(k==Yo)=Wm
  . rw[if_pos hk];exact Oh _ h
  . rw[if_neg hk];exact h
theorem ZiZ{env:Env}:∀(l:List (Str×NameKind)) (cs:List (Str×Yi)) (y:Str×NameKind),y∈l->y.2=.free->∃c,(y.1,c)∈Zdc env l cs
 |(n,k)::r,cs,y,h,hf=>by
  rcases O1.mp h with e|h
  . subst e;refine⟨(env.cells.lookup n).getD 0,ZgU r _ _ ?_⟩;have hk:(k==Yo)=Wm:=by have:k=.free:=hf;subst this;rfl
    rw[if_pos hk];exact Oi
  . exact ZiZ r _ y h hf
theorem ZdB{α:Type}:∀{l:List (Str×α)}{x:Str}{c:α},(x,c)∈l->∃c',l.lookup x=Wj c'/\(x,c')∈l
 |(n,d)::r,x,c,h=>by
  cases hx:x==n with
  |true=>
   have e:x=n:=by simpa using hx
   subst e;exact⟨d,by simp[OF],Oi⟩
  |false=>
   rcases O1.mp h with e|h
   . cases e;simp at hx
   . obtain⟨c',h1,h2⟩:=ZdB h;exact⟨c',by simp only[OF,hx];exact h1,Oh _ h2⟩
def ZdG{scope:Scope}{env:Env}(h:∀y∈scope.names,y.2=.free->∃c,env.cells.lookup y.1=Wj c):closureFor scope env=pure (Zdc env scope.names []):=by
 have all:∀(l:List (Str×NameKind)) (cs:List (Str×Yi)),(∀y∈l,y.2=.free->∃c,env.cells.lookup y.1=Wj c) ->
  (forIn l cs λ(x:Str×NameKind) r=>match x with|(name,kind)=>if (kind==Yo)=Wm then(do let a <- cellOf env name;pure (ForInStep.yield ((name,a)::r)))else pure (ForInStep.yield r):Sem (List (Str×Yi)))=pure (Zdc env l cs):=by
  intro l;induction l with
  |nil=>intro cs _;rfl
  |cons y r ih=>
   intro cs hl;obtain⟨n,k⟩:=y;rw[List.forIn_cons];have hr:=λcs=>ih cs λy hy=>hl y (Oh _ hy);by_cases hk:(k==Yo)=Wm
   . have hk':k=.free:=by cases k<;>first|rfl|(exact absurd hk (by decide))
     obtain⟨c,e⟩:=hl (n,k) Oi hk';have ec:cellOf env n=pure c:=by unfold cellOf;rw[e]
     simp only[hk,if_true,ec];show(forIn r ((n,c)::cs) _:Sem _)=_;rw[hr];show _=pure (Zdc env r (if (k==Yo)=Wm then(n,(env.cells.lookup n).getD 0)::cs else cs));rw[if_pos hk,e];rfl
   . simp only[hk];show(forIn r cs _:Sem _)=_;rw[hr];show _=pure (Zdc env r (if (k==Yo)=Wm then(n,(env.cells.lookup n).getD 0)::cs else cs));rw[if_neg hk]
 unfold closureFor;have z:=all scope.names [] h;dsimp only at z ⊢;rw[z];rfl
end L2
end
section
set_option tactic.hygienic false
namespace L2
open PySem PySem.Spec PyProof.Rows
def ZiW{prog:Yh}{w:Yg}{A:YE}{R:Result->Yb->Prop}{s:Yb}{elt target iter:Expr}{ifs:List Expr}{scope:Scope}{pos:Pos}{it acc:Yj}{env:Env}(I:Nat->Yb->Prop)
 (turn:∀n s,I n s->Yy (model prog w) A (pyNext it) (λr s₁=>match r with
  |none=>R (.ok .next) s₁
  |some v=>Yy (model prog w) A (letOwnedTupleGo target it v) (λ_ s₁'=>Yy (model prog w) A (assign target env v) (λ_ s₂=>
   Yy (model prog w) A (forIn ifs Wm λc r=>if r=Wm then do let ok <- isTrue c env (eval c env);pure (ForInStep.yield ok)else pure (ForInStep.yield r)) (λok s₃=>
    if ok=Wm then Yy (model prog w) A (eval elt env) (λx s₄=>Yy (model prog w) A (call (.builtin "list.append") [acc,x]) (λ_ s₅=>∃m,m<n/\I m s₅) (notedBy (model prog w) A env λe s'=>R (.error e) s') s₄) (notedBy (model prog w) A env λe s'=>R (.error e) s') s₃
    else ∃m,m<n/\I m s₃) (notedBy (model prog w) A env λe s'=>R (.error e) s') s₂) (notedBy (model prog w) A env λe s'=>R (.error e) s') s₁') (notedBy (model prog w) A env λe s'=>R (.error e) s') s₁) (notedBy (model prog w) A env λe s'=>R (.error e) s') s)
 (n:Nat) (h:I n s) :
 codeAny (model prog w) A (.compLoop (.ListComp elt [⟨target,iter,ifs,0⟩] scope pos) 0 it acc env) R s:=by
 refine codeAny_loop rfl I (λn s hI=>?_) n h;show Yy _ A ((compTurn (.ListComp elt [⟨target,iter,ifs,0⟩] scope pos) 0 it acc env).onRaise (λx=>do noteFrame x env;theTreesLotGoes x)) _ _ s;refine wpAny_noted ?_;rw[compTurn_list];refine Ya (wpAny_standAt (Ya (Yf (turn n s hI) (λr s₁ h₁=>?_) λ_ _ h'=>h')));cases r with
 |none=>exact Yc h₁
 |some v=>
  refine Ya (Yf h₁ (λ_ s₁' h₁'=>?_) λ_ _ h'=>h');refine Ya (Yf h₁' (λ_ s₂ h₂=>Ya (Yf h₂ (λok s₃ h₃=>?_) λ_ _ h'=>h')) λ_ _ h'=>h');cases ok with
  |false=>exact Yc ⟨rfl,h₃⟩
  |true=>exact Ya (Ya (Yf h₃ (λx s₄ h₄=>Ya (Yf h₄ (λ_ s₅ h₅=>Yc (Yc ⟨rfl,h₅⟩)) λ_ _ h'=>h')) λ_ _ h'=>h'))
structure CompSc(NC N:List Str)(js:List (Option Nat))(sc scope:Scope):Prop where
 kind:scope.kind=.function
 dkind:sc.kind=.function
 nocell:∀y∈scope.names,y.2≠.cell
 locs:∀y∈scope.names,y.2=.local->scope.names.lookup y.1=Wj .local
 free:∀y∈scope.names,y.2=.free->sc.names.lookup y.1=Wj .cell
 nd:NC.Nodup
 len:js.length=NC.length
 jok:((NC.zip js).all λp=>p.2.all λj=>Wo (N[j]? = Wj p.1)&&Wo (scope.names.lookup p.1=Wj .free))=Wm
theorem CompSc.at{NC N:List Str}{js:List (Option Nat)}{sc scope:Scope}(S_:CompSc NC N js sc scope){i j:Nat}{x:Str}(h1:NC[i]? = Wj x)(h2:js[i]? = Wj (Wj j)):N[j]? = Wj x/\scope.names.lookup x=Wj .free:=by
 have h:=S_.jok;rw[OC]at h;have hm:(x,Wj j)∈NC.zip js:=by refine O0 (i:=i) ?_;rw[List.getElem?_zip_eq_some];exact⟨h1,h2⟩
 have q:=h _ hm;simp only[Option.all_some,Oa,decide_eq_true_eq]at q;exact q
noncomputable def capt(js:List (Option Nat))(Z:St):St:=js.map λo=>o.bind λj=>(Z[j]?).join
def xeC(X:Cx)(scope:Scope)(C:Yi):Yj->Yb->Prop:=notedBy (model X.prog X.w) X.A (compEnvC scope (Zdc X.env scope.names []) C X.env) λe s'=>∃m,s'.heap.Ns C m/\∀h',Heap.SameBut C s'.heap h'->∀cenv:Env,cenv.locals=C->Yy (model X.prog X.w) X.A (passOn "comprehension.variables-let-go" e cenv:Sem Yj) (λ_ _=>False) X.xe {s' with heap:=h'}
noncomputable def Zy(X:Cx)(NC:List Str)(scope:Scope)(C:Yi)(s3:Yb)(H3:Hp)(fp:List Yi):Cx:={X with N:=NC,s₀:=s3,H₀:=H3,env:=compEnvC scope (Zdc X.env scope.names []) C X.env,outer:=X.stack,stack:=X.stack,ex:=fp,fn:=λ_=>Wn,calm:=true,pn:=[],xe:=xeC X scope C}
def Zlx(k:Nat)(g:TG):Prop:=∀x Z H Q,g x Z H Q->g x Z H λσ2 H2=>Q σ2 H2/\σ2.length=Z.length/\∀j,k<=j->σ2[j]? = Z[j]?
def Zjc(k:Nat)(g:TGs):Prop:=∀x Z H Q,g x Z H Q->g x Z H λσ2 H2=>Q σ2 H2/\σ2.length=Z.length/\∀j,k<=j->σ2[j]? = Z[j]?
def Zns{i k:Nat}(h:i<k):Zlx k (Zda i):=λx Z H Q q=>⟨q,List.length_set,λj hj=>by rw[Oc (by lia)]⟩
def Zkd{k:Nat}:Zjc k Zow:=λx Z H Q q=>⟨q.1,q.2,rfl,λ_ _=>rfl⟩
def Zfs{i k:Nat}{u:TGs}(h:i<k)(hu:Zjc k u):Zjc k (ZiO (Zda i) u):=by
 rintro xs Z H Q ⟨v,r,e,q⟩;refine⟨v,r,e,?_⟩;have z:=hu r (Z.set i (Wj v)) H Q q;have z2:=hu r (Z.set i (Wj v)) H (λσ2 H2=>Q σ2 H2/\σ2.length=(Z.set i (Wj v)).length/\∀j,k<=j->σ2[j]? = (Z.set i (Wj v))[j]?) z;show u r (Z.set i (Wj v)) H _;have e1:(Z.set i (Wj v)).length=Z.length:=List.length_set;have e2:∀j,k<=j->(Z.set i (Wj v))[j]? = Z[j]? := λj hj=>Oc (by lia);have e3:(λσ2 H2=>Q σ2 H2/\σ2.length=Z.length/\∀j,k<=j->σ2[j]? = Z[j]?)=(λσ2 H2=>Q σ2 H2/\σ2.length=(Z.set i (Wj v)).length/\∀j,k<=j->σ2[j]? = (Z.set i (Wj v))[j]?):=by funext σ2 H2;rw[e1];refine propext ⟨λ⟨a,b,c⟩=>⟨a,b,λj hj=>(c j hj).trans (e2 j hj).symm⟩,λ⟨a,b,c⟩=>⟨a,b,λj hj=>(c j hj).trans (e2 j hj)⟩⟩
 rw[e3];exact z
def ZlJ{K:Yk}{n k:Nat}{u:TGs}(hu:Zjc k u):Zlx k (Zov K n u):=by rintro x Z H Q ⟨a,xs,e,h1,h2,q⟩;exact⟨a,xs,e,h1,h2,hu xs Z H Q q⟩
def PIf(X:Cx)(ifs:List Expr)(t:TT):Prop:=
 ∀(pins:List (Yi×Obj)) (s:Yb) (Z:St) (H:Hp) (Q:Bool->Hp->Prop),Inv X pins Z H s->t Z H Q ->
  Yy (model X.prog X.w) X.A (forIn ifs Wm λc r=>if r=Wm then do let ok <- isTrue c X.env (eval c X.env);pure (ForInStep.yield ok)else pure (ForInStep.yield r)) (TP X pins Z Q) X.xe s
noncomputable def Zti:TT:=λ_ H Q=>Q Wm H
def ZnT{X:Cx}:PIf X [] Zti:=λ_ _ _ H _ I h=>wpAny_tests_nil ⟨H,I,h⟩
def ZnS{X:Cx}{c:Expr}{t:TT}(hc:PT X c t):PIf X [c] t:=λpins s Z H Q I h=>wpAny_tests_one (hc pins s Z H Q I h)
noncomputable def Zo4(wi:TI)(js:List (Option Nat))(g:TG)(tc:TT)(te:TE):TE:=λZ H Q=>wi Z H λJ H1=>∀D,H1 D=Wl->∃W:Nat->Nat->List V->Hp->Prop,(∃m,W 0 m [] (upd H1 D (.lst []))) /\
 ∀i m ys H,W i m ys H->H D=Wj (.lst ys)->(J.stop i H/\Q (.ref D) H) \/
  (J.go i H/\ys.length<sizeLine/\∀x H',J.yld i H x H'->g x (capt js Z) H' λσ2 H2=>tc σ2 H2 λb H3=>
   if b=Wm then te σ2 H3 λy H4=>H4 D=Wj (.lst ys)/\∃m',m'<m/\W (i+1) m' (ys++[y]) (upd H4 D (.lst (ys++[y])))
   else H3 D=Wj (.lst ys)/\∃m',m'<m/\W (i+1) m' ys H3)
section
variable {X:Cx}{pins:List (Yi×Obj)}{Z:St}{H:Hp}{s:Yb}
def ZiK{NC:List Str}{js:List (Option Nat)}{sc scope:Scope}{C:Yi}{h4:YD}{tk:Nat}{fp:List Yi}{m:Str->Option Yj}(S_:CompSc NC X.N js sc scope)(hsc:X.env.scope=sc)(hc:X.calm=Wm)
 (I:Inv X pins Z H s) (f:∀b∈fp,Zbg X pins H b) (fo:∀b∈fp,∃o,s.heap.get? b=Wj o) (hC:C=s.heap.objs.size) (hns:h4.Ns C m) (hk:∀b o,s.heap.get? b=Wj o->h4.get? b=Wj o) :
 Inv (Zy X NC scope C s H fp) [] (capt js Z) H {s with heap:=h4,toks:=tk}:=by
 have hcells:∀y∈scope.names,y.2=.free->∃c,X.env.cells.lookup y.1=Wj c:=λy hy hf=>I.ok.has y.1 (.inl (show X.env.scope.names.lookup y.1=Wj .cell by rw[hsc];exact S_.free y hy hf));have cl1:∀x c,(Zdc X.env scope.names []).lookup x=Wj c->X.env.cells.lookup x=Wj c:=λx c e=>ZiY scope.names [] hcells (λ_ _ z=>by cases z) x c (YF e);have cl2:∀y∈scope.names,y.2=.free->∃c,(Zdc X.env scope.names []).lookup y.1=Wj c:=λy hy hf=>by obtain⟨c,hm⟩:=ZiZ (env:=X.env) scope.names [] y hy hf;obtain⟨c',e,_⟩:=ZdB hm;exact⟨c',e⟩
 have kinds:∀x,(Zy X NC scope C s H fp).env.kindOf x=(scope.names.lookup x).map λk=>if (k==Yo&&X.env.scope.kind==.function&&X.env.kindOf x==Wj .cell)then NameKind.cell else k:=λx=>Zc8 scope.names x;have fcell:∀x,scope.names.lookup x=Wj .free->(Zy X NC scope C s H fp).env.kindOf x=Wj .cell:=λx e=>by
  rw[kinds,e];have h1:X.env.kindOf x=Wj .cell:=show X.env.scope.names.lookup x=Wj .cell by rw[hsc];exact S_.free (x,.free) (YF e) rfl
  have h2:X.env.scope.kind=.function:=I.ok.kind;simp only[Yt,h1,h2];rfl
 have flt:∀b∈fp,b<s.heap.objs.size:=λb hb=>let ⟨o,e⟩:=fo b hb;Yn e;refine⟨⟨I.ok.mod,S_.kind,I.ok.glob,I.ok.blt,Nat.le_of_eq hC.symm,λx y c h1 h2=>I.ok.inj x y c (cl1 x c h1) (cl1 y c h2),λx hx=>?_,λx c hf _=>absurd (show Wn=Wm from hf) Ow,λ_=>I.ok.hd hc,I.ok.frames,.inl rfl,λb hb=>⟨?_,λx c e=>(f b hb).2.2.2.2.1 x c (cl1 x c e)⟩,
  I.bs,OE I.ok.bsz I.sz,λb o e hb=>?_,λb hb hm=>?_,I.stack,I.stkFree⟩,
  rfl,I.bare,Un.kept hk,⟨m,hns,λi x v h1 h2 h3=>?_⟩,λx c e=>?_,?_,λx c e=>I.freeC x c (cl1 x c e),λp hp=>absurd (show p∈([]:List (Yi×Obj))from hp) (by simp),I.hok.kept hk,?_⟩
 . rw[kinds]at hx;cases e:scope.names.lookup x with
   |none=>rw[e]at hx;rcases hx with hx|hx<;>cases hx
   |some k=>
    rw[e]at hx;have hm:=YF e;have hk:k=.free:=by
     by_cases hf:(k==Yo)=Wm
     . cases k<;>first|rfl|(exact absurd hf (by decide))
     . have hf':(k==Yo)=Wn:=Bool.eq_false_iff.mpr hf;simp only[Yt,hf',Bool.false_and,OG,if_false]at hx;rcases hx with hx|hx
       . exact absurd (YC hx) (S_.nocell _ hm)
       . exact YC hx
    exact cl2 (x,k) hm hk
 . show b≠C;rw[hC];exact Ou (flt b hb)
 . obtain⟨_,_,_,f3,_⟩:=f b hb;rcases f3 with z|z
   . exact I.ok.noex b o e z
   . exact absurd (Ot (Yn e) (OE I.ok.bsz z)) (Yu _)
 . obtain⟨_,f1,f2,_⟩:=f b hb;exact(O1.mp (I.stkSub b hm)).elim f1 f2
 . have hj:∃j,js[i]? = Wj (Wj j)/\Z[j]? = Wj (Wj v):=by
    unfold capt at h2;rw[On]at h2;cases e:js[i]? with
    |none=>rw[e]at h2;cases h2
    |some o=>
     rw[e]at h2;have h2':(o.bind λj=>(Z[j]?).join)=Wj v:=YC h2;cases o with
     |none=>cases h2'
     |some j=>
      refine⟨j,rfl,?_⟩;have h3':(Z[j]?).join=Wj v:=h2';cases q:Z[j]? with
      |none=>rw[q]at h3';cases h3'
      |some r=>rw[q]at h3';rw[show r=Wj v from h3']
   obtain⟨j,hj,hσ⟩:=hj;obtain⟨hN,hfr⟩:=S_.at (show NC[i]? = Wj x from h1) hj;have hcell:X.env.scope.names.lookup x=Wj .cell:=by rw[hsc];exact S_.free (x,.free) (YF hfr) rfl
   obtain⟨m0,_,hl⟩:=I.loc;obtain⟨u,r,l⟩:=hl j x v hN hσ (.inr (.inl hcell));refine⟨u,r,?_⟩;rcases l with ⟨k,_⟩|⟨_,c,e,z⟩
   . rw[show X.env.kindOf x=Wj .cell from hcell]at k;cases k
   . obtain⟨c',e'⟩:=cl2 (x,.free) (YF hfr) rfl;have ec:=cl1 x c' e';rw[e]at ec;cases ec;obtain⟨o,ho,hd⟩:=z;exact .inr ⟨.inl (fcell x hfr),c,e',o,hk _ _ ho,hd⟩
 . obtain⟨v,o,ho,hd⟩:=I.cell x c (cl1 x c e);exact⟨v,o,hk _ _ ho,hd⟩
 . show H C=Wl;rw[hC];exact I.hok.fresh (Oq _)
 . unfold capt;rw[Ys];exact S_.len
end
section
variable {X:Cx}{elt tg iter:Expr}{ifs:List Expr}{scope sc:Scope}{pos:Pos}{NC:List Str}{js:List (Option Nat)}{k:Nat}{wi:TI}{g:TG}{tc:TT}{te:TE}
def Inv.comp_out{pins:List (Yi×Obj)}{Z σ':St}{H3 H':Hp}{s3 s1:Yb}{C:Yi}{fp:List Yi}{h'':YD}(I3:Inv X pins Z H3 s3)(f:∀b∈fp,Zbg X pins H3 b)(hC:C=s3.heap.objs.size)
 (I':Inv (Zy X NC scope C s3 H3 fp) [] σ' H' s1) (hs:Heap.SameBut C s1.heap h''):Inv X pins Z H' {s1 with heap:=h''}:=by
 have ne:∀b o,s3.heap.get? b=Wj o->b≠C:=λb o e=>by rw[hC];exact Ou (Yn e)
 have u:=I'.base;refine I3.call' (s':={s1 with heap:=h''}) (ch:=fp) I'.os ⟨λb o e n hb hx=>(hs.2 b (ne b o e)).trans (u.keep b o e n hb hx),λb o e n hb hx=>?_,u.free,λb o e hx=>?_,u.tups,u.frzs,u.tbls⟩ ?_ I'.bare λb hb=>?_
 . obtain⟨sl,q⟩:=u.slot b o e n hb hx;exact⟨sl,(hs.2 b (ne b o e)).trans q⟩
 . obtain⟨o',q⟩:=u.there b o e hx;exact⟨o',(hs.2 b (ne b o e)).trans q⟩
 . have hfree:H' C=Wl:=I'.free;intro b ob e;refine(I'.hok b ob e).stay (λc w' hc q=>(hs.2 c ?_).trans q) (λ_ q=>q) λ_ _ q=>q;rintro rfl;rcases hc with rfl|hc
   . rw[hfree]at e;cases e
   . rw[hfree]at hc;cases hc
 . obtain⟨_,f1,_,f3,f4,f5⟩:=f b hb;exact⟨f3,f1,f4,f5⟩
def ZgT{pins:List (Yi×Obj)}{Z:St}{H3:Hp}{s3 s4:Yb}{C Dd it:Yi}{fp:List Yi}{tn:Nat->YD->Prop}{J:It}{W:Nat->Nat->List V->Hp->Prop}{Q:VK}{m0:Nat}{post:Result->Yb->Prop}
 (hb:∀(pins:List (Yi×Obj)) (Z:St) (C:Yi) (s3:Yb) (H3:Hp) (fp:List Yi),Inv X pins Z H3 s3->(∀b∈fp,Zbg X pins H3 b)->C=s3.heap.objs.size->PG (Zy X NC scope C s3 H3 fp) tg g/\PIf (Zy X NC scope C s3 H3 fp) ifs tc/\PE (Zy X NC scope C s3 H3 fp) elt te)
 (hk:Zlx k g) (hjk:∀j,j<k->js[j]? = Wj Wl) (hC:C=s3.heap.objs.size) (I3:Inv X pins Z H3 s3) (f3:∀b∈fp,Zbg X pins H3 b) (fpl:∀b∈fp,∃o,s3.heap.get? b=Wj o) (I4:Inv (Zy X NC scope C s3 H3 fp) [] (capt js Z) H3 s4) (T:Turn X.prog X.w X.K tg J fp it tn) (st4:tn 0 s4.heap) (hD0:H3 Dd=Wj (.lst [])) (w0:W 0 m0 [] H3)
 (turn:∀i m ys H,W i m ys H->H Dd=Wj (.lst ys)->(J.stop i H/\Q (.ref Dd) H)\/(J.go i H/\ys.length<sizeLine/\∀x H',J.yld i H x H'->g x (capt js Z) H' λσ2 H2=>tc σ2 H2 λb H3=>if b=Wm then te σ2 H3 λy H4=>H4 Dd=Wj (.lst ys)/\∃m',m'<m/\W (i+1) m' (ys++[y]) (upd H4 Dd (.lst (ys++[y])))else H3 Dd=Wj (.lst ys)/\∃m',m'<m/\W (i+1) m' ys H3))
 (stp:∀s6 H5,Inv (Zy X NC scope C s3 H3 fp) [] (capt js Z) H5 s6->Q (.ref Dd) H5->post (.ok .next) s6) (er:∀e s',(∃m,s'.heap.Ns C m/\∀h',Heap.SameBut C s'.heap h'->∀cenv:Env,cenv.locals=C->Yy (model X.prog X.w) X.A (passOn "comprehension.variables-let-go" e cenv:Sem Yj) (λ_ _=>False) X.xe {s' with heap:=h'})->post (.error e) s') :
 codeAny (model X.prog X.w) X.A (.compLoop (.ListComp elt [⟨tg,iter,ifs,0⟩] scope pos) 0 (.ref it) (.ref Dd) (compEnvC scope (Zdc X.env scope.names []) C X.env)) post s4:=by
 have stat:∀{H':Hp},(∀b∈fp,H' b=Wl)->∀b∈fp,Zbg (Zy X NC scope C s3 H3 fp) [] H' b:=λhn b hb=>⟨hn b hb,(by rw[hC];exact Ou (let ⟨o,e⟩:=fpl b hb;Yn e)),λhm=>I4.ok.exfs b hb hm,.inl hb,λx c e=>(I4.ok.exf b hb).2 x c e,λp hp=>absurd (show p∈([]:List (Yi×Obj))from hp) (by simp)⟩
 have er':∀e s',xeC X scope C e s'->notedBy (model X.prog X.w) X.A (compEnvC scope (Zdc X.env scope.names []) C X.env) (λe s'=>post (.error e) s') e s':=λe s' z=>Yf z (λ_ s'' q=>er e s'' q) λe' s'' q=>er e' s'' q;refine ZiW (λn s'=>∃i ys H',Inv (Zy X NC scope C s3 H3 fp) [] (capt js Z) H' s'/\tn i s'.heap/\(∀b∈fp,H' b=Wl)/\H' Dd=Wj (.lst ys)/\W i n ys H') ?_ m0
  ⟨0,[],_,I4,st4,λb hb=>(f3 b hb).1,hD0,w0⟩
 rintro n s5 ⟨i,ys,H5,I5,st5,fr5,hD5,w5⟩;rcases turn i n ys H5 w5 hD5 with ⟨stop,qn⟩|⟨go,hlen,step⟩
 . refine Yf (T.done (Zy X NC scope C s3 H3 fp) rfl rfl rfl rfl i [] s5 (capt js Z) H5 (λ_ _=>False) I5 (stat fr5) st5 stop) (λr s6 ⟨hr,I6⟩=>?_) λ_ _ z=>z.elim;subst hr;exact stp s6 H5 I6 qn
 . refine Yf (T.item (Zy X NC scope C s3 H3 fp) rfl rfl rfl rfl i [] s5 (capt js Z) H5 (λ_ _=>False) I5 (stat fr5) st5 go) (λr s6 ⟨u,hr,h6⟩=>?_) λ_ _ z=>z.elim;subst hr;refine Yf h6 (λ_ s7 ⟨x,H7,I7,r7,y7,st7,fr7⟩=>?_) λ_ _ z=>z.elim;have I7':=I7.pinned (stat fr7) (T.obj _ _ st7);obtain⟨pg,pif,pe⟩:=hb pins Z C s3 H3 fp I3 f3 hC;refine Yf (pg _ s7 (capt js Z) H7 x u _ I7' r7 (hk _ _ _ _ (step x H7 y7))) (λ_ s8 ⟨σ8,H8,I8,q8,l8,k8⟩=>?_) er';have back:∀{H9:Hp}{s9:Yb},Inv (Zy X NC scope C s3 H3 fp) ([]++ZfJ fp s7.heap) σ8 H9 s9 ->
    Inv (Zy X NC scope C s3 H3 fp) [] (capt js Z) H9 s9/\tn (i+1) s9.heap/\∀b∈fp,H9 b=Wl:=λ{H9 s9} I9=>by
    refine⟨(I9.unpinned).weak l8.symm λj v e=>?_,T.keep _ _ _ st7 λb hb o e=>(I9.pin (b,o) (Ov _ (Ov _ (ZcA hb e)))).1,λb hb=>?_⟩
    . by_cases hj:j<k
      . unfold capt at e;rw[On,hjk j hj]at e;cases e
      . rw[k8 j (Nat.le_of_not_lt hj)];exact e
    . obtain⟨o,e,d⟩:=T.obj _ _ st7 b hb;exact(I9.pin (b,o) (Ov _ (Ov _ (ZcA hb e)))).2.1
   refine Yf (pif _ s8 σ8 H8 _ I8 q8) (λok s9 ⟨H9,I9,q9⟩=>?_) er';cases ok with
   |false=>rw[if_neg Ow]at q9 ⊢;obtain⟨hD9,m',hm,w9⟩:=q9;obtain⟨b1,b2,b3⟩:=back I9;exact⟨m',hm,i+1,ys,H9,b1,b2,b3,hD9,w9⟩
   |true=>
    rw[if_pos rfl]at q9 ⊢;refine Yf (pe _ s9 σ8 H9 _ I9 q9) (λy s10 ⟨v,H10,I10,r10,hD10,m',hm,w10⟩=>?_) er';refine Yf (ZgN (X:=Zy X NC scope C s3 H3 fp) _ s10 σ8 H10 (.ref Dd) [v] (.ref Dd) [y]
     (λ_ H11=>H11=upd H10 Dd (.lst (ys++[v]))) I10 rfl (.cons r10 .nil) ⟨_,ys,v,rfl,rfl,hD10,hlen,rfl⟩) (λ_ s11 ⟨_,H11,I11,_,e11⟩=>?_) er'
    subst e11;obtain⟨b1,b2,b3⟩:=back I11;exact⟨m',hm,i+1,ys++[v],_,b1,b2,b3,Zl,w10⟩
theorem Zn0(S_:CompSc NC X.N js sc scope)(hsc:X.env.scope=sc)(hc:X.calm=Wm)(hi:PI X tg iter wi)
   (hb:∀ (pins:List (Yi×Obj)) (Z:St) (C:Yi) (s3:Yb) (H3:Hp) (fp:List Yi),Inv X pins Z H3 s3->(∀ b∈fp,Zbg X pins H3 b)->C=s3.heap.objs.size->PG (Zy X NC scope C s3 H3 fp) tg g/\PIf (Zy X NC scope C s3 H3 fp) ifs tc/\PE (Zy X NC scope C s3 H3 fp) elt te)
   (hk:Zlx k g) (hjk:∀ j,j<k->js[j]? = Wj Wl) (hs:∀ x,foldedSetIterable iter X.env x=pure x:=by intro _;rfl) :
   PE X (.ListComp elt [⟨tg,iter,ifs,0⟩] scope pos) (Zo4 wi js g tc te):=by
 intro pins s Z H Q I h;have hcells:∀ y∈scope.names,y.2=.free->∃ c,X.env.cells.lookup y.1=Wj c:=fun y hy hf=>I.ok.has y.1 (.inl (show X.env.scope.names.lookup y.1=Wj .cell by rw [hsc];exact S_.free y hy hf));rw [eval_ListComp];refine wpAny_comprehension_free (use:=Wl) rfl hs (ZdG hcells) S_.kind S_.locs (thn (hi pins s Z H _ I h) fun xv s1 h1=>thn h1 fun itv s2 h2=>?_);obtain ⟨it,fp,tn,J,H2,e,I2,T,st2,f2,rest⟩:=h2;subst e;have hD:H2 s2.heap.objs.size=Wl:=I2.hok.fresh (Oq _);obtain ⟨W,⟨m0,w0⟩,turn⟩:=rest s2.heap.objs.size hD;refine Yq (wpAny_newFunctionEnv S_.nocell (by intro y hy;simp at hy) (fun h4 hns hsb=>?_) S_.kind);have I3:Inv X pins Z (upd H2 s2.heap.objs.size (.lst [])) {s2 with heap:=s2.heap.push {cls:=.type "list",dict:=Wl,data:=.seq ([]:List Yj).toArray}}:=I2.lnew (t':=s2.toks) (ys:=[]) (its:=[]) .nil (Yv _);dsimp only at hns hsb ⊢;generalize hs3:({s2 with heap:=s2.heap.push {cls:=.type "list",dict:=Wl,data:=.seq ([]:List Yj).toArray}}:Yb)=s3 at I3;have eh:s2.heap.push {cls:=.type "list",dict:=Wl,data:=.seq ([]:List Yj).toArray}=s3.heap:=by rw [<- hs3]
 have eD:s2.heap.objs.size<s3.heap.objs.size:=by rw [<- eh,Heap.size_push];exact OH _
 rw [eh] at hns hsb;have keep:∀ b o,s3.heap.get? b=Wj o->h4.get? b=Wj o:=fun b o e=>(hsb.2 b (Ou (Yn e))).trans (Od _ e);have fpl:∀ b∈fp,∃ o,s3.heap.get? b=Wj o:=fun b hb=>by
   obtain ⟨o,e,_⟩:=T.obj 0 _ st2 b hb;exact ⟨o,by rw [<- eh];exact Od _ e⟩
 have neD:∀ b∈fp,b≠s2.heap.objs.size:=fun b hb=>by
   obtain ⟨o,e,_⟩:=T.obj 0 _ st2 b hb;exact Ou (Yn e)
 have f3:∀ b∈fp,Zbg X pins (upd H2 s2.heap.objs.size (.lst [])) b:=fun b hb=>⟨by rw [Zc (neD b hb)];exact (f2 b hb).1,(f2 b hb).2⟩
 have I4:=ZiK (tk:=s2.toks+([]:List (Str×Yj)).length) S_ hsc hc I3 f3 fpl rfl hns keep;have st4:tn 0 h4:=T.keep 0 _ _ st2 fun b hb o e=>keep b o (by rw [<- eh];exact Od _ e);have eC:(s2.heap.push {cls:=.type "list",dict:=Wl,data:=.seq ([]:List Yj).toArray}).objs.size=s3.heap.objs.size:=by rw [eh]
 have loop:∀ s4:Yb,s4={s3 with heap:=h4,toks:=s2.toks+([]:List (Str×Yj)).length} ->
     codeAny (model X.prog X.w) X.A (.compLoop (.ListComp elt [⟨tg,iter,ifs,0⟩] scope pos) 0 (.ref it) (.ref s2.heap.objs.size) (compEnvC scope (Zdc X.env scope.names []) s3.heap.objs.size X.env))
       (compPost (model X.prog X.w) X.A X.xe Wl (EP X pins Z Q) (.ref s2.heap.objs.size) s3.heap.objs.size) s4:=by
   rintro s4 rfl;exact ZgT hb hk hjk rfl I3 f3 fpl I4 T st4 Zl w0 turn (fun s6 H5 I6 qn=>by
     obtain ⟨m,hm,_⟩:=I6.loc;exact ⟨m,hm,fun h' hs'=>⟨.ref s2.heap.objs.size,H5,I3.comp_out f3 rfl I6 hs',rfl,qn⟩⟩) (fun _ _ z=>z)
 have e4:({s2 with heap:=h4,toks:=s2.toks+([]:List (Str×Yj)).length}:Yb)={s3 with heap:=h4,toks:=s2.toks+([]:List (Str×Yj)).length}:=by rw [<- hs3]
 rw [eC];exact codeAny_compStart_list (loop _ e4) (T.self X.A 0 _ _ _ st4 (loop _ e4))
end
end L2
end
section
namespace L2
open PySem PySem.Spec PyProof.Rows
section
variable {X:Cx}
def TyN(K:Yk)(x:V)(H:Hp)(t:String):Prop:=match x with
 |.int _=>t = "int"
 |.str _=>t = "str"
 |.bl _=>t = "bool"
 |.non=>t = "NoneType"
 |.ref p=>(t = "list" /\ ∃xs,SqL K H p xs)\/(t = "tuple" /\ ∃xs,SqT K H p xs)
 |_=>False
def Zm9:Zb0 X (.builtin "isinstance") (λxs H Q=>∃x t T b,xs=[x,.ty T]/\TyN X.K x H t/\PySem.W.kitOne X.K (.type t) (.type T)=Wj b/\Q (.bl b) H):=by
 intro pins s Z H xs us Q I r h;obtain⟨x,t,T,b,rfl,ty,e,q⟩:=h;obtain⟨u,w',rfl,rx,rT⟩:=vals2 r;obtain rfl:w'=Value.type T:=rT;have fin:∀tk,EP X pins Z Q (.bool b) {s with toks:=tk}:=λtk=>⟨.bl b,H,I.tok tk,rfl,q⟩
 cases x with
 |int i=>obtain⟨tk,rfl⟩:=rx;obtain rfl:t = "int" := ty;exact PySem.W.kia_one PySem.W.kitx_int I.kIn trivial e (by intro z;cases z) fin
 |str i=>obtain⟨tk,rfl⟩:=rx;obtain rfl:t = "str" := ty;exact PySem.W.kia_one PySem.W.kitx_str I.kIn trivial e (by intro z;cases z) fin
 |bl i=>obtain rfl:u=Value.bool i:=rx;obtain rfl:t = "bool" := ty;exact PySem.W.kia_one PySem.W.kitx_bool I.kIn trivial e (by intro z;cases z) fin
 |non=>obtain rfl:u=Value.none:=rx;obtain rfl:t = "NoneType" := ty;exact PySem.W.kia_one PySem.W.kitx_none I.kIn trivial e (by intro z;cases z) fin
 |ref p=>
  obtain rfl:u=YA p:=rx;rcases ty with ⟨rfl,xs,hx⟩|⟨rfl,xs,hx⟩
  . obtain⟨its,_,pl,_⟩:=I.list hx;exact PySem.W.kia_one PySem.W.kitx_list I.kIn pl.isList.typeIs e (by intro z;cases z) fin
  . obtain⟨its,_,pl,_⟩:=I.tuple hx;exact PySem.W.kia_one PySem.W.kitx_tuple I.kIn pl.typeIs e (by intro z;cases z) fin
 |_=>exact(show False from ty).elim
def Zlh{K:Yk}{t T:String}{b:Bool}(h:PySem.W.kitOne [] (.type t) (.type T)=Wj b):PySem.W.kitOne K (.type t) (.type T)=Wj b:=h
def ZtF:V->Option Int->Option Int->Hp->VK->Prop:=λx lo hi H Q=>∃y,x=.str y/\y.length<=sizeLine/\Q (.str (StrLaws.sliceText y lo hi)) H
def ZpH:SlR X ZtF:=by
 intro pins s Z H x v vl vu lo hi sl Q I rx hs pl pu h;obtain⟨y,rfl,hz,q⟩:=h;obtain⟨t,rfl⟩:=rx;refine⟨"str",_,F.slot_str_getitem.lookup,typeIs_str _ _ _,?_⟩;have go:∀(l u:Option (Int×Tok)),vl=partValue l->vu=partValue u->lo=l.map (·.1)->hi=u.map (·.1)->Yy (model X.prog X.w) X.A (getItem (.str y t) (.ref sl)) (EP X pins Z Q) X.xe s:=by rintro l u rfl rfl rfl rfl;refine wpAny_getItem_str_slice (l:=l) (u:=u) (st:=Wl) hs rfl ?_;refine post_val_or_str ⟨OE (Txt.slice_le y _ _) hz,λt' k=>⟨.str _,H,I.tok k,⟨t',rfl⟩,q⟩⟩
 cases pl with
 |none=>
  cases pu with
  |none=>exact go Wl Wl rfl rfl rfl rfl
  |int j tj=>exact go Wl (Wj (j,tj)) rfl rfl rfl rfl
 |int i ti=>
  cases pu with
  |none=>exact go (Wj (i,ti)) Wl rfl rfl rfl rfl
  |int j tj=>exact go (Wj (i,ti)) (Wj (j,tj)) rfl rfl rfl rfl
end
end L2
end
section
namespace L2
open PySem PySem.Spec PyProof.Rows
def Z9.there{P:Yh}{w:Yg}{H:Hp}{h:YD}{a:Yi}{o:HO}(x:Z9 P w H h a o):∃ob,h.get? a=Wj ob:=by
 cases o with
 |lst xs=>obtain⟨_,_,_,_,e⟩:=x;exact⟨_,e⟩
 |tup xs=>obtain⟨_,_,_,ob,e,_⟩:=x;exact⟨_,e⟩
 |dK kvs=>obtain⟨_,_,_,_,o,_,_,e,_⟩:=x;exact⟨_,e⟩
 |dT kvs=>obtain⟨_,_,_,_,o,_,_,e,_⟩:=x;exact⟨_,e⟩
 |set S_ n=>obtain⟨o,_,_,_,e,_⟩:=x;exact⟨_,e⟩
 |ins C dx fs=>obtain⟨_,_,_,e,_⟩:=x;exact⟨_,e⟩
 |own y=>obtain⟨_,e⟩:=x;exact⟨_,e⟩
 |xd fs=>obtain⟨_,⟨_,_,_,e,_⟩,_⟩:=x;exact⟨_,e⟩
 |rng lo hi=>obtain⟨_,_,_,e⟩:=x;exact⟨_,e⟩
 |frz ob u=>obtain⟨e,_⟩:=x;exact⟨_,e⟩
 |tbl ps=>exact⟨_,(show h.get? a=Wj _ from x)⟩
 |met f y=>exact⟨_,(show h.get? a=Wj _ from x)⟩
 |ext φ=>obtain⟨_,⟨_,e⟩,_⟩:=x;exact⟨_,e⟩
def Kept(fs:List Yi)(H':Hp)(h h1 B_:YD):Prop:=∀b o,h1.get? b=Wj o->(H' b≠Wl\/((∃o',h.get? b=Wj o')/\b ∉ fs))->B_.get? b=Wj o
noncomputable def CXF(P:Yh)(w:Yg):CXT:=λouter H s E e s'=>
 ∃(a:Yi) (cls a0:Yj) (H':Hp) (B_:YD),e=.ref a/\s'.os=s.os/\AllBare s'.gens/\Un (frs outer) [] H H' s.heap s'.heap/\HOk P w H' s'.heap /\
  Heap.FlyingW B_ outer a cls a0 s'.heap/\Kept (frs outer) H' s.heap s'.heap B_/\H' a=Wl/\E cls Wl H'
def ZfV{P:Yh}{w:Yg}{fs:List Yi}{H H':Hp}{h h1 h2 B_:YD}(un:Un fs [] H H' h h1)(hok:HOk P w H' h1)(kb:Kept fs H' h h1 B_)(stay:B_.StaysIn h2)(up:h1.UpToSlots h2)
 (hf:∀b∈fs,∃o,h1.get? b=Wj o/\∀vs,o.data≠.fields vs):Un fs [] H H' h h2/\HOk P w H' h2/\Kept fs H' h h2 B_:=by
 have tr:∀b u,H' b=Wj u->∃o,h1.get? b=Wj o/\h2.get? b=Wj o/\B_.get? b=Wj o:=λb u e=>by obtain⟨o,q⟩:=(hok b u e).there;have z:=kb b o q (.inl (by rw[e];simp));exact⟨o,q,stay _ _ z,z⟩
 have old:∀b o,h.get? b=Wj o->b ∉ fs->∃o1,h1.get? b=Wj o1/\h2.get? b=Wj o1/\B_.get? b=Wj o1:=λb o e hb=>by obtain⟨o1,q⟩:=un.there b o e (by simp);have z:=kb b o1 q (.inr ⟨⟨o,e⟩,hb⟩);exact⟨o1,q,stay _ _ z,z⟩
 refine⟨⟨λb o e n hb _=>?_,λb o e n hb _=>?_,λb o e n _=>un.free b o e n (by simp),λb o e _=>?_,un.tups,un.frzs,un.tbls⟩,λb u e=>?_,λb o e hb=>?_⟩
 . obtain⟨o1,q1,q2,_⟩:=old b o e hb;have z:=un.keep b o e n hb (by simp);rw[q1]at z;cases z;exact q2
 . obtain⟨sl,z⟩:=un.slot b o e n hb (by simp);obtain⟨o',z',nf⟩:=hf b hb;rw[z]at z';cases z';obtain⟨sl',q⟩:=up b _ z nf;exact⟨sl',q⟩
 . by_cases hb:b∈fs
   . obtain⟨o',z',nf⟩:=hf b hb;obtain⟨sl',q⟩:=up b _ z' nf;exact⟨_,q⟩
   . obtain⟨o1,_,q2,_⟩:=old b o e hb;exact⟨_,q2⟩
 . refine(hok b u e).stay (λc v hc q=>?_) (λ_ q=>q) λ_ _ q=>q;have hc':∃u',H' c=Wj u':=by
    rcases hc with rfl|hc
    . exact⟨u,e⟩
    . exact⟨_,hc⟩
   obtain⟨u',e'⟩:=hc';obtain⟨o,q1,q2,_⟩:=tr c u' e';rw[q]at q1;cases q1;exact q2
 . rcases hb with hb|⟨⟨o',e'⟩,hb⟩
   . cases q:H' b with
     |none=>exact absurd q hb
     |some u=>obtain⟨o1,q1,q2,q3⟩:=tr b u q;rw[e]at q2;cases q2;exact q3
   . obtain⟨o1,q1,q2,q3⟩:=old b o' e' hb;rw[e]at q2;cases q2;exact q3
def ZkK(X:Cx)(E:XK):Prop:=∀(pins:List (Yi×Obj)) (Z:St) (H:Hp) (s:Yb) (h':YD) (e:Yi) (cls:Yj) (vs:List Yj),Inv X pins Z H s->Heap.MadeExcOf s.heap h' e cls vs->E cls Wl H->X.xe (.ref e) {s with heap:=h'}
section
variable {P:Yh}{w:Yg}{K:Yk}{mg:Str->Option Yj}{base:YD}{N:List Str}{qual:Str}{scope:Scope}{f:Yi}{cd:Yj}{A:YE}{outer:List Env}{s0:Yb}{H0:Hp}{E:XK}
def ZlW:ZkK (ZeK (CXF P w) P w K mg base N qual scope f cd A outer s0 H0 E) E:=by
 intro pins Z H s h' e cls vs I hx hE;have hfr:(A.deeper (envOfC qual scope s0.heap.objs.size f cd)).frames=Wj (envOfC qual scope s0.heap.objs.size f cd::outer):=I.ok.frames;have hin:∀env∈(envOfC qual scope s0.heap.objs.size f cd::outer),∀b,env.frame=Wj b->b∈(envOfC qual scope s0.heap.objs.size f cd::outer).filterMap (·.frame):=λenv he b hb=>List.mem_filterMap.mpr ⟨env,he,hb⟩;have hst:s.heap.FunFrames base (envOfC qual scope s0.heap.objs.size f cd::outer):=I.stack;show Yy (model P w) (A.deeper (envOfC qual scope s0.heap.objs.size f cd)) (leaving (envOfC qual scope s0.heap.objs.size f cd) (.ref e)) _ _ {s with heap:=h'};refine wpAny_leaves_madeW (s:={s with heap:=h'}) (base:=YV s.heap (frs (envOfC qual scope s0.heap.objs.size f cd::outer))) hfr rfl (λb o q=>PySem.W.of_hideAll _ q) (PySem.W.funFrames_hide hst hin) hx λh'' t x1 x2 x3 x4=>?_;have un:Un (frs outer) [] H0 H s0.heap h':=(I.base:Un (frs outer) [] H0 H s0.heap s.heap).trans (Un.kept hx.keeps);have hok:HOk P w H h':=I.hok.kept hx.keeps;have kb:Kept (frs outer) H s0.heap h' (YV s.heap (frs (envOfC qual scope s0.heap.objs.size f cd::outer))):=λb o e1 hb=>by
  rcases hb with hb|⟨⟨o',e'⟩,hb⟩
  . cases q:H b with
    |none=>exact absurd q hb
    |some u=>
     obtain⟨o1,q1⟩:=(I.hok b u q).there;have q2:=hx.keeps b o1 q1;rw[e1]at q2;cases q2;exact PySem.W.hideAll_get _ q1 λhm=>by have z:H b=Wl:=I.stkFree b hm;rw[q]at z;cases z
  . obtain⟨o1,q1⟩:=(I.base:Un (frs outer) [] H0 H s0.heap s.heap).there b o' e' (show b ∉ ([]:List Yi)from List.not_mem_nil);have q2:=hx.keeps b o1 q1;rw[e1]at q2;cases q2;refine PySem.W.hideAll_get _ q1 λhm=>?_;have hm':b∈s0.heap.objs.size::frs outer:=I.stkSub b hm;rcases O1.mp hm' with z|z
    . rw[z]at e';exact absurd (Yn e') (Yu _)
    . exact hb z
 have hfo:∀b∈frs outer,∃o,h'.get? b=Wj o/\∀vs,o.data≠.fields vs:=λb hb=>by obtain⟨_,o,q,nf⟩:=I.funs.mem hb;exact⟨o,hx.keeps _ _ q,nf⟩
 obtain⟨r1,r2,r3⟩:=ZfV un hok kb x1.1 x4 hfo;refine⟨e,cls,_,H,_,rfl,I.os,I.bare,r1,r2,x1,r3,?_,hE⟩;cases q:H e with
 |none=>rfl
 |some u=>obtain⟨o1,q1⟩:=(I.hok e u q).there;rw[hx.new]at q1;cases q1
def Zn4{E1:XK}(h:∀cls H',E1 cls Wl H'->E cls Wl H'):ZaO (CXF P w) (ZeK (CXF P w) P w K mg base N qual scope f cd A outer s0 H0 E) E1:=by
 intro pins Z H s e s' I hx;obtain⟨a,cls,a0,H',B_,rfl,os,bare,un,hok,fl,kb,ha,hE⟩:=hx;have I':=I.call' (ch:=[]) os un hok bare (λb z=>absurd z (by simp));have hfr:(A.deeper (envOfC qual scope s0.heap.objs.size f cd)).frames=Wj (envOfC qual scope s0.heap.objs.size f cd::outer):=I.ok.frames;show Yy (model P w) (A.deeper (envOfC qual scope s0.heap.objs.size f cd)) (leaving (envOfC qual scope s0.heap.objs.size f cd) (.ref a)) _ _ s';refine wpAny_leaves_onW hfr rfl fl λh'' x1 x4=>?_;have kb':Kept (frs outer) H' s0.heap s'.heap B_:=λb o e1 hb=>by
  refine kb b o e1 ?_;rcases hb with hb|⟨⟨o',e'⟩,hb⟩
  . exact .inl hb
  . obtain⟨o1,q1⟩:=(I.base:Un (frs outer) [] H0 H s0.heap s.heap).there b o' e' (show b ∉ ([]:List Yi)from List.not_mem_nil);refine .inr ⟨⟨o1,q1⟩,λhm=>?_⟩;have hm':b∈s0.heap.objs.size::frs outer:=I.stkSub b hm;rcases O1.mp hm' with z|z
    . rw[z]at e';exact absurd (Yn e') (Yu _)
    . exact hb z
 have hfo:∀b∈frs outer,∃o,s'.heap.get? b=Wj o/\∀vs,o.data≠.fields vs:=λb hb=>by obtain⟨_,o,q,nf⟩:=I'.funs.mem hb;exact⟨o,q,nf⟩
 obtain⟨r1,r2,r3⟩:=ZfV (I'.base:Un (frs outer) [] H0 H' s0.heap s'.heap) hok kb' x1.1 x4 hfo;exact⟨a,cls,a0,H',B_,rfl,I'.os,bare,r1,r2,x1,r3,ha,h _ _ hE⟩
end
end L2
end
section
namespace L2
open PySem PySem.Spec PyProof.Rows
structure ExcN(K:Yk)(C2:Yi):Prop where
 ty:PySem.W.typeIn K (.ref C2)=Wj (.type "type")
 cls:(PySem.W.clsIn K C2).isSome=Wm
 exc:PySem.W.subIn K (.ref C2) (.type "BaseException")=Wj Wm
end L2
end
section
namespace L2
open PySem PySem.Spec PyProof.Rows
def Def(P:Yh)(w:Yg)(K:Yk)(mg:Str->Option Yj)(base:YD)(k:Nat)(x:Str)(ps:List Str)(sp:Sp):Prop:=∃f fd,mg x=Wj (.ref f)/\YZ K (.ref f)=Wm/\Binds K fd ps []/\FnOk P w K mg base (CXF P w) k f fd ps sp
section
variable {X:Cx}{k:Nat}{x:Str}{ps:List Str}{sp:Sp}{E:XK}{e:Expr}{es:List Expr}{t:TA}{p pos:Pos}
noncomputable def Ztu(sp:Sp)(E:XK)(t:TA):TE:=λZ H Q=>t Z H λvs H1=>sp vs H1 Q E
def Zqf(D:Def X.prog X.w X.K X.mg X.base k x ps sp)(hr:Room k X.A)(hg:Gl X x)(hx:ZaO (CXF X.prog X.w) X E)(ha:PA X (e::es) t)
 (hdb:(x==("__debug__" : Str))=Wn:=by decide) (he:Yw (e::es) X.env=(Wn,eval e X.env)::Yw es X.env:=by rfl) (hpl:(YO pos (Yw es X.env)).any (·.1)=Wn:=by rfl) :
 PE X (.Call (.Name x p) (e::es) [] pos) (Ztu sp E t):=by
 obtain⟨f,fd,h1,h2,h3,h4⟩:=D;intro pins s Z H Q I h;refine Zn2 h4 hr hg h1 h2 h3 .nil hx ha hdb he hpl pins s Z H Q I ?_;have z:t Z H λvs H1=>sp vs H1 Q E:=h;show t Z H λvs H1=>sp (vs++[]) H1 Q E;simpa only[Yr]using z
end
end L2
end
section
namespace L2
open PySem PySem.Spec PyProof.Rows
section
variable {X:Cx}{pins:List (Yi×Obj)}{Z:St}{H:Hp}{s:Yb}{h':YD}
def ZkA{ch:List Yi}(hf:∀b∈ch,Zbg X pins H b):∀b∈ch,(b∈X.ex\/X.s₀.heap.objs.size<=b)/\b≠X.env.locals/\(∀x c,X.env.cells.lookup x=Wj c->c≠b)/\∀p∈X.pn++pins,p.1≠b:=λb hb=>by obtain⟨_,f1,_,f3,f4,f5⟩:=hf b hb;exact⟨f3,f1,f4,f5⟩
def Inv.turnL{t':Nat}{ch:List Yi}(I:Inv X pins Z H s)(hf:∀b∈ch,Zbg X pins H b)(k:∀b o,b ∉ ch->s.heap.get? b=Wj o->h'.get? b=Wj o):Inv X pins Z H {s with heap:=h',toks:=t'}:=by
 have nit:∀b u,H b=Wj u->b ∉ ch:=λb u e z=>by rw[(hf b z).1]at e;cases e
 refine I.step (g':=s.gens) (d':=s.drawn) (ch:=ch) (ZkA hf) (λb o _ _ hc e _=>k b o hc e) (λb o _ _ hc e _=>⟨o.slots,k b o hc e⟩) (λ_ _ _ _ n=>n)
  (λb o hc e=>⟨o,k b o hc e⟩) (λ_ _ e=>e) (λ_ _ _ e=>e) (λb ps e=>⟨#[],by rw[e];simp⟩) (λm hm=>?_) (λb u e=>?_) I.bare
 . obtain⟨o,es,ep,ho,r⟩:=hm;exact⟨o,es,ep,k _ o (λz=>(hf _ z).2.1 rfl) ho,r⟩
 . refine(I.hok b u e).stay (λc v hc q=>k c v ?_ q) (λ_ q=>q) λ_ _ q=>q;rcases hc with z|z
   . rw[z];exact nit b u e
   . exact nit c _ z
def Inv.turnT{t':Nat}{ch:List Yi}{T:Yi}{vs:List V}{us:List Yj}(I:Inv X pins Z H s)(hf:∀b∈ch,Zbg X pins H b)(k:∀b o,b ∉ ch->s.heap.get? b=Wj o->h'.get? b=Wj o)
 (hT:s.heap.objs.size<=T) (tup:Zbc h' T us.toArray) (rv:Zk vs us) (hz:vs.length<=sizeLine):Inv X pins Z (upd H T (.tup vs)) {s with heap:=h',toks:=t'}:=by
 have nit:∀b u,H b=Wj u->b ∉ ch:=λb u e z=>by rw[(hf b z).1]at e;cases e
 have neT:∀b o,s.heap.get? b=Wj o->b≠T:=λb o e=>Ou (Ot (Yn e) hT);have hTn:H T=Wl:=I.hok.fresh hT;refine I.step (g':=s.gens) (d':=s.drawn) (ch:=ch) (ZkA hf) (λb o _ _ hc e _=>k b o hc e) (λb o _ _ hc e _=>⟨o.slots,k b o hc e⟩) (λb o _ e n=>by rw[Zc (neT b o e)];exact n)
  (λb o hc e=>⟨o,k b o hc e⟩) (λb xs e=>by rw[Zc (ZO e hTn)];exact e) (λb o u e=>by rw[Zc (ZO e hTn)];exact e) (λb ps e=>⟨#[],by rw[Zc (ZO e hTn),e];simp⟩) (λm hm=>?_) (λb u e=>?_) I.bare
 . obtain⟨o,es,ep,ho,r⟩:=hm;exact⟨o,es,ep,k _ o (λz=>(hf _ z).2.1 rfl) ho,r⟩
 . by_cases hb:b=T
   . subst hb;rw[Zl]at e;cases e;exact⟨hz,us,rv,tup⟩
   . rw[Zc hb]at e;refine(I.hok b u e).stay (λc v hc q=>k c v ?_ q) (λc q=>by rw[Zc (ZO q hTn)];exact q) λc xs q=>by rw[Zc (ZO q hTn)];exact q
     rcases hc with z|z
     . rw[z];exact nit b u e
     . exact nit c _ z
end
noncomputable def Ite(K:Yk)(a:Yi):It:=⟨λi H=>∃xs x,SqL K H a xs/\xs[i]? = Wj x,λi H v H'=>∃p,v=.ref p/\H p=Wl/\∃x,(∀xs,SqL K H a xs->xs[i]? = Wj x)/\H'=upd H p (.tup [.int i,x]),λi H=>∃xs,SqL K H a xs/\xs.length=i⟩
def ZkO{P:Yh}{w:Yg}{K:Yk}{es:List Expr}{kk:Nat}{tp:Pos}(a it e:Yi)(hei:e≠it)(hae:a≠e)(hai:a≠it):
 Turn P w K (.Tuple es kk tp) (Ite K a) [e,it] e (λi h=>(∃old,IsEnum h e it i old)/\h.IsListIter it a i) where
 mem:=by simp
 obj:=λi h st b hb=>by
  obtain⟨⟨old,he⟩,o,e1,c,d⟩:=st;rcases O1.mp hb with rfl|hb
  . exact⟨_,he,λv z=>by cases z⟩
  . have e2:b=it:=by simpa using hb
    subst e2;exact⟨o,e1,λv z=>by rw[d]at z;cases z⟩
 keep:=λi h h' st k=>by obtain⟨⟨old,he⟩,st⟩:=st;exact⟨⟨old,k e (by simp) _ he⟩,st.at λo z=>k it (by simp) o z⟩
 item:=by
  intro X hP hw hK hc i pins s Z H E I hf st hg;subst hP hw hK;obtain⟨xs,x,hq,hx⟩:=hg;obtain⟨its,rv,p,hz⟩:=I.list hq;have hl:=rv.length;have hi:i<xs.length:=(Ob.mp hx).1;have W:=WalksT.enumerate (prog:=X.prog) (w:=X.w) (I.ok.hd hc) e it a hei hae hai its.toArray;have itm:∀(Q':Option Yj->Yb->Prop) (E':Yj->Yb->Prop),(∀T vals h' tk,(∃t x,its.toArray[i]? = Wj x/\vals=#[.int i t,x])->s.heap.objs.size<=T->Zbc h' T vals ->
   ((∃x,IsEnumOut h' e it ((i:Int)+1) x T)/\h'.IsListIter it a (i+1)/\h'.IsList a its.toArray/\T≠e/\T≠it)->(∀b o,b ∉ [e,it]->s.heap.get? b=Wj o->h'.get? b=Wj o)->Q' (Wj (.ref T)) {s with heap:=h',toks:=tk}) ->
   Yy (model X.prog X.w) X.A (pyNext (.ref e)) Q' E' s:=by
   intro Q' E' hQ;obtain⟨⟨old,he⟩,hit⟩:=st;have hx2:its.toArray[i]? = Wj (its.toArray[i]'(by simp;lia)):=Array.getElem?_eq_getElem (by simp;lia);refine wpAny_pyNext_enum_item he hit p.isList hx2 hei λh' ho hit' hT hsz hk=>?_;have e1:e<s.heap.objs.size:=Yn he;have e2:it<s.heap.objs.size:=by obtain⟨_,z,_⟩:=hit;exact Yn z
   exact hQ s.heap.objs.size _ h' (s.toks+1) ⟨_,_,hx2,rfl⟩ (Oq _) ⟨_,hT,rfl,rfl,_,rfl⟩ ⟨⟨_,ho⟩,hit',p.isList.at λo z=>hk a o hae hai z,Nat.ne_of_gt e1,Nat.ne_of_gt e2⟩
    λb o hb z=>hk b o (λe'=>hb (by simp[e'])) (λe'=>hb (by simp[e'])) z
  refine itm _ _ λT vals h1 tk hP hT tup mid kk=>?_;refine⟨_,rfl,W.go _ _ _ i T {s with heap:=h1,toks:=tk} _ _ mid λh2 st2 kk2=>?_⟩;obtain⟨t,y,hy,rfl⟩:=hP;have hy':its[i]? = Wj y:=by simpa using hy
  obtain⟨u,hu,ru⟩:=rv.get hx;rw[hy']at hu;cases hu;have hTw:T ∉ [e,it]:=W.apart i T h1 mid;have tup2:Zbc h2 T #[.int i t,y]:=by obtain⟨o,q,r⟩:=tup;exact⟨o,kk2 T o hTw q,r⟩
  have I2:Inv X pins Z (upd H T (.tup [.int i,x])) {s with heap:=h2,toks:=tk}:=I.turnT hf (λb o hb q=>kk2 b o hb (kk b o hb q)) hT (us:=[.int i t,y]) tup2 (.cons ⟨t,rfl⟩ (.cons ru .nil)) (by show 2<=sizeLine;decide);refine⟨.ref T,_,I2,rfl,⟨T,rfl,I.hok.fresh hT,x,λys hy=>by rw[I.list_inj hy hq];exact hx,rfl⟩,⟨st2.1,st2.2.1⟩,λb hb=>?_⟩;have neb:b≠T:=λz=>hTw (by rw[<- z];exact hb);rw[Zc neb];exact(hf b hb).1
 done:=by
  intro X hP hw hK hc i pins s Z H E I hf st hg;subst hP hw hK;obtain⟨xs,hq,hx⟩:=hg;obtain⟨its,rv,p,hz⟩:=I.list hq;have hl:=rv.length;have W:=WalksT.enumerate (prog:=X.prog) (w:=X.w) (I.ok.hd hc) e it a hei hae hai its.toArray;have e1:its.toArray.size=i:=by simp;lia
  refine W.done s _ _ ?_ λh1 tk kk=>⟨rfl,I.turnL hf kk⟩
  rw[e1];exact⟨st.1,st.2,p.isList⟩
 self:=λA i s Q E st h=>by obtain⟨⟨old,he⟩,_⟩:=st;exact wpAny_pyIter_enum he h
noncomputable def Zsu(K:Yk)(ta:TA):TI:=λZ H R=>ta Z H λvs H1=>∃a,vs=[.ref a]/\(∃xs,SqL K H1 a xs)/\R (Ite K a) H1
def ZnV{X:Cx}{es:List Expr}{kk:Nat}{tp:Pos}{l:Expr}{ta:TA}{p pos:Pos}(hg:Gl X "enumerate")(hm:X.mg "enumerate" = Wl)(ha:PA X [l] ta)(hs:Yw [l] X.env=[(Wn,eval l X.env)]:=by rfl):
 PI X (.Tuple es kk tp) (.Call (.Name "enumerate" p) [l] [] pos) (Zsu X.K ta):=by
 intro pins s Z H R I h;refine Call_ (Zc9 I hg hm boot_enumerate (PyProof.Rows.callWith_type1 (thn (ha pos pins s Z H _ I h) λus s1 ⟨vs,H1,I1,r1,q1⟩=>?_) hs rfl));obtain⟨a,rfl,⟨xs,hq⟩,q⟩:=q1;obtain⟨u,rfl,ru⟩:=vals1 r1;obtain rfl:u=YA a:=ru;obtain⟨its,rv,pl,hz⟩:=I1.list hq;have hlt:a<s1.heap.objs.size:=by obtain⟨_,_,e,_⟩:=pl;exact Yn e
 refine call_enumerate_list pl.isList λh' he hi hsz kk=>?_;refine wpAny_pyIter_enum he ?_;refine⟨s1.heap.objs.size+1,[s1.heap.objs.size+1,s1.heap.objs.size],_,_,H1,rfl,I1.kept (t':=s1.toks) kk,ZkO a s1.heap.objs.size (s1.heap.objs.size+1) (Nat.succ_ne_self _) (Ou (Nat.lt_succ_of_lt hlt)) (Ou hlt),⟨⟨_,he⟩,hi⟩,λb hb=>?_,q⟩;rcases O1.mp hb with rfl|hb
 . exact I1.fpOk (Nat.le_succ _) (I1.hok.fresh (Nat.le_succ _))
 . have e:b=s1.heap.objs.size:=by simpa using hb
   subst e;exact I1.fpOk (Oq _) (I1.hok.fresh (Oq _))
end L2
end
section
namespace L2
open PySem PySem.Spec PyProof.Rows
def ZoL{X:Cx}{b:List Stmt}{t:TS}{D:Ends}{Z:St}{H:Hp}(h:PSs X b t)(r:t D Z H):∃t,PSs X b t/\t D Z H:=⟨t,h,r⟩
def ZaW{x:Str}{t:Tok}:RelV (.str x) (.str x t):=⟨t,rfl⟩
def Zw{x:Int}{t:Tok}:RelV (.int x) (.int x t):=⟨t,rfl⟩
def Z0{a:Yi}:RelV (.ref a) (.ref a):=rfl
end L2
end
section
namespace L2
open PySem PySem.Spec PyProof.Rows
def DkK(P:Yh)(w:Yg)(K:Yk)(a:Yi)(kvs:List (Key×V)):Prop:=∃(o:Obj) (es:Array DictEntry) (ep:Nat) (vs:List (Key×Yj)),K.lookup a=Wj o/\o.ExactDict/\o.data=.dict es ep/\KeysOf (ZY P w) es/\Pairs (ZY P w) es.toList vs/\(vs.map (·.1)).Nodup/\KV kvs vs/\kvs.length<=sizeLine/\(a==Ye)=Wn
def Dk(P:Yh)(w:Yg)(K:Yk)(H:Hp)(a:Yi)(kvs:List (Key×V)):Prop:=Rd H a (.dK kvs)\/DkK P w K a kvs
section
variable {X:Cx}{pins:List (Yi×Obj)}{Z:St}{H:Hp}{s:Yb}{a:Yi}
def Inv.dk{kvs:List (Key×V)}(I:Inv X pins Z H s)(h:Dk X.prog X.w X.K H a kvs):kvs.length<=sizeLine/\(a==Ye)=Wn/\∃vs,KV kvs vs/\s.heap.DictOf (ZY X.prog X.w) a vs:=by
 rcases h with h|⟨o,es,ep,vs,lk,ex,da,ks,ps,nd,kv,z,hm⟩
 . exact Zpf I.hok h
 . exact⟨z,hm,vs,kv,o,es,ep,I.kIn a o lk,ex,da,ks,ps,nd⟩
noncomputable def ZrS(P:Yh)(w:Yg)(K:Yk)(neg:Bool):R2:=λx y H Q=>∃a kvs k,y=.ref a/\x=kV k/\Dk P w K H a kvs/\Q (.bl (if neg then !(ZdU kvs k).isSome else(ZdU kvs k).isSome)) H
def Zqm:OpR X (YJ .In) (ZrS X.prog X.w X.K Wn):=by intro pins s Z H x y v u Q I rx ry h;obtain⟨a,kvs,k,rfl,rfl,hd,q⟩:=h;cases ry;obtain⟨z,hm,vs,rel,dd⟩:=I.dk hd;refine wpAny_in_of (ZiI rx) hm dd.mapOf ?_;rw[<- (rel.val k).isSome_eq];exact⟨.bl _,H,I.tok _,rfl,q⟩
def Zk5:OpR X (YJ .NotIn) (ZrS X.prog X.w X.K Wm):=by intro pins s Z H x y v u Q I rx ry h;obtain⟨a,kvs,k,rfl,rfl,hd,q⟩:=h;cases ry;obtain⟨z,hm,vs,rel,dd⟩:=I.dk hd;refine wpAny_notIn_of (ZiI rx) hm dd.mapOf ?_;rw[<- (rel.val k).isSome_eq];exact⟨.bl _,H,I.tok _,rfl,q⟩
noncomputable def ZtL(P:Yh)(w:Yg)(K:Yk):R2:=λx y H Q=>∃a kvs k v,x=.ref a/\y=kV k/\Dk P w K H a kvs/\ZdU kvs k=Wj v/\Q v H
def Zos:IxR X (ZtL X.prog X.w X.K):=by intro value slice pins s Z H x y v u Q I rx ry h hs;obtain⟨a,kvs,k,z,rfl,rfl,hd,hv,q⟩:=h;cases rx;obtain⟨_,hm,vs,rel,dd⟩:=I.dk hd;obtain⟨w',hw,rw'⟩:=Zep.some_of (v:=z) (o:=valueAt vs k) (by rw[<- hv];exact rel.val k);exact subscriptTail_builtinR (x:=w') dd.typeIs PySem.F.slot_dict_getitem.lookup (wpAny_getItem_of (ZiI ry) dd.mapOf hw ⟨rfl,z,H,I.tok _,rw',q⟩) hs
def ZsJ{A:YE}{E:Yj->Yb->Prop}{kvs:List (Key×V)}{k:Key}{v:V}{u r:Yj}{Q:Unit->Yb->Prop}(I:Inv X pins Z H s)(e:H a=Wj (.dK kvs))(l:kvs.length<sizeLine)(ry:RelV (kV k) u)(rv:RelV v r)
 (h:∀s',Inv X pins Z (upd H a (.dK (putK kvs k v))) s'->Q () s'):Yy (model X.prog X.w) A (setItem (.ref a) u r) Q E s:=by
 obtain⟨z,hd,vs,rel,dd⟩:=Zpg I.hok e;have hz:vs.length<=sizeLine:=by rw[<- rel.length];exact z
 have hl:(putK kvs k v).length<=sizeLine:=by have:=ZeY kvs k v;lia
 refine wpAny_setItem_pairs (hsz:=hz) (ZiI ry) dd λh' dd' hs=>h _ ?_;have he:∃q,h'.get? a=Wj q:=let ⟨q,_,_,hq,_⟩:=dd';⟨q,hq⟩;exact ZkE I (by rw[e];exact True.intro) hs he (Zm0 hl hd (rel.put k rv) dd')
noncomputable def ZrI:Znh:=λo i v H Q=>∃a kvs k,o=.ref a/\i=kV k/\H a=Wj (.dK kvs)/\kvs.length<sizeLine/\Q (upd H a (.dK (putK kvs k v)))
def set_dict:ZoW X ZrI:=by intro pins s Z H o i v ov iv u Q I ro ri rv h;obtain⟨a,kvs,k,rfl,rfl,e,l,q⟩:=h;cases ro;exact ZsJ I e l ri rv λs' I'=>⟨_,I',q⟩
end
end L2
end
section
set_option tactic.hygienic false
namespace L2
open PySem PySem.Spec PyProof.Rows
section
variable {X:Cx}{elt tg iter:Expr}{ifs:List Expr}{scope sc:Scope}{pos:Pos}{NC:List Str}{js:List (Option Nat)}{k:Nat}{wi:TI}{g:TG}{tc:TT}{te:TE}
def Zjp{y:Str}{py spos:Pos}{i0:Nat}(hN:X.N.Nodup)(hy:X.N[i0]? = Wj y)(hx:Loc X.env.scope y)(hf:X.fn y=Wm\/X.env.scope.names.lookup y=Wj .local)(S_:CompSc NC X.N js sc scope)(hsc:X.env.scope=sc)(hc:X.calm=Wm)(hi:PI X tg iter wi)
 (hb:∀(pins:List (Yi×Obj)) (Z:St) (C:Yi) (s3:Yb) (H3:Hp) (fp:List Yi),Inv X pins Z H3 s3->(∀b∈fp,Zbg X pins H3 b)->C=s3.heap.objs.size->PG (Zy X NC scope C s3 H3 fp) tg g/\PIf (Zy X NC scope C s3 H3 fp) ifs tc/\PE (Zy X NC scope C s3 H3 fp) elt te)
 (hk:Zlx k g) (hjk:∀j,j<k->js[j]? = Wj Wl) (hs:∀x,foldedSetIterable iter X.env x=pure x:=by intro _;rfl) (hsw:swapsWith (.ListComp elt [⟨tg,iter,ifs,0⟩] scope pos) (Wj (.Name y py)) spos.line X.env=pure Wm:=by rfl) :
 PS X (.Assign [.Name y py] (.ListComp elt [⟨tg,iter,ifs,0⟩] scope pos) spos) (ZlK (Zo4 wi js g tc te) (Zda i0)):=by
 intro pins s Z H D0 I h;have hcells:∀y∈scope.names,y.2=.free->∃c,X.env.cells.lookup y.1=Wj c:=λy hy hf=>I.ok.has y.1 (.inl (show X.env.scope.names.lookup y.1=Wj .cell by rw[hsc];exact S_.free y hy hf));rw[exec_Assign_Name_used _ _ _ _ hsw];refine Ya (wpAny_standAt (Ya ?_));show Yy _ X.A (do let _ <- comprehension (.ListComp elt [⟨tg,iter,ifs,0⟩] scope pos) scope X.env _ (newList []) Wn (eval iter X.env) (Wj (assign (.Name y py) X.env))) _ _ s;refine Ya (Yf (wpAny_comprehension_free (use:=Wj (assign (.Name y py) X.env)) (Q:=λ_ s'=>SP X pins D0 .next s') rfl hs (ZdG hcells) S_.kind S_.locs (thn (hi pins s Z H _ I h) λxv s1 h1=>thn h1 λitv s2 h2=>?_)) (λ_ s' hq=>Yc (Yc hq)) λ_ _ e=>e);obtain⟨it,fp,tn,J,H2,e,I2,T,st2,f2,rest⟩:=h2;subst e;have hD:H2 s2.heap.objs.size=Wl:=I2.hok.fresh (Oq _);obtain⟨W,⟨m0,w0⟩,turn⟩:=rest s2.heap.objs.size hD;refine Yq (wpAny_newFunctionEnv S_.nocell (by intro y hy;simp at hy) (λh4 hns hsb=>?_) S_.kind);have I3:Inv X pins Z (upd H2 s2.heap.objs.size (.lst [])) {s2 with heap:=s2.heap.push {cls:=.type "list",dict:=Wl,data:=.seq ([]:List Yj).toArray}}:=I2.lnew (t':=s2.toks) (ys:=[]) (its:=[]) .nil (Yv _);dsimp only at hns hsb ⊢;generalize hs3:({s2 with heap:=s2.heap.push {cls:=.type "list",dict:=Wl,data:=.seq ([]:List Yj).toArray}}:Yb)=s3 at I3;have eh:s2.heap.push {cls:=.type "list",dict:=Wl,data:=.seq ([]:List Yj).toArray}=s3.heap:=by rw[<- hs3]
 have eD:s2.heap.objs.size<s3.heap.objs.size:=by rw[<- eh,Heap.size_push];exact OH _
 rw[eh]at hns hsb;have keep:∀b o,s3.heap.get? b=Wj o->h4.get? b=Wj o:=λb o e=>(hsb.2 b (Ou (Yn e))).trans (Od _ e);have fpl:∀b∈fp,∃o,s3.heap.get? b=Wj o:=λb hb=>by obtain⟨o,e,_⟩:=T.obj 0 _ st2 b hb;exact⟨o,by rw[<- eh];exact Od _ e⟩
 have neD:∀b∈fp,b≠s2.heap.objs.size:=λb hb=>by obtain⟨o,e,_⟩:=T.obj 0 _ st2 b hb;exact Ou (Yn e)
 have f3:∀b∈fp,Zbg X pins (upd H2 s2.heap.objs.size (.lst [])) b:=λb hb=>⟨by rw[Zc (neD b hb)];exact(f2 b hb).1,(f2 b hb).2⟩
 have I4:=ZiK (tk:=s2.toks+([]:List (Str×Yj)).length) S_ hsc hc I3 f3 fpl rfl hns keep;have st4:tn 0 h4:=T.keep 0 _ _ st2 λb hb o e=>keep b o (by rw[<- eh];exact Od _ e);have eC:(s2.heap.push {cls:=.type "list",dict:=Wl,data:=.seq ([]:List Yj).toArray}).objs.size=s3.heap.objs.size:=by rw[eh]
 have loop:∀s4:Yb,s4={s3 with heap:=h4,toks:=s2.toks+([]:List (Str×Yj)).length} ->
  codeAny (model X.prog X.w) X.A (.compLoop (.ListComp elt [⟨tg,iter,ifs,0⟩] scope pos) 0 (.ref it) (.ref s2.heap.objs.size) (compEnvC scope (Zdc X.env scope.names []) s3.heap.objs.size X.env))
   (compPost (model X.prog X.w) X.A X.xe (Wj (assign (.Name y py) X.env)) (λ_ s'=>SP X pins D0 .next s') (.ref s2.heap.objs.size) s3.heap.objs.size) s4:=by
  rintro s4 rfl;refine ZgT (Q:=λx H1=>Zda i0 x Z H1 D0.nx) hb hk hjk rfl I3 f3 fpl I4 T st4 Zl w0 turn (λs6 H5 I6 qn=>?_) (λ_ _ z=>z);obtain⟨m,hm,_⟩:=I6.loc;have Io:Inv X pins Z H5 s6:=I3.comp_out (h'':=s6.heap) f3 rfl I6 ⟨rfl,λ_ _=>rfl⟩;have fC:Zbg X pins H5 s3.heap.objs.size:=I3.fpOk (Oq _) I6.free;show Yy _ X.A (assign (.Name y py) X.env (.ref s2.heap.objs.size)) _ _ _;refine wpAny_assign_Name (ZgF Io hN hy hx (v:=.ref s2.heap.objs.size) rfl (λs8 I8 ⟨a8,sb8,ha8⟩=>?_) hf);have ne8:s3.heap.objs.size≠a8:=λz=>by
   rcases ha8 with e|e
   . exact fC.2.1 (z.trans e)
   . exact fC.2.2.2.2.1 _ _ e z.symm
  refine⟨m,hm.sameBut sb8 ne8,λh' hs'=>?_⟩;exact⟨_,H5,I8.turnL (t':=s8.toks) (ch:=[s3.heap.objs.size]) (λb hb=>by rw[Ox.mp hb];exact fC) (λb o hb e=>(hs'.2 b (λz=>hb (by rw[z];exact List.mem_singleton_self _))).trans e),qn⟩
 have e4:({s2 with heap:=h4,toks:=s2.toks+([]:List (Str×Yj)).length}:Yb)={s3 with heap:=h4,toks:=s2.toks+([]:List (Str×Yj)).length}:=by rw[<- hs3]
 rw[eC];exact codeAny_compStart_list (loop _ e4) (T.self X.A 0 _ _ _ st4 (loop _ e4))
end
end L2
end
section
namespace L2
open PySem PySem.Spec PyProof.Rows
mutual
inductive Dp(K:Yk)(H:Hp):V->PyData->Prop
 |non:Dp K H .non .none
 |bl (b:Bool):Dp K H (.bl b) (.bool b)
 |int (i:Int):Dp K H (.int i) (.int i)
 |str (x:Str) (ok:Yp x=Wm):Dp K H (.str x) (.str x)
 |lst {a:Yi}{xs:List V}{ds:List PyData}:SqL K H a xs->Dps K H xs ds->Dp K H (.ref a) (.list ds)
 |tup {a:Yi}{xs:List V}{ds:List PyData}:SqT K H a xs->Dps K H xs ds->Dp K H (.ref a) (.tuple ds)
inductive Dps(K:Yk)(H:Hp):List V->List PyData->Prop
 |nil:Dps K H [] []
 |cons {v:V}{vs:List V}{d:PyData}{ds:List PyData}:Dp K H v d->Dps K H vs ds->Dps K H (v::vs) (d::ds)
end
section
variable {K:Yk}{H H':Hp}
mutual
theorem Dp.lay:∀{v:V}{d:PyData},Dp K H v d->d.canLay0=Wm
 |_,_,.non=>rfl
 |_,_,.bl b=>rfl
 |_,_,.int i=>rfl
 |_,_,.str x ok=>ok
 |_,_,.lst h r=>Dps.lay r
 |_,_,.tup h r=>Dps.lay r
theorem Dps.lay:∀{v:List V}{d:List PyData},Dps K H v d->PyData.canLayAll0 d=Wm
 |_,_,.nil=>rfl
 |_,_,.cons h r=>by rw[PyData.canLayAll0,Dp.lay h,Dps.lay r];rfl
end
end
section
variable {X:Cx}{pins:List (Yi×Obj)}{Z:St}{H:Hp}{s:Yb}
mutual
theorem Inv.reads(I:Inv X pins Z H s):∀{v:V}{d:PyData}{u:Yj},Dp X.K H v d->RelV v u->∃as,Reads s.heap u d as
 |_,_,_,.non,r=>by cases r;exact⟨_,.none⟩
 |_,_,_,.bl b,r=>by cases r;exact⟨_,.bool b⟩
 |_,_,_,.int i,r=>by obtain⟨t,rfl⟩:=r;exact⟨_,.int i t⟩
 |_,_,_,.str x ok,r=>by obtain⟨t,rfl⟩:=r;exact⟨_,.str x t⟩
 |_,_,_,.lst h rs,r=>by cases r;obtain⟨its,rv,⟨o,n,e,c,_,dd⟩,_⟩:=I.list h;obtain⟨as,q⟩:=Inv.readsAll I rs rv;exact⟨_,.list e c dd (by simpa using q)⟩
 |_,_,_,.tup h rs,r=>by cases r;obtain⟨its,rv,⟨o,e,c,n,dd⟩,_⟩:=I.tuple h;obtain⟨as,q⟩:=Inv.readsAll I rs rv;exact⟨_,.tuple e c dd (by simpa using q)⟩
theorem Inv.readsAll(I:Inv X pins Z H s):∀{v:List V}{d:List PyData}{u:List Yj},Dps X.K H v d->Zk v u->∃as,ReadsAll s.heap u d as
 |_,_,_,.nil,r=>by cases r;exact⟨_,.nil⟩
 |_,_,_,.cons h rs,r=>by
  cases r with
  |cons r1 r2=>obtain⟨as,q⟩:=Inv.reads I h r1;obtain⟨bs,q2⟩:=Inv.readsAll I rs r2;exact⟨_,.cons q q2⟩
end
end
end L2
end
section
set_option tactic.hygienic false
namespace L2
open PySem PySem.Spec PyProof.Rows
namespace Rv
def own:Manifest.owners.lookup (String.ofList ['d','e','s','r','e','v','e','r'].reverse)=Wj Manifest.sig_reversed:=by kernel_rfl
def next:Slot "reversed" "__next__" "reversed.__next__" :=
 .of (owner := "reversed") (n := "__next__") (by rw[typeLookup_type,builtinLookup_eq_fast]<;>kernel_rfl) (by decide +kernel) (by decide +kernel) (by decide +kernel) (by first|exact .inl (by decide +kernel)|exact .inr (by decide +kernel)) (by rw[isSubtype_type]<;>kernel_rfl)
def Zpe:entryFor table "reversed.__next__" = Wj Builtin.«reversed.__next__»:=entryFor_of_tree (by kernel_rfl)
def Zpp(a:Yj):argsOk "reversed.__next__" ⟨[a],[]⟩:=by unfold argsOk;rw[signature?_of (id := "reversed.__next__") (n:=['_','_','t','x','e','n','_','_']) (o:=['d','e','s','r','e','v','e','r']) (by kernel_rfl) own];kernel_rfl
def iter:Slot "reversed" "__iter__" "reversed.__iter__" :=
 .of (owner := "reversed") (n := "__iter__") (by rw[typeLookup_type,builtinLookup_eq_fast]<;>kernel_rfl) (by decide +kernel) (by decide +kernel) (by decide +kernel) (by first|exact .inl (by decide +kernel)|exact .inr (by decide +kernel)) (by rw[isSubtype_type]<;>kernel_rfl)
def ZsR(a:Yj):argsOk "reversed.__iter__" ⟨[a],[]⟩:=by unfold argsOk;rw[signature?_of (id := "reversed.__iter__") (n:=['_','_','r','e','t','i','_','_']) (o:=['d','e','s','r','e','v','e','r']) (by kernel_rfl) own];kernel_rfl
def ZsG:entryFor table "reversed.__iter__" = Wj Builtin.«dict_keyiterator.__iter__» :=entryFor_alias (id' := "dict_keyiterator.__iter__") (by kernel_rfl) (by first|rfl|decide +kernel|(unfold String.splitOn;simp +decide [String.splitOnAux])) (by decide +kernel) (by kernel_rfl)
def Zsi:typeLookup (.type "tuple") "__reversed__" = pure Wl:=by rw[typeLookup_type,builtinLookup_eq_fast]<;>kernel_rfl
def Zke:isSubtype (.type "reversed") (.type "reversed")=pure Wm:=by rw[isSubtype_type]<;>kernel_rfl
def init:Slot "reversed" "__init__" "object.__init__" :=
 .of (owner := "object") (n := "__init__") (by rw[typeLookup_type,builtinLookup_eq_fast]<;>kernel_rfl) (by decide +kernel) (by decide +kernel) (by decide +kernel) (by first|exact .inl (by decide +kernel)|exact .inr (by decide +kernel)) (by rw[isSubtype_type]<;>kernel_rfl)
def called:TypeCalled "reversed" "reversed.__new__" "object.__init__" := ⟨by decide +kernel,F.create_reversed,⟨_,_,F.mro_reversed⟩,F.made_reversed,by decide +kernel,Zke,init⟩
noncomputable def obj(l:Yi)(i:Int):Obj:={cls:=.type "reversed",data:=.fields #[.ref l,rawInt i]}
def Is(h:YD)(a l:Yi)(i:Int):Prop:=∃o,h.get? a=Wj o/\o.cls=.type "reversed" /\ o.data=.fields #[.ref l,rawInt i]
section
variable {prog:Yh}{w:Yg}{A:YE}{E:Yj->Yb->Prop}{s:Yb}
def Is.typeIs{a l:Yi}{i:Int}(x:Is s.heap a l i):s.TypeIs (.ref a) "reversed" := let ⟨o,ho,hc,_⟩:=x;⟨o,ho,hc⟩
def Is.at{h h':YD}{a l:Yi}{i:Int}(x:Is h a l i)(e:∀o,h.get? a=Wj o->h'.get? a=Wj o):Is h' a l i:=let ⟨o,ho,r⟩:=x;⟨o,e _ ho,r⟩
def new{l:Yi}{items:Array Yj}{Q:Yj->Yb->Prop}(hl:IsTup s.heap l items)(hz:items.size<=sizeLine)
 (h:Q (.ref s.heap.objs.size) {s with heap:=s.heap.push (obj l ((items.size:Int) - 1)),toks:=s.toks+1+1}) :
 codeAny (model prog w) A (.call (.builtin "reversed.__new__") ⟨[.type "reversed",.ref l],[]⟩) (wants Q E) s:=by
 have hfit:(items.size:Int)<2 ^ 63:=by have:=Zbq;lia
 refine codeAny_of_tree ?_;show Yy _ A.in1 (do checkBuiltinCall "reversed.__new__" ⟨[.type "reversed",.ref l],[]⟩;again (.builtin "reversed.__new__" ⟨[.type "reversed",.ref l],[]⟩)) _ _ s;refine Ya (Wg (F.newCall_reversed_1 _) (Yc ⟨plainId_quiet F.plain_reversed_new _,codeAny_builtin F.entry_reversed_new ?_⟩));rw[Around.under_plainId F.plain_reversed_new _];unfold Builtin.«reversed.__new__»;refine Ya (Wg (newClass_reversed _) ?_)
 try dsimp only
 refine Ya (Wg (a:=()) (by first|rfl|kernel_rfl) (Ya (Wg (a:=()) (by first|rfl|kernel_rfl) ?_)))
 try dsimp only
 refine Ya (wpAny_specialOf hl.typeIs Zsi ?_)
 try dsimp only
 refine Ya ?_;show Yy _ _ (isInstance (.ref l) (.type "dict") >>= λb=>_) _ _ s;refine Ya (wpAny_isInstance hl.typeIs F.sub_tuple_dict ?_);show Yy _ _ (specialOf (.ref l) "__getitem__" >>= λb=>_) _ _ s;refine Ya (wpAny_specialOf hl.typeIs slot_tuple_getitem.lookup ?_);refine Wg (a:=true) (by rfl) ?_;show Yy _ _ (call (.builtin "len") [.ref l] >>= λb=>_) _ _ s;refine Ya (len_tuple hl hfit ?_);show Yy _ _ (asInt? (.int _ _) >>= λb=>_) _ _ _;refine Ya (Yc ?_);show Yy _ _ (newObj (.type "reversed") (.fields #[.ref l,rawInt ((items.size:Int) - 1)]) >>= λb=>_) _ _ _;exact Ya (Yq (Yc h))
theorem call{l:Yi}{items:Array Yj}{Q:Yj->Yb->Prop}(hl:IsTup s.heap l items)(hz:items.size<=sizeLine)
 (h:Q (.ref s.heap.objs.size) {s with heap:=s.heap.push (obj l ((items.size:Int) - 1)),toks:=s.toks+1+1}):Yy (model prog w) A (PySem.call (.type "reversed") [.ref l]) Q E s:=by
 refine callType_codes called (F.typeCall_reversed_1 _) F.entry_object_init (new (Q:=λo s1=>o=.ref s.heap.objs.size/\s1={s with heap:=s.heap.push (obj l ((items.size:Int) - 1)),toks:=s.toks+1+1}) hl hz ⟨rfl,rfl⟩) ?_;rintro _ _ ⟨rfl,rfl⟩;have hT:Shared.TypeIs {s with heap:=s.heap.push (obj l ((items.size:Int) - 1)),toks:=s.toks+1+1} (.ref s.heap.objs.size) "reversed" := ⟨_,Oj _ rfl,rfl⟩
 refine⟨hT,F.args_object_init_2 _ _,?_⟩;exact object_init_meets init.lookup F.made_reversed (by decide) prog w _ _ _ ⟨hT,rfl,h⟩
def next_item{it l:Yi}{i:Nat}{items:Array Yj}{x:Yj}{Q:Option Yj->Yb->Prop}(hit:Is s.heap it l (i:Int))(hl:IsTup s.heap l items)(hz:items.size<=sizeLine)(hx:items[i]? = Wj x)
 (hQ:∀h' t',Is h' it l ((i:Int) - 1)->Heap.SameBut it s.heap h'->Q (Wj x) {s with heap:=h',toks:=t'}):Yy (model prog w) A (pyNext (.ref it)) Q E s:=by
 obtain⟨o,ho,hc,hd⟩:=id hit;have hi:i<items.size:=by have:=(Array.getElem?_eq_some_iff.mp hx).1;exact this
 have l63:=Zbq;unfold pyNext;refine Ya (wpAny_attempt (YX (name:=O "__next__") hit.typeIs next (Wb next hit.typeIs Zpe ?_ (Zpp _))));unfold Builtin.«reversed.__next__»;refine Ya (Wg (a:=(YA it,[])) rfl ?_)
 try dsimp only
 refine Ya (YN ho hd (x:=.ref l) rfl (Ya (YN ho hd (x:=rawInt (i:Int)) rfl ?_)));show Yy _ _ (if (i:Int)<0 then _ else _) _ _ s;rw[if_neg (by lia)];show Yy _ _ (specialOf (.ref l) "__getitem__" >>= λb=>_) _ _ s;refine Ya (wpAny_specialOf hl.typeIs slot_tuple_getitem.lookup ?_);show Yy _ _ (mkInt (i:Int) >>= λb=>_) _ _ s;refine Ya (wpAny_mkInt ?_);refine Ya (wpAny_attempt (getItem_tuple (s:={s with toks:=s.toks+1}) (j:=i) (x:=x) hl (by lia) (by lia) (seqIndex_of (by lia) (by lia)) hx ?_));show Yy _ _ (field (.ref it) 1 >>= λb=>_) _ _ _;refine Ya (YN ho hd (x:=rawInt (i:Int)) rfl ?_);show Yy _ _ (setField (.ref it) 1 (rawInt ((i:Int) - 1)) >>= λb=>_) _ _ _;refine Ya (wpAny_setField ho hd (by simp) ?_);refine Yc ⟨x,rfl,Yc (hQ _ _ ?_ (Heap.SameBut.update ..))⟩;exact⟨_,YS _ ho (Obj.isFreed_of_fields (YU hd _)),(Obj.cls_mapFields ..).trans hc,by rw[YU hd]<;>simp⟩
def next_end{it l:Yi}{Q:Option Yj->Yb->Prop}(hh:A.handled=Wl)(hit:Is s.heap it l (-1))(hQ:∀h',Heap.ExtBut it s.heap h'->Q Wl {s with heap:=h'}):Yy (model prog w) A (pyNext (.ref it)) Q E s:=by
 obtain⟨o,ho,hc,hd⟩:=id hit;unfold pyNext;refine Ya (wpAny_attempt (YX (name:=O "__next__") hit.typeIs next (Wb next hit.typeIs Zpe ?_ (Zpp _))));unfold Builtin.«reversed.__next__»;refine Ya (Wg (a:=(YA it,[])) rfl ?_)
 try dsimp only
 refine Ya (YN ho hd (x:=.ref l) rfl (Ya (YN ho hd (x:=rawInt (-1)) rfl ?_)));show Yy _ _ (if (-1:Int)<0 then _ else _) _ _ s;rw[if_pos (by decide)];refine Ya (wpAny_rule ?_);show Yy _ _ ((setField (.ref it) 1 (rawInt (-1)) >>= λ_=>setField (.ref it) 0 .none) >>= λb=>_) _ _ _;have e1:=YS (Obj.mapFields (·.setIfInBounds 1 (rawInt (-1)))) ho (Obj.isFreed_of_fields (YU hd _));refine Ya (Ya (wpAny_setField ho hd (by simp) (wpAny_setField e1 (YU hd _) (by simp) ?_)));refine Ya ?_;show Yy _ _ (newExc (.type "StopIteration") [] >>= λb=>_) _ _ _;refine Ya ?_;simp only[newExc,newTuple];refine Ya (Yq ?_ (by size_fits));refine Ya (m:=firstArgMember _ _) (Wg (a:=Value.none) (by first|rfl|(simp only[firstArgMember]<;>rfl)) (Yq ?_ (by size_fits)));simp only[raiseNew];refine Ya (wpAny_handled ?_);rw[show A.in1.handled=Wl from hh];refine Ya (Yc (wpAny_throw ?_));refine Ya (wpAny_isInstance (T := "StopIteration") (b:=true) ⟨_,Oj _ rfl,rfl⟩ isSubtype_stop (Yc (hQ _ ?_)));exact((((Heap.ExtBut.refl _ _).trans (Heap.SameBut.update ..).extBut).trans (Heap.SameBut.update ..).extBut).push _).push _
def ZeG{it l:Yi}{i:Int}{Q:Yj->Yb->Prop}(hit:Is s.heap it l i)(h:Q (.ref it) s):Yy (model prog w) A (pyIter (.ref it)) Q E s:=by refine wpAny_pyIter_slot hit.typeIs iter (Wb iter hit.typeIs ZsG ?_ (ZsR _));exact Yc ⟨_,rfl, "reversed",_,hit.typeIs,next.lookup,h⟩
end
end Rv
noncomputable def Itv(K:Yk)(a:Yi)(n:Nat):It:=⟨λi H=>∃xs x,SqT K H a xs/\xs.length=n/\xs.reverse[i]? = Wj x,λi H x H'=>H'=H/\∀xs,SqT K H a xs->xs.reverse[i]? = Wj x,λi H=>∃xs,SqT K H a xs/\xs.length=n/\n=i⟩
def ZlH{P:Yh}{w:Yg}{K:Yk}{tg:Expr}(a it:Yi)(n:Nat):Turn P w K tg (Itv K a n) [it] it (λi h=>i<=n/\Rv.Is h it a ((n:Int) - 1 - i)) where
 mem:=by simp
 obj:=λi h st b hb=>by
  have e:b=it:=by simpa using hb
  subst e;obtain⟨_,o,e,c,d⟩:=st;exact⟨o,e,λv z=>by rw[d]at z;cases z⟩
 keep:=λi h h' st k=>⟨st.1,st.2.at λo e=>k it (by simp) o e⟩
 item:=by
  intro X hP hw hK hc i pins s Z H E I hf st hg;subst hP hw hK;obtain⟨hin,st⟩:=st;obtain⟨xs,x,hq,hxn,hx⟩:=hg;obtain⟨its,rv,p,hz⟩:=I.tuple hq;have hl:=rv.length;have hi:i<xs.length:=by have:=(Ob.mp hx).1;simpa using this
  have hx':xs[n - 1 - i]? = Wj x:=by rw[List.getElem?_reverse hi]at hx;rw[<- hxn];exact hx
  obtain⟨u,hu,ru⟩:=rv.get hx';obtain⟨f0,f1,f2,f3,f4,f5⟩:=hf it (by simp);have e1:(n:Int) - 1 - (i:Nat)=((n - 1 - i:Nat):Int):=by lia
  rw[e1]at st;refine Rv.next_item st p (by simp;lia) (x:=u) (by simpa using hu) λh' t' st' sb=>?_;have I1:Inv X pins Z H {s with heap:=h',toks:=t'}:=I.turned (t':=t') (λb o hb e=>(sb.2 b hb).trans e) f0 f1 f3 f4 f5;obtain⟨o,e,c,d⟩:=id st';have e2:((n - 1 - i:Nat):Int) - 1=(n:Int) - 1 - ((i+1:Nat):Int):=by lia
  refine⟨u,rfl,ZiM (s:={s with heap:=h',toks:=t'}) e c d (by decide) ⟨x,H,I1,ru,⟨rfl,λys hy=>by rw[I.tuple_inj hy hq];exact hx⟩,⟨by lia,by rw[<- e2];exact st'⟩,λb hb=>(hf b hb).1⟩⟩
 done:=by intro X hP hw hK hc i pins s Z H E I hf st hg;subst hP hw hK;obtain⟨xs,hq,hxn,hx⟩:=hg;obtain⟨f0,f1,f2,f3,f4,f5⟩:=hf it (by simp);have st1:=st.2;rw[show(n:Int) - 1 - (i:Nat)=-1 by lia]at st1;exact Rv.next_end (I.ok.hd hc) st1 λh' eb=>⟨rfl,I.turned (t':=s.toks) (λb o hb e=>eb b o hb e) f0 f1 f3 f4 f5⟩
 self:=λ_ _ _ _ _ st h=>Rv.ZeG st.2 h
end L2
end
section
namespace L2
open PySem PySem.Spec PyProof.Rows
noncomputable def Zip(z:Str)(n:Nat):Str:=⟨(YH n z.cps).foldl (·++·) #[]⟩
theorem Zf7(a:Array Nat):∀(n:Nat) (i:Array Nat),((YH n a).foldl (·++·) i).size=i.size+n * a.size
 |0,i=>by simp
 |n+1,i=>by
  rw[List.replicate_succ,List.foldl_cons,Zf7 a n (i++a),Array.size_append,Nat.succ_mul]
  lia
def Zio(z:Str)(n:Nat):(Zip z n).length=n * z.length:=by show((YH n z.cps).foldl (·++·) #[]).size=_;rw[Zf7];simp;rfl
section
variable {X:Cx}
def Zn6:OpR X (binaryOp .Mult) (λx y H Q=>∃z n,x=.str z/\y=.int n/\0<=n/\n<=1000/\z.length<=1000/\Q (.str (Zip z n.toNat)) H):=by
 intro pins s Z H x y v u Q I rx ry h;obtain⟨z,n,rfl,rfl,h0,h1,h2,q⟩:=h;obtain⟨t,rfl⟩:=rx;obtain⟨t2,rfl⟩:=ry;have hl:z.length * n.toNat<=1000000:=Nat.mul_le_mul h2 (by lia:n.toNat<=1000);have hs:(1000000:Nat)<=sizeLine:=by decide
 refine PySem.P.mul_str (by rw[decide_eq_false (by lia:¬ n < -(2 ^ 63:Int)),decide_eq_false (by lia:¬ n ≥ 2 ^ 63)]<;>rfl) (λ_ _=>?_) (λ_ _=>?_) ?_
 . have h3:1<=n:=by lia
   have h4:(9223372036854775807:Int) / n ≥ 1000:=by have:1000<=9223372036854775807 / n:=(Int.le_ediv_iff_mul_le (by lia)).mpr (by lia);exact this
   show ¬ ((z.length:Int) > (2 ^ 63 - 1) / n);rw[show(2 ^ 63 - 1:Int)=9223372036854775807 by decide]
   lia
 . unfold Builtin.Str.tooLong;exact decide_eq_false (by lia)
 . by_cases hn:n<1
   . rw[if_pos hn];refine⟨by decide,.str _,H,I.tok _,⟨_,rfl⟩,?_⟩;rw[show n.toNat=0 by lia]at q;exact q
   . rw[if_neg hn];by_cases h5:(n==1 || z.length==0)=Wm
     . rw[if_pos h5];refine⟨.str _,H,I,⟨_,rfl⟩,?_⟩;have e:Zip z n.toNat=z:=by
        rw[Wi]at h5;rcases h5 with h5|h5
        . have e1:n.toNat=1:=by have:=eq_of_beq h5;lia
          rw[e1];unfold Zip;simp
        . have e1:z.length=0:=eq_of_beq h5;have e2:(Zip z n.toNat).length=0:=by rw[Zio,e1];simp
          have f:∀y:Str,y.length=0->y=⟨#[]⟩:=λy hy=>by cases y with|mk c=>rw[show c=#[]from Array.eq_empty_of_size_eq_zero hy]
          exact(f _ e2).trans (f z e1).symm
       rw[e]at q;exact q
     . rw[if_neg h5];refine⟨?_,.str _,H,I.tok _,⟨_,rfl⟩,q⟩;show(Zip z n.toNat).length<=sizeLine;rw[Zio,Nat.mul_comm]
       lia
end
end L2
end
section
namespace L2
open PySem PySem.Spec PyProof.Rows
section
variable {X:Cx}
def Zhj{i j:Int}(hi:i.natAbs<2 ^ 2000)(hj:j.natAbs<2 ^ 2000):IntMulOk i j:=by
 have bits:∀k:Int,k.natAbs<2 ^ 2000->Builtin.Int.intBits k<=2000:=λk hk=>by
  unfold Builtin.Int.intBits;split
  . lia
  . rename_i h;have h0:k.natAbs≠0:=by simpa using h
    have:=(Nat.log2_lt h0).mpr hk
    lia
 unfold IntMulOk;have h1:=bits i hi;have h2:=bits j hj;have h3:Builtin.Int.intTooBig (Builtin.Int.intBits i+Builtin.Int.intBits j:Nat)=Wn:=by
  unfold Builtin.Int.intTooBig;rw[decide_eq_false_iff_not];have:(bitsLine:Nat)=134217728:=by decide
  rw[this]
  lia
 intro q;simp only[Oa]at q;have q2:=q.2;rw[show((Builtin.Int.intBits i:Int)+(Builtin.Int.intBits j:Int))=((Builtin.Int.intBits i+Builtin.Int.intBits j:Nat):Int) by simp]at q2;rw[h3]at q2;cases q2
def Zk6:OpR X (binaryOp .Mult) (rI (λi j=>i.natAbs<2 ^ 2000/\j.natAbs<2 ^ 2000) λi j=>.int (i * j)):=opI λ_ _ _ _ _ _ _ hc q=>mul_int q (Zhj hc.1 hc.2)
noncomputable def ZrU(K:Yk):R2:=λx y H Q=>∃a b ys,x=.ref a/\y=.ref b/\SqT K H a []/\SqT K H b ys/\Q (.ref b) H
def Zn9:OpR X (binaryOp .Add) (ZrU X.K):=by
 intro pins s Z H x y v u Q I rx ry h;obtain⟨a,b,ys,rfl,rfl,ha,hb,q⟩:=h;cases rx;cases ry;obtain⟨its,r1,ht,_⟩:=I.tuple ha;obtain⟨its2,r2,hb,_⟩:=I.tuple hb;cases r1;obtain⟨⟨cls,dd,data,sl⟩,ho,hc,n,hd⟩:=id ht;obtain⟨⟨cls2,dd2,data2,sl2⟩,ho2,hc2,n2,hd2⟩:=id hb;simp only at hc hd hc2 hd2;subst hc hd hc2 hd2;exact concat_meets ⟨_,ho,rfl⟩ ⟨_,ho2,rfl⟩ noFill_tuple_add seq_tuple_add PySem.F.slot_tuple_add PySem.F.entry_tuple_add (PySem.F.args_tuple_add_2 _ _)
  (tuple_addW0 a b _ _ n n2 dd dd2 sl sl2 (by simp)) ⟨ho,ho2,⟨.ref b,H,I,rfl,q⟩⟩
end
end L2
namespace HT
open PySem PyProof.Rows
section
variable {prog:Yh}{w:Yg}{A:YE}{E:Yj->Yb->Prop}{s:Yb}
def Zdt{t sl:Yi}{items:Array Yj}{vl vu:Yj}{lo hi:Option Int}{Q:Yj->Yb->Prop}(ht:IsTup s.heap t items)(hs:s.heap.IsSliceOf sl vl vu .none)(pl:IsPart vl lo)(pu:IsPart vu hi)
 (hw:sIx items.size 0 lo=0/\sIx items.size items.size hi=items.size) (h:Q (.ref t) s):Yy (model prog w) A (getItem (.ref t) (.ref sl)) Q E s:=by
 obtain⟨os,hos,hcs,hds⟩:=id hs;have hTs:s.TypeIs (.ref sl) "slice" := ⟨os,hos,hcs⟩
 unfold getItem
 try with_reducible refine Wa ?_
 first|refine Ya (Yc ?_)|skip
 refine Ya (wpAny_sequenceKey ht.typeIs (by decide) ?_);refine Ya (YX (name:=O "__getitem__") ht.typeIs Wf
  (Wb Wf ht.typeIs entry_tuple_getitem ?_ (args_tuple_getitem _ _)))
 show Yy _ _ (Builtin.Tuple.tupleItemsOf (.ref t) >>= _) _ _ s;refine Ya (tupleItemsOf_ ht ?_);refine Ya (wpAny_typeOf hTs ?_);rw[if_pos (by decide)];refine Ya (Zca hs pl pu ?_);have hyes:(((sIx items.size 0 lo:Nat):Int)==0&&(1:Int)==1&&(sIx items.size items.size hi - sIx items.size 0 lo)==items.size)=Wm:=by rw[hw.1,hw.2];simp
 show Yy _ _ (if (((sIx items.size 0 lo:Nat):Int)==0&&(1:Int)==1&&(sIx items.size items.size hi - sIx items.size 0 lo)==items.size)=Wm then _ else _) _ _ s;rw[if_pos hyes];unfold Builtin.Tuple.tupleIsExact;refine Ya (Ya (wpAny_typeOf ht.typeIs (Yc ?_)));rw[if_pos (by decide)];exact Ya (wpAny_rule (Yc ⟨_,rfl,Yc h⟩))
end
end HT
namespace L2
open PySem PySem.Spec PyProof.Rows
section
variable {X:Cx}
def ZtD(K:Yk):V->Option Int->Option Int->Hp->VK->Prop:=λx lo hi H Q=>∃a xs,x=.ref a/\SqT K H a xs /\
 (HT.sIx xs.length 0 lo=0/\HT.sIx xs.length xs.length hi=xs.length)/\Q (.ref a) H
def ZlQ:SlR X (ZtD X.K):=by
 intro pins s Z H x v vl vu lo hi sl Q I rx hs pl pu h;obtain⟨a,xs,rfl,hx,hw,q⟩:=h;cases rx;obtain⟨its,r,ht,hz⟩:=I.tuple hx;have hlen:its.toArray.size=xs.length:=by rw[Of];exact r.length.symm
 refine⟨"tuple",_,PyProof.Rows.slot_tuple_getitem.lookup,ht.typeIs,?_⟩;exact HT.Zdt ht hs pl pu (by rw[hlen];exact hw) ⟨.ref a,H,I,rfl,q⟩
end
end L2
end
section
set_option tactic.hygienic false
namespace L2
namespace Mx
open PySem PyProof.Rows
def nm:(toString "max" ++ toString ".loop" : String) = "max.loop" := by decide
section
variable {prog:Yh}{w:Yg}{A:YE}{Z_:Result->Yb->Prop}{J:Yi}{fo wo:List Yi}{m:Nat}{P:Nat->Yj->Prop}{S_:Nat->YD->Prop}
theorem loop(W:Walks prog w A.in1 J fo wo m P S_)(bt:Nat->Nat->Bool)(hb:CmpOf prog w A.in1 .Gt P bt)(C:Yi)(hC:C ∉ fo)(kw:List (Str×Yj)):∀(d j:Nat) (s:Yb) (u:Yj) (c:Nat),
 m - (j+1)=d->j+1<=m->S_ (j+1) s.heap->P (argBest bt j) u->s.heap.get? C=Wj {cls:=.type "list",dict:=Wl,data:=.seq #[u,u] c,slots:=#[]} ->
 (∀v hp tk,P (argBest bt (m - 1)) v->(∀b o,b ∉ wo->b≠C->s.heap.get? b=Wj o->hp.get? b=Wj o)->Z_ (.ok (.ret v)) {s with heap:=hp,toks:=tk}) ->
 codeAny (model prog w) A (.builtin "max.loop" ⟨[.ref J,.none,.ref C],kw⟩) Z_ s:=by
 have hCw:C ∉ wo:=λz=>hC (W.sub _ z);intro d;induction d with
 |zero=>
  intro j s u c e1 e2 st pu hc hz;have em:j+1=m:=by omega
  refine codeAny_builtin PySem.F.entry_max_loop ?_;rw[Around.under_plainId YR _];show Yy (model prog w) A.in1 (seqItems? (YA C) >>= _) _ _ s;refine Ya (wpAny_seqItems hc rfl ?_);show Yy (model prog w) A.in1 (tryCatch (pyNext (YA J)) _ >>= _) _ _ s;refine Ya (wpAny_tryCatch (W.done s _ _ (em ▸ st) λhp tk kp=>?_));have hc1:=kp C _ hCw hc;show Yy (model prog w) A.in1 (updateSeq C (λ_=>#[]) >>= _) _ _ _;exact Ya (wpAny_updateSeq hc1 rfl (Ya (wpAny_letGo (Yc (hz u _ tk (by rw[<- em];exact pu) λb o b1 b2 e=>(YK _ _ (YI b2)).trans (kp b o b1 e))))))
 |succ d ih=>
  intro j s u c e1 e2 st pu hc hz;have lt:j+1<m:=by omega
  refine codeAny_builtin PySem.F.entry_max_loop ?_;rw[Around.under_plainId YR _];show Yy (model prog w) A.in1 (seqItems? (YA C) >>= _) _ _ s;refine Ya (wpAny_seqItems hc rfl ?_);show Yy (model prog w) A.in1 (tryCatch (pyNext (YA J)) _ >>= _) _ _ s;refine Ya (wpAny_tryCatch (W.item (j+1) s _ _ lt st λv hp tk pv st1 kp=>?_));have hc1:=kp C _ hCw hc;show Yy (model prog w) A.in1 (tryCatch (holding [v,v] (richCompare CmpOp.Gt v u >>= _)) _ >>= _) _ _ _;refine Ya (wpAny_tryCatch (Wa (Ya (hb (j+1) (argBest bt j) v u _ _ _ pv pu (Ya (Wa (wpAny_truthy_bool (Ya (wpAny_letGo (Yc ?_))))))))));cases q:bt (j+1) (argBest bt j)with
  |true=>
   simp only[if_true];refine Ya (wpAny_updateSeq hc1 rfl (Ya (wpAny_letGo ?_)));rw[nm];refine Yc ⟨plainId_quiet YR _,ih (j+1) _ v _ (by omega) lt (W.frame _ _ _ st1 λb b1 o e=>?_) (by simp only[argBest,q,if_true];exact pv) (YS _ hc1 rfl) λv2 hp2 tk2 pv2 kp2=>?_⟩
   . exact(YK _ _ (λz:C=b=>hC (by rw[z];exact b1))).trans e
   . exact hz v2 hp2 tk2 pv2 λb o b1 b2 e=>kp2 b o b1 b2 ((YK _ _ (YI b2)).trans (kp b o b1 e))
  |false=>simp only[OG,if_false];refine Ya (wpAny_letGo ?_);rw[nm];exact Yc ⟨plainId_quiet YR _,ih (j+1) _ u c (by omega) lt st1 (by simp only[argBest,q,OG,if_false];exact pu) hc1 λv2 hp2 tk2 pv2 kp2=>hz v2 hp2 tk2 pv2 λb o b1 b2 e=>kp2 b o b1 b2 (kp b o b1 e)⟩
end
end Mx
end L2
namespace L2
open PySem PySem.Spec PyProof.Rows
noncomputable def Zhl:List Int->Int->Int
 |[],d=>d
 |x::r,_=>r.foldl (λm y=>if y > m then y else m) x
theorem Zg0(ns:List Int):∀k,k<ns.length->(argBest (λi j=>Wo (ns.getD i 0 > ns.getD j 0)) k)<ns.length/\ns.getD (argBest (λi j=>Wo (ns.getD i 0 > ns.getD j 0)) k) 0=Zhl (ns.take (k+1)) 0
 |0,h=>by
  cases ns with
  |nil=>simp at h
  |cons x r=>exact⟨by simp[argBest],by simp[argBest,Zhl]⟩
 |k+1,h=>by
  obtain⟨h1,h2⟩:=Zg0 ns k (by omega);have e:Zhl (ns.take (k+1+1)) 0=if ns.getD (k+1) 0 > Zhl (ns.take (k+1)) 0 then ns.getD (k+1) 0 else Zhl (ns.take (k+1)) 0:=by
   cases ns with
   |nil=>simp at h
   |cons x r=>
    have hk:k<r.length:=by simpa using h
    show((r.take (k+1)).foldl _ x)=_;rw[List.take_succ_eq_append_getElem hk,List.foldl_append];simp only[List.foldl_cons,List.foldl_nil];have:(x::r).getD (k+1) 0=r[k]:=by simp[List.getD_eq_getElem?_getD,Og hk]
    rw[this];rfl
  rw[e,<- h2];have ea:argBest (λi j=>Wo (ns.getD i 0 > ns.getD j 0)) (k+1)=if Wo (ns.getD (k+1) 0 > ns.getD (argBest (λi j=>Wo (ns.getD i 0 > ns.getD j 0)) k) 0)=Wm then k+1 else argBest (λi j=>Wo (ns.getD i 0 > ns.getD j 0)) k:=rfl;rw[ea];by_cases q:ns.getD (k+1) 0 > ns.getD (argBest (λi j=>Wo (ns.getD i 0 > ns.getD j 0)) k) 0
  . rw[if_pos (decide_eq_true q),if_pos q];exact⟨h,rfl⟩
  . rw[if_neg (by simpa using q),if_neg q];exact⟨h1,rfl⟩
end L2
end
section
namespace L2
namespace Mx
open PySem PyProof.Rows
section
variable {prog:Yh}{w:Yg}{A:YE}{Z_:Result->Yb->Prop}{J:Yi}{fo wo:List Yi}{m:Nat}{P:Nat->Yj->Prop}{S_:Nat->YD->Prop}
def ZqO(W:Walks prog w A.in1 J fo wo m P S_)(bt:Nat->Nat->Bool)(hb:CmpOf prog w A.in1 .Gt P bt)(C:Yi)(hC:C ∉ fo){s:Yb}{c:Nat}(hm:0<m)(st:S_ 0 s.heap)
 (hc:s.heap.get? C=Wj {cls:=.type "list",dict:=Wl,data:=.seq #[] c,slots:=#[]})
 (hz:∀v hp tk,P (argBest bt (m - 1)) v->(∀b o,b ∉ wo->b≠C->s.heap.get? b=Wj o->hp.get? b=Wj o)->Z_ (.ok (.ret v)) {s with heap:=hp,toks:=tk}) :
 codeAny (model prog w) A (.builtin "max.loop" ⟨[.ref J,.none,.ref C],[]⟩) Z_ s:=by
 have hCw:C ∉ wo:=λz=>hC (W.sub _ z);refine codeAny_builtin PySem.F.entry_max_loop ?_;rw[Around.under_plainId YR _];show Yy (model prog w) A.in1 (seqItems? (YA C) >>= _) _ _ s;refine Ya (wpAny_seqItems hc rfl ?_);show Yy (model prog w) A.in1 (tryCatch (pyNext (YA J)) _ >>= _) _ _ s;refine Ya (wpAny_tryCatch (W.item 0 s _ _ hm st λv hp tk pv st1 kp=>?_));have hc1:=kp C _ hCw hc;show Yy (model prog w) A.in1 (updateSeq C (λ_=>#[v,v]) >>= _) _ _ _;refine Ya (wpAny_updateSeq hc1 rfl ?_);rw[nm];refine Yc ⟨plainId_quiet YR _,loop W bt hb C hC _ _ 0 _ v _ rfl hm (W.frame _ _ _ st1 λb b1 o e=>?_) pv (YS _ hc1 rfl) λv2 hp2 tk2 pv2 kp2=>?_⟩
 . exact(YK _ _ (λz:C=b=>hC (by rw[z];exact b1))).trans e
 . exact hz v2 hp2 tk2 pv2 λb o b1 b2 e=>kp2 b o b1 b2 ((YK _ _ (YI b2)).trans (kp b o b1 e))
end
section
variable {prog:Yh}{w:Yg}{A:YE}{E:Yj->Yb->Prop}{s:Yb}
def ZsQ(a:Yj):argsOk "max" ⟨[a],[]⟩:=by unfold argsOk;kernel_rfl
def ZsL{x:Yj}{Q:Yj->Yb->Prop}
 (h:Yy (model prog w) A.in1 (pyIter x) (λit s2=>∃J fo wo m P S_ bt,it=.ref J/\Walks prog w A.in1 J fo wo m P S_/\S_ 0 s2.heap/\0<m/\(∀b∈fo,b<s2.heap.objs.size)/\CmpOf prog w A.in1 .Gt P bt /\
  ∀v hp tk,P (argBest bt (m - 1)) v->(∀b o,b ∉ wo->s2.heap.get? b=Wj o->hp.get? b=Wj o)->Q v {s2 with heap:=hp,toks:=tk}) E s) :
 Yy (model prog w) A (PySem.call (.builtin "max") [x]) Q E s:=by
 refine wpAny_call (codeAny_call_builtin PySem.F.plain_max PySem.F.entry_max ?_);simp only[checkBuiltinCall,PySem.F.kind_max];have go:Yy (model prog w) A.in1 (Builtin.«max» ⟨[x],[]⟩) (λfin s'=>match fin with
  |.done f=>(match (Except.ok f:Result)with|.ok (.ret v)=>Q v s'|.ok _=>False|.error e=>E e s')
  |.again c'=>c'.quiet=Wm/\codeAny (model prog w) A c' (λr s'=>match r with|.ok (.ret v)=>Q v s'|.ok _=>False|.error e=>E e s') s') E s:=by
  show Yy (model prog w) A.in1 (Builtin.Builtins.bindParams "max" ["key", "default"] 0 ⟨[],[]⟩ >>= _) _ _ s;refine Ya (Wg (show Builtin.Builtins.bindParams "max" ["key", "default"] 0 ⟨[],[]⟩=pure [Wl,Wl]from rfl) (Ya (Yc (Ya (Yf h (λit s2 q=>?_) λ_ _ e=>e)))));obtain⟨J,fo,wo,m,P,S_,bt,rfl,W,st,hm,hfo,hb,hQ⟩:=q;refine Ya (Yq ?_);have hC:s2.heap.objs.size ∉ fo:=λz=>Yu _ (hfo _ z);rw[nm];exact Yc ⟨plainId_quiet YR _,ZqO W bt hb s2.heap.objs.size hC hm (W.frame _ _ _ st λb _ o e=>Od _ e) (Oj _ rfl) λv hp tk a2 kp=>hQ v hp tk a2 λb o b1 e=>kp b o b1 (Ou (Yn e)) (Od _ e)⟩
 cases hs:Manifest.signature? "max" with
 |none=>exact Yc go
 |some sig=>have ha:=ZsQ x;simp only[argsOk,hs]at ha;have h2:Bind.checkArgs "max" sig ⟨[x],[]⟩=pure ():=ha;show Yy _ A.in1 (Bind.checkArgs "max" sig ⟨[x],[]⟩) _ _ s;rw[h2];exact Yc go
end
end Mx
open PySem PySem.Spec PyProof.Rows
section
variable {X:Cx}
def Zlu(hc:X.calm=Wm):Zb0 X (.builtin "max") (λxs H Q=>∃a ns,xs=[.ref a]/\SqL X.K H a (ns.map V.int)/\ns≠[]/\Q (.int (Zhl ns 0)) H):=by
 rintro pins s Z H xs us Q I r ⟨a,ns,rfl,hx,hne,q⟩;cases r with
 |cons r1 r2=>
 cases r2;cases r1;obtain⟨its,rv,pl,hz⟩:=I.list hx;have hlt:a<s.heap.objs.size:=by obtain⟨_,_,e,_⟩:=pl;exact Yn e
 have hl:its.length=ns.length:=by have:=rv.length;rw[Ys]at this;exact this.symm
 have val:∀{i:Nat}{v:Yj},its.toArray[i]? = Wj v->i<ns.length/\∃t,v=.int (ns.getD i 0) t:=λ{i v} hv=>by
  have hv':its[i]? = Wj v:=by simpa using hv
  have hi:i<ns.length:=by rw[<- hl];exact(Ob.mp hv').1
  have hb:(ns.map V.int)[i]? = Wj (.int ns[i]):=by rw[On,Og hi]<;>rfl
  obtain⟨u',e',r'⟩:=rv.get hb;rw[hv']at e';cases e';obtain⟨t,rfl⟩:=r';exact⟨hi,t,by simp[List.getD_eq_getElem?_getD,Og hi]⟩
 have hp0:0<ns.length:=List.length_pos_iff.mpr hne;have hsz:its.toArray.size=ns.length:=by rw[Of,hl]
 refine Mx.ZsL (wpAny_pyIter_list pl.isList ?_);refine⟨s.heap.objs.size,_,_,_,_,_,λi j=>Wo (ns.getD i 0 > ns.getD j 0),rfl,Walks.list (A:=X.A.in1) (show X.A.in1.handled=Wl from I.ok.hd hc) s.heap.objs.size a (Ou hlt) its.toArray,⟨⟨_,Oj _ rfl,rfl,rfl⟩,pl.isList.push _⟩,by rw[hsz];exact hp0,?_,?_,λv hp tk a2 kp=>?_⟩
 . intro b hb;have hp1:b<s.heap.objs.size+1:=by
    simp at hb;rcases hb with rfl|rfl
    . exact OH _
    . exact Nat.lt_succ_of_lt hlt
   simpa[Heap.push]using hp1
 . exact CmpOf.ints_gt (λi=>ns.getD i 0) λi v hv=>(val hv).2
 . refine⟨.int (Zhl ns 0),H,I.kept λb o e=>kp b o (λz=>?_) (Od _ e),?_,q⟩
   . have:b=s.heap.objs.size:=by simpa using z
     subst this;exact absurd (Yn e) (Yu _)
   . obtain⟨_,t3,ev⟩:=val a2;refine⟨t3,?_⟩;rw[ev,hsz,(Zg0 ns (ns.length - 1) (by omega)).2,List.take_of_length_le (by omega)]
end
end L2
end
section
namespace L2
open PySem PySem.Spec PyProof PyProof.Rows PySem.AutoSeq1
set_option maxRecDepth 8000 in
def ZjT(l:Yi)(items:Array Yj)(n:Nat)(b:Yi)(items2:Array Yj)(n2:Nat)(od:Option Yi)(sl:Array (Option Yj))(hs0:¬(!items.isEmpty&&Wh (items.size+items2.size))=Wm)(hs1:items.size<=sizeLine)(hs2:items.size+items2.size<=sizeLine+1):
 Meets (Builtin.«list.extend» ⟨[.ref l,.ref b],[]⟩) (λ_ R s=>s.heap.get? l=Wj {cls:=.type "list",dict:=Wl,data:=.seq items n,slots:=#[]}/\s.heap.get? b=Wj {cls:=.type "tuple",dict:=od,data:=.seq items2 n2,slots:=sl}/\R (.ok (.ret Value.none)) {s with heap:=s.heap.update l (Obj.mapSeq λx=>x++items2),toks:=s.toks}):=
 .of_wp λprog w A R s h=>by
  obtain⟨hp,g,d,tk,os⟩:=s;obtain⟨hl,hb,h⟩:=h;have f1:=idx_int;have f2:=AutoSeq1.sub_tuple_tuple;have f3:=AutoSeq1.sub_list_list;have f4:=AutoSeq1.sub_tuple_list;have f5:=AutoSeq1.sub_list_tuple;have hz':(items++items2).size<=sizeLine+1:=by rw[Array.size_append];exact hs2
  wp_walk using (wpAny_updateSeq hl rfl (hz:=hs1) (_hz':=hz')),wpAny_loadPart' hl,wpAny_loadPart' hb;exact⟨_,rfl,h⟩
section
variable {X:Cx}
def Zl9(K:Yk):V->List V->Hp->VK->Prop:=λx vs H Q=>∃l b xs zs,x=.ref l/\vs=[.ref b]/\H l=Wj (.lst xs)/\SqT K H b zs/\xs.length+zs.length<=sizeLine/\Q .non (upd H l (.lst (xs++zs)))
def Zjw:MtM X "list.extend" (Zl9 X.K):=by
 intro pins s Z H x vs v us Q I rx rv h;obtain⟨l,b,xs,zs,rfl,rfl,hH,hB,hz,q⟩:=h;cases rx;obtain⟨u,rfl,ru⟩:=rv.one;cases ru;obtain⟨z,its,n,r,hl,e⟩:=I.lstM hH;obtain⟨its2,r2,⟨o,e2,oc,n2,od⟩,z2⟩:=I.tuple hB;obtain⟨cls,dc,dat,sl⟩:=o;simp only at oc od;subst oc;subst od;have hl2:=r2.length;have hsz:its.toArray.size+its2.toArray.size<=sizeLine:=by rw[Of,Of];lia
 have hlong:¬ (!its.toArray.isEmpty&&Wh (its.toArray.size+its2.toArray.size))=Wm:=by rw[Ziw hsz,Bool.and_false];exact Ow
 refine call_meets F.slot_list_extend ⟨_,e,rfl⟩ F.entry_list_extend (F.args_list_extend_2 _ _)
  (ZjT l its.toArray n b its2.toArray n2 dc sl hlong (by rw[Of];lia) (by lia)) ⟨e,e2,?_⟩
 refine⟨.non,_,I.lset (its':=its++its2) hH e (by simp) (r.append r2) ?_,rfl,q⟩;rw[OA]
 lia
end
end L2
end
section
namespace L2
open PySem PySem.Spec PyProof.Rows
noncomputable def Zq8(K:Yk)(a:Yi)(n:Nat):It:=⟨λi H=>∃xs x,SqL K H a xs/\xs.length=n/\xs.reverse[i]? = Wj x,λi H x H'=>H'=H/\∀xs,SqL K H a xs->xs.reverse[i]? = Wj x,λi H=>∃xs,SqL K H a xs/\xs.length=n/\n=i⟩
def ZkM{P:Yh}{w:Yg}{K:Yk}{tg:Expr}(a it:Yi)(n:Nat):Turn P w K tg (Zq8 K a n) [it] it (λi h=>i<=n/\h.IsRevIter it a ((n:Int) - 1 - i)) where
 mem:=by simp
 obj:=λi h st b hb=>by
  have e:b=it:=by simpa using hb
  subst e;obtain⟨_,o,e,c,d⟩:=st;exact⟨o,e,λv z=>by rw[d]at z;cases z⟩
 keep:=λi h h' st k=>⟨st.1,st.2.at λo e=>k it (by simp) o e⟩
 item:=by
  intro X hP hw hK hc i pins s Z H E I hf st hg;subst hP hw hK;obtain⟨hin,st⟩:=st;obtain⟨xs,x,hq,hxn,hx⟩:=hg;obtain⟨its,rv,p,hz⟩:=I.list hq;have hl:=rv.length;have hi:i<xs.length:=by have:=(Ob.mp hx).1;simpa using this
  have hx':xs[n - 1 - i]? = Wj x:=by rw[List.getElem?_reverse hi]at hx;rw[<- hxn];exact hx
  obtain⟨u,hu,ru⟩:=rv.get hx';obtain⟨f0,f1,f2,f3,f4,f5⟩:=hf it (by simp);have e1:(n:Int) - 1 - (i:Nat)=((n - 1 - i:Nat):Int):=by lia
  rw[e1]at st;refine wpAny_pyNext_rev_item st p.isList (x:=u) (by simpa using hu) λh' st' sb=>?_;have I1:Inv X pins Z H {s with heap:=h'}:=I.turned (t':=s.toks) (λb o hb e=>(sb.2 b hb).trans e) f0 f1 f3 f4 f5;obtain⟨o,e,c,d⟩:=id st';have e2:((n - 1 - i:Nat):Int) - 1=(n:Int) - 1 - ((i+1:Nat):Int):=by lia
  exact⟨u,rfl,ZiM (s:={s with heap:=h'}) e c d (by decide) ⟨x,H,I1,ru,⟨rfl,λys hy=>by rw[I.list_inj hy hq];exact hx⟩,⟨by lia,by rw[<- e2];exact st'⟩,λb hb=>(hf b hb).1⟩⟩
 done:=by intro X hP hw hK hc i pins s Z H E I hf st hg;subst hP hw hK;obtain⟨xs,hq,hxn,hx⟩:=hg;obtain⟨f0,f1,f2,f3,f4,f5⟩:=hf it (by simp);have st1:=st.2;rw[show(n:Int) - 1 - (i:Nat)=-1 by lia]at st1;exact wpAny_pyNext_rev_end (I.ok.hd hc) st1 λh' eb=>⟨rfl,I.turned (t':=s.toks) (λb o hb e=>eb b o hb e) f0 f1 f3 f4 f5⟩
 self:=λ_ _ _ _ _ st h=>wpAny_pyIter_revIter st.2 h
noncomputable def Zst(K:Yk)(ta:TA):TI:=λZ H R=>ta Z H λvs H1=>∃a xs,vs=[.ref a]/\((SqT K H1 a xs/\R (Itv K a xs.length) H1)\/(SqL K H1 a xs/\R (Zq8 K a xs.length) H1))
def ZnU{X:Cx}{tg l:Expr}{ta:TA}{p pos:Pos}(hg:Gl X "reversed")(hm:X.mg "reversed" = Wl)(ha:PA X [l] ta)(hs:Yw [l] X.env=[(Wn,eval l X.env)]:=by rfl):
 PI X tg (.Call (.Name "reversed" p) [l] [] pos) (Zst X.K ta):=by
 intro pins s Z H R I h;refine Call_ (Zc9 I hg hm boot_reversed (PyProof.Rows.callWith_type1 (thn (ha pos pins s Z H _ I h) λus s1 ⟨vs,H1,I1,r1,q1⟩=>?_) hs rfl));obtain⟨a,xs,rfl,q⟩:=q1;obtain⟨u,rfl,ru⟩:=vals1 r1;obtain rfl:u=YA a:=ru;rcases q with ⟨hq,q⟩|⟨hq,q⟩
 . obtain⟨its,rv,pl,hz⟩:=I1.tuple hq;have hl:=rv.length;refine Rv.call pl (by simp;lia) ?_;have e1:((its.toArray.size:Nat):Int) - 1=(xs.length:Int) - 1 - ((0:Nat):Int):=by simp;lia
   have st:Rv.Is (s1.heap.push (Rv.obj a (((its.toArray.size:Nat):Int) - 1))) s1.heap.objs.size a ((xs.length:Int) - 1 - ((0:Nat):Int)):=⟨_,Oj _ rfl,rfl,by rw[<- e1];rfl⟩
   refine Rv.ZeG st ?_;refine⟨s1.heap.objs.size,[s1.heap.objs.size],_,_,H1,rfl,I1.kept (t':=s1.toks+1+1) λb o e=>Od _ e,ZlH a _ xs.length,⟨Yv _,st⟩,λb hb=>?_,q⟩;have e:b=s1.heap.objs.size:=by simpa using hb
   subst e;exact I1.fpOk (Oq _) (I1.hok.fresh (Oq _))
 . obtain⟨its,rv,pl,hz⟩:=I1.list hq;have hl:=rv.length;refine call_reversed_list pl.isList ?_;have e1:((its.toArray.size:Nat):Int) - 1=(xs.length:Int) - 1 - ((0:Nat):Int):=by simp;lia
   have st:(s1.heap.push (revObj a (((its.toArray.size:Nat):Int) - 1))).IsRevIter s1.heap.objs.size a ((xs.length:Int) - 1 - ((0:Nat):Int)):=⟨_,Oj _ rfl,rfl,by rw[<- e1];rfl⟩
   refine wpAny_pyIter_revIter st ?_;refine⟨s1.heap.objs.size,[s1.heap.objs.size],_,_,H1,rfl,I1.kept (t':=s1.toks) λb o e=>Od _ e,ZkM a _ xs.length,⟨Yv _,st⟩,λb hb=>?_,q⟩;have e:b=s1.heap.objs.size:=by simpa using hb
   subst e;exact I1.fpOk (Oq _) (I1.hok.fresh (Oq _))
end L2
end
section
set_option tactic.hygienic false
namespace L2
open PySem PySem.Spec PyProof.Rows
namespace Rv
def ZqK:Slot "reversed" "__length_hint__" "reversed.__length_hint__" :=
 .of (owner := "reversed") (n := "__length_hint__") (by rw[typeLookup_type,builtinLookup_eq_fast]<;>kernel_rfl) (by decide +kernel) (by decide +kernel) (by decide +kernel) (by first|exact .inl (by decide +kernel)|exact .inr (by decide +kernel)) (by rw[isSubtype_type]<;>kernel_rfl)
def ZsH:entryFor table "reversed.__length_hint__" = Wj Builtin.«reversed.__length_hint__»:=entryFor_of_tree (by kernel_rfl)
def ZsS(a:Yj):argsOk "reversed.__length_hint__" ⟨[a],[]⟩:=by unfold argsOk;rw[signature?_of (id := "reversed.__length_hint__") (n:=['_','_','t','n','i','h','_','h','t','g','n','e','l','_','_']) (o:=['d','e','s','r','e','v','e','r']) (by kernel_rfl) own];kernel_rfl
def Zsj:typeLookup (.type "reversed") "__len__" = pure Wl:=by rw[typeLookup_type,builtinLookup_eq_fast]<;>kernel_rfl
section
variable {prog:Yh}{w:Yg}{A:YE}{E:Yj->Yb->Prop}{s:Yb}
def walks(hh:A.handled=Wl)(I l:Yi)(hne:l≠I)(items:Array Yj)(hz:items.size<=sizeLine):
 Walks prog w A I [I,l] [I] items.size (λi v=>items[items.size - 1 - i]? = Wj v) (λi h=>i<=items.size/\Is h I l ((items.size:Int) - 1 - (i:Int))/\IsTup h l items) where
 sub:=λb hb=>by simp at hb;simp[hb]
 frame:=λ_ _ _ x hk=>⟨x.1,x.2.1.at λo e=>hk I (by simp) o e,let ⟨o,e,r⟩:=x.2.2;⟨o,hk l (by simp) o e,r⟩⟩
 item:=λi s Q E hi x hQ=>by have hit:=x.2.1;rw[show(items.size:Int) - 1 - (i:Int)=((items.size - 1 - i:Nat):Int) by lia]at hit;have hx:items[items.size - 1 - i]? = Wj (items[items.size - 1 - i]'(by lia)):=Array.getElem?_eq_getElem (by lia);refine next_item hit x.2.2 hz hx λh' t' hit' hs'=>?_;rw[show((items.size - 1 - i:Nat):Int) - 1=(items.size:Int) - 1 - ((i+1:Nat):Int) by lia]at hit';exact hQ _ h' t' hx ⟨hi,hit',let ⟨o,e,r⟩:=x.2.2;⟨o,(hs'.2 l hne).trans e,r⟩⟩ λb o hb eo=>hs'.extBut b o (λh=>hb (by simp[h])) eo
 done:=λs Q E x hQ=>by have hit:=x.2.1;rw[show(items.size:Int) - 1 - (items.size:Int)=-1 by lia]at hit;exact next_end hh hit λh' he'=>hQ h' s.toks λb o hb eo=>he' b o (λh=>hb (by simp[h])) eo
 self:=λ_ _ _ _ x hQ=>ZeG x.2.1 hQ
def Zot{it l:Yi}{items:Array Yj}{Q:Yj->Yb->Prop}(hit:Is s.heap it l ((items.size:Int) - 1))(hl:IsTup s.heap l items)(hz:items.size<=sizeLine)
 (hQ:∀u tk,s.toks<=tk->Q (.int (items.size:Int) u) {s with toks:=tk}):Yy (model prog w) A (PySem.call (.builtin "reversed.__length_hint__") [.ref it]) Q E s:=by
 have hfit:(items.size:Int)<2 ^ 63:=by have:=Zbq;lia
 obtain⟨o,ho,hc,hd⟩:=id hit;refine Wb ZqK hit.typeIs ZsH ?_ (ZsS _);unfold Builtin.«reversed.__length_hint__»;refine Ya (Wg (a:=YA it) rfl ?_);refine Ya (YN ho hd (x:=.ref l) rfl ?_);rw[if_neg (by simp)];refine Ya (len_tuple hl hfit ?_);refine Ya (m:=asInt? (.int _ _)) (Yc ?_);dsimp only;refine Ya (YN ho hd (x:=rawInt ((items.size:Int) - 1)) rfl ?_);show Yy _ _ (if (items.size:Int)<(items.size:Int) - 1+1 then _ else _) _ _ _;rw[if_neg (by lia),show(items.size:Int) - 1+1=items.size by lia];unfold retInt;refine Ya (wpAny_mkInt ?_);exact Yc ⟨_,rfl,hQ _ _ (by simp only;lia)⟩
def ZqJ:typeLookup (.type "reversed") "__length_hint__" = pure (Wj (.builtin "reversed.__length_hint__")):=ZqK.lookup
def collects{I l:Yi}{items:Array Yj}{Q:List Yj->Yb->Prop}(hh:A.handled=Wl)(hit:Is s.heap I l ((items.size:Int) - 1))(hl:IsTup s.heap l items)(hne:l≠I)(hz:items.size<=sizeLine)(h0:0<items.size)
 (hQ:∀s' acc,Moved [I] (λa b=>b=a) s s'->ItemsOf (λi v=>items[items.size - 1 - i]? = Wj v) acc items.size->Q acc.toList s'):Yy (model prog w) A (collect (.ref I)) Q E s:=by
 have W:=(walks (prog:=prog) (w:=w) (A:=A.in1) hh I l hne items hz).toS;have hst:0<=items.size/\Is s.heap I l ((items.size:Int) - 1 - ((0:Nat):Int))/\IsTup s.heap l items:=⟨Yv _,by simpa using hit,hl⟩
 have hfp:∀b∈[I,l],b<s.heap.objs.size:=λb hb=>by
  rcases O1.mp hb with rfl|hb
  . obtain⟨o,ho,_⟩:=hit;exact Yn ho
  . rw[Ox.mp hb];obtain⟨o,ho,_⟩:=hl;exact Yn ho
 have hSf:s.heap.objs.size ∉ [I,l]:=λhm=>absurd (hfp _ hm) (Yu _);have hSI:s.heap.objs.size≠I:=λe=>hSf (by rw[e];simp);unfold collect;refine Ya (wpAny_runValue ?_);refine codeAny_builtin F.entry_proto_collect ?_;rw[Around.under_plainId F.plain_proto_collect _];show Yy _ A.in1 (newList [] >>= λk=>again (.builtin "list.__iadd__" ⟨[k,.ref I],[]⟩)) _ _ s;refine Ya (Yq (Yc ⟨plainId_quiet F.plain_list_iadd _,?_⟩));refine codeAny_builtin F.entry_list_iadd ?_;rw[Around.under_plainId F.plain_list_iadd _];generalize hob:({cls:=.type "list",data:=.seq ([]:List Yj).toArray}:Obj)=ob;have hst1:=W.frame 0 s (s.heap.push ob) s.toks hst (Oq _) λb _ o e=>Od _ e;have hS1:(s.heap.push ob).get? s.heap.objs.size=Wj ob:=Oj _ (by rw[<- hob];rfl);have e1:Builtin.List.listSameRef (.ref s.heap.objs.size) (.ref I)=Wn:=by simp[Builtin.List.listSameRef,hSI]
 have hT:Shared.TypeIs {s with heap:=s.heap.push ob} (.ref I) "reversed" := hst1.2.1.typeIs;show Yy _ A.in1 (Builtin.List.listExtendWith (.ref s.heap.objs.size) (.ref I) (.ref s.heap.objs.size)) _ _ _;unfold Builtin.List.listExtendWith;refine Ya (wpAny_typeOf hT ?_);rw[if_neg (by rw[e1];decide)];refine Ya (W.self 0 _ _ _ hst1 (Ya (Wa ?_)));unfold Builtin.List.listLengthHint;refine Ya (wpAny_specialOf hT Zsj ?_);show Yy _ A.in1 (specialOf (YA I) (O "__length_hint__") >>= _) _ _ _;refine Ya (wpAny_specialOf hT ZqJ ?_);have hsp:splitId "reversed.__length_hint__" = Wj ("reversed", "__length_hint__"):=by decide +kernel
 dsimp only;rw[hsp];dsimp only;refine Ya (wpAny_isInstance (b:=true) hT Zke ?_);rw[if_neg (by decide),if_neg (by decide +kernel)];refine Ya (wpAny_rule (Ya (Wg (ZqK.bind _) ?_)));dsimp only;refine Ya (wpAny_attempt (Zot (by simpa using hst1.2.1) hst1.2.2 hz λu tk htk=>?_));dsimp only;have ea:asInt? (Value.int (items.size:Int) u)=pure (Wj (items.size:Int)):=rfl;rw[ea];clear ea;generalize hk:(items.size:Int)=kk;refine Ya ?_;refine Yc ?_;dsimp only;have l1:Builtin.List.listFitsIndex kk=Wm:=by
  have:=Zbq;unfold Builtin.List.listFitsIndex;rw[Oa,decide_eq_true_iff,decide_eq_true_iff]
  lia
 have l2:Wh kk.toNat=Wn:=by
  unfold Wh;rw[decide_eq_false_iff_not]
  lia
 rw[if_neg (by rw[l1];decide),if_neg (by lia),if_neg (by rw[l2];decide)];refine Yc ?_;rw[if_pos (by rw[Wi];left;rw[bne_iff_ne];lia)];subst hob;refine Ya (wpAny_rule (Ya ?_));show Yy _ A.in1 (updateSeq s.heap.objs.size (·.push .none) >>= λ_=>updateSeq s.heap.objs.size (·.pop)) _ _ _;refine Ya (wpAny_updateSeq hS1 rfl ?_);have hS2:=YS (Obj.mapSeq (·.push Value.none)) hS1 rfl;refine wpAny_updateSeq hS2 rfl ?_;have hS3:=YS (Obj.mapSeq (·.pop)) hS2 rfl;generalize hob:({cls:=.type "list",data:=.seq ([]:List Yj).toArray}:Obj)=ob at *;have oth:∀b o,b≠s.heap.objs.size->(s.heap.push ob).get? b=Wj o->(((s.heap.push ob).update s.heap.objs.size (Obj.mapSeq (·.push Value.none))).update s.heap.objs.size (Obj.mapSeq (·.pop))).get? b=Wj o:=λb o hb e=>(YK _ _ (YI hb)).trans ((YK _ _ (YI hb)).trans e)
 have hst2:=W.frame 0 ({s with heap:=s.heap.push ob}:Yb) _ tk hst1 htk λb hb o e=>oth b o (λh=>hSf (h ▸ hb)) e;obtain⟨c,hS4⟩:∃c,(((s.heap.push ob).update s.heap.objs.size (Obj.mapSeq (·.push Value.none))).update s.heap.objs.size (Obj.mapSeq (·.pop))).get? s.heap.objs.size=Wj {cls:=.type "list",dict:=Wl,data:=.seq #[] c,slots:=#[]}:=by subst hob;exact⟨_,hS3⟩
 refine Yc ⟨plainId_quiet F.plain_extend_loop _,?_⟩;refine codeAny_extend_loopS W hz _ hSf _ items.size 0 _ #[] _ rfl (Yv _) hst2 hS4 (ItemsOf.nil _) λs' acc' c' hm hS' hacc=>?_;show Yy _ A (load s.heap.objs.size >>= _) _ _ s';refine Ya (wpAny_load hS' (Yc (hQ s' acc' ?_ hacc)));refine Moved.drop_new (o:=ob) (tk:=tk) (Moved.trans W.gtrans ?_ hm) htk;exact⟨λb o hb e=>oth b o (λh=>hb (h ▸ Oi)) e,rfl,rfl,rfl,Oq _⟩
def Zpv{I l:Yi}{items:Array Yj}{Q:Yj->Yb->Prop}(hh:A.handled=Wl)(hit:Is s.heap I l ((items.size:Int) - 1))(hl:IsTup s.heap l items)(hne:l≠I)(hz:items.size<=sizeLine)(h0:0<items.size)
 (h:∀s' acc,Moved [I] (λa b=>b=a) s s'->ItemsOf (λi v=>items[items.size - 1 - i]? = Wj v) acc items.size->Q (.ref s'.heap.objs.size) {s' with heap:=s'.heap.push {cls:=.type "tuple",data:=.seq acc}}) :
 codeAny (model prog w) A (.call (.builtin "tuple.__new__") ⟨[.type "tuple",.ref I],[]⟩) (wants Q E) s:=by
 refine codeAny_of_tree ?_;show Yy _ A.in1 (checkBuiltinCall "tuple.__new__" ⟨[.type "tuple",.ref I],[]⟩ >>= λ_=>again (.builtin "tuple.__new__" ⟨[.type "tuple",.ref I],[]⟩)) _ _ s;refine Ya (Wg (F.newCall_tuple_1 _) (Yc ⟨plainId_quiet F.plain_tuple_new _,?_⟩));refine codeAny_builtin F.entry_tuple_new ?_;rw[Around.under_plainId F.plain_tuple_new _];have hsub:=sub_tuple_self;have hinit:=init_tuple_lookup;have hmh:=madeHere_tuple;have hTI:=hit.typeIs
 wp_walk using wpAny_typeOf hTI,collects (A:=A.in1) hh hit hl hne hz h0
 intro s' acc hm hacc;show Yy _ _ (Builtin.Tuple.tupleExact acc.toList.toArray >>= λv=>ret v) _ _ _;have e:acc.toList.toArray=acc:=by simp
 rw[e];unfold Builtin.Tuple.tupleExact;refine Ya (Yq (Yc (h s' acc hm hacc)) (by show acc.size<=sizeLine;rw[hacc.1];exact hz))
def Znq{I l:Yi}{items:Array Yj}{Q:Yj->Yb->Prop}(hh:A.handled=Wl)(hit:Is s.heap I l ((items.size:Int) - 1))(hl:IsTup s.heap l items)(hne:l≠I)(hz:items.size<=sizeLine)(h0:0<items.size)
 (h:∀s' acc,Moved [I] (λa b=>b=a) s s'->ItemsOf (λi v=>items[items.size - 1 - i]? = Wj v) acc items.size->Q (.ref s'.heap.objs.size) {s' with heap:=s'.heap.push {cls:=.type "tuple",data:=.seq acc}}) :
 Yy (model prog w) A (PySem.call (.type "tuple") [.ref I]) Q E s:=by
 refine callType_codes (Q₁:=λobj s1=>s1.TypeIs obj "tuple" /\ Q obj s1) F.called_tuple (F.typeCall_tuple_1 _) F.entry_object_init (Zpv hh hit hl hne hz h0 λs' acc hm hacc=>⟨⟨_,Oj _ rfl,rfl⟩,h s' acc hm hacc⟩) λobj s1 h1=>?_;exact⟨h1.1,F.args_object_init_2 obj _,object_init_meets F.called_tuple.init.lookup F.called_tuple.made (by decide) prog w A.in1 _ s1 ⟨h1.1,rfl,h1.2⟩⟩
end
end Rv
noncomputable def Znt(K:Yk)(ta:TA):TE:=λZ H Q=>ta Z H λvs H1=>∃a xs,vs=[.ref a]/\SqT K H1 a xs/\xs≠[]/\∀p,H1 p=Wl->Q (.ref p) (upd H1 p (.tup xs.reverse))
theorem Zk3 {X:Cx}{l:Expr}{ta:TA}{p p2 pos pos2:Pos} (hc:X.calm=Wm) (hgT:Gl X "tuple") (hmT:X.mg "tuple" = Wl) (hgR:Gl X "reversed") (hmR:X.mg "reversed" = Wl) (ha:PA X [l] ta)
   (hs:Yw [l] X.env=[(Wn,eval l X.env)]:=by rfl):PE X (.Call (.Name "tuple" p) [.Call (.Name "reversed" p2) [l] [] pos2] [] pos) (Znt X.K ta):=by
 intro pins s Z H Q I h;refine Call_ (Zc9 I hgT hmT boot_tuple (PyProof.Rows.callWith_type1 ?_ rfl rfl));show Yy _ _ (spliced ((Wn,eval (.Call (.Name "reversed" p2) [l] [] pos2) X.env)::[])) _ _ s;refine Calls.spliced_cons ?_;refine Call_ (Zc9 I hgR hmR boot_reversed (PyProof.Rows.callWith_type1 (thn (ha pos2 pins s Z H _ I h) fun us s1 ⟨vs,H1,I1,r1,q1⟩=>?_) hs rfl));obtain ⟨a,xs,rfl,hq,hx0,q⟩:=q1;obtain ⟨u,rfl,ru⟩:=vals1 r1;obtain rfl:u=YA a:=ru;obtain ⟨its,rv,pl,hz⟩:=I1.tuple hq;have hln:=rv.length;have hpos:0<its.toArray.size:=by
   cases xs with
   | nil=>exact absurd rfl hx0
   | cons x r=>simp at hln ⊢;lia
 have hzz:its.toArray.size<=sizeLine:=by simp;lia
 refine Rv.call pl hzz (Calls.spliced_nil ?_);have hlt:a<s1.heap.objs.size:=by obtain ⟨o,ho,_⟩:=pl;exact Yn ho
 refine Rv.Znq (I.ok.hd hc) (l:=a) (items:=its.toArray) ⟨_,Oj _ rfl,rfl,rfl⟩ (pl.push _) (Ou hlt) hzz hpos fun s' acc hm hacc=>?_;obtain ⟨hk,hg,hd,ho,ht⟩:=hm;have kp:∀ b o,s1.heap.get? b=Wj o->s'.heap.get? b=Wj o:=fun b o e=>hk b o (fun hb=>by
   rw [Ox.mp hb] at e;exact absurd (Yn e) (Yu _)) (Od _ e)
 have es:s'={s1 with heap:=s'.heap,toks:=s'.toks}:=by
   obtain ⟨a1,a2,a3,a4,a5⟩:=s';simp only at hg hd ho;simp only [hg,hd,ho]
 have ea:acc.toList=its.reverse:=by
   apply List.ext_getElem?;intro j;rcases Nat.lt_or_ge j its.length with hj|hj
   . have hj':j<acc.size:=by rw [hacc.1];simpa using hj
     have e1:=hacc.2 j acc[j] (Array.getElem?_eq_getElem hj');rw [List.getElem?_reverse hj,Array.getElem?_toList,Array.getElem?_eq_getElem hj',<- e1];simp
   . rw [List.getElem?_eq_none (by have:=hacc.1;simp at this ⊢;lia),List.getElem?_eq_none (by simpa using hj)]
 have I2:Inv X pins Z H1 s':=by
   rw [es];exact I1.kept (t':=s'.toks) kp
 have ev:acc=its.reverse.toArray:=by rw [<- ea]
 have rr:Zk xs.reverse its.reverse:=rv.reverse;have I3:Inv X pins Z (upd H1 s'.heap.objs.size (.tup xs.reverse)) {s' with heap:=s'.heap.push {cls:=.type "tuple",data:=.seq acc}}:=by
   rw [ev];exact I2.laid (t':=s'.toks) (fun b o e=>Od _ e) (Oq _) (show Z9 X.prog X.w _ _ _ (.tup xs.reverse) from ⟨by simpa using hz,its.reverse,rr,Zbc.fresh _ _⟩)
 exact ⟨.ref s'.heap.objs.size,_,I3,rfl,q _ (I2.hok.fresh (Oq _))⟩
end L2
end
section
namespace L2
open PySem PySem.Spec PyProof.Rows
namespace Tx
noncomputable def place(x:Str):List Str->Option Nat
 |[]=>Wl
 |y::r=>if y=x then Wj 0 else(place x r).map (·+1)
theorem Zit{x:Str}:∀{ys:List Str}{j:Nat},place x ys=Wj j->ys[j]? = Wj x/\∀m,m<j->∀y,ys[m]? = Wj y->y≠x
 |[],j,h=>by cases h
 |y::r,j,h=>by
  unfold place at h;by_cases e:y=x
  . rw[if_pos e]at h;cases h;exact⟨by simp[e],λm hm=>absurd hm (Nat.not_lt_zero _)⟩
  . rw[if_neg e]at h;obtain⟨k,hk,rfl⟩:=Oo.mp h;obtain⟨h1,h2⟩:=Zit hk;refine⟨by simpa using h1,λm hm z hz=>?_⟩;cases m with
    |zero=>simp at hz;rw[<- hz];exact e
    |succ m=>exact h2 m (by lia) z (by simpa using hz)
section
variable {prog:Yh}{w:Yg}{A:YE}{E:Yj->Yb->Prop}{s:Yb}
def ZjX{t:Yi}{items:Array Yj}{x:Str}{tx:Tok}{ys:List Str}{j:Nat}{Q:Yj->Yb->Prop}(hl:IsTup s.heap t items)(hn:items.size=ys.length)(hi:∀(i:Nat) (y:Str),ys[i]? = Wj y->∃t,items[i]? = Wj (Value.str y t))(hj:place x ys=Wj j)
 (hQ:∀u tk,Q (.int (j:Int) u) {s with toks:=tk}):Yy (model prog w) A (PySem.call (.builtin "tuple.index") [.ref t,.str x tx]) Q E s:=by
 obtain⟨o,ho,hc,n,hd⟩:=id hl;refine Wb F.slot_tuple_index hl.typeIs F.entry_tuple_index ?_ (F.args_tuple_index_2 _ _);unfold Builtin.«tuple.index»;refine Ya (Wg (a:=(YA t,[Value.str x tx])) rfl ?_);dsimp only;unfold Builtin.Tuple.tupleItemsOf;refine Ya (Ya (wpAny_seqItems ho hd (Yc ?_)))
 try dsimp only
 refine Ya (Yc ?_);refine Ya (Yc ?_);rw[Std.Legacy.Range.forIn_eq_forIn_range'];obtain⟨p1,p2⟩:=Zit hj;have hjl:j<ys.length:=(Ob.mp p1).1;have e0:List.range' [:min items.size items.size].start [:min items.size items.size].size [:min items.size items.size].step=List.range' 0 (items.size - 0):=by show List.range' 0 ((min items.size items.size - 0+1 - 1) / 1) 1=_;simp
 rw[e0];refine Ya (wpAny_forIn_list _ (λl b s'=>∃i,l=List.range' i (items.size - i)/\b=(Wl,())/\s'=s/\i<=j) _ ?_ ?_ _ _ ⟨0,rfl,rfl,rfl,Yv _⟩)
 . rintro i rest b s' ⟨k,hk,rfl,rfl,hkj⟩;have hks:k<items.size:=by lia
   rw[show items.size - k=(items.size - (k+1))+1 by lia,List.range'_succ]at hk;obtain⟨rfl,rfl⟩:=List.cons.inj hk;obtain⟨y,hy⟩:∃y,ys[i]? = Wj y:=⟨ys[i]'(by lia),Og (by lia)⟩
   obtain⟨ty,ht⟩:=hi i y hy;rw[ht];dsimp only;refine Ya (eqBool_str ?_);by_cases e:i=j
   . subst e;rw[p1]at hy;cases hy;rw[if_pos (by simp)];unfold retInt;refine Ya (Ya (wpAny_mkInt (Yc (Yc ?_))));exact Yc ⟨_,rfl,hQ _ _⟩
   . rw[if_neg (by have:=p2 i (by lia) y hy;simpa using this)];exact Yc ⟨i+1,rfl,rfl,rfl,by lia⟩
 . rintro b s' ⟨k,hk,rfl,rfl,hkj⟩;have:=congrArg List.length hk;simp at this
   lia
end
end Tx
def Zjn(K:Yk):V->List V->Hp->VK->Prop:=λx vs H Q=>∃a ys y j,x=.ref a/\vs=[.str y]/\SqT K H a (ys.map .str)/\Tx.place y ys=Wj j/\Q (.int (j:Int)) H
def Zmw{X:Cx}:MtR X "tuple.index" (Zjn X.K):=by
 intro pins s Z H x vs v us Q I rx rv h;obtain⟨a,ys,y,j,rfl,rfl,hq,hp,q⟩:=h;cases rx;obtain⟨u,rfl,ru⟩:=rv.one;obtain⟨t,rfl⟩:=ru;obtain⟨its,rs,pl,hz⟩:=I.tuple hq;have hl:=rs.length;refine Tx.ZjX pl (by simpa using hl.symm) (λi z hi=>?_) hp λu tk=>?_
 . obtain⟨u,hu,ru⟩:=rs.get (i:=i) (x:=.str z) (by simp[hi]);obtain⟨t2,rfl⟩:=ru;exact⟨t2,by simpa using hu⟩
 . exact⟨.int j,H,I.kept (h':=s.heap) (t':=tk) (λb o e=>e),⟨u,rfl⟩,q⟩
noncomputable def Zb8(K:Yk):Bool:=K.all λp=>!Wo (p.2.cls=.type "tuple") || p.2.dict.isNone
def ZoR{K:Yk}(h:Zb8 K=Wm){a:Yi}{o:Obj}(e:K.lookup a=Wj o)(hc:o.cls=.type "tuple"):o.dict=Wl:=by
 have hm:∃b,(b,o)∈K:=by
  induction K with
  |nil=>cases e
  |cons p r ih=>
   rw[OF]at e;split at e
   . cases e;exact⟨p.1,Oi⟩
   . obtain⟨b,hb⟩:=ih (by unfold Zb8 at h ⊢;rw[List.all_cons,Oa]at h;exact h.2) e;exact⟨b,Oh _ hb⟩
 obtain⟨b,hb⟩:=hm;have:=OC.mp h _ hb;simp only[hc,decide_true,Bool.not_true,Bool.false_or]at this;simpa using this
noncomputable def Ztl(K:Yk)(to:TE)(t:TA):TE:=λZ H Q=>to Z H λx H1=>(∃a ys,x=.ref a/\SqT K H1 a ys)/\t Z H1 λxs H2=>Zjn K x xs H2 Q
def Zp8{X:Cx}{o e:Expr}{to:TE}{t:TA}{apos cpos:Pos}(hK:Zb8 X.K=Wm)(ho:PE X o to)(ha:PA X [e] t)
 (hbase:attributeBase o "index" X.env (eval o X.env)=eval o X.env)
 (hfew:((YO cpos (Yw [e] X.env)).all (λx=>!x.1)&&(backToKw cpos (YW [] X.env)).all (λx=>x.1.isSome)&&Wo ([e].length+([]:List Keyword).length+(if ([]:List Keyword).isEmpty then 0 else 1)<30))=Wm)
 (hline:(apos.endLine==cpos.line)=Wm) (hs:Yw [e] X.env=[(Wn,eval e X.env)]) :
 PE X (.Call (.Attribute o "index" apos) [e] [] cpos) (Ztl X.K to t):=by
 intro pins s Z H Q I h;refine wpAny_Call_method_late hbase hfew hline rfl (thn (ho pins s Z H _ I h) λv s1 ⟨x,H1,I1,r1,ty,q1⟩=>?_);obtain⟨a,ys,rfl,hq⟩:=ty;cases r1;have ht:∃ob,s1.heap.get? a=Wj ob/\ob.cls=.type "tuple" /\ ob.dict=Wl:=by
  rcases hq with hq|⟨ob,its,n,hk,hc,hs,hz,r⟩
  . obtain⟨z,its,r,ob,e1,e2,e3,_⟩:=hq.ok I1.hok;exact⟨ob,e1,e2,e3⟩
  . exact⟨ob,I1.kIn a ob hk,hc,ZoR hK hk hc⟩
 obtain⟨ob,e1,e2,e3⟩:=ht;refine⟨"tuple", "tuple.index",F.plainAttrs_tuple,F.slot_tuple_index,F.type_tuple_index,⟨ob,e1,e2⟩,λb hb=>by cases hb;exact⟨ob,e1,e3⟩,?_⟩;have hA:=ha cpos pins s1 Z H1 _ I1 q1;rw[hs]at hA ⊢;refine Calls.callWith_builtin rfl (Calls.evalArgs_plain ?_);exact thn hA λus s2 ⟨vs,H2,I2,r2,q2⟩=>Zmw pins s2 Z H2 (.ref a) vs (.ref a) us Q I2 rfl r2 q2
end L2
end
section
namespace L2
open PySem PySem.Spec PyProof.Rows
def Zlc{e:Yj}{env env':Env}(h:env.frame=env'.frame):noteFrame e env=noteFrame e env':=by unfold noteFrame PySem.frameOf;rw[h]
structure Fly(B_:YD)(l:List Env)(a:Yi)(cls a0 fl:Yj)(h:YD):Prop where
 stay:B_.StaysIn h
 new:B_.get? a=Wl
 fr:h.FunFrames B_ l
 tr:h.TracedAtW B_ a cls a0 fl
section
variable {M:Model}{A:YE}{E:Yj->Yb->Prop}{s:Yb}{B_:YD}{l:List Env}{a:Yi}{cls a0 fl:Yj}{Q:Unit->Yb->Prop}
def ZlD{h:YD}{T:Yi}{oT:Obj}{ts:Array Yj}{v:Yj}(x:Fly B_ l a cls a0 fl h)(t1:h.get? T=Wj oT)(t2:oT.data=.fields ts)(t3:B_.get? T=Wl):
 (∀b,b≠T->(h.update T (Obj.mapFields (·.setIfInBounds 3 v))).get? b=h.get? b)/\B_.StaysIn (h.update T (Obj.mapFields (·.setIfInBounds 3 v)))/\(h.update T (Obj.mapFields (·.setIfInBounds 3 v))).FunFrames B_ l/\h.UpToSlots (h.update T (Obj.mapFields (·.setIfInBounds 3 v))):=by
 have o:∀b,b≠T->(h.update T (Obj.mapFields (·.setIfInBounds 3 v))).get? b=h.get? b:=λb hb=>YK _ _ (YI hb);have nr:∀b ob,h.get? b=Wj ob->(∀vs,ob.data≠.fields vs)->b≠T:=λb ob hb hn z=>by subst z;cases t1.symm.trans hb;exact hn _ t2
 exact⟨o,λb ob hb=>(o b λz=>by subst z;cases t3.symm.trans hb).trans (x.stay b ob hb),x.fr.of_keeps λb ob hb hn=>⟨ob,(o b (nr b ob hb hn)).trans hb,rfl⟩,λb ob hb hn=>⟨ob.slots,(o b (nr b ob hb hn)).trans hb⟩⟩
def Zf8(x:Fly B_ l a cls a0 fl s.heap){f:Option Yi}(q:∀h',Fly B_ l a cls a0 (f.elim .none λz=>rawInt z) h'->s.heap.UpToSlots h'->Q () {s with heap:=h'}):Yy M A (setFlight (.ref a) f) Q E s:=by obtain⟨oe,us,T,oT,ts,b1,b2,b3,b4,b5,b6,b7,b8,b9⟩:=x.tr;have z3:3<ts.size:=(Array.getElem?_eq_some_iff.mp b9).1;obtain⟨o,k1,k2,k3⟩:=ZlD (v:=f.elim .none λz=>rawInt z) x b7 b8 b5;unfold setFlight;refine Ya (YN b1 b3 b4 ?_);rw[if_pos (by simp)];refine wpAny_setField b7 b8 z3 (q _ ⟨k1,x.new,k2,oe,us,T,_,_,(o a (YI b6)).trans b1,b2,b3,b4,b5,b6,YS _ b7 (Obj.isFreed_of_fields (YU b8 _)),YU b8 _,by simp[z3]⟩ k3)
def ZjA{env:Env}{outer:List Env}{L:Yi}(hfr:A.frames=Wj (env::outer))(hf:env.frame=Wj L)(x:Fly B_ (env::outer) a cls a0 fl s.heap)(q:∀h',Heap.FlyingW B_ outer a cls a0 h'->s.heap.UpToSlots h'->Q () {s with heap:=h'}):Yy M A (leaving env (.ref a)) Q E s:=by
 have fin:∀(s1:Yb),Fly B_ (env::outer) a cls a0 (rawInt L) s1.heap->s.heap.UpToSlots s1.heap->(∀h',{s1 with heap:=h'}={s with heap:=h'})->Yy M A (setFlight (.ref a) Wl) Q E s1:=λs1 x1 u e=>Zf8 x1 λh' x2 u2=>by rw[e];exact q h' ⟨x2.stay,x2.new,x2.fr.2.2,x2.tr⟩ (u.trans u2)
 unfold leaving;refine Ya ?_;by_cases hL:fl=rawInt L
 . subst hL;exact wpAny_noteFrame_againW hf x.tr (fin s x (Heap.UpToSlots.refl _) λ_=>rfl)
 . obtain⟨oe,us,T,oT,ts,b1,b2,b3,b4,b5,b6,b7,b8,b9⟩:=x.tr;obtain⟨c1,c2⟩:=b2;subst c1;obtain⟨o,k1,k2,k3⟩:=ZlD (v:=.none) x b7 b8 b5;unfold noteFrame;simp only[hf];refine Ya (YN b1 b3 b4 ?_);rw[if_pos (by simp)];refine Ya (YN b7 b8 b9 ?_);rw[if_neg (by simpa using hL)];refine Ya (wpAny_setField b7 b8 (Array.getElem?_eq_some_iff.mp b9).1 ?_);refine wpAny_entryW hfr k2 hf ((o a (YI b6)).trans b1) k1 x.new b3 (Array.getElem?_eq_some_iff.mp b4).1 c2 λh' ⟨x1,x2,x3,x4⟩=>?_;exact fin _ ⟨x1,x.new,x2,x3⟩ (k3.trans x4) λ_=>rfl
end
def ZiD{P:Yh}{w:Yg}{fs:List Yi}{H H':Hp}{h h1 h2 B_:YD}(un:Un fs [] H H' h h1)(hok:HOk P w H' h1)(kb:Kept fs H' h h1 B_)(stay:B_.StaysIn h2)
 (hf:∀b∈fs,∀o,h1.get? b=Wj o->∃sl,h2.get? b=Wj {o with slots:=sl}):Un fs [] H H' h h2/\HOk P w H' h2/\Kept fs H' h h2 B_:=by
 have tr:∀b u,H' b=Wj u->∃o,h1.get? b=Wj o/\h2.get? b=Wj o/\B_.get? b=Wj o:=λb u e=>by obtain⟨o,q⟩:=(hok b u e).there;have z:=kb b o q (.inl (by rw[e];simp));exact⟨o,q,stay _ _ z,z⟩
 have old:∀b o,h.get? b=Wj o->b ∉ fs->∃o1,h1.get? b=Wj o1/\h2.get? b=Wj o1/\B_.get? b=Wj o1:=λb o e hb=>by obtain⟨o1,q⟩:=un.there b o e (by simp);have z:=kb b o1 q (.inr ⟨⟨o,e⟩,hb⟩);exact⟨o1,q,stay _ _ z,z⟩
 refine⟨⟨λb o e n hb _=>?_,λb o e n hb _=>?_,λb o e n _=>un.free b o e n (by simp),λb o e _=>?_,un.tups,un.frzs,un.tbls⟩,λb u e=>?_,λb o e hb=>?_⟩
 . obtain⟨o1,q1,q2,_⟩:=old b o e hb;cases (un.keep b o e n hb (by simp)).symm.trans q1;exact q2
 . obtain⟨sl,z⟩:=un.slot b o e n hb (by simp);obtain⟨sl',q⟩:=hf b hb _ z;exact⟨sl',q⟩
 . by_cases hb:b∈fs
   . obtain⟨o1,q1⟩:=un.there b o e (by simp);obtain⟨sl',q⟩:=hf b hb _ q1;exact⟨_,q⟩
   . obtain⟨o1,_,q2,_⟩:=old b o e hb;exact⟨_,q2⟩
 . refine(hok b u e).stay (λc v hc q=>?_) (λ_ q=>q) λ_ _ q=>q;have hc':∃u',H' c=Wj u':=by
    rcases hc with rfl|hc
    . exact⟨u,e⟩
    . exact⟨_,hc⟩
   obtain⟨u',e'⟩:=hc';obtain⟨o,q1,q2,_⟩:=tr c u' e';cases q.symm.trans q1;exact q2
 . rcases hb with hb|⟨⟨o',e'⟩,hb⟩
   . cases q:H' b with
     |none=>exact absurd q hb
     |some u=>obtain⟨o1,q1,q2,q3⟩:=tr b u q;cases e.symm.trans q2;exact q3
   . obtain⟨o1,q1,q2,q3⟩:=old b o' e' hb;cases e.symm.trans q2;exact q3
def Fly.hide{B_ h h':YD}{l:List Env}{a C:Yi}{cls a0 fl:Yj}{m:Str->Option Yj}(x:Fly B_ l a cls a0 fl h)(hn:h.Ns C m)(sb:Heap.SameBut C h h')(hl:∀b∈l.filterMap (·.frame),b≠C):Fly (YV B_ [C]) l a cls a0 fl h':=by
 obtain⟨oC,es,ep,hoC,hdC,_⟩:=hn;have nf:∀b o vs,h.get? b=Wj o->o.data=.fields vs->b≠C:=λb o vs e d z=>by subst z;cases hoC.symm.trans e;rw[hdC]at d;cases d
 have small:∀b,B_.get? b=Wl->(YV B_ [C]).get? b=Wl:=λb e=>by
  cases q:(YV B_ [C]).get? b with
  |none=>rfl
  |some o=>rw[PySem.W.of_hideAll _ q]at e;cases e
 obtain⟨oe,us,T,oT,ts,b1,b2,b3,b4,b5,b6,b7,b8,b9⟩:=x.tr;refine⟨λb o e=>?_,small _ x.new,?_,oe,us,T,oT,ts,(sb.2 a (nf _ _ _ b1 b3)).trans b1,b2,b3,b4,small _ b5,b6,(sb.2 T (nf _ _ _ b7 b8)).trans b7,b8,b9⟩
 . have hb:b≠C:=λz=>by rw[z,PySem.W.hideAll_none [C] (by simp)]at e;cases e
   exact(sb.2 b hb).trans (x.stay b o (PySem.W.of_hideAll _ e))
 . have go:∀l:List Env,h.FunFrames B_ l->(∀b∈l.filterMap (·.frame),b≠C)->h'.FunFrames (YV B_ [C]) l:=by
    intro l;induction l with
    |nil=>exact λ_ _=>trivial
    |cons e r ih=>rintro ⟨k,⟨L,o,f1,f2,f3,f4⟩,k2⟩ hb;have hL:L≠C:=hb L (List.mem_filterMap.mpr ⟨e,Oi,f1⟩);refine⟨k,⟨L,o,f1,small _ f2,(sb.2 L hL).trans f3,f4⟩,ih k2 λb hb'=>hb b ?_⟩;obtain⟨y,hy,ey⟩:=List.mem_filterMap.mp hb';exact List.mem_filterMap.mpr ⟨y,Oh _ hy,ey⟩
   exact go l x.fr hl
section
variable {P:Yh}{w:Yg}{K:Yk}{mg:Str->Option Yj}{base:YD}{N:List Str}{qual:Str}{scope:Scope}{f:Yi}{cd:Yj}{A:YE}{outer:List Env}{s0:Yb}{H0:Hp}{E:XK}
def Zk4{NC:List Str}{sc:Scope}{C:Yi}{s3:Yb}{H3:Hp}{fp:List Yi}{pins3:List (Yi×Obj)}{σ3:St}(I3:Inv (ZeK (CXF P w) P w K mg base N qual scope f cd A outer s0 H0 E) pins3 σ3 H3 s3)
 (f3:∀b∈fp,Zbg (ZeK (CXF P w) P w K mg base N qual scope f cd A outer s0 H0 E) pins3 H3 b) (hC:C=s3.heap.objs.size) {E1:XK} (hE:∀cls H',E1 cls Wl H'->E cls Wl H'):ZaO (CXF P w) (Zy (ZeK (CXF P w) P w K mg base N qual scope f cd A outer s0 H0 E) NC sc C s3 H3 fp) E1:=by
 intro pins Z H s e s' I hx;obtain⟨a,cls,a0,H',B_,rfl,os,bare,un,hok,fl,kb,ha,hE1⟩:=hx;have I':=I.call' (ch:=[]) os un hok bare (λb z=>absurd z (by simp));have I0:Inv (Zy (ZeK (CXF P w) P w K mg base N qual scope f cd A outer s0 H0 E) NC sc C s3 H3 fp) [] Z H' s':=I'.pins_of λp hp=>by cases hp
 have Io:=I3.comp_out (h'':=s'.heap) f3 hC I0 ⟨rfl,λ_ _=>rfl⟩;have hfr:(A.deeper (envOfC qual scope s0.heap.objs.size f cd)).frames=Wj (envOfC qual scope s0.heap.objs.size f cd::outer):=I3.ok.frames;have lt3:s0.heap.objs.size<s3.heap.objs.size:=I3.lt;have frC:∀b∈frs (envOfC qual scope s0.heap.objs.size f cd::outer),b≠C:=λb hb z=>by
  have hm:b∈s0.heap.objs.size::frs outer:=I3.stkSub b hb;subst z;rw[hC]at hm;rcases O1.mp hm with q|q
  . exact absurd q (Nat.ne_of_gt lt3)
  . obtain⟨_,o,q1,_⟩:=I3.funs.mem q;exact absurd (Yn q1) (Yu _)
 show Yy (model P w) (A.deeper (envOfC qual scope s0.heap.objs.size f cd)) (noteFrame (.ref a) _) _ _ s';rw[Zlc (env:=compEnvC sc (Zdc (ZeK (CXF P w) P w K mg base N qual scope f cd A outer s0 H0 E).env sc.names []) C (ZeK (CXF P w) P w K mg base N qual scope f cd A outer s0 H0 E).env) (env':=envOfC qual scope s0.heap.objs.size f cd) rfl];refine wpAny_looks_onW hfr rfl fl λh4 held4 up4=>?_;obtain⟨m,hn,_⟩:=I'.loc;have hn4:h4.Ns C m:=up4.ns hn;refine⟨m,hn4,λh5 sb cenv hc=>?_⟩;have x5:Fly (YV B_ [C]) (envOfC qual scope s0.heap.objs.size f cd::outer) a cls a0 (rawInt s0.heap.objs.size) h5:=Fly.hide ⟨held4.1,held4.2.1,held4.2.2.1,held4.2.2.2⟩ hn4 sb frC;have ht:=x5.tr;obtain⟨oe,us,T,oT,ts,b1,b2,b3,b4,b5,b6,b7,b8,b9⟩:=ht;unfold PySem.passOn;refine Ya (YN b1 b3 b4 ?_);rw[if_neg (by simp)];refine Ya (Zf8 (s:={s' with heap:=h5}) x5 λh6 x6 up6=>wpAny_throw ?_);show Yy (model P w) (A.deeper (envOfC qual scope s0.heap.objs.size f cd)) (leaving (envOfC qual scope s0.heap.objs.size f cd) (.ref a)) _ _ {s' with heap:=h6};refine ZjA hfr rfl x6 λh7 x7 up7=>?_;have kb':Kept (frs outer) H' s0.heap s'.heap (YV B_ [C]):=λb o e1 hb=>by
  have nC:b≠C:=λz=>by
   subst z;rcases hb with hb|⟨⟨o',e'⟩,hb⟩
   . exact hb I'.free
   . rw[hC]at e';exact absurd (Yn e') (Nat.not_lt.mpr (Nat.le_of_lt lt3))
  refine PySem.W.hideAll_get _ (kb b o e1 ?_) (by simpa using nC);rcases hb with hb|⟨⟨o',e'⟩,hb⟩
  . exact .inl hb
  . obtain⟨o1,q1⟩:=(I3.base:Un (frs outer) [] H0 H3 s0.heap s3.heap).there b o' e' (show b ∉ ([]:List Yi)from List.not_mem_nil);have nfp:b ∉ fp:=λhm=>by
     rcases(f3 b hm).2.2.2.1 with z|z
     . cases z
     . exact absurd (Yn e') (Nat.not_lt.mpr z)
    obtain⟨o2,q2⟩:=I.base.there b o1 q1 nfp;refine .inr ⟨⟨o2,q2⟩,λhm=>?_⟩;have hm':b∈s0.heap.objs.size::frs outer:=I3.stkSub b hm;rcases O1.mp hm' with z|z
    . rw[z]at e';exact absurd (Yn e') (Yu _)
    . exact hb z
 have hff:∀b∈frs outer,∀o,s'.heap.get? b=Wj o->∃sl,h7.get? b=Wj {o with slots:=sl}:=λb hb o e1=>by
  obtain⟨_,o',q1,nf⟩:=Io.funs.mem hb;cases e1.symm.trans q1;obtain⟨sl4,q4⟩:=up4 b o e1 nf;have hm:b∈frs (envOfC qual scope s0.heap.objs.size f cd::outer):=by obtain⟨y,hy,ey⟩:=List.mem_filterMap.mp hb;exact List.mem_filterMap.mpr ⟨y,Oh _ hy,ey⟩
  have q5:=(sb.2 b (frC b hm)).trans q4;obtain⟨sl6,q6⟩:=up6 b _ q5 nf;obtain⟨sl7,q7⟩:=up7 b _ q6 nf;exact⟨sl7,q7⟩
 obtain⟨r1,r2,r3⟩:=ZiD (Io.base:Un (frs outer) [] H0 H' s0.heap s'.heap) hok kb' x7.1 hff;exact⟨a,cls,a0,H',_,rfl,Io.os,bare,r1,r2,x7,r3,ha,hE _ _ hE1⟩
end
end L2
end
section
set_option tactic.hygienic false
namespace IV
open PySem PySem.Spec PyProof.Rows L2
inductive D where
 |non|bl (b:Bool)|int (i:Int)|str (x:Str)|tup (xs:List D)|ref (i:Nat)|ty (n:String)
 |ro (xs:List D)|kd (x:Str)
inductive DO where
 |lst (xs:List D)|dic (kvs:List (Key×D))|ins (C:Str) (fs:List (Str×D))
 |fdic (kvs:List (Key×D))
noncomputable abbrev Hd:=List DO
inductive R(α:Type) where
 |bad|ok (a:α) (h:Hd)|exc (c:Str) (h:Hd)
noncomputable def R.bind{α β:Type}(r:R α)(k:α->Hd->R β):R β:=match r with
 |.bad=>.bad
 |.ok a h=>k a h
 |.exc c h=>.exc c h
def R.bind_ok{α β:Type}{a:α}{h:Hd}{k:α->Hd->R β}:(R.ok a h).bind k=k a h:=rfl
def R.bind_bad{α β:Type}{k:α->Hd->R β}:(R.bad:R α).bind k=.bad:=rfl
noncomputable def R.ofO{α:Type}(o:Option α)(h:Hd):R α:=match o with
 |some a=>.ok a h
 |none=>.bad
def R.ofO_some{α:Type}{a:α}{h:Hd}:R.ofO (Wj a) h=.ok a h:=rfl
noncomputable abbrev Ev:=List (Option D)
inductive Bf where
 |len|isi|int|tup|lst|sum|all|srt|mx
 deriving DecidableEq
inductive Mf where
 |app|ext|pop|rev|clr
 deriving DecidableEq
mutual
inductive Ex where
 |var (i:Nat)|cst (d:D)|glo (x:Str)
 |bin (op:Operator) (a b:Ex)|cmp (op:CmpOp) (a b:Ex)|cmp2 (op op':CmpOp) (a b c:Ex)
 |neg (a:Ex)|nt (a:Ex)|ands (es:Exs)|ors (es:Exs)|ite (c:Tx) (a b:Ex)
 |tupl (es:Exs)|lstl (es:Exs)|ix (a i:Ex)|sl (a:Ex) (lo hi:Option Ex)
 |blt (f:Bf) (es:Exs)|call (f:Str) (es:Exs)|meth (m:Mf) (o:Ex) (es:Exs)
 |comp (NC:List Str) (js:List (Option Nat)) (it:Ix) (g:Tg) (c:Option Tx) (e:Ex)
 |sorts (e:Ex)|dictl (ps:Exs)|maxd (e d:Ex)
 |att (Cs:List Str) (o:Ex) (f:Str)|mk (C:Str) (es:Exs)|mcl (C m:Str) (o:Ex) (es:Exs)|any
 |trev (e:Ex)|tix (o e:Ex)|lrv (e:Ex)|lix (o e:Ex)|lin (a b:Ex)
inductive Exs where
 |nil|cons (e:Ex) (es:Exs)
inductive Ix where
 |pl (e:Ex)|rng (e:Ex)|rng2 (a b:Ex)|enu (e:Ex)|rev (e:Ex)
 |en1 (e:Ex)|en0 (e:Ex)|dk (e:Ex)
inductive Tg where
 |nm (i:Nat)|two (i j:Nat)|many (is:List Nat)
inductive Tx where
 |ex (e:Ex)|ands (ts:Txs)|ors (ts:Txs)|nt (a:Tx)
inductive Txs where
 |one (t:Tx)|cons (t:Tx) (ts:Txs)
end
mutual
inductive Sx where
 |ret (e:Ex)|set (g:Tg) (e:Ex)|put (o i e:Ex)|aug (i:Nat) (op:Operator) (e:Ex)|drp (e:Ex)
 |iff (c:Tx) (a b:Sxs)|whl (c:Tx) (b:Sxs)|forr (g:Tg) (it:Ix) (b:Sxs)|pas|brk|cnt
 |seta (Cs:List Str) (o:Ex) (f:Str) (e:Ex)|auga (Cs:List Str) (o:Ex) (f:Str) (e:Ex)|any
 |rai (C:Str) (e:Ex)|trs (i:Nat) (f:Str) (es:Exs) (C:Str)
inductive Sxs where
 |nil|cons (s:Sx) (r:Sxs)
end
noncomputable instance:DecidableEq D:=λa b=>Classical.propDecidable (a=b)
noncomputable instance:DecidableEq DO:=λa b=>Classical.propDecidable (a=b)
mutual
noncomputable def D.py(rd:Nat->Option PyData):D->Option PyData
 |.non=>Wj .none
 |.bl b=>Wj (.bool b)
 |.int i=>Wj (.int i)
 |.str x=>Wj (.str x)
 |.tup xs=>(D.pys rd xs).map .tuple
 |.ro xs=>(D.pys rd xs).map .list
 |.ref i=>rd i
 |_=>Wl
noncomputable def D.pys(rd:Nat->Option PyData):List D->Option (List PyData)
 |[]=>Wj []
 |x::xs=>(D.py rd x).bind λd=>(D.pys rd xs).map λds=>d::ds
end
noncomputable def ZkT(h:Hd):Nat->Nat->Option PyData
 |0,_=>Wl
 |n+1,i=>match h[i]? with
  |some (.lst xs)=>(D.pys (ZkT h n) xs).map .list
  |_=>Wl
noncomputable def ZkY(h:Hd)(d:D):Option PyData:=D.py (ZkT h 4) d
noncomputable def ZcS(o:DO)(h:Hd):R D:=.ok (.ref h.length) (h++[o])
noncomputable def lstOf(d:D)(h:Hd):Option (List D):=match d with
 |.ref i=>match h[i]? with
  |some (.lst xs)=>Wj xs
  |_=>Wl
 |.ro xs=>Wj xs
 |_=>Wl
noncomputable def dicOf(GD:Str->Option (List (Key×D)))(d:D)(h:Hd):Option (List (Key×D)):=match d with
 |.ref i=>match h[i]? with
  |some (.dic kvs)=>Wj kvs
  |some (.fdic kvs)=>Wj kvs
  |_=>Wl
 |.kd x=>GD x
 |_=>Wl
noncomputable def keyOf:D->Option Key
 |.int i=>Wj (.inl i)
 |.str x=>Wj (.inr x)
 |_=>Wl
noncomputable def Zdq(kvs:List (Key×D))(k:Key):Option D:=(kvs.find? λp=>Wo (p.1=k)).map (·.2)
noncomputable def putD(kvs:List (Key×D))(k:Key)(v:D):List (Key×D):=if (kvs.any λkv=>Wo (kv.1=k))=Wm then kvs.map (λkv=>if kv.1=k then(kv.1,v)else kv)else kvs++[(k,v)]
noncomputable def cutD(xs:List D)(lo hi:Option Int):List D:=(xs.drop (HT.sIx xs.length 0 lo)).take (HT.sIx xs.length xs.length hi - HT.sIx xs.length 0 lo)
noncomputable def D.flat:D->Bool
 |.int _|.str _|.bl _|.non=>Wm
 |_=>Wn
noncomputable def eqF:D->D->Bool
 |.int i,.int j=>i==j
 |.str i,.str j=>i==j
 |.non,.non=>Wm
 |.bl i,.bl j=>i==j
 |.int i,.bl j=>i==(if j then 1 else 0)
 |.bl i,.int j=>(if i then 1 else 0)==j
 |_,_=>Wn
noncomputable def Zb1(GD:Str->Option (List (Key×D)))(d:D)(h:Hd):Option Bool:=match d with
 |.non=>Wj Wn
 |.bl b=>Wj b
 |.int i=>Wj (i != 0)
 |.str x=>if x.length<=sizeLine then Wj (!(x.length==0))else Wl
 |.tup xs=>Wj (!xs.isEmpty)
 |.ref i=>match h[i]? with
  |some (.lst xs)=>Wj (!xs.isEmpty)
  |some (.dic xs)=>Wj (!xs.isEmpty)
  |_=>Wl
 |.ro xs=>Wj (!xs.isEmpty)
 |_=>Wl
noncomputable def int2(x y:D)(k:Int->Int->R D):R D:=match x with
 |.int i=>match y with
  |.int j=>k i j
  |_=>.bad
 |_=>.bad
noncomputable def Zq6(x y:D)(h:Hd):R D:=match x with
 |.int i=>match y with
  |.int j=>.ok (.int (i+j)) h
  |_=>.bad
 |.str i=>match y with
  |.str j=>if i.length+j.length<=sizeLine then .ok (.str (i++j)) h else .bad
  |_=>.bad
 |.tup xs=>match y with
  |.tup ys=>if xs.length+ys.length<=sizeLine then .ok (.tup (xs++ys)) h else .bad
  |_=>.bad
 |.ref i=>match y with
  |.ref j=>match h[i]? with
   |some (.lst xs)=>match h[j]? with
    |some (.lst ys)=>if xs.length+ys.length<=sizeLine then ZcS (.lst (xs++ys)) h else .bad
    |_=>.bad
   |_=>.bad
  |_=>.bad
 |_=>.bad
noncomputable def Zsk(x y:D)(h:Hd):R D:=match x with
 |.str z=>match y with
  |.int n=>if 0<=n/\n<=1000/\z.length<=1000 then .ok (.str (Zip z n.toNat)) h else .bad
  |_=>.bad
 |x=>int2 x y λi j=>if i.natAbs<2 ^ 2000/\j.natAbs<2 ^ 2000 then .ok (.int (i * j)) h else .bad
noncomputable def opB(op:Operator)(x y:D)(h:Hd):R D:=match op with
 |.Add=>Zq6 x y h
 |.Sub=>int2 x y λi j=>.ok (.int (i - j)) h
 |.Mult=>Zsk x y h
 |.Mod=>int2 x y λi j=>if 0<j then .ok (.int (i % j)) h else .bad
 |.FloorDiv=>int2 x y λi j=>if 0<j/\j<1073741824 then .ok (.int (i / j)) h else .bad
 |.Pow=>int2 x y λi j=>if 0<=j/\j<=1000000/\i.natAbs<2 ^ 64 then .ok (.int (i ^ j.toNat)) h else .bad
 |_=>.bad
noncomputable def Zdr(neg:Bool)(x y:D)(h:Hd):R D:=match ZkY h x,ZkY h y with
 |some a,Wj b=>if min a.depth b.depth<=1100 then .ok (.bl (if neg then !YM a b else YM a b)) h else .bad
 |_,_=>.bad
noncomputable def seqOf(d:D)(h:Hd):Option (List D):=match d with
 |.tup xs=>Wj xs
 |d=>lstOf d h
noncomputable def ZbS(GD:Str->Option (List (Key×D)))(neg:Bool)(x y:D)(h:Hd):R D:=match seqOf y h with
 |some xs=>if x.flat&&xs.all D.flat then .ok (.bl (if neg then !xs.any (λz=>eqF z x)else xs.any λz=>eqF z x)) h else .bad
 |none=>match dicOf GD y h,keyOf x with
  |some kvs,Wj k=>.ok (.bl (if neg then !(Zdq kvs k).isSome else(Zdq kvs k).isSome)) h
  |_,_=>.bad
noncomputable def Zhf(f:Int->Int->Bool)(x y:D)(h:Hd):R D:=match x,y with
 |.int i,.int j=>.ok (.bl (f i j)) h
 |_,_=>.bad
noncomputable def opN(neg:Bool)(x y:D)(h:Hd):R D:=match y with
 |.non=>.ok (.bl (if neg then !Wo (x=.non)else Wo (x=.non))) h
 |_=>.bad
noncomputable def opC(GD:Str->Option (List (Key×D)))(op:CmpOp)(x y:D)(h:Hd):R D:=match op with
 |.Eq=>Zdr Wn x y h
 |.NotEq=>Zdr Wm x y h
 |.Lt=>Zhf (λi j=>Wo (i<j)) x y h
 |.LtE=>Zhf (λi j=>Wo (i<=j)) x y h
 |.Gt=>Zhf (λi j=>Wo (j<i)) x y h
 |.GtE=>Zhf (λi j=>Wo (j<=i)) x y h
 |.In=>ZbS GD Wn x y h
 |.NotIn=>ZbS GD Wm x y h
 |.Is=>opN Wn x y h
 |.IsNot=>opN Wm x y h
noncomputable def Zcx(GD:Str->Option (List (Key×D)))(x y:D)(h:Hd):R D:=match y with
 |.int i=>match seqOf x h with
  |some xs=>R.ofO (atI xs i) h
  |none=>match x with
   |.str z=>if z.length<=sizeLine then R.ofO ((atI z.cps.toList i).map λc=>.str ⟨#[c]⟩) h else .bad
   |_=>match dicOf GD x h with
    |some kvs=>R.ofO (Zdq kvs (.inl i)) h
    |none=>.bad
 |.str z=>match dicOf GD x h with
  |some kvs=>R.ofO (Zdq kvs (.inr z)) h
  |none=>.bad
 |_=>.bad
noncomputable def Zk8(x:D)(l u:Option Int)(h:Hd):R D:=match x with
 |.tup xs=>.ok (.tup (cutD xs l u)) h
 |.str y=>if y.length<=sizeLine then .ok (.str (StrLaws.sliceText y l u)) h else .bad
 |d=>match lstOf d h with
  |some xs=>ZcS (.lst (cutD xs l u)) h
  |none=>.bad
noncomputable def Zrr(d:D)(h:Hd):Option String:=match d with
 |.int _=>Wj "int"
 |.str _=>Wj "str"
 |.bl _=>Wj "bool"
 |.non=>Wj "NoneType"
 |.tup _=>Wj "tuple"
 |d=>(lstOf d h).map λ_ => "list"
noncomputable def ZjQ(t T:String):Option Bool:=if T∈["int", "str", "bool", "tuple", "list"]/\t∈["int", "str", "bool", "tuple", "list", "NoneType"]then Wj (t==T || (t == "bool" && T == "int"))else Wl
noncomputable def intsOf:List D->Option (List Int)
 |[]=>Wj []
 |.int i::r=>(intsOf r).map λz=>i::z
 |_=>Wl
noncomputable def Zpi:List D->Option (List Bool)
 |[]=>Wj []
 |.bl i::r=>(Zpi r).map λz=>i::z
 |_=>Wl
noncomputable def strsOf:List D->Option (List Str)
 |[]=>Wj []
 |.str i::r=>(strsOf r).map λz=>i::z
 |_=>Wl
noncomputable def Zkw:List (Key×D)->Option (List Str)
 |[]=>Wj []
 |(.inr x,_)::r=>(Zkw r).map λz=>x::z
 |_=>Wl
noncomputable def ZrY(x:Str):List Str->List Str
 |[]=>[x]
 |y::r=>if ltCps y.cps.toList x.cps.toList then y::ZrY x r else x::y::r
noncomputable def ZlO:List Str->List Str
 |[]=>[]
 |x::r=>ZrY x (ZlO r)
noncomputable def Zgp(xs:List D)(h:Hd):R D:=match xs with
 |[.str y]=>if y.length<=sizeLine then .ok (.int y.length) h else .bad
 |[d]=>R.ofO ((seqOf d h).map λxs=>.int xs.length) h
 |_=>.bad
noncomputable def Zq2(xs:List D)(h:Hd):R D:=match xs with
 |[d,.ty T]=>R.ofO ((Zrr d h).bind λt=>(ZjQ t T).map .bl) h
 |_=>.bad
noncomputable def Zq3(xs:List D)(h:Hd):R D:=match xs with
 |[.int i]=>.ok (.int i) h
 |[.bl b]=>.ok (.int (if b then 1 else 0)) h
 |_=>.bad
noncomputable def Zq1(xs:List D)(h:Hd):R D:=match xs with
 |[.tup xs]=>.ok (.tup xs) h
 |[d]=>R.ofO ((lstOf d h).map .tup) h
 |_=>.bad
noncomputable def Zud(xs:List D)(h:Hd):R D:=match xs with
 |[d]=>match seqOf d h with
  |some xs=>ZcS (.lst xs) h
  |none=>.bad
 |_=>.bad
noncomputable def Zuc(xs:List D)(h:Hd):R D:=match xs with
 |[d]=>R.ofO (((lstOf d h).bind intsOf).map λns=>.int ns.sum) h
 |_=>.bad
noncomputable def Zue(xs:List D)(h:Hd):R D:=match xs with
 |[d]=>R.ofO (((lstOf d h).bind Zpi).map λbs=>.bl (bs.all id)) h
 |_=>.bad
noncomputable def ZoT(GD:Str->Option (List (Key×D)))(xs:List D)(h:Hd):R D:=match xs with
 |[d]=>match (dicOf GD d h).bind Zkw with
  |some ss=>if ss.length<64/\ss.all Yp=Wm then ZcS (.lst ((ZlO ss).map .str)) h else .bad
  |none=>.bad
 |_=>.bad
noncomputable def Zpk(x d:D)(h:Hd):R D:=match d with
 |.int d=>R.ofO (((lstOf x h).bind intsOf).map λns=>.int (Zhl ns d)) h
 |_=>.bad
noncomputable def bMx(xs:List D)(h:Hd):R D:=match xs with
 |[.int i,.int j]=>.ok (.int (if j > i then j else i)) h
 |[d]=>match (lstOf d h).bind intsOf with
  |some ns=>if ns≠[]then .ok (.int (Zhl ns 0)) h else .bad
  |none=>.bad
 |_=>.bad
noncomputable def ZeN(GD:Str->Option (List (Key×D))):Bf->List D->Hd->R D
 |.len=>Zgp
 |.isi=>Zq2
 |.int=>Zq3
 |.tup=>Zq1
 |.lst=>Zud
 |.sum=>Zuc
 |.all=>Zue
 |.srt=>ZoT GD
 |.mx=>bMx
noncomputable def ZkJ(x:D)(h:Hd):R D:=match x with
 |.tup (y::ys)=>.ok (.tup (y::ys).reverse) h
 |_=>.bad
noncomputable def ZsN(x:D)(h:Hd):R D:=match x with
 |.tup ys=>ZcS (.lst ys.reverse) h
 |_=>.bad
noncomputable def ZqG:D->Bool
 |.tup _=>Wm
 |_=>Wn
noncomputable def Zlv(x y:D)(h:Hd):R D:=match x,y with
 |.tup xs,.str z=>match strsOf xs with
  |some ss=>R.ofO ((Tx.place z ss).map λ(j:Nat)=>.int (j:Int)) h
  |none=>.bad
 |_,_=>.bad
noncomputable def ZsO(x y:D)(h:Hd):R D:=match lstOf x h,y with
 |some xs,.str z=>match strsOf xs with
  |some ss=>R.ofO ((Tx.place z ss).map λ(j:Nat)=>.int (j:Int)) h
  |none=>.bad
 |_,_=>.bad
noncomputable def ZsP(x y:D)(h:Hd):R D:=match ZkY h x,ZkY h y with
 |some a,Wj (.list bs)=>if min (PyData.depthAll bs) a.depth<=1000 then .ok (.bl (bs.any λb=>YM b a)) h else .bad
 |_,_=>.bad
noncomputable def ZdL:List D->Option (List (Key×D))
 |[]=>Wj []
 |k::v::r=>match keyOf k,ZdL r with
  |some k,Wj r=>Wj ((k,v)::r)
  |_,_=>Wl
 |_=>Wl
noncomputable def Zev(kvs more:List (Key×D)):List (Key×D):=more.foldl (λacc kv=>putD acc kv.1 kv.2) kvs
noncomputable def Zhm(i:Nat)(ys xs:List D)(h:Hd):R D:=match xs with
 |[d]=>if ys.length<sizeLine then .ok .non (h.set i (.lst (ys++[d])))else .bad
 |_=>.bad
noncomputable def Zlf(i:Nat)(ys xs:List D)(h:Hd):R D:=match xs with
 |[.ref j]=>match h[j]? with
  |some (.lst zs)=>if ys.length+zs.length<=sizeLine then .ok .non (h.set i (.lst (ys++zs)))else .bad
  |_=>.bad
 |[.tup zs]=>if ys.length+zs.length<=sizeLine then .ok .non (h.set i (.lst (ys++zs)))else .bad
 |_=>.bad
noncomputable def Zmz(i:Nat)(ys xs:List D)(h:Hd):R D:=match xs with
 |[]=>match ys[ys.length - 1]? with
  |some y=>.ok y (h.set i (.lst ys.dropLast))
  |none=>.bad
 |_=>.bad
noncomputable def Zsn(i:Nat)(ys xs:List D)(h:Hd):R D:=match xs with
 |[]=>.ok .non (h.set i (.lst ys.reverse))
 |_=>.bad
noncomputable def Zso(i:Nat)(ys xs:List D)(h:Hd):R D:=match xs with
 |[]=>.ok .non (h.set i (.lst []))
 |_=>.bad
noncomputable def ZcT:Mf->Nat->List D->List D->Hd->R D
 |.app=>Zhm
 |.ext=>Zlf
 |.pop=>Zmz
 |.rev=>Zsn
 |.clr=>Zso
noncomputable def ZaX(m:Mf)(o:D)(xs:List D)(h:Hd):R D:=match o with
 |.ref i=>match h[i]? with
  |some (.lst ys)=>ZcT m i ys xs h
  |_=>.bad
 |_=>.bad
noncomputable def Zab(o:D)(h:Hd):Bool:=match o with
 |.ref i=>match h[i]? with
  |some (.lst _)=>Wm
  |_=>Wn
 |_=>Wn
noncomputable def Zkl(o i v:D)(h:Hd):R Unit:=match o with
 |.ref a=>match h[a]? with
  |some (.lst xs)=>match i with
   |.int k=>match ixN xs.length k with
    |some j=>.ok () (h.set a (.lst (xs.set j v)))
    |none=>.bad
   |_=>.bad
  |some (.dic kvs)=>match keyOf i with
   |some k=>if kvs.length<sizeLine then .ok () (h.set a (.dic (putD kvs k v)))else .bad
   |none=>.bad
  |_=>.bad
 |_=>.bad
structure Wk where
 src:Option (Nat×List D)
 xs:List D
noncomputable def Wk.stays(src:Option (Nat×List D))(h:Hd):Bool:=match src with
 |none=>Wm
 |some (i,xs)=>Wo (h[i]? = Wj (.lst xs))
noncomputable def Zbk(d:D)(h:Hd):Option Wk:=match d with
 |.tup xs=>Wj ⟨Wl,xs⟩
 |.ro xs=>Wj ⟨Wl,xs⟩
 |.ref i=>match h[i]? with
  |some (.lst xs)=>Wj ⟨Wj (i,xs),xs⟩
  |_=>Wl
 |.str y=>if y.length<=sizeLine then Wj ⟨Wl,y.cps.toList.map λc=>.str ⟨#[c]⟩⟩else Wl
 |_=>Wl
noncomputable def ZlA(d:D)(h:Hd):Option Wk:=match d with
 |.ro xs=>Wj ⟨Wl,xs⟩
 |.ref i=>match h[i]? with
  |some (.lst xs)=>Wj ⟨Wj (i,xs),xs⟩
  |_=>Wl
 |_=>Wl
noncomputable def Zj9(d:D)(h:Hd):Option Wk:=match d with
 |.tup xs=>Wj ⟨Wl,xs⟩
 |.ref i=>match h[i]? with
  |some (.lst xs)=>Wj ⟨Wj (i,xs),xs⟩
  |_=>Wl
 |_=>Wl
noncomputable def ZaH(lo:Int)(n:Nat):List D:=(List.range n).map λ(k:Nat)=>.int (lo+(k:Int))
noncomputable def ZcQ(xs:List D):List D:=xs.mapIdx λk x=>.tup [.int (k:Int),x]
noncomputable def ZmX(xs:List D):List D:=xs.mapIdx λk x=>.tup [.int ((k+1:Nat):Int),x]
noncomputable def Zsq:Key->D
 |.inl i=>.int i
 |.inr x=>.str x
noncomputable def Zsv(x:D)(h:Hd):R Wk:=match x with
 |.ref i=>match h[i]? with
  |some (.dic kvs)=>.ok ⟨Wl,kvs.map λp=>Zsq p.1⟩ (h.set i (.fdic kvs))
  |some (.fdic kvs)=>.ok ⟨Wl,kvs.map λp=>Zsq p.1⟩ h
  |_=>.bad
 |_=>.bad
noncomputable def Zdm(i:Int):Bool:=Wo (-(2 ^ 62)<=i)&&Wo (i<2 ^ 62)
noncomputable def Zji:List Nat->List D->Ev->Ev
 |i::is,x::xs,S=>Zji is xs (S.set i (Wj x))
 |_,_,S=>S
noncomputable def ZbX(g:Tg)(d:D)(S:Ev):Option Ev:=match g with
 |.nm i=>Wj (S.set i (Wj d))
 |.two i j=>match d with
  |.tup [a,b]=>Wj ((S.set i (Wj a)).set j (Wj b))
  |_=>Wl
 |.many is=>match d with
  |.tup xs=>if xs.length=is.length then Wj (Zji is xs S)else Wl
  |_=>Wl
noncomputable def ZdH(js:List (Option Nat))(S:Ev):Ev:=js.map λo=>o.bind λj=>(S[j]?).join
inductive Fl where
 |nx|bk|ct|rt (d:D)
noncomputable def ZaI(src:Option (Nat×List D))(g:Tg)(body:Ev->Hd->R (Fl×Ev)):List D->Ev->Hd->R (Fl×Ev)
 |[],S,h=>if Wk.stays src h then .ok (.nx,S) h else .bad
 |d::ds,S,h=>if Wk.stays src h then match ZbX g d S with
  |none=>.bad
  |some ρ1=>(body ρ1 h).bind λp h2=>match p with
   |(.nx,ρ2)=>ZaI src g body ds ρ2 h2
   |(.ct,ρ2)=>ZaI src g body ds ρ2 h2
   |(.bk,ρ2)=>.ok (.nx,ρ2) h2
   |(.rt d,ρ2)=>.ok (.rt d,ρ2) h2
  else .bad
noncomputable def Zbj(test:Ev->Hd->R Bool)(body:Ev->Hd->R (Fl×Ev)):Nat->Ev->Hd->R (Fl×Ev)
 |0,_,_=>.bad
 |n+1,S,h=>(test S h).bind λb h1=>if b then(body S h1).bind λp h2=>match p with
  |(.nx,ρ2)=>Zbj test body n ρ2 h2
  |(.ct,ρ2)=>Zbj test body n ρ2 h2
  |(.bk,ρ2)=>.ok (.nx,ρ2) h2
  |(.rt d,ρ2)=>.ok (.rt d,ρ2) h2
  else .ok (.nx,S) h1
noncomputable def R.plain{α:Type}:R α->R α
 |.exc _ _=>.bad
 |r=>r
noncomputable def ZaC(src:Option (Nat×List D))(g:Tg)(test:Ev->Hd->R Bool)(elt:Ev->Hd->R D):List D->Ev->List D->Hd->R (List D)
 |[],_,acc,h=>if Wk.stays src h then .ok acc h else .bad
 |d::ds,S,acc,h=>if Wk.stays src h/\acc.length<sizeLine then match ZbX g d S with
  |none=>.bad
  |some ρ1=>(test ρ1 h).bind λb h1=>if b then(elt ρ1 h1).bind λx h2=>ZaC src g test elt ds S (acc++[x]) h2 else ZaC src g test elt ds S acc h1
  else .bad
noncomputable def ZqX(C:Str)(i:Nat)(S:Ev)(r:R D):R (Fl×Ev):=match r with
 |.bad=>.bad
 |.ok v h=>.ok (.nx,S.set i (Wj v)) h
 |.exc c h=>if c=C then .ok (.nx,S.set i (Wj .non)) h else .bad
noncomputable def mnm(C m:Str):Str:=C++(O "." ++ m)
noncomputable def Zq(d:D)(h:Hd):Option (Str×List (Str×D)):=match d with
 |.ref i=>match h[i]? with
  |some (.ins C fs)=>Wj (C,fs)
  |_=>Wl
 |_=>Wl
noncomputable def ZaY(Cs:List Str)(f:Str)(x:D)(h:Hd):R D:=match Zq x h with
 |some (C,fs)=>if C∈Cs then R.ofO (fs.lookup f) h else .bad
 |none=>.bad
noncomputable def Zhd(f:Str)(v:D):List (Str×D)->List (Str×D)
 |[]=>[(f,v)]
 |(g,x)::r=>if g=f then(g,v)::r else(g,x)::Zhd f v r
noncomputable def Zfa(Cs:List Str)(f:Str)(x d:D)(h:Hd):R D:=match x with
 |.ref i=>match h[i]? with
  |some (.ins C fs)=>if C∈Cs/\fs.length<1000 then .ok .non (h.set i (.ins C (Zhd f d fs)))else .bad
  |_=>.bad
 |_=>.bad
noncomputable def ZfP(Cf:Str->List D->Hd->R D)(C:Str)(xs:List D)(h:Hd):R D:=(Cf (mnm C (O "__init__")) (.ref h.length::xs) (h++[.ins C []])).bind λd h2=>match d with
 |.non=>.ok (.ref h.length) h2
 |_=>.bad
structure Tb where
 G:Str->Option D
 GD:Str->Option (List (Key×D))
 C:Str->List D->Hd->R D
 L:Nat
mutual
noncomputable def ev(T:Tb):Ex->Ev->Hd->R D
 |.var i,S,h=>R.ofO (S[i]?).join h
 |.cst d,_,h=>.ok d h
 |.glo x,_,h=>R.ofO (T.G x) h
 |.bin op a b,S,h=>(ev T a S h).bind λx h1=>(ev T b S h1).bind λy h2=>opB op x y h2
 |.cmp op a b,S,h=>(ev T a S h).bind λx h1=>(ev T b S h1).bind λy h2=>opC T.GD op x y h2
 |.cmp2 op op' a b c,S,h=>(ev T a S h).bind λx h1=>(ev T b S h1).bind λy h2=>(opC T.GD op x y h2).bind λr h3=>match r with
  |.bl Wm=>(ev T c S h3).bind λz h4=>opC T.GD op' y z h4
  |.bl Wn=>.ok (.bl Wn) h3
  |_=>.bad
 |.neg a,S,h=>(ev T a S h).bind λx h1=>match x with
  |.int i=>.ok (.int (-i)) h1
  |_=>.bad
 |.nt a,S,h=>(ev T a S h).bind λx h1=>match x with
  |.bl b=>.ok (.bl (!b)) h1
  |_=>.bad
 |.ands es,S,h=>evAnd T es S h
 |.ors es,S,h=>evOr T es S h
 |.ite c a b,S,h=>(tst T c S h).bind λc h1=>if c then ev T a S h1 else ev T b S h1
 |.tupl es,S,h=>(evs T es S h).bind λxs h1=>if xs.length<=sizeLine then .ok (.tup xs) h1 else .bad
 |.lstl es,S,h=>(evs T es S h).bind λxs h1=>if xs.length<=sizeLine then ZcS (.lst xs) h1 else .bad
 |.ix a i,S,h=>(ev T a S h).bind λx h1=>(ev T i S h1).bind λy h2=>Zcx T.GD x y h2
 |.sl a lo hi,S,h=>(ev T a S h).bind λx h1=>(evo T lo S h1).bind λl h2=>(evo T hi S h2).bind λu h3=>Zk8 x l u h3
 |.blt f es,S,h=>(evs T es S h).bind λxs h1=>ZeN T.GD f xs h1
 |.call f es,S,h=>(evs T es S h).bind λxs h1=>T.C f xs h1
 |.meth m o es,S,h=>(ev T o S h).bind λx h1=>if Zab x h1 then(evs T es S h1).bind λxs h2=>ZaX m x xs h2 else .bad
 |.comp _ js it g c e,S,h=>(evi T it S h).bind λw h1=>(ZaC w.src g (tsto T c) (ev T e) w.xs (ZdH js S) [] h1).bind λxs h2=>ZcS (.lst xs) h2
 |.sorts e,S,h=>(ev T e S h).bind λx h1=>match (lstOf x h1).bind strsOf with
  |some ss=>if ss.length<64 then ZcS (.lst ((ZlO ss.eraseDups).map .str)) h1 else .bad
  |none=>.bad
 |.maxd e d,S,h=>(ev T e S h).bind λx h1=>(ev T d S h1).bind λy h2=>Zpk x y h2
 |.dictl ps,S,h=>(evs T ps S h).bind λxs h1=>match ZdL xs with
  |some kvs=>if kvs.length<=15 then ZcS (.dic (Zev [] kvs)) h1 else .bad
  |none=>.bad
 |.att Cs o f,S,h=>(ev T o S h).bind λx h1=>ZaY Cs f x h1
 |.mk C es,S,h=>(evs T es S h).bind λxs h1=>ZfP T.C C xs h1
 |.mcl C m o es,S,h=>(ev T o S h).bind λx h1=>match Zq x h1 with
  |some (C',fs)=>if C'=C/\fs.lookup m=Wl then(evs T es S h1).bind λxs h2=>T.C (mnm C m) (x::xs) h2 else .bad
  |none=>.bad
 |.any,_,_=>.bad
 |.trev e,S,h=>(ev T e S h).bind λx h1=>ZkJ x h1
 |.lrv e,S,h=>(ev T e S h).bind λx h1=>ZsN x h1
 |.tix o e,S,h=>(ev T o S h).bind λx h1=>if ZqG x then(ev T e S h1).bind λy h2=>Zlv x y h2 else .bad
 |.lix o e,S,h=>(ev T o S h).bind λx h1=>if Zab x h1 then(ev T e S h1).bind λy h2=>ZsO x y h2 else .bad
 |.lin a b,S,h=>(ev T a S h).bind λx h1=>(ev T b S h1).bind λy h2=>ZsP x y h2
noncomputable def evs(T:Tb):Exs->Ev->Hd->R (List D)
 |.nil,_,h=>.ok [] h
 |.cons e es,S,h=>(ev T e S h).bind λx h1=>(evs T es S h1).bind λxs h2=>.ok (x::xs) h2
noncomputable def evAnd(T:Tb):Exs->Ev->Hd->R D
 |.nil,_,_=>.bad
 |.cons e es,S,h=>match es with
  |.nil=>ev T e S h
  |.cons _ _=>(ev T e S h).bind λx h1=>match x with
   |.bl Wm=>evAnd T es S h1
   |.bl Wn=>.ok (.bl Wn) h1
   |_=>.bad
noncomputable def evOr(T:Tb):Exs->Ev->Hd->R D
 |.nil,_,_=>.bad
 |.cons e es,S,h=>match es with
  |.nil=>ev T e S h
  |.cons _ _=>(ev T e S h).bind λx h1=>match x with
   |.bl Wm=>.ok (.bl Wm) h1
   |.bl Wn=>evOr T es S h1
   |_=>.bad
noncomputable def evo(T:Tb):Option Ex->Ev->Hd->R (Option Int)
 |none,_,h=>.ok Wl h
 |some e,S,h=>(ev T e S h).bind λx h1=>match x with
  |.int i=>.ok (Wj i) h1
  |_=>.bad
noncomputable def tst(T:Tb):Tx->Ev->Hd->R Bool
 |.ex e,S,h=>(ev T e S h).bind λx h1=>R.ofO (Zb1 T.GD x h1) h1
 |.ands ts,S,h=>tstAnd T ts S h
 |.ors ts,S,h=>tstOr T ts S h
 |.nt a,S,h=>(tst T a S h).bind λc h1=>.ok (!c) h1
noncomputable def tstAnd(T:Tb):Txs->Ev->Hd->R Bool
 |.one t,S,h=>tst T t S h
 |.cons t ts,S,h=>(tst T t S h).bind λc h1=>if c then tstAnd T ts S h1 else .ok Wn h1
noncomputable def tstOr(T:Tb):Txs->Ev->Hd->R Bool
 |.one t,S,h=>tst T t S h
 |.cons t ts,S,h=>(tst T t S h).bind λc h1=>if c then .ok Wm h1 else tstOr T ts S h1
noncomputable def tsto(T:Tb):Option Tx->Ev->Hd->R Bool
 |none,_,h=>.ok Wm h
 |some e,S,h=>tst T e S h
noncomputable def evi(T:Tb):Ix->Ev->Hd->R Wk
 |.pl e,S,h=>(ev T e S h).bind λx h1=>R.ofO (Zbk x h1) h1
 |.rng e,S,h=>(ev T e S h).bind λx h1=>match x with
  |.int j=>if Zdm j then .ok ⟨Wl,ZaH 0 j.toNat⟩ h1 else .bad
  |_=>.bad
 |.rng2 a b,S,h=>(ev T a S h).bind λx h1=>(ev T b S h1).bind λy h2=>match x,y with
  |.int i,.int j=>if Zdm i&&Zdm j then .ok ⟨Wl,ZaH i (j - i).toNat⟩ h2 else .bad
  |_,_=>.bad
 |.enu e,S,h=>(ev T e S h).bind λx h1=>R.ofO ((ZlA x h1).map λw=>⟨w.src,ZcQ w.xs⟩) h1
 |.rev e,S,h=>(ev T e S h).bind λx h1=>R.ofO ((Zj9 x h1).map λw=>⟨w.src,w.xs.reverse⟩) h1
 |.en1 e,S,h=>(ev T e S h).bind λx h1=>match x with
  |.tup xs=>.ok ⟨Wl,ZmX xs⟩ h1
  |_=>.bad
 |.en0 e,S,h=>(ev T e S h).bind λx h1=>match x with
  |.tup xs=>.ok ⟨Wl,ZcQ xs⟩ h1
  |_=>.bad
 |.dk e,S,h=>(ev T e S h).bind λx h1=>Zsv x h1
end
mutual
noncomputable def xs1(T:Tb):Sx->Ev->Hd->R (Fl×Ev)
 |.ret e,S,h=>(ev T e S h).bind λx h1=>.ok (.rt x,S) h1
 |.set g e,S,h=>(ev T e S h).bind λx h1=>(R.ofO (ZbX g x S) h1).bind λρ1 h2=>.ok (.nx,ρ1) h2
 |.put o i e,S,h=>(ev T e S h).bind λx h1=>(ev T o S h1).bind λy h2=>(ev T i S h2).bind λz h3=>(Zkl y z x h3).bind λ_ h4=>.ok (.nx,S) h4
 |.aug i op e,S,h=>(R.ofO (S[i]?).join h).bind λx h1=>(ev T e S h1).bind λy h2=>match op,x,y with
  |.Add,.int a,.int b=>.ok (.nx,S.set i (Wj (.int (a+b)))) h2
  |_,_,_=>.bad
 |.drp e,S,h=>(ev T e S h).bind λ_ h1=>.ok (.nx,S) h1
 |.iff c a b,S,h=>(tst T c S h).bind λt h1=>if t then xs2 T a S h1 else xs2 T b S h1
 |.whl c b,S,h=>Zbj (tst T c) (xs2 T b) T.L S h
 |.forr g it b,S,h=>(evi T it S h).bind λw h1=>ZaI w.src g (xs2 T b) w.xs S h1
 |.pas,S,h=>.ok (.nx,S) h
 |.brk,S,h=>.ok (.bk,S) h
 |.cnt,S,h=>.ok (.ct,S) h
 |.seta Cs o f e,S,h=>(ev T e S h).bind λd h1=>(ev T o S h1).bind λx h2=>(Zfa Cs f x d h2).bind λ_ h3=>.ok (.nx,S) h3
 |.auga Cs o f e,S,h=>(ev T o S h).bind λx h1=>(ZaY Cs f x h1).bind λv h2=>(ev T e S h2).bind λy h3=>match v,y with
  |.int a,.int b=>if (Zq x h1).map (·.1)=(Zq x h3).map (·.1)then(Zfa Cs f x (.int (a+b)) h3).bind λ_ h4=>.ok (.nx,S) h4 else .bad
  |_,_=>.bad
 |.any,_,_=>.bad
 |.rai C e,S,h=>(ev T e S h).bind λ_ h1=>.exc C h1
 |.trs i f es C,S,h=>(evs T es S h).plain.bind λxs h1=>ZqX C i S (T.C f xs h1)
noncomputable def xs2(T:Tb):Sxs->Ev->Hd->R (Fl×Ev)
 |.nil,S,h=>.ok (.nx,S) h
 |.cons s r,S,h=>(xs1 T s S h).bind λp h1=>match p with
  |(.nx,ρ1)=>xs2 T r ρ1 h1
  |p=>.ok p h1
end
structure Fd where
 ps:List Str
 N:List Str
 body:Sxs
structure Pg where
 tb:List (Str×Fd)
 G:Str->Option D
 GD:Str->Option (List (Key×D))
 L:Nat
 ms:List (Str×Fd):=[]
noncomputable def Pg.look(P:Pg)(f:Str):Option Fd:=match P.tb.lookup f with
 |some fd=>Wj fd
 |none=>P.ms.lookup f
noncomputable def Za(N:List Str)(ds:List D):Ev:=ds.map Wj++YH (N.length - ds.length) Wl
noncomputable def ZaV:R (Fl×Ev)->R D
 |.ok (.rt d,_) h=>.ok d h
 |.ok (.nx,_) h=>.ok .non h
 |.exc c h=>.exc c h
 |_=>.bad
noncomputable def run(P:Pg):Nat->Str->List D->Hd->R D
 |0,_,_,_=>.bad
 |n+1,f,ds,h=>match P.look f with
  |none=>.bad
  |some fd=>if ds.length=fd.ps.length then ZaV (xs2 ⟨P.G,P.GD,run P n,P.L⟩ fd.body (Za fd.N ds) h)else .bad
noncomputable def Pg.tbl(P:Pg)(n:Nat):Tb:=⟨P.G,P.GD,run P n,P.L⟩
end IV
end
section
set_option tactic.hygienic false
namespace IV
open PySem PySem.Spec PyProof.Rows L2
def FzL(K:Yk)(H:Hp)(a:Yi)(xs:List V):Prop:=(∃o,H a=Wj (.frz o (.lst xs)))\/∃(o:Obj) (its:Array Yj) (n:Nat),K.lookup a=Wj o/\o.cls=.type "list" /\ o.dict=Wl/\o.data=.seq its n/\its.size<=sizeLine/\Zk xs its.toList
def FzL.sq{K:Yk}{H:Hp}{a:Yi}{xs:List V}(h:FzL K H a xs):SqL K H a xs:=h.elim (λ⟨o,h⟩=>.inl (.inr ⟨o,h⟩)) .inr
structure Yx where
 K:Yk
 mg:Str->Option Yj
mutual
inductive RD(Y:Yx)(H:Hp)(B:List Yi):D->V->Prop
 |non:RD Y H B .non .non
 |bl (b:Bool):RD Y H B (.bl b) (.bl b)
 |int (i:Int):RD Y H B (.int i) (.int i)
 |str (x:Str) (ok:Yp x=Wm):RD Y H B (.str x) (.str x)
 |tup {a:Yi}{vs:List V}{ds:List D}:SqT Y.K H a vs->RDs Y H B ds vs->RD Y H B (.tup ds) (.ref a)
 |ref {i:Nat}{a:Yi}:B[i]? = Wj a->RD Y H B (.ref i) (.ref a)
 |ty (n:String):RD Y H B (.ty n) (.ty n)
 |ro {a:Yi}{vs:List V}{ds:List D}:FzL Y.K H a vs->RDs Y H B ds vs->RD Y H B (.ro ds) (.ref a)
 |kd {x:Str}{a:Yi}:Y.mg x=Wj (.ref a)->RD Y H B (.kd x) (.ref a)
inductive RDs(Y:Yx)(H:Hp)(B:List Yi):List D->List V->Prop
 |nil:RDs Y H B [] []
 |cons {d:D}{v:V}{ds:List D}{vs:List V}:RD Y H B d v->RDs Y H B ds vs->RDs Y H B (d::ds) (v::vs)
end
inductive RKs(Y:Yx)(H:Hp)(B:List Yi){κ:Type}:List (κ×D)->List (κ×V)->Prop
 |nil:RKs Y H B [] []
 |cons {k:κ}{d:D}{v:V}{ds:List (κ×D)}{vs:List (κ×V)}:RD Y H B d v->RKs Y H B ds vs->RKs Y H B ((k,d)::ds) ((k,v)::vs)
def RO(Y:Yx)(H:Hp)(B:List Yi)(a:Yi):DO->Prop
 |.lst ds=>∃vs,H a=Wj (.lst vs)/\RDs Y H B ds vs
 |.dic kvs=>∃kvs',H a=Wj (.dK kvs')/\RKs Y H B kvs kvs'
 |.ins C fs=>∃Ca dx fs',H a=Wj (.ins Ca dx fs')/\Y.mg C=Wj (.ref Ca)/\RKs Y H B fs fs'
 |.fdic kvs=>∃o kvs',H a=Wj (.frz o (.dK kvs'))/\RKs Y H B kvs kvs'
def ZcM(kvs:List (Key×D)):Prop:=∀p∈kvs,∀x,p.1=.inr x->Yp x=Wm
def DOk:DO->Prop
 |.dic kvs=>ZcM kvs
 |.fdic kvs=>ZcM kvs
 |_=>True
structure RH(Y:Yx)(H:Hp)(B:List Yi)(h:Hd):Prop where
 len:h.length=B.length
 nd:B.Nodup
 ob:∀(i:Nat) (o:DO) (a:Yi),h[i]? = Wj o->B[i]? = Wj a->RO Y H B a o
 ks:∀(i:Nat) (o:DO),h[i]? = Wj o->DOk o
structure Gr(H:Hp)(B:List Yi)(H':Hp)(μ':List Yi):Prop where
 pre:∀(i:Nat) (a:Yi),B[i]? = Wj a->μ'[i]? = Wj a
 new:∀a∈μ',a∈B\/H a=Wl
 keep:∀b o,b ∉ B->H b=Wj o->H' b=Wj o
 fz:∀b o u,H b=Wj (.frz o u)->H' b=Wj (.frz o u)
def Gr.refl{H:Hp}{B:List Yi}:Gr H B H B:=⟨λ_ _ h=>h,λ_ h=>.inl h,λ_ _ _ h=>h,λ_ _ _ h=>h⟩
def Gr.trans{H H1 H2:Hp}{B μ1 μ2:List Yi}(a:Gr H B H1 μ1)(b:Gr H1 μ1 H2 μ2):Gr H B H2 μ2:=by
 refine⟨λi x h=>b.pre i x (a.pre i x h),λx hx=>?_,λx o hx h=>?_,λx o u h=>b.fz x o u (a.fz x o u h)⟩
 . rcases b.new x hx with h|h
   . exact a.new x h
   . by_cases hm:x∈B
     . exact .inl hm
     . cases q:H x with
       |none=>exact .inr rfl
       |some o=>rw[a.keep x o hm q]at h;cases h
 . refine b.keep x o (λhm=>?_) (a.keep x o hx h);rcases a.new x hm with z|z
   . exact hx z
   . rw[h]at z;cases z
def Mu:Option HO->Prop
 |some (.lst _)|some (.dK _)|some (.ins _ _ _)|some (.frz _ (.dK _))=>True
 |_=>False
def RO.mut{Y:Yx}{H:Hp}{B:List Yi}{a:Yi}{o:DO}(h:RO Y H B a o):Mu (H a):=by
 cases o with
 |lst ds=>obtain⟨vs,e,_⟩:=h;rw[e];trivial
 |dic ds=>obtain⟨vs,e,_⟩:=h;rw[e];trivial
 |ins C ds=>obtain⟨_,_,_,e,_⟩:=h;rw[e];trivial
 |fdic ds=>obtain⟨_,_,e,_⟩:=h;rw[e];trivial
def RH.mem{Y:Yx}{H:Hp}{B:List Yi}{h:Hd}(r:RH Y H B h){a:Yi}(ha:a∈B):∃(i:Nat) (o:DO),B[i]? = Wj a/\h[i]? = Wj o/\RO Y H B a o:=by
 obtain⟨i,hi⟩:=List.mem_iff_getElem?.mp ha;have hl:i<h.length:=by rw[r.len];exact(Ob.mp hi).1
 exact⟨i,h[i],hi,Og hl,r.ob i _ a (Og hl) hi⟩
theorem RH.mut{Y:Yx}{H:Hp}{B:List Yi}{h:Hd}(r:RH Y H B h){a:Yi}(ha:a∈B):Mu (H a):=let ⟨_,_,_,_,q⟩:=r.mem ha;q.mut
def Gr.rdT{Y:Yx}{H H':Hp}{B μ':List Yi}{h:Hd}(r:RH Y H B h)(g:Gr H B H' μ'){a:Yi}{xs:List V}(t:SqT Y.K H a xs):SqT Y.K H' a xs:=by
 rcases t with t|t
 . rcases t with t|⟨o,t⟩
   . exact .inl (.inl (g.keep a _ (λhm=>by have:=r.mut hm;rw[t]at this;exact this) t))
   . exact .inl (.inr ⟨o,g.fz a _ _ t⟩)
 . exact .inr t
def Gr.rdF{Y:Yx}{H H':Hp}{B μ':List Yi}{h:Hd}(r:RH Y H B h)(g:Gr H B H' μ'){a:Yi}{xs:List V}(t:FzL Y.K H a xs):FzL Y.K H' a xs:=by
 rcases t with ⟨o,t⟩|t
 . exact .inl ⟨o,g.fz a _ _ t⟩
 . exact .inr t
section
variable {Y:Yx}{H H':Hp}{B μ':List Yi}{h:Hd}
mutual
theorem RD.mono(r:RH Y H B h)(g:Gr H B H' μ'):∀{d:D}{v:V},RD Y H B d v->RD Y H' μ' d v
 |_,_,.non=>.non
 |_,_,.bl b=>.bl b
 |_,_,.int i=>.int i
 |_,_,.str x ok=>.str x ok
 |_,_,.tup t s=>.tup (g.rdT r t) (RDs.mono r g s)
 |_,_,.ref e=>.ref (g.pre _ _ e)
 |_,_,.ty n=>.ty n
 |_,_,.ro t s=>.ro (g.rdF r t) (RDs.mono r g s)
 |_,_,.kd e=>.kd e
theorem RDs.mono(r:RH Y H B h)(g:Gr H B H' μ'):∀{d:List D}{v:List V},RDs Y H B d v->RDs Y H' μ' d v
 |_,_,.nil=>.nil
 |_,_,.cons a s=>.cons (RD.mono r g a) (RDs.mono r g s)
end
theorem RKs.mono{κ:Type}(r:RH Y H B h)(g:Gr H B H' μ'):∀{d:List (κ×D)}{v:List (κ×V)},RKs Y H B d v->RKs Y H' μ' d v
 |_,_,.nil=>.nil
 |_,_,.cons a s=>.cons (a.mono r g) (RKs.mono r g s)
theorem RDs.length:∀{d:List D}{v:List V},RDs Y H B d v->d.length=v.length
 |_,_,.nil=>rfl
 |_,_,.cons a s=>by rw[Os,Os,s.length]
theorem RKs.length{κ:Type}:∀{d:List (κ×D)}{v:List (κ×V)},RKs Y H B d v->d.length=v.length
 |_,_,.nil=>rfl
 |_,_,.cons a s=>by rw[Os,Os,s.length]
theorem RDs.get:∀{ds:List D}{vs:List V},RDs Y H B ds vs->∀{i:Nat}{d:D},ds[i]? = Wj d->∃v,vs[i]? = Wj v/\RD Y H B d v
 |_,_,.nil,i,d,e=>by simp at e
 |_,_,.cons a s,0,d,e=>by cases e;exact⟨_,rfl,a⟩
 |_,_,.cons a s,i+1,d,e=>by obtain⟨v,h1,h2⟩:=RDs.get s (i:=i) (d:=d) (by simpa using e);exact⟨v,by simpa using h1,h2⟩
theorem RDs.append:∀{ds es:List D}{vs ws:List V},RDs Y H B ds vs->RDs Y H B es ws->RDs Y H B (ds++es) (vs++ws)
 |_,_,_,_,.nil,s=>s
 |_,_,_,_,.cons a r,s=>.cons a (r.append s)
theorem RDs.take:∀{ds:List D}{vs:List V} (n:Nat),RDs Y H B ds vs->RDs Y H B (ds.take n) (vs.take n)
 |_,_,0,_=>.nil
 |_,_,_+1,.nil=>.nil
 |_,_,n+1,.cons a s=>.cons a (s.take n)
theorem RDs.drop:∀{ds:List D}{vs:List V} (n:Nat),RDs Y H B ds vs->RDs Y H B (ds.drop n) (vs.drop n)
 |_,_,0,s=>s
 |_,_,_+1,.nil=>.nil
 |_,_,n+1,.cons a s=>s.drop n
theorem RDs.reverse{ds:List D}{vs:List V}(s:RDs Y H B ds vs):RDs Y H B ds.reverse vs.reverse:=by
 have gen:∀{ds es:List D}{vs ws:List V},RDs Y H B ds vs->RDs Y H B es ws->RDs Y H B (ds.reverseAux es) (vs.reverseAux ws):=by
  intro ds;induction ds with
  |nil=>intro es vs ws a b;cases a;exact b
  |cons d ds ih=>
   intro es vs ws a b;cases a with
   |cons a s=>have z:=ih s (RDs.cons a b);exact z
 exact gen s .nil
theorem RDs.dropLast{ds:List D}{vs:List V}(s:RDs Y H B ds vs):RDs Y H B ds.dropLast vs.dropLast:=by rw[List.dropLast_eq_take,List.dropLast_eq_take,s.length];exact s.take _
theorem RDs.set{d:D}{v:V}(r:RD Y H B d v):∀{ds:List D}{vs:List V} (i:Nat),RDs Y H B ds vs->RDs Y H B (ds.set i d) (vs.set i v)
 |_,_,_,.nil=>.nil
 |_,_,0,.cons _ s=>.cons r s
 |_,_,i+1,.cons a s=>.cons a (RDs.set r i s)
def RDs.cut{ds:List D}{vs:List V}(s:RDs Y H B ds vs)(lo hi:Option Int):RDs Y H B (cutD ds lo hi) (ZiU vs lo hi):=by unfold cutD ZiU;rw[s.length];exact(s.drop _).take _
theorem RDs.isEmpty{ds:List D}{vs:List V}(s:RDs Y H B ds vs):ds.isEmpty=vs.isEmpty:=by cases s<;>rfl
theorem RDs.atI{ds:List D}{vs:List V}(s:RDs Y H B ds vs){i:Int}{d:D}(e:L2.atI ds i=Wj d):∃v,L2.atI vs i=Wj v/\RD Y H B d v:=by
 unfold L2.atI at e ⊢;rw[s.length]at e;cases q:ixN vs.length i with
 |none=>rw[q]at e;cases e
 |some j=>rw[q]at e;exact s.get (i:=j) e
theorem RKs.val{κ:Type}[DecidableEq κ]:∀{ds:List (κ×D)}{vs:List (κ×V)},RKs Y H B ds vs->∀(k:κ),((ds.find? λp=>Wo (p.1=k))=Wl/\(vs.find? λp=>Wo (p.1=k))=Wl)\/∃d v,(ds.find? λp=>Wo (p.1=k))=Wj (k,d)/\(vs.find? λp=>Wo (p.1=k))=Wj (k,v)/\RD Y H B d v
 |_,_,.nil,k=>.inl ⟨rfl,rfl⟩
 |_,_,.cons (k:=k') (d:=d) (v:=v) a s,k=>by
  by_cases e:k'=k
  . subst e;exact .inr ⟨d,v,by simp,by simp,a⟩
  . rcases s.val k with ⟨h1,h2⟩|⟨d,v,h1,h2,h3⟩
    . exact .inl ⟨by simp[e,h1],by simp[e,h2]⟩
    . exact .inr ⟨d,v,by simp[e,h1],by simp[e,h2],h3⟩
end
def ZqF{α:Type}{l:List α}(hl:l.Nodup){i j:Nat}{x:α}(a:l[i]? = Wj x)(b:l[j]? = Wj x):i=j:=by obtain⟨h1,e1⟩:=Ob.mp a;obtain⟨h2,e2⟩:=Ob.mp b;exact(List.getElem_inj hl).mp (e1.trans e2.symm)
section
variable {Y:Yx}{H:Hp}{B:List Yi}{h:Hd}
def Gr.lay{p:Yi}{o:HO}(hp:H p=Wl):Gr H B (upd H p o) (B++[p]):=by
 refine⟨λi a e=>?_,λa ha=>?_,λb u hb e=>?_,λb u v e=>by rw[Zc (λz=>by rw[z,hp]at e;cases e)];exact e⟩
 . rw[Oe (Ob.mp e).1];exact e
 . rcases OD.mp ha with z|z
   . exact .inl z
   . rw[Ox.mp z];exact .inr hp
 . rw[Zc (λz=>by rw[z,hp]at e;cases e)];exact e
def Gr.lay0{p:Yi}{o:HO}(hp:H p=Wl):Gr H B (upd H p o) B:=⟨λ_ _ e=>e,λa ha=>.inl ha,λb u hb e=>by rw[Zc (λz=>by rw[z,hp]at e;cases e)];exact e,λb u v e=>by rw[Zc (λz=>by rw[z,hp]at e;cases e)];exact e⟩
def NF:Option HO->Prop
 |some (.frz _ _)=>False
 |_=>True
def Gr.write{p:Yi}{o:HO}(hp:p∈B)(nf:NF (H p)):Gr H B (upd H p o) B:=⟨λ_ _ e=>e,λa ha=>.inl ha,λb u hb e=>by rw[Zc (show b≠p from λz=>hb (by rw[z];exact hp))];exact e,λb u v e=>by rw[Zc (λz=>by rw[z]at e;rw[e]at nf;exact nf)];exact e⟩
theorem RO.mono{H':Hp}{μ':List Yi}(r:RH Y H B h)(g:Gr H B H' μ'){a:Yi}{o:DO}(q:RO Y H B a o)(e:H' a=H a):RO Y H' μ' a o:=by
 cases o with
 |lst ds=>obtain⟨vs,z,s⟩:=q;exact⟨vs,e.trans z,s.mono r g⟩
 |dic ds=>obtain⟨vs,z,s⟩:=q;exact⟨vs,e.trans z,s.mono r g⟩
 |ins C ds=>obtain⟨a1,a2,a3,z,m,s⟩:=q;exact⟨a1,a2,a3,e.trans z,m,s.mono r g⟩
 |fdic ds=>obtain⟨o,vs,z,s⟩:=q;exact⟨o,vs,e.trans z,s.mono r g⟩
def RH.keep{H':Hp}(r:RH Y H B h)(g:Gr H B H' B)(k:∀a∈B,H' a=H a):RH Y H' B h:=⟨r.len,r.nd,λi o a e1 e2=>(r.ob i o a e1 e2).mono r g (k a (O0 e2)),r.ks⟩
def ZjB{o:DO}(k:∀(i:Nat) (o:DO),h[i]? = Wj o->DOk o)(dk:DOk o):∀(i:Nat) (o':DO),(h++[o])[i]? = Wj o'->DOk o':=by
 intro i o' e1;by_cases hi:i<h.length
 . rw[Oe hi]at e1;exact k i o' e1
 . have hi':i=h.length:=by
    have:=(Ob.mp e1).1;simp at this
    lia
   subst hi';rw[Om (Oq _)]at e1;simp at e1;subst e1;exact dk
theorem RH.lay{p:Yi}{u:HO}{o:DO}(r:RH Y H B h)(hp:H p=Wl)(n:RO Y (upd H p u) (B++[p]) p o)(dk:DOk o:=by trivial):RH Y (upd H p u) (B++[p]) (h++[o]):=by
 have np:p ∉ B:=λz=>by have:=r.mut z;rw[hp]at this;exact this
 refine⟨by simp[r.len],?_,λi o' a e1 e2=>?_,ZjB r.ks dk⟩
 . rw[List.nodup_append];refine⟨r.nd,by simp,λa ha b hb=>?_⟩;rw[Ox.mp hb];intro z;exact np (z ▸ ha)
 . by_cases hi:i<h.length
   . rw[Oe hi]at e1;rw[Oe (by rw[<- r.len];exact hi)]at e2;exact(r.ob i o' a e1 e2).mono r (Gr.lay hp) (Zc λz=>np (z ▸ O0 e2))
   . have hi':i=h.length:=by
      have:=(Ob.mp e1).1;simp at this
      lia
     subst hi';rw[Om (Oq _)]at e1;rw[Om (by rw[r.len];exact Oq _)]at e2;simp[r.len]at e1 e2;subst e1;subst e2;exact n
theorem RH.lay0{p:Yi}{u:HO}(r:RH Y H B h)(hp:H p=Wl):RH Y (upd H p u) B h:=by
 have np:p ∉ B:=λz=>by have:=r.mut z;rw[hp]at this;exact this
 exact r.keep (Gr.lay0 hp) λa ha=>Zc λz=>np (z ▸ ha)
theorem RH.write{p:Yi}{i:Nat}{u:HO}{o:DO}(r:RH Y H B h)(hp:B[i]? = Wj p)(n:RO Y (upd H p u) B p o)(nf:NF (H p))(dk:DOk o:=by trivial):RH Y (upd H p u) B (h.set i o):=by
 have hm:p∈B:=O0 hp;refine⟨by simp[r.len],r.nd,λj o' a e1 e2=>?_,λj o' e1=>?_⟩
 rotate_right
 . by_cases hj:j=i
   . subst hj;have hl:j<h.length:=by rw[r.len];exact(Ob.mp hp).1
     rw[Ol hl]at e1;cases e1;exact dk
   . rw[Oc (YI hj)]at e1;exact r.ks j o' e1
 by_cases hj:j=i
 . subst hj;rw[hp]at e2;cases e2;have hl:j<h.length:=by rw[r.len];exact(Ob.mp hp).1
   rw[Ol hl]at e1;cases e1;exact n
 . rw[Oc (YI hj)]at e1;refine(r.ob j o' a e1 e2).mono r (Gr.write hm nf) (Zc λz=>hj ?_);subst z;exact ZqF r.nd e2 hp
end
end IV
end
section
set_option tactic.hygienic false
namespace IV
open PySem PySem.Spec PyProof.Rows L2
def Fin{α β:Type}(Y:Yx)(rel:Hp->List Yi->α->β->Prop)(H:Hp)(B:List Yi)(r:R α)(Q:β->Hp->Prop)(E:XK):Prop:=match r with
 |.bad=>False
 |.ok a h'=>∀b H' μ',Gr H B H' μ'->RH Y H' μ' h'->rel H' μ' a b->Q b H'
 |.exc c h'=>∀H' μ' C,Gr H B H' μ'->RH Y H' μ' h'->Y.mg c=Wj (.ref C)->E (.ref C) Wl H'
section
variable {Y:Yx}{α β α' β':Type}{rel:Hp->List Yi->α->β->Prop}{rel':Hp->List Yi->α'->β'->Prop}{H H1:Hp}{B μ1:List Yi}{E:XK}
def Fin.mono{r:R α}{Q:β->Hp->Prop}(g:Gr H B H1 μ1)(f:Fin Y rel H B r Q E):Fin Y rel H1 μ1 r Q E:=by
 cases r with
 |bad=>exact f
 |ok a h=>exact λb H' μ' g'=>f b H' μ' (g.trans g')
 |exc c h=>exact λH' μ' C g'=>f H' μ' C (g.trans g')
theorem Fin.bind{r:R α}{k:α->Hd->R α'}{Q:β'->Hp->Prop}{Q1:β->Hp->Prop}(f:Fin Y rel' H B (r.bind k) Q E)
 (hk:∀a h1 b H1 μ1,r=.ok a h1->Gr H B H1 μ1->RH Y H1 μ1 h1->rel H1 μ1 a b->Fin Y rel' H1 μ1 (k a h1) Q E->Q1 b H1):Fin Y rel H B r Q1 E:=by
 cases r with
 |bad=>exact f
 |ok a h=>exact λb H' μ' g' rh rl=>hk a h b H' μ' rfl g' rh rl (Fin.mono g' f)
 |exc c h=>exact f
theorem Fin.ok{a:α}{b:β}{h:Hd}{Q:β->Hp->Prop}(f:Fin Y rel H B (.ok a h) Q E)(rh:RH Y H B h)(r:rel H B a b):Q b H:=f b H B Gr.refl rh r
def Fin.at{a:α}{b:β}{h:Hd}{Q:β->Hp->Prop}(f:Fin Y rel H B (.ok a h) Q E)(g:Gr H B H1 μ1)(rh:RH Y H1 μ1 h)(r:rel H1 μ1 a b):Q b H1:=f b H1 μ1 g rh r
theorem Fin.ofO{o:Option α}{h:Hd}{Q:β->Hp->Prop}(f:Fin Y rel H B (R.ofO o h) Q E):∃a,o=Wj a/\Fin Y rel H B (.ok a h) Q E:=by
 cases o with
 |none=>exact f.elim
 |some a=>exact⟨a,rfl,f⟩
def Fin.iff{c:Prop}[Decidable c]{r:R α}{Q:β->Hp->Prop}(f:Fin Y rel H B (if c then r else .bad) Q E):c/\Fin Y rel H B r Q E:=by
 by_cases h:c
 . rw[if_pos h]at f;exact⟨h,f⟩
 . rw[if_neg h]at f;exact f.elim
def Fin.new{o:DO}{u:HO}{h:Hd}{Q:VK}{p:Yi}(f:Fin Y (RD Y) H B (ZcS o h) Q E)(rh:RH Y H B h)(hp:H p=Wl)(n:RO Y (upd H p u) (B++[p]) p o)(dk:DOk o:=by trivial):Q (.ref p) (upd H p u):=f.at (Gr.lay hp) (rh.lay hp n dk) (.ref (by rw[rh.len];simp))
theorem Fin.tup{ds:List D}{vs:List V}{h:Hd}{Q:VK}{p:Yi}(f:Fin Y (RD Y) H B (.ok (.tup ds) h) Q E)(rh:RH Y H B h)(hp:H p=Wl)(r:RDs Y H B ds vs):Q (.ref p) (upd H p (.tup vs)):=f.at (Gr.lay0 hp) (rh.lay0 hp) (.tup (.inl (.inl Zl)) (r.mono rh (Gr.lay0 hp)))
def Fin.wrote{a:α}{b:β}{o:DO}{u:HO}{h:Hd}{Q:β->Hp->Prop}{i:Nat}{p:Yi}(f:Fin Y rel H B (.ok a (h.set i o)) Q E)(rh:RH Y H B h)(hp:B[i]? = Wj p)(n:RO Y (upd H p u) B p o)(r:rel (upd H p u) B a b)(nf:NF (H p))(dk:DOk o:=by trivial):Q b (upd H p u):=f.at (Gr.write (O0 hp) nf) (rh.write hp n nf dk) r
end
section
variable {Y:Yx}{H:Hp}{B:List Yi}{h:Hd}
theorem RD.lst{i:Nat}{xs:List D}{v:V}(rh:RH Y H B h)(r:RD Y H B (.ref i) v)(e:h[i]? = Wj (.lst xs)):∃a vs,v=.ref a/\B[i]? = Wj a/\H a=Wj (.lst vs)/\RDs Y H B xs vs:=by
 cases r with
 |ref q=>obtain⟨vs,h1,h2⟩:=rh.ob i _ _ e q;exact⟨_,vs,rfl,q,h1,h2⟩
theorem RD.dic{i:Nat}{xs:List (Key×D)}{v:V}(rh:RH Y H B h)(r:RD Y H B (.ref i) v)(e:h[i]? = Wj (.dic xs)):∃a vs,v=.ref a/\B[i]? = Wj a/\H a=Wj (.dK vs)/\RKs Y H B xs vs:=by
 cases r with
 |ref q=>obtain⟨vs,h1,h2⟩:=rh.ob i _ _ e q;exact⟨_,vs,rfl,q,h1,h2⟩
theorem RD.lstOf{d:D}{xs:List D}{v:V}(rh:RH Y H B h)(r:RD Y H B d v)(e:lstOf d h=Wj xs):∃a vs,v=.ref a/\SqL Y.K H a vs/\RDs Y H B xs vs:=by
 cases d with
 |ref i=>
  unfold IV.lstOf at e;simp only at e;split at e
  . cases e;rename_i q;obtain⟨a,vs,h1,h2,h3,h4⟩:=r.lst rh q;exact⟨a,vs,h1,.of h3,h4⟩
  . cases e
 |ro ys=>
  cases e;cases r with
  |ro q s=>exact⟨_,_,rfl,q.sq,s⟩
 |_=>cases e
theorem RD.seqOf{d:D}{xs:List D}{v:V}(rh:RH Y H B h)(r:RD Y H B d v)(e:seqOf d h=Wj xs):∃a vs,v=.ref a/\(SqL Y.K H a vs\/SqT Y.K H a vs)/\RDs Y H B xs vs:=by
 by_cases ht:∃ys,d=.tup ys
 . obtain⟨ys,rfl⟩:=ht;cases e;cases r with
   |tup q s=>exact⟨_,_,rfl,.inr q,s⟩
 . have e':IV.lstOf d h=Wj xs:=by
    cases d with
    |tup ys=>exact absurd ⟨ys,rfl⟩ ht
    |_=>exact e
   obtain⟨a,vs,h1,h2,h3⟩:=r.lstOf rh e';exact⟨a,vs,h1,.inl h2,h3⟩
def RD.int_inv{i:Int}{v:V}(r:RD Y H B (.int i) v):v=.int i:=by cases r;rfl
def RD.str_inv{i:Str}{v:V}(r:RD Y H B (.str i) v):v=.str i/\Yp i=Wm:=by cases r with|str x ok=>exact⟨rfl,ok⟩
def RD.tup_inv{ds:List D}{v:V}(r:RD Y H B (.tup ds) v):∃a vs,v=.ref a/\SqT Y.K H a vs/\RDs Y H B ds vs:=by cases r with|tup q s=>exact⟨_,_,rfl,q,s⟩
def Zla{x y:Str}(hx:Yp x=Wm)(hy:Yp y=Wm):Yp (x++y)=Wm:=by show(x.cps++y.cps).all _=Wm;rw[Array.all_append];unfold Yp at hx hy;rw[hx,hy];rfl
def Zqs{x:Str}(hx:Yp x=Wm)(n:Nat):Yp (Zip x n)=Wm:=by
 have gen:∀(n:Nat) (a:Array Nat),a.all (·<0x110000)=Wm->((YH n x.cps).foldl (·++·) a).all (·<0x110000)=Wm:=by
  intro n;induction n with
  |zero=>intro a h;exact h
  |succ n ih=>intro a h;rw[List.replicate_succ,List.foldl_cons];refine ih _ ?_;rw[Array.all_append,h];exact hx
 exact gen n #[] (by simp)
def Zmt{x:Str}(hx:Yp x=Wm){c:Nat}(h:c∈x.cps.toList):Yp ⟨#[c]⟩=Wm:=by unfold Yp at hx ⊢;rw[Array.all_eq_true']at hx;have:=hx c (by simpa using h);simpa using this
def Zom{α:Type}{xs:List α}{i:Int}{x:α}(h:atI xs i=Wj x):x∈xs:=by
 unfold atI at h;cases q:ixN xs.length i with
 |none=>rw[q]at h;cases h
 |some j=>rw[q]at h;exact O0 (i:=j) h
end
section
variable {X:Cx}{Y:Yx}{E:XK}
noncomputable def rB(Y:Yx)(E:XK)(f:D->D->Hd->R D):R2:=λx y H Q=>∃dx dy h B,RH Y H B h/\RD Y H B dx x/\RD Y H B dy y/\Fin Y (RD Y) H B (f dx dy h) Q E
theorem Fin.int2{x y:D}{k:Int->Int->R D}{Q:VK}(f:Fin Y (RD Y) H B (int2 x y k) Q E):∃i j,x=.int i/\y=.int j/\Fin Y (RD Y) H B (k i j) Q E:=by
 cases x with
 |int i=>
  cases y with
  |int j=>exact⟨i,j,rfl,rfl,f⟩
  |_=>exact f.elim
 |_=>exact f.elim
def Zqq(hY:Y.K=X.K)(op:Operator):OpR X (binaryOp op) (rB Y E (opB op)):=by
 intro pins s Z H x y v u Q I rx ry hh;obtain⟨dx,dy,h,B,rh,r1,r2,f⟩:=hh;cases op with
 |Add=>
  have f:Fin Y (RD Y) H B (Zq6 dx dy h) Q E:=f;cases dx with
  |int i=>
   cases dy with
   |int j=>cases r1;cases r2;exact Zqo pins s Z H _ _ v u Q I rx ry ⟨_,_,rfl,rfl,f.ok rh (.int _)⟩
   |_=>exact f.elim
  |str i=>
   cases dy with
   |str j=>
    obtain⟨hz,f⟩:=Fin.iff f;cases r1 with|str _ o1=>
    cases r2 with|str _ o2=>
    exact Zjt pins s Z H _ _ v u Q I rx ry ⟨_,_,rfl,rfl,hz,f.ok rh (.str _ (Zla o1 o2))⟩
   |_=>exact f.elim
  |tup xs=>
   cases dy with
   |tup ys=>
    obtain⟨hz,f⟩:=Fin.iff f;obtain⟨a,vs,rfl,t1,s1⟩:=r1.tup_inv;obtain⟨b,ws,rfl,t2,s2⟩:=r2.tup_inv;rw[s1.length,s2.length]at hz;by_cases h0:vs=[]
    . subst h0;cases s1;exact Zn9 pins s Z H _ _ v u Q I rx ry ⟨a,b,ws,rfl,rfl,hY ▸ t1,hY ▸ t2,f.ok rh (.tup t2 s2)⟩
    . refine Zn8 pins s Z H _ _ v u Q I rx ry ⟨a,b,vs,ws,rfl,rfl,hY ▸ t1,hY ▸ t2,h0,hz,λe=>?_,λe p hp=>f.tup rh hp (s1.append s2)⟩;subst e;cases s2;rw[Yr]at f;exact f.ok rh (.tup t1 s1)
   |_=>exact f.elim
  |ref i=>
   cases dy with
   |ref j=>
    unfold Zq6 at f;simp only at f;split at f
    . rename_i e1;split at f
      . rename_i e2;obtain⟨hz,f⟩:=f.iff;obtain⟨a,vs,rfl,_,h1,s1⟩:=r1.lst rh e1;obtain⟨b,ws,rfl,_,h2,s2⟩:=r2.lst rh e2;rw[s1.length,s2.length]at hz;exact Zqn pins s Z H _ _ v u Q I rx ry ⟨a,b,vs,ws,rfl,rfl,h1,h2,hz,λp hp=>f.new rh hp ⟨_,Zl,(s1.append s2).mono rh (Gr.lay hp)⟩⟩
      . exact f.elim
    . exact f.elim
   |_=>exact f.elim
  |_=>exact f.elim
 |Sub=>obtain⟨i,j,rfl,rfl,f⟩:=Fin.int2 f;cases r1;cases r2;exact Zqi pins s Z H _ _ v u Q I rx ry ⟨_,_,rfl,rfl,f.ok rh (.int _)⟩
 |Mult=>
  have f:Fin Y (RD Y) H B (Zsk dx dy h) Q E:=f;cases dx with
  |str z=>
   cases dy with
   |int n=>
    obtain⟨hz,f⟩:=Fin.iff f;cases r1 with|str _ o1=>
    cases r2;exact Zn6 pins s Z H _ _ v u Q I rx ry ⟨_,_,rfl,rfl,hz.1,hz.2.1,hz.2.2,f.ok rh (.str _ (Zqs o1 _))⟩
   |_=>exact f.elim
  |int i=>obtain⟨i,j,e1,rfl,f⟩:=Fin.int2 (show Fin Y (RD Y) H B (IV.int2 (.int i) dy λi j=>if i.natAbs<2 ^ 2000/\j.natAbs<2 ^ 2000 then .ok (.int (i * j)) h else .bad) Q E from f);cases e1;obtain⟨hz,f⟩:=f.iff;cases r1;cases r2;exact Zk6 pins s Z H _ _ v u Q I rx ry ⟨_,_,rfl,rfl,hz,f.ok rh (.int _)⟩
  |_=>exact f.elim
 |Mod=>obtain⟨i,j,rfl,rfl,f⟩:=Fin.int2 f;obtain⟨hz,f⟩:=f.iff;cases r1;cases r2;exact Zqk pins s Z H _ _ v u Q I rx ry ⟨_,_,rfl,rfl,hz,f.ok rh (.int _)⟩
 |FloorDiv=>obtain⟨i,j,rfl,rfl,f⟩:=Fin.int2 f;obtain⟨hz,f⟩:=f.iff;cases r1;cases r2;exact Zn7 pins s Z H _ _ v u Q I rx ry ⟨_,_,rfl,rfl,hz,f.ok rh (.int _)⟩
 |Pow=>obtain⟨i,j,rfl,rfl,f⟩:=Fin.int2 f;obtain⟨hz,f⟩:=f.iff;cases r1;cases r2;exact Zqj pins s Z H _ _ v u Q I rx ry ⟨_,_,rfl,rfl,hz,f.ok rh (.int _)⟩
 |_=>exact f.elim
end
end IV
end
section
namespace IV
open PySem PySem.Spec PyProof.Rows L2
structure Gk(X:Cx)(Y:Yx)(T:Tb):Prop where
 K:Y.K=X.K
 mg:Y.mg=X.mg
 gd:∀x kvs,T.GD x=Wj kvs->∃a kvs',X.mg x=Wj (.ref a)/\DkK X.prog X.w X.K a kvs'/\∀H B,RKs Y H B kvs kvs'
 g:∀x d,T.G x=Wj d->∃v u,X.mg x=Wj u/\RelV v u/\∀H B,RD Y H B d v
 bare:Zb8 X.K=Wm
section
variable {X:Cx}{Y:Yx}{E:XK}{T:Tb}{H:Hp}{B:List Yi}{h:Hd}
theorem RD.dicOf(G:Gk X Y T)(rh:RH Y H B h){d:D}{v:V}{kvs:List (Key×D)}(r:RD Y H B d v)(e:dicOf T.GD d h=Wj kvs):∃a kvs',v=.ref a/\Dk X.prog X.w X.K H a kvs'/\RKs Y H B kvs kvs':=by
 cases d with
 |ref i=>
  unfold IV.dicOf at e;simp only at e;split at e
  . cases e;rename_i q;obtain⟨a,vs,h1,_,h3,h4⟩:=r.dic rh q;exact⟨a,vs,h1,.inl (.inl h3),h4⟩
  . cases e;rename_i q;cases r with
    |ref qm=>obtain⟨o,vs,h1,h2⟩:=rh.ob i _ _ q qm;exact⟨_,vs,rfl,.inl (.inr ⟨o,h1⟩),h2⟩
  . cases e
 |kd x=>
  obtain⟨a,kvs',h1,h2,h3⟩:=G.gd x kvs e;cases r with
  |kd q=>rw[G.mg,h1]at q;cases q;exact⟨a,kvs',rfl,.inr h2,h3 H B⟩
 |_=>cases e
def ZmF{d:D}{v:V}{k:Key}(r:RD Y H B d v)(e:keyOf d=Wj k):∀x,k=.inr x->Yp x=Wm:=by
 cases d with
 |int i=>cases e;intro x z;cases z
 |str i=>
  cases e;intro x z;cases z;cases r with
  |str _ ok=>exact ok
 |_=>cases e
def ZfU{kvs:List (Key×D)}{k:Key}{c:D}(h:ZcM kvs)(hk:∀x,k=.inr x->Yp x=Wm):ZcM (putD kvs k c):=by
 intro p hp x e;unfold putD at hp;split at hp
 . obtain⟨q,hq,rfl⟩:=List.mem_map.mp hp;refine h q hq x ?_;split at e<;>exact e
 . rcases OD.mp hp with hp|hp
   . exact h p hp x e
   . rw[Ox.mp hp]at e;exact hk x e
def Zdo{d:D}{v:V}{k:Key}(r:RD Y H B d v)(e:keyOf d=Wj k):v=kV k:=by
 cases d with
 |int i=>cases e;cases r;rfl
 |str i=>cases e;cases r;rfl
 |_=>cases e
def RKs.valV_rel{ds:List (Key×D)}{vs:List (Key×V)}(s:RKs Y H B ds vs)(k:Key):(Zdq ds k=Wl/\ZdU vs k=Wl)\/∃d v,Zdq ds k=Wj d/\ZdU vs k=Wj v/\RD Y H B d v:=by
 unfold Zdq ZdU;rcases s.val k with ⟨h1,h2⟩|⟨d,v,h1,h2,h3⟩
 . exact .inl ⟨by rw[h1];rfl,by rw[h2];rfl⟩
 . exact .inr ⟨d,v,by rw[h1];rfl,by rw[h2];rfl,h3⟩
theorem RKs.any_rel(k:Key):∀{ds:List (Key×D)}{vs:List (Key×V)},RKs Y H B ds vs->(ds.any λkv=>Wo (kv.1=k))=(vs.any λkv=>Wo (kv.1=k))
 |_,_,.nil=>rfl
 |_,_,.cons a s=>by rw[YY,YY,s.any_rel k]
theorem RKs.map_rel(k:Key){d:D}{v:V}(r:RD Y H B d v):∀{ds:List (Key×D)}{vs:List (Key×V)},RKs Y H B ds vs->RKs Y H B (ds.map λkv=>if kv.1=k then(kv.1,d)else kv) (vs.map λkv=>if kv.1=k then(kv.1,v)else kv)
 |_,_,.nil=>.nil
 |_,_,.cons (k:=k') a s=>by
  rw[Op,Op];by_cases e:k'=k
  . rw[if_pos e,if_pos e];exact .cons r (s.map_rel k r)
  . rw[if_neg e,if_neg e];exact .cons a (s.map_rel k r)
theorem RKs.append{κ:Type}:∀{ds es:List (κ×D)}{vs ws:List (κ×V)},RKs Y H B ds vs->RKs Y H B es ws->RKs Y H B (ds++es) (vs++ws)
 |_,_,_,_,.nil,s=>s
 |_,_,_,_,.cons a r,s=>.cons a (r.append s)
def RKs.put{ds:List (Key×D)}{vs:List (Key×V)}(s:RKs Y H B ds vs)(k:Key){d:D}{v:V}(r:RD Y H B d v):RKs Y H B (putD ds k d) (putK vs k v):=by
 unfold putD putK;rw[s.any_rel k];split
 . exact s.map_rel k r
 . exact s.append (.cons r .nil)
mutual
theorem RD.dp(rh:RH Y H B h)(rd:Nat->Option PyData)(hr:∀i p a,rd i=Wj p->B[i]? = Wj a->Dp Y.K H (.ref a) p):∀{d:D}{v:V}{p:PyData},RD Y H B d v->D.py rd d=Wj p->Dp Y.K H v p
 |_,_,_,.non,e=>by cases e;exact .non
 |_,_,_,.bl b,e=>by cases e;exact .bl b
 |_,_,_,.int i,e=>by cases e;exact .int i
 |_,_,_,.str x ok,e=>by cases e;exact .str x ok
 |_,_,_,.tup t s,e=>by rw[D.py]at e;obtain⟨ps,e1,rfl⟩:=Oo.mp e;exact .tup t (RDs.dps rh rd hr s e1)
 |_,_,_,.ref q,e=>hr _ _ _ e q
 |_,_,_,.ty n,e=>by cases e
 |_,_,_,.ro t s,e=>by rw[D.py]at e;obtain⟨ps,e1,rfl⟩:=Oo.mp e;exact .lst t.sq (RDs.dps rh rd hr s e1)
 |_,_,_,.kd q,e=>by cases e
theorem RDs.dps(rh:RH Y H B h)(rd:Nat->Option PyData)(hr:∀i p a,rd i=Wj p->B[i]? = Wj a->Dp Y.K H (.ref a) p):∀{d:List D}{v:List V}{p:List PyData},RDs Y H B d v->D.pys rd d=Wj p->Dps Y.K H v p
 |_,_,_,.nil,e=>by cases e;exact .nil
 |_,_,_,.cons a s,e=>by rw[D.pys]at e;obtain⟨q,e1,e2⟩:=Option.bind_eq_some_iff.mp e;obtain⟨qs,e3,rfl⟩:=Oo.mp e2;exact .cons (RD.dp rh rd hr a e1) (RDs.dps rh rd hr s e3)
end
theorem Zkh(rh:RH Y H B h):∀(n i:Nat) (p:PyData) (a:Yi),ZkT h n i=Wj p->B[i]? = Wj a->Dp Y.K H (.ref a) p
 |0,i,p,a,e,q=>by cases e
 |n+1,i,p,a,e,q=>by
  rw[ZkT]at e;split at e
  . rename_i xs he;obtain⟨ps,e1,rfl⟩:=Oo.mp e;obtain⟨vs,z,s⟩:=rh.ob i _ a he q;exact .lst (.of z) (RDs.dps rh _ (Zkh rh n) s e1)
  . cases e
def Zfn(rh:RH Y H B h){d:D}{v:V}{p:PyData}(r:RD Y H B d v)(e:ZkY h d=Wj p):Dp Y.K H v p:=r.dp rh _ (Zkh rh 4) e
def Zf9{d:D}{v:V}(r:RD Y H B d v)(f:d.flat=Wm):ZdD v=Wm:=by cases r<;>first|rfl|cases f
theorem ZeH:∀{ds:List D}{vs:List V},RDs Y H B ds vs->ds.all D.flat=Wm->vs.all ZdD=Wm
 |_,_,.nil,_=>rfl
 |_,_,.cons a s,f=>by rw[List.all_cons,Oa]at f;rw[List.all_cons,Zf9 a f.1,ZeH s f.2];rfl
def ZqU{d e:D}{v w:V}(r:RD Y H B d v)(q:RD Y H B e w)(f:d.flat=Wm)(g:e.flat=Wm):eqF d e=eqV v w:=by cases r<;>cases q<;>first|rfl|exact absurd f (by simp[D.flat])|exact absurd g (by simp[D.flat])
theorem any_rel{e:D}{w:V}(q:RD Y H B e w)(g:e.flat=Wm):∀{ds:List D}{vs:List V},RDs Y H B ds vs->ds.all D.flat=Wm->(ds.any λz=>eqF z e)=vs.any λy=>eqV y w
 |_,_,.nil,_=>rfl
 |_,_,.cons a s,f=>by rw[List.all_cons,Oa]at f;rw[YY,YY,ZqU a q f.1 g,any_rel q g s f.2]
def Zog{k:Nat}(hr:Room k X.A)(h60:60<=k)(hY:Y.K=X.K):OpR X (YJ .Eq) (rB Y E (Zdr Wn)):=by
 intro pins s Z H x y v u Q I rx ry hh;obtain⟨dx,dy,h,B,rh,r1,r2,f⟩:=hh;unfold Zdr at f;split at f
 . rename_i e1 e2;obtain⟨hz,f⟩:=f.iff;have d1:=Zfn rh r1 e1;have d2:=Zfn rh r2 e2;rw[hY]at d1 d2;obtain⟨as,q1⟩:=I.reads d1 rx;obtain⟨bs,q2⟩:=I.reads d2 ry;have:=hr.un;exact SeqAt.compareEq_reads q1 q2 d1.lay d2.lay (by lia) ⟨.bl _,H,I,rfl,f.ok rh (.bl _)⟩
 . exact f.elim
def Zob{k:Nat}(hr:Room k X.A)(h60:60<=k)(hY:Y.K=X.K):OpR X (YJ .NotEq) (rB Y E (Zdr Wm)):=by
 intro pins s Z H x y v u Q I rx ry hh;obtain⟨dx,dy,h,B,rh,r1,r2,f⟩:=hh;unfold Zdr at f;split at f
 . rename_i e1 e2;obtain⟨hz,f⟩:=f.iff;have d1:=Zfn rh r1 e1;have d2:=Zfn rh r2 e2;rw[hY]at d1 d2;obtain⟨as,q1⟩:=I.reads d1 rx;obtain⟨bs,q2⟩:=I.reads d2 ry;have:=hr.un;exact SeqAt.compareNe_reads q1 q2 d1.lay d2.lay (by lia) ⟨.bl _,H,I,rfl,f.ok rh (.bl _)⟩
 . exact f.elim
def Zfp{op:CmpOp}{g:Int->Int->Bool}(ho:OpR X (YJ op) (rI0 λi j=>.bl (g i j))):OpR X (YJ op) (rB Y E (Zhf g)):=by
 intro pins s Z H x y v u Q I rx ry hh;obtain⟨dx,dy,h,B,rh,r1,r2,f⟩:=hh;unfold Zhf at f;split at f
 . cases r1;cases r2;exact ho pins s Z H _ _ v u Q I rx ry ⟨_,_,rfl,rfl,f.ok rh (.bl _)⟩
 . exact f.elim
def Zkr{d:D}{v:V}(r:RD Y H B d v):Wo (d=.non)=Wo (v=.non):=by cases r<;>simp
def Zoe:OpR X (YJ .Is) (rB Y E (opN Wn)):=by
 intro pins s Z H x y v u Q I rx ry hh;obtain⟨dx,dy,h,B,rh,r1,r2,f⟩:=hh;unfold opN at f;split at f
 . cases r2;have z:=Zkr r1;simp only[OG,if_false,z]at f;exact Zql pins s Z H _ _ v u Q I rx ry ⟨rfl,f.ok rh (.bl _)⟩
 . exact f.elim
def Zk9:OpR X (YJ .IsNot) (rB Y E (opN Wm)):=by
 intro pins s Z H x y v u Q I rx ry hh;obtain⟨dx,dy,h,B,rh,r1,r2,f⟩:=hh;unfold opN at f;split at f
 . cases r2;have z:=Zkr r1;simp only[if_true,z]at f;exact Zn5 pins s Z H _ _ v u Q I rx ry ⟨rfl,f.ok rh (.bl _)⟩
 . exact f.elim
def Zof(G:Gk X Y T):OpR X (YJ .In) (rB Y E (ZbS T.GD Wn)):=by
 intro pins s Z H x y v u Q I rx ry hh;obtain⟨dx,dy,h,B,rh,r1,r2,f⟩:=hh;unfold ZbS at f;split at f
 . rename_i xs e1;obtain⟨hz,f⟩:=f.iff;rw[Oa]at hz;obtain⟨a,vs,rfl,hs,rs⟩:=r2.seqOf rh e1;have q:=f.ok rh (.bl _);simp only[OG,if_false,any_rel r1 hz.1 rs hz.2]at q;exact Zk7 pins s Z H _ _ v u Q I rx ry ⟨a,vs,rfl,G.K ▸ hs,Zf9 r1 hz.1,ZeH rs hz.2,q⟩
 . split at f
   . rename_i kvs k e1 e2;obtain⟨a,kvs',rfl,hd,rk⟩:=r2.dicOf G rh e1;have q:=f.ok rh (.bl _);have z:(Zdq kvs k).isSome=(ZdU kvs' k).isSome:=by rcases rk.valV_rel k with ⟨h1,h2⟩|⟨d,v,h1,h2,_⟩<;>rw[h1,h2]<;>rfl
     rw[z]at q;exact Zqm pins s Z H _ _ v u Q I rx ry ⟨a,kvs',k,rfl,Zdo r1 e2,hd,q⟩
   . exact f.elim
def Zju(G:Gk X Y T):OpR X (YJ .NotIn) (rB Y E (ZbS T.GD Wm)):=by
 intro pins s Z H x y v u Q I rx ry hh;obtain⟨dx,dy,h,B,rh,r1,r2,f⟩:=hh;unfold ZbS at f;split at f
 . rename_i xs e1;obtain⟨hz,f⟩:=f.iff;rw[Oa]at hz;obtain⟨a,vs,rfl,hs,rs⟩:=r2.seqOf rh e1;have q:=f.ok rh (.bl _);simp only[if_true,any_rel r1 hz.1 rs hz.2]at q;exact Zhe pins s Z H _ _ v u Q I rx ry ⟨a,vs,rfl,G.K ▸ hs,Zf9 r1 hz.1,ZeH rs hz.2,q⟩
 . split at f
   . rename_i kvs k e1 e2;obtain⟨a,kvs',rfl,hd,rk⟩:=r2.dicOf G rh e1;have q:=f.ok rh (.bl _);have z:(Zdq kvs k).isSome=(ZdU kvs' k).isSome:=by rcases rk.valV_rel k with ⟨h1,h2⟩|⟨d,v,h1,h2,_⟩<;>rw[h1,h2]<;>rfl
     rw[z]at q;exact Zk5 pins s Z H _ _ v u Q I rx ry ⟨a,kvs',k,rfl,Zdo r1 e2,hd,q⟩
   . exact f.elim
def Zms{k:Nat}(hr:Room k X.A)(h60:60<=k)(G:Gk X Y T)(op:CmpOp):OpR X (YJ op) (rB Y E (opC T.GD op)):=by
 cases op with
 |Eq=>exact Zog hr h60 G.K
 |NotEq=>exact Zob hr h60 G.K
 |Lt=>exact Zfp Zr7
 |LtE=>exact Zfp Zr8
 |Gt=>exact Zfp Zr9
 |GtE=>exact Zfp Zsa
 |Is=>exact Zoe
 |IsNot=>exact Zk9
 |In=>exact Zof G
 |NotIn=>exact Zju G
def Zod(G:Gk X Y T):IxR X (rB Y E (Zcx T.GD)):=by
 intro value slice pins s Z H x y v u Q I rx ry hh hs;obtain⟨dx,dy,h,B,rh,r1,r2,f⟩:=hh;have dict:∀(kvs:List (Key×D)) (k:Key),dicOf T.GD dx h=Wj kvs->y=kV k->Fin Y (RD Y) H B (R.ofO (Zdq kvs k) h) Q E->Yy (model X.prog X.w) X.A (subscriptTail value slice v u) (EP X pins Z Q) X.xe s:=by
  intro kvs k e1 ey f;obtain⟨d,e2,f⟩:=f.ofO;obtain⟨a,kvs',rfl,hd,rk⟩:=r1.dicOf G rh e1;rcases rk.valV_rel k with ⟨h1,h2⟩|⟨d',w,h1,h2,h3⟩
  . rw[h1]at e2;cases e2
  . rw[h1]at e2;cases e2;exact Zos value slice pins s Z H _ _ v u Q I rx ry ⟨a,kvs',k,w,rfl,ey,hd,h2,f.ok rh h3⟩ hs
 unfold Zcx at f;split at f
 . rename_i i;cases r2;split at f
   . rename_i xs e1;obtain⟨d,e2,f⟩:=f.ofO;obtain⟨a,vs,rfl,hq,rs⟩:=r1.seqOf rh e1;obtain⟨w,e3,rw'⟩:=rs.atI e2;rcases hq with hq|hq
     . exact Zor value slice pins s Z H _ _ v u Q I rx ry ⟨a,vs,i,w,rfl,rfl,G.K ▸ hq,e3,f.ok rh rw'⟩ hs
     . exact ZqD value slice pins s Z H _ _ v u Q I rx ry ⟨a,vs,i,w,rfl,rfl,G.K ▸ hq,e3,f.ok rh rw'⟩ hs
   . split at f
     . obtain⟨hz,f⟩:=f.iff;obtain⟨d,e2,f⟩:=f.ofO;obtain⟨c,e3,rfl⟩:=Oo.mp e2;obtain⟨rfl,ok⟩:=r1.str_inv;exact ZqE value slice pins s Z H _ _ v u Q I rx ry ⟨_,i,c,rfl,rfl,hz,e3,f.ok rh (.str _ (Zmt ok (Zom e3)))⟩ hs
     . split at f
       . rename_i kvs e1;exact dict kvs (.inl i) e1 rfl f
       . exact f.elim
 . rename_i z;obtain⟨rfl,ok⟩:=r2.str_inv;split at f
   . rename_i kvs e1;exact dict kvs (.inr z) e1 rfl f
   . exact f.elim
 . exact f.elim
def Zqr{x y:Str}(hx:Yp x=Wm)(h:∀c∈y.cps.toList,c∈x.cps.toList):Yp y=Wm:=by unfold Yp at hx ⊢;rw[Array.all_eq_true']at hx ⊢;intro c hc;exact hx c (by simpa using h c (by simpa using hc))
def Znr{d:D}{v:V}{b:Bool}(hY:Y.K=X.K)(rh:RH Y H B h)(r:RD Y H B d v)(e:Zb1 T.GD d h=Wj b):Zq7 X.K v H b:=by
 cases d with
 |non=>cases r;cases e;rfl
 |bl c=>cases r;cases e;rfl
 |int c=>cases r;cases e;rfl
 |str c=>
  cases r;unfold Zb1 at e;simp only at e;split at e
  . rename_i hz;cases e;refine⟨hz,?_⟩;by_cases h0:c.length=0
    . simp[h0]
    . have h1:((c.length:Int) != 0)=Wm:=by
       simp
       lia
      rw[h1];simp[h0]
  . cases e
 |tup xs=>obtain⟨a,vs,rfl,t,s⟩:=r.tup_inv;cases e;exact .inr (.inl ⟨vs,hY ▸ t,by rw[s.isEmpty]⟩)
 |ref i=>
  unfold Zb1 at e;simp only at e;split at e
  . rename_i q;cases e;obtain⟨a,vs,rfl,_,h3,s⟩:=r.lst rh q;exact .inl ⟨vs,.of h3,by rw[s.isEmpty]⟩
  . rename_i q;cases e;obtain⟨a,vs,rfl,_,h3,s⟩:=r.dic rh q;exact .inr (.inr ⟨vs,h3,by cases s<;>rfl⟩)
  . cases e
 |ro xs=>
  cases e;cases r with
  |ro q s=>exact .inl ⟨_,hY ▸ q.sq,by rw[s.isEmpty]⟩
 |ty n=>cases e
 |kd x=>cases e
end
end IV
end
section
namespace IV
open PySem PySem.Spec PyProof.Rows L2
section
variable {X:Cx}{Y:Yx}{E:XK}{T:Tb}{H:Hp}{B:List Yi}{h:Hd}
def rS(Y:Yx)(E:XK):V->Option Int->Option Int->Hp->VK->Prop:=λx l u H Q=>∃d h B,RH Y H B h/\RD Y H B d x/\Fin Y (RD Y) H B (Zk8 d l u h) Q E
def Zjg(y:Str)(l u:Option Int):∀c∈(StrLaws.sliceText y l u).cps.toList,c∈y.cps.toList:=by
 intro c hc;unfold StrLaws.sliceText at hc;split at hc
 . exact hc
 . simp only[List.mem_filterMap]at hc;obtain⟨i,_,hi⟩:=hc;have:=Array.mem_of_getElem? hi;simpa using this
def Zlr{xs:List D}{lo hi:Option Int}(h:HT.sIx xs.length 0 lo=0/\HT.sIx xs.length xs.length hi=xs.length):cutD xs lo hi=xs:=by unfold cutD;rw[h.1,h.2];simp
def Zoa(hY:Y.K=X.K):SlR X (rS Y E):=by
 intro pins s Z H x v vl vu lo hi sl Q I rx hs pl pu hh;obtain⟨d,h,B,rh,r,f⟩:=hh;unfold Zk8 at f;split at f
 . rename_i xs;obtain⟨a,vs,rfl,t,rs⟩:=r.tup_inv;by_cases hw:HT.sIx vs.length 0 lo=0/\HT.sIx vs.length vs.length hi=vs.length
   . rw[Zlr (by rw[rs.length];exact hw)]at f;exact ZlQ pins s Z H _ v vl vu lo hi sl Q I rx hs pl pu ⟨a,vs,rfl,hY ▸ t,hw,f.ok rh (.tup t rs)⟩
   . exact ZpG pins s Z H _ v vl vu lo hi sl Q I rx hs pl pu ⟨a,vs,rfl,hY ▸ t,hw,λp hp=>f.tup rh hp (rs.cut lo hi)⟩
 . obtain⟨hz,f⟩:=f.iff;obtain⟨rfl,ok⟩:=r.str_inv;exact ZpH pins s Z H _ v vl vu lo hi sl Q I rx hs pl pu ⟨_,rfl,hz,f.ok rh (.str _ (Zqr ok (Zjg _ _ _)))⟩
 . split at f
   . rename_i xs e1;obtain⟨a,vs,rfl,hl,rs⟩:=r.lstOf rh e1;exact Znx pins s Z H _ v vl vu lo hi sl Q I rx hs pl pu ⟨a,vs,rfl,hY ▸ hl,λp hp=>f.new rh hp ⟨_,Zl,(rs.cut lo hi).mono rh (Gr.lay hp)⟩⟩
   . exact f.elim
def rF(Y:Yx)(E:XK)(f:List D->Hd->R D):List V->Hp->VK->Prop:=λxs H Q=>∃ds h B,RH Y H B h/\RDs Y H B ds xs/\Fin Y (RD Y) H B (f ds h) Q E
def RDs.one{d:D}{xs:List V}(r:RDs Y H B [d] xs):∃x,xs=[x]/\RD Y H B d x:=by
 cases r with
 |cons a s=>cases s;exact⟨_,rfl,a⟩
def RDs.two{d e:D}{xs:List V}(r:RDs Y H B [d,e] xs):∃x y,xs=[x,y]/\RD Y H B d x/\RD Y H B e y:=by
 cases r with
 |cons a s=>obtain⟨y,rfl,b⟩:=s.one;exact⟨_,_,rfl,a,b⟩
def ZoN(hY:Y.K=X.K):Zb0 X (.builtin "len") (rF Y E Zgp):=by
 intro pins s Z H xs us Q I r hh;obtain⟨ds,h,B,rh,rs,f⟩:=hh;unfold Zgp at f;split at f
 . obtain⟨hz,f⟩:=f.iff;obtain⟨x,rfl,rd⟩:=rs.one;obtain⟨rfl,ok⟩:=rd.str_inv;exact ZhJ pins s Z H _ us Q I r ⟨_,rfl,hz,f.ok rh (.int _)⟩
 . obtain⟨e,e1,f⟩:=f.ofO;obtain⟨zs,e2,rfl⟩:=Oo.mp e1;obtain⟨x,rfl,rd⟩:=rs.one;obtain⟨a,vs,rfl,hq,rv⟩:=rd.seqOf rh e2;refine ZhK pins s Z H _ us Q I r ⟨a,vs,rfl,hY ▸ hq,?_⟩;rw[<- rv.length];exact f.ok rh (.int _)
 . exact f.elim
def Zop{K:Yk}{t T:String}{b:Bool}(e:ZjQ t T=Wj b):PySem.W.kitOne K (.type t) (.type T)=Wj b:=by
 have all:(["int", "str", "bool", "tuple", "list"].all λT=>["int", "str", "bool", "tuple", "list", "NoneType"].all λt=>Wo (PySem.W.kitOne [] (.type t) (.type T)=Wj (t==T || (t == "bool" && T == "int"))))=Wm:=by decide +kernel
 unfold ZjQ at e;split at e
 . rename_i hm;cases e;rw[OC]at all;have h1:=all T hm.1;rw[OC]at h1;exact Zlh (of_decide_eq_true (h1 t hm.2))
 . cases e
def Zrq{d:D}{v:V}{t:String}(hY:Y.K=X.K)(rh:RH Y H B h)(r:RD Y H B d v)(e:Zrr d h=Wj t):TyN X.K v H t:=by
 have lst:(IV.lstOf d h).map (λ_ => "list")=Wj t->TyN X.K v H t:=λe=>by obtain⟨xs,e1,rfl⟩:=Oo.mp e;obtain⟨a,vs,rfl,hl,rs⟩:=r.lstOf rh e1;exact .inl ⟨rfl,vs,hY ▸ hl⟩
 cases d with
 |int i=>cases e;cases r;rfl
 |str i=>cases e;cases r;rfl
 |bl i=>cases e;cases r;rfl
 |non=>cases e;cases r;rfl
 |tup xs=>cases e;obtain⟨a,vs,rfl,t,rs⟩:=r.tup_inv;exact .inr ⟨rfl,vs,hY ▸ t⟩
 |ref i=>exact lst e
 |ro xs=>exact lst e
 |ty n=>exact lst e
 |kd x=>exact lst e
def ZoO(hY:Y.K=X.K):Zb0 X (.builtin "isinstance") (rF Y E Zq2):=by
 intro pins s Z H xs us Q I r hh;obtain⟨ds,h,B,rh,rs,f⟩:=hh;unfold Zq2 at f;split at f
 . obtain⟨e,e1,f⟩:=f.ofO;obtain⟨t,e2,e3⟩:=Option.bind_eq_some_iff.mp e1;obtain⟨b,e4,rfl⟩:=Oo.mp e3;obtain⟨x,y,rfl,r1,r2⟩:=rs.two;cases r2;exact Zm9 pins s Z H _ us Q I r ⟨x,t,_,b,rfl,Zrq hY rh r1 e2,Zop e4,f.ok rh (.bl _)⟩
 . exact f.elim
def ZoP:Zb0 X (.type "int") (rF Y E Zq3):=by
 intro pins s Z H xs us Q I r hh;obtain⟨ds,h,B,rh,rs,f⟩:=hh;unfold Zq3 at f;split at f
 . obtain⟨x,rfl,r1⟩:=rs.one;cases r1;exact ZgV pins s Z H _ us Q I r (.inl ⟨_,rfl,f.ok rh (.int _)⟩)
 . obtain⟨x,rfl,r1⟩:=rs.one;cases r1;exact ZgV pins s Z H _ us Q I r (.inr ⟨_,rfl,f.ok rh (.int _)⟩)
 . exact f.elim
def ZoM(hY:Y.K=X.K):Zb0 X (.type "tuple") (rF Y E Zq1):=by
 intro pins s Z H xs us Q I r hh;obtain⟨ds,h,B,rh,rs,f⟩:=hh;unfold Zq1 at f;split at f
 . obtain⟨x,rfl,r1⟩:=rs.one;obtain⟨a,vs,rfl,t,rv⟩:=r1.tup_inv;exact ZdI pins s Z H _ us Q I r ⟨a,vs,rfl,.inr ⟨hY ▸ t,f.ok rh (.tup t rv)⟩⟩
 . obtain⟨e,e1,f⟩:=f.ofO;obtain⟨zs,e2,rfl⟩:=Oo.mp e1;obtain⟨x,rfl,r1⟩:=rs.one;obtain⟨a,vs,rfl,hl,rv⟩:=r1.lstOf rh e2;exact ZdI pins s Z H _ us Q I r ⟨a,vs,rfl,.inl ⟨hY ▸ hl,λp hp=>f.tup rh hp rv⟩⟩
 . exact f.elim
theorem ZiL:∀{ds:List D}{vs:List V}{ns:List Int},RDs Y H B ds vs->intsOf ds=Wj ns->vs=ns.map V.int
 |_,_,_,.nil,e=>by cases e;rfl
 |_,_,_,.cons (d:=d) a s,e=>by
  cases d with
  |int i=>rw[intsOf]at e;obtain⟨z,e1,rfl⟩:=Oo.mp e;cases a;rw[ZiL s e1];rfl
  |_=>cases e
def ZqZ(hc:X.calm=Wm)(hY:Y.K=X.K):Zb0 X (.builtin "max") (rF Y E bMx):=by
 intro pins s Z H xs us Q I r hh;obtain⟨ds,h,B,rh,rs,f⟩:=hh;unfold bMx at f;split at f
 . obtain⟨x,y,rfl,r1,r2⟩:=rs.two;cases r1;cases r2;exact Zlt hc pins s Z H _ us Q I r ⟨_,_,rfl,f.ok rh (.int _)⟩
 . split at f
   . rename_i ns e2;obtain⟨hne,f⟩:=f.iff;obtain⟨zs,e3,e4⟩:=Option.bind_eq_some_iff.mp e2;obtain⟨x,rfl,r1⟩:=rs.one;obtain⟨a,vs,rfl,hl,rv⟩:=r1.lstOf rh e3;rw[ZiL rv e4]at hl;exact Zlu hc pins s Z H _ us Q I r ⟨a,ns,rfl,hY ▸ hl,hne,f.ok rh (.int _)⟩
   . exact f.elim
 . exact f.elim
def rM(Y:Yx)(E:XK)(m:Mf):V->List V->Hp->VK->Prop:=λx xs H Q=>∃d ds h B,RH Y H B h/\RD Y H B d x/\RDs Y H B ds xs/\Fin Y (RD Y) H B (ZaX m d ds h) Q E
noncomputable def mid:Mf->String
 |.app => "list.append"
 |.ext => "list.extend"
 |.pop => "list.pop"
 |.rev => "list.reverse"
 |.clr => "list.clear"
def Zks(hY:Y.K=X.K)(m:Mf):MtM X (mid m) (rM Y E m):=by
 intro pins s Z H x xs v us Q I rx rs hh;obtain⟨d,ds,h,B,rh,r1,r2,f⟩:=hh;unfold ZaX at f;split at f
 . split at f
   . rename_i i ys e;obtain⟨a,vs,rfl,hi,hl,rv⟩:=r1.lst rh e;cases m with
     |app=>
      unfold ZcT Zhm at f;simp only at f;split at f
      . obtain⟨hz,f⟩:=f.iff;obtain⟨y,rfl,ry⟩:=r2.one;have g:Gr H B (upd H a (.lst (vs++[y]))) B:=Gr.write (O0 hi) (by rw[hl];trivial);exact ZgN pins s Z H _ _ v us Q I rx rs ⟨a,vs,y,rfl,rfl,hl,by rw[<- rv.length];exact hz,f.wrote rh hi ⟨_,Zl,(rv.append (.cons ry .nil)).mono rh g⟩ .non (by rw[hl];trivial)⟩
      . exact f.elim
     |ext=>
      unfold ZcT Zlf at f;simp only at f;split at f
      . split at f
        . rename_i zs e2;obtain⟨hz,f⟩:=f.iff;obtain⟨y,rfl,ry⟩:=r2.one;obtain⟨b,ws,rfl,hj,hl2,rw'⟩:=ry.lst rh e2;have g:Gr H B (upd H a (.lst (vs++ws))) B:=Gr.write (O0 hi) (by rw[hl];trivial);exact Zld pins s Z H _ _ v us Q I rx rs ⟨a,b,vs,ws,rfl,rfl,hl,hl2,by rw[<- rv.length,<- rw'.length];exact hz,f.wrote rh hi ⟨_,Zl,(rv.append rw').mono rh g⟩ .non (by rw[hl];trivial)⟩
        . exact f.elim
      . obtain⟨hz,f⟩:=f.iff;obtain⟨y,rfl,ry⟩:=r2.one;obtain⟨b,ws,rfl,t,rw'⟩:=ry.tup_inv;have g:Gr H B (upd H a (.lst (vs++ws))) B:=Gr.write (O0 hi) (by rw[hl];trivial);exact Zjw pins s Z H _ _ v us Q I rx rs ⟨a,b,vs,ws,rfl,rfl,hl,hY ▸ t,by rw[<- rv.length,<- rw'.length];exact hz,f.wrote rh hi ⟨_,Zl,(rv.append rw').mono rh g⟩ .non (by rw[hl];trivial)⟩
      . exact f.elim
     |pop=>
      unfold ZcT Zmz at f;simp only at f;split at f
      . split at f
        . rename_i y e2;cases r2;rw[rv.length]at e2;obtain⟨w,e3,rw'⟩:=rv.get e2;have g:Gr H B (upd H a (.lst vs.dropLast)) B:=Gr.write (O0 hi) (by rw[hl];trivial);exact Zqu pins s Z H _ _ v us Q I rx rs ⟨a,vs,w,rfl,rfl,hl,e3,f.wrote rh hi ⟨_,Zl,rv.dropLast.mono rh g⟩ (rw'.mono rh g) (by rw[hl];trivial)⟩
        . exact f.elim
      . exact f.elim
     |rev=>
      unfold ZcT Zsn at f;simp only at f;split at f
      . cases r2;have g:Gr H B (upd H a (.lst vs.reverse)) B:=Gr.write (O0 hi) (by rw[hl];trivial);exact Zjv pins s Z H _ _ v us Q I rx rs ⟨a,vs,rfl,rfl,hl,f.wrote rh hi ⟨_,Zl,rv.reverse.mono rh g⟩ .non (by rw[hl];trivial)⟩
      . exact f.elim
     |clr=>
      unfold ZcT Zso at f;simp only at f;split at f
      . cases r2;exact Zmx pins s Z H _ _ v us Q I rx rs ⟨a,vs,rfl,rfl,hl,f.wrote rh hi ⟨_,Zl,.nil⟩ .non (by rw[hl];trivial)⟩
      . exact f.elim
   . exact f.elim
 . exact f.elim
noncomputable def rP(Y:Yx)(E:XK):Znh:=λo i v H Q=>∃a b c h B,RH Y H B h/\RD Y H B a o/\RD Y H B b i/\RD Y H B c v/\Fin Y (λ_ _ (_:Unit) (_:Unit)=>True) H B (Zkl a b c h) (λ_ H'=>Q H') E
def ZpY:ZoW X (rP Y E):=by
 intro pins s Z H o i v ov iv u Q I ro ri rv hh;obtain⟨a,b,c,h,B,rh,ra,rb,rc,f⟩:=hh;unfold Zkl at f;split at f
 . split at f
   . rename_i j xs e;split at f
     . split at f
       . rename_i j' e2;obtain⟨p,vs,rfl,hi,hl,rs⟩:=ra.lst rh e;have hb:=rb.int_inv;subst hb;rw[rs.length]at e2;have g:Gr H B (upd H p (.lst (vs.set j' v))) B:=Gr.write (O0 hi) (by rw[hl];trivial);exact set_list pins s Z H _ _ v ov iv u Q I ro ri rv ⟨p,vs,_,j',rfl,rfl,hl,e2,f.wrote (b:=()) rh hi ⟨_,Zl,(RDs.set rc j' rs).mono rh g⟩ trivial (by rw[hl];trivial)⟩
       . exact f.elim
     . exact f.elim
   . rename_i j kvs e;split at f
     . rename_i k e2;obtain⟨hz,f⟩:=f.iff;obtain⟨p,vs,rfl,hi,hl,rs⟩:=ra.dic rh e;have g:Gr H B (upd H p (.dK (putK vs k v))) B:=Gr.write (O0 hi) (by rw[hl];trivial);exact set_dict pins s Z H _ _ v ov iv u Q I ro ri rv ⟨p,vs,k,rfl,Zdo rb e2,hl,by rw[<- rs.length];exact hz,f.wrote (b:=()) rh hi ⟨_,Zl,(rs.put k rc).mono rh g⟩ trivial (by rw[hl];trivial) (ZfU (rh.ks _ _ e) (ZmF rb e2))⟩
     . exact f.elim
   . exact f.elim
 . exact f.elim
end
end IV
end
section
namespace IV
open PySem PySem.Spec PyProof.Rows L2
def rW(K:Yk)(x:V)(H1:Hp)(R:It->Hp->Prop):Prop:=(∃a,x=.ref a/\(∃xs,SqL K H1 a xs)/\R (Itl K a) H1)\/(∃a,x=.ref a/\(∃xs,SqT K H1 a xs)/\R (Itt K a) H1)\/(∃y,x=.str y/\R (Its y) H1)
def Zp4{X:Cx}{tg l:Expr}{tl:TE}(hl:PE X l tl):PI X tg l (λZ H R=>tl Z H λx H1=>rW X.K x H1 R):=by
 intro pins s Z H R I h;refine thn (hl pins s Z H _ I h) λv s1 ⟨x,H1,I1,r1,q1⟩=>?_;have fp1:∀b∈[s1.heap.objs.size],Zbg X pins H1 b:=λb hb=>by
  have e:b=s1.heap.objs.size:=by simpa using hb
  subst e;exact I1.fpOk (Oq _) (I1.hok.fresh (Oq _))
 rcases q1 with ⟨a,rfl,⟨xs,hq⟩,q⟩|⟨a,rfl,⟨xs,hq⟩,q⟩|⟨y,rfl,q⟩
 . cases r1;obtain⟨its,rv,p,hz⟩:=I1.list hq;exact wpAny_pyIter_list p.isList ⟨s1.heap.objs.size,[s1.heap.objs.size],_,_,H1,rfl,I1.kept (t':=s1.toks) λb o e=>Od _ e,ZkN a _,⟨_,Oj _ rfl,rfl,rfl⟩,fp1,q⟩
 . cases r1;obtain⟨its,rv,p,hz⟩:=I1.tuple hq;exact wpAny_pyIter_tuple (show s1.heap.IsTuple a its.toArray from p) ⟨s1.heap.objs.size,[s1.heap.objs.size],_,_,H1,rfl,I1.kept (t':=s1.toks) λb o e=>Od _ e,Zje a _,⟨_,Oj _ rfl,rfl,rfl⟩,fp1,q⟩
 . obtain⟨t,rfl⟩:=r1;cases ha:y.cps.all (·<128)
   . exact wpAny_pyIter_wide ha ⟨s1.heap.objs.size,[s1.heap.objs.size],_,_,H1,rfl,I1.kept (t':=s1.toks) λb o e=>Od _ e,Zih (t:=t) (λA' hA=>Walks.strWide hA _ y t) (λ_ _ _ _ _ st h=>wpAny_pyIter_striter_wide st h),⟨_,Oj _ rfl,rfl,rfl⟩,fp1,q⟩
   . exact wpAny_pyIter_ascii ha ⟨s1.heap.objs.size,[s1.heap.objs.size],_,_,H1,rfl,I1.kept (t':=s1.toks) λb o e=>Od _ e,Zih (t:=t) (λA' hA=>Walks.strAscii hA _ y t) (λ_ _ _ _ _ st h=>wpAny_pyIter_striter_ascii st h),⟨_,Oj _ rfl,rfl,rfl⟩,fp1,q⟩
def WJ(Y:Yx)(H0:Hp)(μ0:List Yi)(w:Wk)(J:It):Prop:=∀H B h,Gr H0 μ0 H B->RH Y H B h->Wk.stays w.src h=Wm ->
 (∀i d,w.xs[i]? = Wj d->J.go i H/\∀x H',J.yld i H x H'->Gr H B H' B/\RH Y H' B h/\RD Y H' B d x)/\J.stop w.xs.length H
section
variable {X:Cx}{Y:Yx}{E:XK}{T:Tb}{H:Hp}{B:List Yi}{h:Hd}
def Zpq{a:Yi}{vs:List V}{xs:List D}(hY:Y.K=X.K)(rh:RH Y H B h)(t:SqT Y.K H a vs)(s:RDs Y H B xs vs):WJ Y H B ⟨Wl,xs⟩ (Itt X.K a):=by intro H1 μ1 h1 g rh1 st;have t1:=g.rdT rh t;have s1:=s.mono rh g;rw[hY]at t1;refine⟨λi d e=>?_,⟨vs,t1,by rw[s.length];exact Oq _⟩⟩;obtain⟨v,e1,r1⟩:=s1.get e;refine⟨⟨vs,v,t1,e1⟩,λx H' ⟨eH,q⟩=>?_⟩;subst eH;have:=q vs t1;rw[e1]at this;cases this;exact⟨Gr.refl,rh1,r1⟩
def ZoY{a:Yi}{vs:List V}{xs:List D}(hY:Y.K=X.K)(rh:RH Y H B h)(t:FzL Y.K H a vs)(s:RDs Y H B xs vs):WJ Y H B ⟨Wl,xs⟩ (Itl X.K a):=by intro H1 μ1 h1 g rh1 st;have t1:=(g.rdF rh t).sq;have s1:=s.mono rh g;rw[hY]at t1;refine⟨λi d e=>?_,⟨vs,t1,by rw[s.length];exact Oq _⟩⟩;obtain⟨v,e1,r1⟩:=s1.get e;refine⟨⟨vs,v,t1,e1⟩,λx H' ⟨eH,q⟩=>?_⟩;subst eH;have:=q vs t1;rw[e1]at this;cases this;exact⟨Gr.refl,rh1,r1⟩
def Zfu{i:Nat}{xs:List D}{h:Hd}(st:Wk.stays (Wj (i,xs)) h=Wm):h[i]? = Wj (.lst xs):=of_decide_eq_true st
def Zlz{i:Nat}{a:Yi}{xs:List D}(hi:B[i]? = Wj a):WJ Y H B ⟨Wj (i,xs),xs⟩ (Itl X.K a):=by intro H1 μ1 h1 g rh1 st;obtain⟨vs,hl,s1⟩:=rh1.ob i _ a (Zfu st) (g.pre i a hi);have t1:SqL X.K H1 a vs:=.of hl;refine⟨λi d e=>?_,⟨vs,t1,by rw[s1.length];exact Oq _⟩⟩;obtain⟨v,e1,r1⟩:=s1.get e;refine⟨⟨vs,v,t1,e1⟩,λx H' ⟨eH,q⟩=>?_⟩;subst eH;have:=q vs t1;rw[e1]at this;cases this;exact⟨Gr.refl,rh1,r1⟩
def Zps{lo:Int}{n:Nat}:WJ Y H B ⟨Wl,ZaH lo n⟩ (Itr lo n):=by
 intro H1 μ1 h1 g rh1 st;have hl:(ZaH lo n).length=n:=by simp[ZaH]
 refine⟨λi d e=>?_,by show n<=(ZaH lo n).length;rw[hl];exact Oq _⟩;have hi:i<n:=by have:=(Ob.mp e).1;rw[hl]at this;exact this
 refine⟨hi,λx H' ⟨eH,q⟩=>?_⟩;subst eH q;have:d=.int (lo+i):=by unfold ZaH at e;rw[On,List.getElem?_range hi]at e;exact(YC e).symm
 subst this;exact⟨Gr.refl,rh1,.int _⟩
def Zpr{y:Str}(ok:Yp y=Wm):WJ Y H B ⟨Wl,y.cps.toList.map λc=>.str ⟨#[c]⟩⟩ (Its y):=by
 intro H1 μ1 h1 g rh1 st;have hl:(y.cps.toList.map λc=>D.str ⟨#[c]⟩).length=y.cps.size:=by simp
 refine⟨λi d e=>?_,hl⟩;have hi:i<y.cps.size:=by have:=(Ob.mp e).1;rw[hl]at this;exact this
 refine⟨hi,λx H' ⟨eH,c,q,ex⟩=>?_⟩;subst eH ex;rw[On,Array.getElem?_toList,q]at e;have:=(YC e).symm;subst this;exact⟨Gr.refl,rh1,.str _ (Zmt ok (by simpa using Array.mem_of_getElem? q))⟩
def ZmW{xs:List D}{i:Nat}{d:D}(e:(ZcQ xs)[i]? = Wj d):∃x,xs[i]? = Wj x/\d=.tup [.int i,x]:=by unfold ZcQ at e;rw[List.getElem?_mapIdx]at e;obtain⟨x,e1,e2⟩:=Oo.mp e;exact⟨x,e1,e2.symm⟩
def Zj8{a:Yi}{src:Option (Nat×List D)}{xs:List D}(hw:WJ Y H B ⟨src,xs⟩ (Itl X.K a))(sq:∀H1 μ1 h1,Gr H B H1 μ1->RH Y H1 μ1 h1->Wk.stays src h1=Wm->∃vs,SqL X.K H1 a vs/\RDs Y H1 μ1 xs vs):WJ Y H B ⟨src,ZcQ xs⟩ (Ite X.K a):=by
 intro H1 μ1 h1 g rh1 st;obtain⟨vs,t1,s1⟩:=sq H1 μ1 h1 g rh1 st;have hl:(ZcQ xs).length=xs.length:=by simp[ZcQ]
 refine⟨λi d e=>?_,⟨vs,t1,by rw[hl,s1.length]⟩⟩;obtain⟨x0,e0,rfl⟩:=ZmW e;obtain⟨v,e1,r1⟩:=s1.get e0;refine⟨⟨vs,v,t1,e1⟩,λx H' ⟨p,ex,hp,y,q,eH⟩=>?_⟩;subst ex eH;have:=q vs t1;rw[e1]at this;cases this;exact⟨Gr.lay0 hp,rh1.lay0 hp,.tup (.inl (.inl Zl)) (.cons (.int _) (.cons (r1.mono rh1 (Gr.lay0 hp)) .nil))⟩
def Zpt{a:Yi}{vs:List V}{xs:List D}(hY:Y.K=X.K)(rh:RH Y H B h)(t:SqT Y.K H a vs)(s:RDs Y H B xs vs):WJ Y H B ⟨Wl,xs.reverse⟩ (Itv X.K a vs.length):=by intro H1 μ1 h1 g rh1 st;have t1:=g.rdT rh t;have s1:=(s.mono rh g).reverse;rw[hY]at t1;refine⟨λi d e=>?_,⟨vs,t1,rfl,by simp[s.length]⟩⟩;obtain⟨v,e1,r1⟩:=s1.get e;refine⟨⟨vs,v,t1,rfl,e1⟩,λx H' ⟨eH,q⟩=>?_⟩;subst eH;have:=q vs t1;rw[e1]at this;cases this;exact⟨Gr.refl,rh1,r1⟩
def Znl{i:Nat}{a:Yi}{xs:List D}(hi:B[i]? = Wj a):WJ Y H B ⟨Wj (i,xs),xs.reverse⟩ (Zq8 X.K a xs.length):=by intro H1 μ1 h1 g rh1 st;obtain⟨vs,hl,s0⟩:=rh1.ob i _ a (Zfu st) (g.pre i a hi);have t1:SqL X.K H1 a vs:=.of hl;have s1:=s0.reverse;refine⟨λi d e=>?_,⟨vs,t1,s0.length.symm,by simp⟩⟩;obtain⟨v,e1,r1⟩:=s1.get e;refine⟨⟨vs,v,t1,s0.length.symm,e1⟩,λx H' ⟨eH,q⟩=>?_⟩;subst eH;have:=q vs t1;rw[e1]at this;cases this;exact⟨Gr.refl,rh1,r1⟩
def Znm{d:D}{x:V}{w:Wk}{R:It->Hp->Prop}(hY:Y.K=X.K)(rh:RH Y H B h)(r:RD Y H B d x)(e:Zbk d h=Wj w)(q:∀J,WJ Y H B w J->R J H):rW X.K x H R:=by
 cases d with
 |tup xs=>cases e;obtain⟨a,vs,rfl,t,s⟩:=r.tup_inv;exact .inr (.inl ⟨a,rfl,⟨vs,hY ▸ t⟩,q _ (Zpq hY rh t s)⟩)
 |ro xs=>
  cases e;cases r with
  |ro t s=>exact .inl ⟨_,rfl,⟨_,hY ▸ t.sq⟩,q _ (ZoY hY rh t s)⟩
 |ref i=>
  unfold Zbk at e;simp only at e;split at e
  . rename_i xs he;cases e;obtain⟨a,vs,rfl,hi,hl,s⟩:=r.lst rh he;exact .inl ⟨a,rfl,⟨vs,.of hl⟩,q _ (Zlz hi)⟩
  . cases e
 |str y=>
  unfold Zbk at e;simp only at e;split at e
  . cases e;obtain⟨rfl,ok⟩:=r.str_inv;exact .inr (.inr ⟨y,rfl,q _ (Zpr ok)⟩)
  . cases e
 |_=>cases e
end
end IV
end
section
namespace IV
open PySem PySem.Spec PyProof.Rows L2
structure Kl where
 cs:List Str
 ats:List Str
 ms:List (Str×Str)
 is:List Str
 xs:List Str:=[]
structure Gm where
 N:List Str
 sc:Scope
 fs:List Str
 top:Bool
 kl:Kl
noncomputable def glb(Γ:Gm)(x:Str):Bool:=Wo (Γ.sc.names.lookup x=Wj .globalImplicit)&&!(x==("__debug__" : Str))
noncomputable def Zno(sc:Scope)(x:Str):Bool:=Wo (sc.names.lookup x=Wj .local) || Wo (sc.names.lookup x=Wj .cell) || Wo (sc.names.lookup x=Wj .free)
noncomputable def Znb:Bf->Str
 |.len => "len" |.isi => "isinstance" |.int => "int" |.tup => "tuple" |.lst => "list" |.sum => "sum" |.all => "all" |.srt => "sorted" |.mx => "max"
noncomputable def bok:Bf->Bool
 |.srt=>Wn
 |.all=>Wn
 |.sum=>Wn
 |.lst=>Wn
 |_=>Wm
noncomputable def Zo9:Mf->Str
 |.app => "append" |.ext => "extend" |.pop => "pop" |.rev => "reverse" |.clr => "clear"
noncomputable def Zka:List String:=["int", "str", "bool", "tuple", "list"]
noncomputable def asName:Expr->Option Str
 |.Name x _=>Wj x
 |_=>Wl
noncomputable def Znf:Expr->Option (List Expr)
 |.Tuple es _ _=>Wj es
 |_=>Wl
noncomputable def Zpn:Expr->Option Const
 |.Constant c _ _=>Wj c
 |_=>Wl
def Zgr{e:Expr}{x:Str}(h:asName e=Wj x):∃p,e=.Name x p:=by
 cases e with
 |Name y p=>cases h;exact⟨p,rfl⟩
 |_=>cases h
def Zg3{e:Expr}{es:List Expr}(h:Znf e=Wj es):∃k p,e=.Tuple es k p:=by
 cases e with
 |Tuple es k p=>cases h;exact⟨k,p,rfl⟩
 |_=>cases h
def Zlw{e:Expr}{c:Const}(h:Zpn e=Wj c):∃k p,e=.Constant c k p:=by
 cases e with
 |Constant c k p=>cases h;exact⟨k,p,rfl⟩
 |_=>cases h
noncomputable def ZsK:D->Const->Bool
 |.int i,.int j=>Wo (i=j)
 |.str x,.str y=>Wo (x=y)&&Yp y
 |.bl b,.bool c=>Wo (b=c)
 |.non,.none=>Wm
 |_,_=>Wn
noncomputable def Zm7(Γ:Gm)(d:D)(e:Expr):Bool:=match Zpn e with
 |some c=>ZsK d c
 |none=>match d with
  |.ty n=>match asName e with
   |some x=>Wo (n∈Zka)&&Wo (Str.ofString n=x)&&glb Γ x
   |none=>Wn
  |_=>Wn
noncomputable def Zm4(NC N:List Str)(js:List (Option Nat))(sc scope:Scope):Bool:=
 Wo (scope.kind=.function)&&Wo (sc.kind=.function)&&(scope.names.all λy=>Wo (y.2≠.cell))&&(scope.names.all λy=>!Wo (y.2=.local) || Wo (scope.names.lookup y.1=Wj .local)) &&
  (scope.names.all λy=>!Wo (y.2=.free) || Wo (sc.names.lookup y.1=Wj .cell))&&decide NC.Nodup&&Wo (js.length=NC.length) &&
  ((NC.zip js).all λp=>p.2.all λj=>Wo (N[j]? = Wj p.1)&&Wo (scope.names.lookup p.1=Wj .free))
def ZiV{NC N:List Str}{js:List (Option Nat)}{sc scope:Scope}(h:Zm4 NC N js sc scope=Wm):CompSc NC N js sc scope:=by
 unfold Zm4 at h;rw[Oa,Oa,Oa,Oa,Oa,Oa,Oa]at h;obtain⟨⟨⟨⟨⟨⟨⟨a,b⟩,c⟩,d⟩,e⟩,f⟩,g⟩,i⟩:=h;rw[OC]at c d e;refine⟨of_decide_eq_true a,of_decide_eq_true b,λy hy=>of_decide_eq_true (c y hy),λy hy e1=>?_,λy hy e1=>?_,of_decide_eq_true f,of_decide_eq_true g,i⟩
 . have:=d y hy;rw[decide_eq_true e1]at this;simpa using this
 . have:=e y hy;rw[decide_eq_true e1]at this;simpa using this
noncomputable def Ziy(N:List Str)(own:Str->Bool)(i:Nat)(e:Expr):Bool:=match asName e with
 |some x=>Wo (N[i]? = Wj x)&&own x
 |none=>Wn
noncomputable def Zef(N:List Str)(own:Str->Bool):List Nat->List Expr->Bool
 |[],[]=>Wm
 |i::is,e::es=>Ziy N own i e&&Zef N own is es
 |_,_=>Wn
noncomputable def Zm6(N:List Str)(own:Str->Bool)(i j:Nat)(e:Expr):Bool:=match Znf e with
 |some [a,b]=>Ziy N own i a&&Ziy N own j b
 |_=>Wn
noncomputable def Zm5(N:List Str)(own:Str->Bool)(is:List Nat)(e:Expr):Bool:=match Znf e with
 |some es=>Zef N own is es
 |none=>Wn
noncomputable def Zls(N:List Str)(own:Str->Bool)(g:Tg)(e:Expr):Bool:=match g with
 |.nm i=>Ziy N own i e
 |.two i j=>Zm6 N own i j e
 |.many is=>Zm5 N own is e
def Zbp{N:List Str}{own:Str->Bool}{i:Nat}{e:Expr}(h:Ziy N own i e=Wm):∃x p,e=.Name x p/\N[i]? = Wj x/\own x=Wm:=by
 unfold Ziy at h;cases q:asName e with
 |none=>rw[q]at h;cases h
 |some x=>rw[q]at h;rw[Oa]at h;obtain⟨p,rfl⟩:=Zgr q;exact⟨x,p,rfl,of_decide_eq_true h.1,h.2⟩
def Zg5{N:List Str}{own:Str->Bool}{i j:Nat}{e:Expr}(h:Zls N own (.two i j) e=Wm):∃x p y q k r,e=.Tuple [.Name x p,.Name y q] k r/\(N[i]? = Wj x/\own x=Wm)/\N[j]? = Wj y/\own y=Wm:=by
 replace h:Zm6 N own i j e=Wm:=h
 unfold Zm6 at h;split at h
 . rename_i a b q;rw[Oa]at h;obtain⟨k,r,rfl⟩:=Zg3 q;obtain⟨x,p,rfl,e1⟩:=Zbp h.1;obtain⟨y,p2,rfl,e2⟩:=Zbp h.2;exact⟨x,p,y,p2,k,r,rfl,e1,e2⟩
 . cases h
def ZfQ{N:List Str}{own:Str->Bool}{is:List Nat}{e:Expr}(h:Zls N own (.many is) e=Wm):∃es k r,e=.Tuple es k r/\Zef N own is es=Wm:=by
 replace h:Zm5 N own is e=Wm:=h
 unfold Zm5 at h;split at h
 . rename_i es q;obtain⟨k,r,rfl⟩:=Zg3 q;exact⟨es,k,r,rfl,h⟩
 . cases h
noncomputable def isTup:Expr->Bool
 |.Tuple _ _ _=>Wm
 |_=>Wn
noncomputable def tgk:Tg->Nat
 |.nm i=>i+1
 |.two i j=>max i j+1
 |.many is=>is.foldr max 0+1
noncomputable def ZtN(sc:Scope)(x:Str):Bool:=Wo (sc.names.lookup x=Wj .local)
noncomputable def ownD(sc:Scope)(x:Str):Bool:=Wo (sc.names.lookup x=Wj .local) || Wo (sc.names.lookup x=Wj .cell)
noncomputable def Zeu:Expr->Bool
 |.Set _ _ _=>Wn
 |_=>Wm
noncomputable def ZfO:Expr->Bool
 |.Slice _ _ _ _=>Wn
 |_=>Wm
noncomputable def Zag:Expr->Bool
 |.Starred _ _=>Wn
 |_=>Wm
noncomputable def Zch:Expr->Bool
 |.Call _ [] _ _=>Wn
 |_=>Wm
noncomputable def Zjr:Expr->Bool
 |.BoolOp _ _ _|.UnaryOp _ _ _|.IfExp _ _ _ _|.NamedExpr _ _ _=>Wn
 |_=>Wm
mutual
noncomputable def chk(Γ:Gm):Ex->Expr->Bool
 |.var i,e=>match e with
  |.Name x _=>Wo (Γ.N[i]? = Wj x)&&Zno Γ.sc x&&!(x==("__debug__" : Str))&&!(x==("__classdict__" : Str))
  |_=>Wn
 |.cst d,e=>Zm7 Γ d e
 |.glo x,e=>match e with
  |.Name y _=>Wo (x=y)&&glb Γ x
  |_=>Wn
 |.bin op a b,e=>match e with
  |.BinOp l op' r _=>Wo (op=op')&&chk Γ a l&&chk Γ b r
  |_=>Wn
 |.cmp op a b,e=>match e with
  |.Compare l [op'] [r] _=>Wo (op=op')&&chk Γ a l&&chk Γ b r&&Zeu r
  |_=>Wn
 |.cmp2 _ _ _ _ _,_=>Wn
 |.neg a,e=>match e with
  |.UnaryOp .USub x _=>chk Γ a x
  |_=>Wn
 |.nt a,e=>match e with
  |.UnaryOp .Not x _=>chk Γ a x
  |_=>Wn
 |.ands es,e=>match e with
  |.BoolOp .And xs _=>chks Γ es xs
  |_=>Wn
 |.ors es,e=>match e with
  |.BoolOp .Or xs _=>chks Γ es xs
  |_=>Wn
 |.ite c a b,e=>match e with
  |.IfExp t x y _=>chkt Γ c t&&chk Γ a x&&chk Γ b y
  |_=>Wn
 |.tupl es,e=>match e with
  |.Tuple xs _ _=>chks Γ es xs
  |_=>Wn
 |.lstl es,e=>match e with
  |.List xs _=>chks Γ es xs
  |_=>Wn
 |.ix a i,e=>match e with
  |.Subscript x y _=>chk Γ a x&&chk Γ i y&&ZfO y
  |_=>Wn
 |.sl a lo hi,e=>match e with
  |.Subscript x (.Slice l u Wl _) _=>chk Γ a x&&chko Γ lo l&&chko Γ hi u
  |_=>Wn
 |.blt f es,e=>match e with
  |.Call (.Name x _) (y::ys) [] _=>Wo (x=Znb f)&&(bok f&&glb Γ x)&&chks Γ es (y::ys)
  |_=>Wn
 |.call f es,e=>match e with
  |.Call (.Name x _) (y::ys) [] _=>Wo (x=f)&&Wo (f∈Γ.fs)&&glb Γ x&&chks Γ es (y::ys)
  |_=>Wn
 |.meth m o es,e=>match e with
  |.Call (.Attribute x n ap) ys [] cp=>Wo (n=Zo9 m)&&chk Γ o x&&Zch x&&chks Γ es ys&&Wo (ys.length<29)&&(ap.endLine==cp.line)
  |_=>Wn
 |.trev e,x=>match x with
  |.Call (.Name f _) [.Call (.Name f' _) [y] [] _] [] _=>Wo (f = "tuple")&&Wo (f' = "reversed")&&glb Γ f&&glb Γ f'&&chk Γ e y&&Zag y
  |_=>Wn
 |.lrv _,_=>Wn
 |.tix o e,x=>match x with
  |.Call (.Attribute x n ap) [y] [] cp=>Wo (n = "index")&&chk Γ o x&&Zch x&&chk Γ e y&&Zag y&&(ap.endLine==cp.line)
  |_=>Wn
 |.lix _ _,_=>Wn
 |.lin _ _,_=>Wn
 |.comp NC js it g c e,x=>match x with
  |.ListComp elt [⟨tg,iter,ifs,0⟩] scope _=>Γ.top&&Zm4 NC Γ.N js Γ.sc scope&&chki Γ it tg iter&&Zeu iter&&Zls NC (ZtN scope) g tg&&((List.range (tgk g)).all λj=>Wo (js[j]? = Wj Wl)) &&
   chkf ⟨NC,scope,Γ.fs,Wn,Γ.kl⟩ c ifs&&chk ⟨NC,scope,Γ.fs,Wn,Γ.kl⟩ e elt
  |_=>Wn
 |.sorts _,_=>Wn
 |.maxd _ _,_=>Wn
 |.dictl ps,e=>match e with
  |.Dict keys values _=>Wo (keys.length<=15)&&chkp Γ ps keys values
  |_=>Wn
 |.att Cs o f,e=>match e with
  |.Attribute x n _=>Wo (n=f)&&chk Γ o x&&Zch x&&(Cs.all λC=>Wo (C∈Γ.kl.cs))&&Wo (f∈Γ.kl.ats)
  |_=>Wn
 |.mk C es,e=>match e with
  |.Call (.Name x _) ys [] _=>Wo (x=C)&&Wo (C∈Γ.kl.is)&&glb Γ x&&chks Γ es ys
  |_=>Wn
 |.mcl C m o es,e=>match e with
  |.Call (.Attribute x n ap) ys [] cp=>Wo (n=m)&&chk Γ o x&&Zch x&&chks Γ es ys&&Wo ((C,m)∈Γ.kl.ms)&&Wo (ys.length<29)&&(ap.endLine==cp.line)
  |_=>Wn
 |.any,e=>match e with
  |.Compare _ _ _ _=>Wn
  |_=>Wm
noncomputable def chks(Γ:Gm):Exs->List Expr->Bool
 |.nil,es=>es.isEmpty
 |.cons e r,es=>match es with
  |x::xs=>chk Γ e x&&Zag x&&chks Γ r xs
  |[]=>Wn
noncomputable def chkp(Γ:Gm):Exs->List (Option Expr)->List Expr->Bool
 |.nil,ks,vs=>ks.isEmpty&&vs.isEmpty
 |.cons k r,ks,vs=>match r with
  |.cons v r'=>match ks,vs with
   |some kx::ks,vx::vs=>chk Γ k kx&&chk Γ v vx&&chkp Γ r' ks vs
   |_,_=>Wn
  |.nil=>Wn
noncomputable def chko(Γ:Gm):Option Ex->Option Expr->Bool
 |none,x=>x.isNone
 |some a,x=>match x with
  |some x=>chk Γ a x
  |none=>Wn
noncomputable def chkf(Γ:Gm):Option Tx->List Expr->Bool
 |none,x=>x.isEmpty
 |some a,x=>match x with
  |[x]=>chkt Γ a x
  |_=>Wn
noncomputable def chkt(Γ:Gm):Tx->Expr->Bool
 |.ex e,x=>Zjr x&&chk Γ e x
 |.ands ts,x=>match x with
  |.BoolOp .And xs _=>chkts Γ ts xs
  |_=>Wn
 |.ors ts,x=>match x with
  |.BoolOp .Or xs _=>chkts Γ ts xs
  |_=>Wn
 |.nt t,x=>match x with
  |.UnaryOp .Not y _=>chkt Γ t y
  |_=>Wn
noncomputable def chkts(Γ:Gm):Txs->List Expr->Bool
 |.one t,xs=>match xs with
  |[x]=>chkt Γ t x
  |_=>Wn
 |.cons t ts,xs=>match xs with
  |x::y::r=>chkt Γ t x&&chkts Γ ts (y::r)
  |_=>Wn
noncomputable def chki(Γ:Gm):Ix->Expr->Expr->Bool
 |.pl e,_,x=>chk Γ e x
 |.rng e,_,x=>match x with
  |.Call (.Name f _) [y] [] _=>Wo (f = "range")&&glb Γ f&&chk Γ e y&&Zag y
  |_=>Wn
 |.rng2 _ _,_,_=>Wn
 |.enu e,tg,x=>match x with
  |.Call (.Name f _) [y] [] _=>Wo (f = "enumerate")&&glb Γ f&&chk Γ e y&&Zag y&&isTup tg
  |_=>Wn
 |.rev e,_,x=>match x with
  |.Call (.Name f _) [y] [] _=>Wo (f = "reversed")&&glb Γ f&&chk Γ e y&&Zag y
  |_=>Wn
 |.en1 _,_,_=>Wn
 |.en0 _,_,_=>Wn
 |.dk _,_,_=>Wn
end
end IV
end
section
set_option tactic.hygienic false
namespace IV
open PySem PySem.Spec PyProof.Rows L2
def RS(Y:Yx)(H:Hp)(B:List Yi)(S:Ev)(Z:L2.St):Prop:=Z.length=S.length/\∀(i:Nat) (d:D),S[i]? = Wj (Wj d)->∃v,Z[i]? = Wj (Wj v)/\RD Y H B d v
section
variable {Y:Yx}{H H':Hp}{B μ':List Yi}{h:Hd}{S:Ev}{Z:L2.St}
theorem RS.mono(rh:RH Y H B h)(g:Gr H B H' μ')(r:RS Y H B S Z):RS Y H' μ' S Z:=⟨r.1,λi d e=>let ⟨v,h1,h2⟩:=r.2 i d e;⟨v,h1,h2.mono rh g⟩⟩
def RS.var(r:RS Y H B S Z){i:Nat}{d:D}(e:(S[i]?).join=Wj d):∃v,Z[i]? = Wj (Wj v)/\RD Y H B d v:=by
 refine r.2 i d ?_;cases q:S[i]? with
 |none=>rw[q]at e;cases e
 |some o=>rw[q]at e;cases o with
  |none=>cases e
  |some d'=>cases e;rfl
theorem RS.set(r:RS Y H B S Z){i:Nat}{d:D}{v:V}(q:RD Y H B d v):RS Y H B (S.set i (Wj d)) (Z.set i (Wj v)):=by
 refine⟨by simp[r.1],λj e he=>?_⟩;by_cases hj:i=j
 . subst hj;have hl:i<S.length:=by have:=(Ob.mp he).1;simpa using this
   rw[Ol hl]at he;cases he;exact⟨v,by rw[Ol (by rw[r.1];exact hl)],q⟩
 . rw[Oc hj]at he;obtain⟨w,h1,h2⟩:=r.2 j e he;exact⟨w,by rw[Oc hj];exact h1,h2⟩
theorem RS.capt(r:RS Y H B S Z)(js:List (Option Nat)):RS Y H B (ZdH js S) (capt js Z):=by
 refine⟨by simp[ZdH,L2.capt],λi d e=>?_⟩;unfold ZdH at e;unfold L2.capt;rw[On]at e ⊢;cases q:js[i]? with
 |none=>rw[q]at e;cases e
 |some o=>
  rw[q]at e;cases o with
  |none=>cases e
  |some j=>
   have e':(S[j]?).join=Wj d:=by simpa using e
   obtain⟨v,h1,h2⟩:=r.var e';exact⟨v,by simp[h1],h2⟩
end
section
variable (T:Tb) (Y:Yx) (E:XK)
noncomputable def ZbO(e:Ex):TE:=λZ H Q=>∃S h B,RH Y H B h/\RS Y H B S Z/\Fin Y (RD Y) H B (ev T e S h) Q E
noncomputable def Znz(e:Exs):TA:=λZ H Q=>∃S h B,RH Y H B h/\RS Y H B S Z/\Fin Y (RDs Y) H B (evs T e S h) Q E
noncomputable def ZlU(e:Tx):TT:=λZ H Q=>∃S h B,RH Y H B h/\RS Y H B S Z/\Fin Y (λ_ _ (a b:Bool)=>a=b) H B (tst T e S h) Q E
noncomputable def Zty(e:Option Ex):TO:=λZ H Q=>∃S h B,RH Y H B h/\RS Y H B S Z/\Fin Y (λ_ _ (a b:Option Int)=>a=b) H B (evo T e S h) Q E
noncomputable def Ztz(e:Ix):TI:=λZ H Q=>∃S h B,RH Y H B h/\RS Y H B S Z/\Fin Y (WJ Y) H B (evi T e S h) Q E
noncomputable def Ze9(f:Str):Sp:=λvs H Q E=>∃ds h B,RH Y H B h/\RDs Y H B ds vs/\Fin Y (RD Y) H B (T.C f ds h) Q E
end
structure Gd(T:Tb)(Γ:Gm)(X:Cx)(Y:Yx)(E:XK)(k:Nat):Prop where
 gk:Gk X Y T
 N:X.N=Γ.N
 sc:Γ.top=Wm->X.env.scope=Γ.sc
 vis:∀x,Zno Γ.sc x=Wm->Vis X.env.scope x
 glo:∀x,Γ.sc.names.lookup x=Wj .globalImplicit->Gl X x
 nd:X.N.Nodup
 calm:X.calm=Wm
 room:Room k X.A
 h60:60<=k
 pass:ZaO (CXF X.prog X.w) X E
 defs:∀f∈Γ.fs,∃ps,Def X.prog X.w X.K X.mg X.base k f ps (Ze9 T Y f)
 blt:∀x∈(["len", "isinstance", "int", "tuple", "list", "sum", "all", "sorted", "range", "enumerate", "reversed", "str", "bool", "max"]:List Str),X.mg x=Wl
 room1:Room (k+1) X.A
 passC:Γ.top=Wm->∀(pins:List (Yi×Obj)) (Z:L2.St) (NC:List Str) (scope:Scope) (C:Yi) (s3:Yb) (H3:Hp) (fp:List Yi),Inv X pins Z H3 s3->(∀b∈fp,Zbg X pins H3 b)->C=s3.heap.objs.size->ZaO (CXF X.prog X.w) (Zy X NC scope C s3 H3 fp) E
 cls:∀C∈Γ.kl.cs,∃a,X.mg C=Wj (.ref a)/\Cls X.K a/\∀f∈Γ.kl.ats,Z6 X.K a f
 mts:∀p∈Γ.kl.ms,∃a f fd ps,X.mg p.1=Wj (.ref a)/\Cls X.K a/\Meth X.K a p.2 f/\FnOk X.prog X.w X.K X.mg X.base (CXF X.prog X.w) k f fd ps (Ze9 T Y (mnm p.1 p.2))/\Binds X.K fd ps []
 mks:∀C∈Γ.kl.is,∃a f fd ps,X.mg C=Wj (.ref a)/\Mk X.K a f/\FnOk X.prog X.w X.K X.mg X.base (CXF X.prog X.w) k f fd ps (Ze9 T Y (mnm C (O "__init__")))/\Binds X.K fd ps []
def _root_.L2.PE.imp{X:Cx}{e:Expr}{t t':TE}(h:PE X e t)(i:∀Z H Q,t' Z H Q->t Z H Q):PE X e t':=λpins s Z H Q I q=>h pins s Z H Q I (i Z H Q q)
def _root_.L2.PT.imp{X:Cx}{e:Expr}{t t':TT}(h:PT X e t)(i:∀Z H Q,t' Z H Q->t Z H Q):PT X e t':=λpins s Z H Q I q=>h pins s Z H Q I (i Z H Q q)
def _root_.L2.PW.imp{X:Cx}{e:Expr}{t t':TT}(h:PW X e t)(i:∀Z H Q,t' Z H Q->t Z H Q):PW X e t':=λw pins s Z H Q I q=>h w pins s Z H Q I (i Z H Q q)
def _root_.L2.PA.imp{X:Cx}{e:List Expr}{t t':TA}(h:PA X e t)(i:∀Z H Q,t' Z H Q->t Z H Q):PA X e t':=λp pins s Z H Q I q=>h p pins s Z H Q I (i Z H Q q)
def _root_.L2.PO.imp{X:Cx}{e:Option Expr}{t t':TO}(h:PO X e t)(i:∀Z H Q,t' Z H Q->t Z H Q):PO X e t':=λpins s Z H Q I q=>h pins s Z H Q I (i Z H Q q)
def _root_.L2.PI.imp{X:Cx}{tg:Expr}{e:Expr}{t t':TI}(h:PI X tg e t)(i:∀Z H Q,t' Z H Q->t Z H Q):PI X tg e t':=λpins s Z H Q I q=>h pins s Z H Q I (i Z H Q q)
def Zo{x:Expr}{xs:List Expr}(env:Env)(h:Zag x=Wm):Yw (x::xs) env=(Wn,eval x env)::Yw xs env:=by cases x<;>first|rfl|cases h
def Zjh{x:Expr}(env:Env)(h:Zeu x=Wm):∀v,foldedSetIterable x env v=pure v:=by cases x<;>first|(intro _;rfl)|cases h
def Zkt{x:Expr}{op:CmpOp}(h:Zeu x=Wm):behindInMarks op x=Wn:=by cases x<;>first|rfl|cases h
def ZlP{x:Expr}(h:ZfO x=Wm):ZkL x:=by cases x<;>first|(intro _ _;rfl)|cases h
def Zeh{x:Expr}{n:Str}{env:Env}(h:Zch x=Wm):attributeBase x n env (eval x env)=eval x env:=by
 cases x with
 |Call f as ks p=>
  cases as with
  |nil=>cases h
  |cons a as=>cases f<;>rfl
 |_=>rfl
def Zmh{x:Expr}{env:Env}(h:Zjr x=Wm)(hc:∀l o r p,x≠.Compare l o r p):∀whole,isTrue x env whole=(do let v <- whole;standAt x.pos;holding [v] (truthy v)):=by cases x<;>first|(intro _;rfl)|exact absurd rfl (hc _ _ _ _)|cases h
theorem Zb9(Γ:Gm)(env:Env):∀(es:Exs) (xs:List Expr),chks Γ es xs=Wm->∀pos,(YO pos (Yw xs env)).any (·.1)=Wn
 |.nil,xs,h,pos=>by
  rw[chks]at h;cases xs with
  |nil=>rfl
  |cons a b=>cases h
 |.cons e r,xs,h,pos=>by
  cases xs with
  |nil=>rw[chks]at h;cases h
  |cons x xs=>rw[chks,Oa,Oa]at h;rw[Zo env h.1.2];have:=Zb9 Γ env r xs h.2 pos;show((Wn,_)::YO pos (Yw xs env)).any (·.1)=Wn;rw[YY,this];rfl
theorem Zer(Γ:Gm)(env:Env):∀(es:Exs) (xs:List Expr),chks Γ es xs=Wm->∀pos,(YO pos (Yw xs env)).all (λx=>!x.1)=Wm
 |.nil,xs,h,pos=>by
  rw[chks]at h;cases xs with
  |nil=>rfl
  |cons a b=>cases h
 |.cons e r,xs,h,pos=>by
  cases xs with
  |nil=>rw[chks]at h;cases h
  |cons x xs=>rw[chks,Oa,Oa]at h;rw[Zo env h.1.2];have:=Zer Γ env r xs h.2 pos;show((Wn,_)::YO pos (Yw xs env)).all (λx=>!x.1)=Wm;rw[List.all_cons,this];rfl
def Gd.gl{T:Tb}{Γ:Gm}{X:Cx}{Y:Yx}{E:XK}{k:Nat}(G:Gd T Γ X Y E k){x:Str}(h:glb Γ x=Wm):Gl X x/\(x==("__debug__" : Str))=Wn:=by unfold glb at h;rw[Oa]at h;exact⟨G.glo x (of_decide_eq_true h.1),by simpa using h.2⟩
theorem ZfS{f:Str->NameKind->NameKind}(x:Str):∀names:List (Str×NameKind),(names.map λp=>(p.1,f p.1 p.2)).lookup x=(names.lookup x).map (f x)
 |[]=>rfl
 |(n,k)::r=>by
  rw[Op,OF,OF];by_cases e:x=n
  . subst e;simp
  . have:(x==n)=Wn:=by simpa using e
    simp only[this];exact ZfS x r
def Zan(scope:Scope)(env:Env)(x:Str):(relabel scope env).names.lookup x=(scope.names.lookup x).map λk=>if (k==Yo&&env.scope.kind==.function&&env.kindOf x==Wj .cell)then NameKind.cell else k:=by
 have e:(relabel scope env).names=scope.names.map λp=>(p.1,(λ(n:Str) (k:NameKind)=>if (k==Yo&&env.scope.kind==.function&&env.kindOf n==Wj .cell)then NameKind.cell else k) p.1 p.2):=by unfold relabel;simp only;refine List.map_congr_left λp _=>?_;obtain⟨n,k⟩:=p;simp only;split<;>rfl
 rw[e];exact ZfS (f:=λ(n:Str) (k:NameKind)=>if (k==Yo&&env.scope.kind==.function&&env.kindOf n==Wj .cell)then NameKind.cell else k) x scope.names
def Gd.comp{T:Tb}{Γ:Gm}{X:Cx}{Y:Yx}{E:XK}{k:Nat}(G:Gd T Γ X Y E k)(NC:List Str)(scope:Scope)(C:Yi)(s3:Yb)(H3:Hp)(fp:List Yi)(nd:NC.Nodup)(hp:ZaO (CXF X.prog X.w) (Zy X NC scope C s3 H3 fp) E):Gd T ⟨NC,scope,Γ.fs,Wn,Γ.kl⟩ (Zy X NC scope C s3 H3 fp) Y E k:=by
 refine⟨⟨G.gk.K,G.gk.mg,G.gk.gd,G.gk.g,G.gk.bare⟩,rfl,(λh=>by cases h),λx hx=>?_,λx hx=>?_,nd,rfl,G.room,G.h60,hp,G.defs,G.blt,G.room1,(λh=>by cases h),G.cls,G.mts,G.mks⟩
 . show Vis (relabel scope X.env) x;unfold Vis;rw[Zan];unfold Zno at hx;rw[Wi,Wi]at hx;rcases hx with (hx|hx)|hx
   . rw[of_decide_eq_true hx];exact .inl rfl
   . rw[of_decide_eq_true hx];exact .inr (.inl rfl)
   . rw[of_decide_eq_true hx];by_cases q:(X.env.scope.kind==.function&&X.env.kindOf x==Wj .cell)=Wm
     . refine .inr (.inl ?_);have:(Yo==Yo&&X.env.scope.kind==.function&&X.env.kindOf x==Wj .cell)=Wm:=by simpa using q
       simp only[Yt,this,if_true]
     . refine .inr (.inr ?_);have:¬ ((Yo==Yo&&X.env.scope.kind==.function&&X.env.kindOf x==Wj .cell)=Wm):=by simpa using q
       simp only[Yt,this,if_false];rfl
 . show(relabel scope X.env).names.lookup x=Wj .globalImplicit;rw[Zan,hx];rfl
section
variable {T:Tb}{Y:Yx}{E:XK}{Z:L2.St}{H:Hp}{Q:VK}
def ZnA{a b:Ex}{f:D->D->Hd->R D}{S:Ev}{h:Hd}{B:List Yi}(rh:RH Y H B h)(rs:RS Y H B S Z)(q:Fin Y (RD Y) H B ((ev T a S h).bind λx h1=>(ev T b S h1).bind λy h2=>f x y h2) Q E):
 ZbO T Y E a Z H λx H1=>ZbO T Y E b Z H1 λy H2=>rB Y E f x y H2 Q:=
 ⟨S,h,B,rh,rs,q.bind λd h1 x H1 μ1 _ g rh1 rd f1=>⟨S,h1,μ1,rh1,rs.mono rh g,f1.bind λe h2 y H2 μ2 _ g2 rh2 re f2=>⟨d,e,h2,μ2,rh2,rd.mono rh1 g2,re,f2⟩⟩⟩
end
def ZqY{T:Tb}{Γ:Gm}{X:Cx}{Y:Yx}{E:XK}{k:Nat}(G:Gd T Γ X Y E k)(f:Bf)(hb:bok f=Wm){e:Expr}{es:List Expr}{t:TA}{p pos:Pos}(hg:Gl X (Znb f))(ha:PA X (e::es) t)
 (he:Yw (e::es) X.env=(Wn,eval e X.env)::Yw es X.env) (hpl:(YO pos (Yw es X.env)).any (·.1)=Wn):PE X (.Call (.Name (Znb f) p) (e::es) [] pos) (tCB (rF Y E (ZeN T.GD f)) t):=by
 have hY:=G.gk.K;cases f with
 |len=>exact ZfL (ZoN hY) hg (G.blt _ (by decide)) (by decide +kernel) ha (by decide) (by decide) he hpl
 |isi=>exact ZfL (ZoO hY) hg (G.blt _ (by decide)) (by decide +kernel) ha (by decide) (by decide) he hpl
 |int=>exact ZgM ZoP hg (G.blt _ (by decide)) (by decide +kernel) ha (by decide) (by decide) he hpl
 |tup=>exact ZgM (ZoM hY) hg (G.blt _ (by decide)) (by decide +kernel) ha (by decide) (by decide) he hpl
 |lst=>cases hb
 |sum=>cases hb
 |all=>cases hb
 |mx=>exact ZfL (ZqZ G.calm hY) hg (G.blt _ (by decide)) (by decide +kernel) ha (by decide) (by decide) he hpl
 |srt=>cases hb
end IV
end
section
namespace IV
open PySem PySem.Spec PyProof.Rows L2
def Zm3{T:Tb}{Γ:Gm}{X:Cx}{Y:Yx}{E:XK}{k:Nat}(G:Gd T Γ X Y E k){d:D}{x:Expr}(h:Zm7 Γ d x=Wm):PE X x (ZbO T Y E (.cst d)):=by
 have go:∀{v:V},(∀H B,RD Y H B d v)->PE X x (tC v)->PE X x (ZbO T Y E (.cst d)):=λ{v} rd p=>PE.imp p λZ H Q ⟨S,h,B,rh,rs,f⟩=>Fin.ok (r:=rd H B) (show Fin Y (RD Y) H B (.ok d h) Q E from f) rh;unfold Zm7 at h;split at h
 . rename_i c q;obtain⟨k,p,rfl⟩:=Zlw q;unfold ZsK at h;split at h
   . have e:=of_decide_eq_true h;subst e;exact go (λ_ _=>.int _) Zqd
   . rw[Oa]at h;have e:=of_decide_eq_true h.1;subst e;exact go (λ_ _=>.str _ h.2) Zp9
   . have e:=of_decide_eq_true h;subst e;exact go (λ_ _=>.bl _) Zr6
   . exact go (λ_ _=>.non) Zqb
   . cases h
 . cases d with
   |ty n=>
    simp only at h;cases q:asName x with
    |none=>rw[q]at h;cases h
    |some y=>
     rw[q]at h;rw[Oa,Oa]at h;obtain⟨⟨h1,h2⟩,h3⟩:=h;obtain⟨p,rfl⟩:=Zgr q;have e:=of_decide_eq_true h2;subst e;obtain⟨g1,g2⟩:=G.gl h3;have hn:=of_decide_eq_true h1;have all:(Zka.all λn=>Wo (bootBuiltins (Str.ofString n)=Wj (.type n))&&Wo (Str.ofString n ≠ "__name__")&&Wo (Str.ofString n∈(["len", "isinstance", "int", "tuple", "list", "sum", "all", "sorted", "range", "enumerate", "reversed", "str", "bool", "max"]:List Str)))=Wm:=by decide +kernel
     rw[OC]at all;have a:=all n hn;rw[Oa,Oa]at a;exact go (λ_ _=>.ty _) (Zn3 g1 (G.blt _ (of_decide_eq_true a.2)) (of_decide_eq_true a.1.1) rfl (of_decide_eq_true a.1.2) g2)
   |_=>cases h
def R.bind_eq{α β:Type}{r:R α}{k:α->Hd->R β}{b:β}{h:Hd}(e:r.bind k=.ok b h):∃a h1,r=.ok a h1/\k a h1=.ok b h:=by
 cases r with
 |bad=>cases e
 |ok a h1=>exact⟨a,h1,rfl,e⟩
 |exc c h1=>cases e
def R.bind_assoc{α β γ:Type}{r:R α}{k:α->Hd->R β}{l:β->Hd->R γ}:(r.bind k).bind l=r.bind λa h=>(k a h).bind l:=by cases r<;>rfl
def Zqp{GD:Str->Option (List (Key×D))}{op:CmpOp}{x y r:D}{h h':Hd}(e:opC GD op x y h=.ok r h'):∃b,r=.bl b:=by
 have i2:∀{f:Int->Int->Bool},Zhf f x y h=.ok r h'->∃b,r=.bl b:=λe=>by
  unfold Zhf at e;split at e
  . cases e;exact⟨_,rfl⟩
  . cases e
 have eq:∀{n:Bool},Zdr n x y h=.ok r h'->∃b,r=.bl b:=λe=>by
  unfold IV.Zdr at e;split at e
  . split at e
    . cases e;exact⟨_,rfl⟩
    . cases e
  . cases e
 have inn:∀{n:Bool},ZbS GD n x y h=.ok r h'->∃b,r=.bl b:=λe=>by
  unfold ZbS at e;split at e
  . split at e
    . cases e;exact⟨_,rfl⟩
    . cases e
  . split at e
    . cases e;exact⟨_,rfl⟩
    . cases e
 have n1:∀{n:Bool},opN n x y h=.ok r h'->∃b,r=.bl b:=λe=>by
  unfold opN at e;split at e
  . cases e;exact⟨_,rfl⟩
  . cases e
 unfold opC at e;split at e
 . exact eq e
 . exact eq e
 . exact i2 e
 . exact i2 e
 . exact i2 e
 . exact i2 e
 . exact inn e
 . exact inn e
 . exact n1 e
 . exact n1 e
def Zsl(m:Mf):Slot "list" (Zo9 m) (mid m)/\typeOf (.builtin (mid m))=pure (.type "method_descriptor"):=by
 cases m with
 |app=>exact⟨PySem.F.slot_list_append,PySem.F.type_list_append⟩
 |ext=>exact⟨PySem.F.slot_list_extend,PySem.F.type_list_extend⟩
 |pop=>exact⟨PySem.F.slot_list_pop,PySem.F.type_list_pop⟩
 |rev=>exact⟨PySem.F.slot_list_reverse,PySem.F.type_list_reverse⟩
 |clr=>exact⟨PySem.F.slot_list_clear,PySem.F.type_list_clear⟩
section
variable {Y:Yx}{α β α' β':Type}{rel:Hp->List Yi->α->β->Prop}{rel':Hp->List Yi->α'->β'->Prop}{H0 H H1:Hp}{μ0 B μ1:List Yi}{E:XK}
def Fin.bindB{r:R α}{k:α->Hd->R α'}{Q:β'->Hp->Prop}{Q1:β->Hp->Prop}(g0:Gr H0 μ0 H B)(f:Fin Y rel' H0 μ0 (r.bind k) Q E)
 (hk:∀a h1 b H1 μ1,r=.ok a h1->Gr H B H1 μ1->RH Y H1 μ1 h1->rel H1 μ1 a b->Fin Y rel' H0 μ0 (k a h1) Q E->Q1 b H1):Fin Y rel H B r Q1 E:=by
 cases r with
 |bad=>exact f
 |ok a h=>exact λb H' μ' g' rh rl=>hk a h b H' μ' rfl g' rh rl f
 |exc c h=>exact λH' μ' C g'=>f H' μ' C (g0.trans g')
def Fin.bindAt{r:R α}{k:α->Hd->R α'}{Q:β'->Hp->Prop}{Q1:β->Hp->Prop}(g0:Gr H0 μ0 H B)(f:Fin Y rel' H0 μ0 (r.bind k) Q E)
 (hk:∀a h1 b H1 μ1,r=.ok a h1->Gr H B H1 μ1->RH Y H1 μ1 h1->rel H1 μ1 a b->Fin Y rel' H0 μ0 (k a h1) Q E->Q1 b H1):Fin Y rel H B r Q1 E:=by
 cases r with
 |bad=>exact f
 |ok a h=>exact λb H' μ' g' rh rl=>hk a h b H' μ' rfl g' rh rl f
 |exc c h=>exact λH' μ' C g'=>f H' μ' C (g0.trans g')
end
noncomputable def ZiN:List Nat->TGs
 |[]=>Zow
 |i::is=>ZiO (Zda i) (ZiN is)
noncomputable def tgR(K:Yk):Tg->TG
 |.nm i=>Zda i
 |.two i j=>Zov K 2 (ZiO (Zda i) (ZiO (Zda j) Zow))
 |.many is=>Zov K is.length (ZiN is)
theorem Zii{k:Nat}:∀is:List Nat,is.foldr max 0<k->Zjc k (ZiN is)
 |[],_=>Zkd
 |i::is,h=>by simp only[List.foldr_cons]at h;exact Zfs (by lia) (Zii is (by lia))
def Zrw(K:Yk)(g:Tg):Zlx (tgk g) (tgR K g):=by
 cases g with
 |nm i=>exact Zns (OH i)
 |two i j=>exact ZlJ (Zfs (show i<max i j+1 by lia) (Zfs (show j<max i j+1 by lia) Zkd))
 |many is=>exact ZlJ (Zii is (OH _))
theorem ZeJ{env:Env}{N:List Str}{own:Str->Bool}:∀(is:List Nat) (es:List Expr),Zef N own is es=Wm->(assignEach es env).length=is.length/\List.findIdx? (λx=>x.fst) (assignEach es env)=Wl
 |[],[],_=>⟨rfl,rfl⟩
 |i::is,e::es,h=>by
  unfold Zef at h;rw[Oa]at h;obtain⟨x,p,rfl,_⟩:=Zbp h.1;obtain⟨a,b⟩:=ZeJ (env:=env) is _ h.2;constructor
  . simp[assignEach,a]
  . simp only[assignEach,List.findIdx?_cons,b];rfl
 |[],_::_,h=>by cases h
 |_::_,[],h=>by simp[Zef]at h
theorem Ziu{X:Cx}{N:List Str}{own:Str->Bool}(hN:X.N=N)(nd:X.N.Nodup)(ho:∀x,own x=Wm->Loc X.env.scope x/\(X.fn x=Wm\/X.env.scope.names.lookup x=Wj .local)):∀(is:List Nat) (es:List Expr),Zef N own is es=Wm->PGs X es (ZiN is)
 |[],[],_=>Zkn
 |i::is,e::es,h=>by unfold Zef at h;rw[Oa]at h;obtain⟨x,p,rfl,e1,e2⟩:=Zbp h.1;obtain⟨o1,o2⟩:=ho _ e2;exact ZfK (Zfo nd (by rw[hN];exact e1) o1 o2) (Ziu hN nd ho is _ h.2)
 |[],_::_,h=>by cases h
 |_::_,[],h=>by simp[Zef]at h
def Zko{X:Cx}{N:List Str}{own:Str->Bool}{g:Tg}{tg:Expr}(hN:X.N=N)(nd:X.N.Nodup)(hc:X.calm=Wm)(ho:∀x,own x=Wm->Loc X.env.scope x/\(X.fn x=Wm\/X.env.scope.names.lookup x=Wj .local))(h:Zls N own g tg=Wm):PG X tg (tgR X.K g):=by
 cases g with
 |nm i=>obtain⟨x,p,rfl,e1,e2⟩:=Zbp h;obtain⟨o1,o2⟩:=ho _ e2;exact Zfo nd (by rw[hN];exact e1) o1 o2
 |two i j=>obtain⟨x,p,y,q,k,r,rfl,⟨a1,a2⟩,b1,b2⟩:=Zg5 h;obtain⟨o1,o2⟩:=ho _ a2;obtain⟨p1,p2⟩:=ho _ b2;exact Zmj hc (ZfK (Zfo nd (by rw[hN];exact a1) o1 o2) (ZfK (Zfo nd (by rw[hN];exact b1) p1 p2) Zkn))
 |many is=>obtain⟨es,k,r,rfl,h⟩:=ZfQ h;exact Zmj (hn:=(ZeJ _ _ h).1) (hst:=(ZeJ _ _ h).2) hc (Ziu hN nd ho _ _ h)
theorem Zku{Y:Yx}{H:Hp}{B:List Yi}{Q:L2.St->Hp->Prop}:∀(is:List Nat) {ds:List D}{vs:List V}{S:Ev}{Z:L2.St},RDs Y H B ds vs->RS Y H B S Z->ds.length=is.length->(∀σ1,RS Y H B (Zji is ds S) σ1->Q σ1 H)->ZiN is vs Z H Q
 |[],ds,vs,S,Z,r,rs,hl,q=>by
  cases r with
  |nil=>exact⟨rfl,q _ rs⟩
  |cons a s=>simp at hl
 |i::is,ds,vs,S,Z,r,rs,hl,q=>by
  cases r with
  |nil=>simp at hl
  |cons a s=>exact⟨_,_,rfl,Zku is s (rs.set a) (by simpa using hl) q⟩
def ZhR{Y:Yx}{K:Yk}{H:Hp}{B:List Yi}{g:Tg}{d:D}{v:V}{S ρ1:Ev}{Z:L2.St}{Q:L2.St->Hp->Prop}(hY:Y.K=K)(r:RD Y H B d v)(rs:RS Y H B S Z)(e:ZbX g d S=Wj ρ1)(q:∀σ1,RS Y H B ρ1 σ1->Q σ1 H):tgR K g v Z H Q:=by
 cases g with
 |nm i=>cases e;exact q _ (rs.set r)
 |two i j=>
  unfold ZbX at e;simp only at e;split at e
  . cases e;obtain⟨a,vs,rfl,t,s⟩:=r.tup_inv;obtain⟨x,y,rfl,r1,r2⟩:=s.two;exact⟨a,_,rfl,hY ▸ t,rfl,x,_,rfl,y,_,rfl,rfl,q _ ((rs.set r1).set r2)⟩
  . cases e
 |many is=>
  unfold ZbX at e;simp only at e;split at e
  . split at e
    . rename_i hl;cases e;obtain⟨a,vs,rfl,t,s⟩:=r.tup_inv;exact⟨a,vs,rfl,hY ▸ t,by rw[<- s.length,hl],Zku is s rs hl q⟩
    . cases e
  . cases e
section
variable {Y:Yx}{H:Hp}{B:List Yi}{h:Hd}{Dd:Yi}{ys zs:List V}
def ZlM{K:Yk}(hD:H Dd=Wj (.lst ys)){a:Yi}{vs:List V}(t:SqT K H a vs):SqT K (upd H Dd (.lst zs)) a vs:=by
 rcases t with t|t
 . rcases t with t|⟨o,t⟩
   . exact .inl (.inl (by rw[Zc (λz=>by rw[z,hD]at t;cases t)];exact t))
   . exact .inl (.inr ⟨o,by rw[Zc (λz=>by rw[z,hD]at t;cases t)];exact t⟩)
 . exact .inr t
def ZmM{K:Yk}(hD:H Dd=Wj (.lst ys)){a:Yi}{vs:List V}(t:FzL K H a vs):FzL K (upd H Dd (.lst zs)) a vs:=by
 rcases t with ⟨o,t⟩|t
 . exact .inl ⟨o,by rw[Zc (λz=>by rw[z,hD]at t;cases t)];exact t⟩
 . exact .inr t
mutual
theorem RD.swap(hD:H Dd=Wj (.lst ys)):∀{d:D}{v:V},RD Y H B d v->RD Y (upd H Dd (.lst zs)) B d v
 |_,_,.non=>.non
 |_,_,.bl b=>.bl b
 |_,_,.int i=>.int i
 |_,_,.str x ok=>.str x ok
 |_,_,.tup t s=>.tup (ZlM hD t) (RDs.swap hD s)
 |_,_,.ref e=>.ref e
 |_,_,.ty n=>.ty n
 |_,_,.ro t s=>.ro (ZmM hD t) (RDs.swap hD s)
 |_,_,.kd e=>.kd e
theorem RDs.swap(hD:H Dd=Wj (.lst ys)):∀{d:List D}{v:List V},RDs Y H B d v->RDs Y (upd H Dd (.lst zs)) B d v
 |_,_,.nil=>.nil
 |_,_,.cons a s=>.cons (RD.swap hD a) (RDs.swap hD s)
end
theorem RKs.swap{κ:Type}(hD:H Dd=Wj (.lst ys)):∀{d:List (κ×D)}{v:List (κ×V)},RKs Y H B d v->RKs Y (upd H Dd (.lst zs)) B d v
 |_,_,.nil=>.nil
 |_,_,.cons a s=>.cons (a.swap hD) (s.swap hD)
theorem RH.swap(hD:H Dd=Wj (.lst ys))(hn:Dd ∉ B)(r:RH Y H B h):RH Y (upd H Dd (.lst zs)) B h:=by
 refine⟨r.len,r.nd,λi o a e1 e2=>?_,r.ks⟩;have ne:a≠Dd:=λz=>hn (z ▸ O0 e2);have q:=r.ob i o a e1 e2;cases o with
 |lst ds=>obtain⟨vs,z,s⟩:=q;exact⟨vs,by rw[Zc ne];exact z,s.swap hD⟩
 |dic ds=>obtain⟨vs,z,s⟩:=q;exact⟨vs,by rw[Zc ne];exact z,s.swap hD⟩
 |ins C ds=>obtain⟨a1,a2,a3,z,m,s⟩:=q;exact⟨a1,a2,a3,by rw[Zc ne];exact z,m,s.swap hD⟩
 |fdic ds=>obtain⟨o,vs,z,s⟩:=q;exact⟨o,vs,by rw[Zc ne];exact z,s.swap hD⟩
def Gr.out{H':Hp}{μ':List Yi}(g:Gr H B H' μ'){o:HO}(hD:H Dd=Wj o)(hn:Dd ∉ B):H' Dd=Wj o/\Dd ∉ μ':=⟨g.keep _ _ hn hD,λhm=>(g.new _ hm).elim hn λz=>by rw[hD]at z;cases z⟩
end
section
variable {Y:Yx}{H:Hp}{B:List Yi}{p:Yi}
mutual
theorem RD.more:∀{d:D}{v:V},RD Y H B d v->RD Y H (B++[p]) d v
 |_,_,.non=>.non
 |_,_,.bl b=>.bl b
 |_,_,.int i=>.int i
 |_,_,.str x ok=>.str x ok
 |_,_,.tup t s=>.tup t (RDs.more s)
 |_,_,.ref e=>.ref (by rw[Oe (Ob.mp e).1];exact e)
 |_,_,.ty n=>.ty n
 |_,_,.ro t s=>.ro t (RDs.more s)
 |_,_,.kd e=>.kd e
theorem RDs.more:∀{d:List D}{v:List V},RDs Y H B d v->RDs Y H (B++[p]) d v
 |_,_,.nil=>.nil
 |_,_,.cons a s=>.cons (RD.more a) (RDs.more s)
end
theorem RKs.more{κ:Type}:∀{d:List (κ×D)}{v:List (κ×V)},RKs Y H B d v->RKs Y H (B++[p]) d v
 |_,_,.nil=>.nil
 |_,_,.cons a s=>.cons a.more s.more
theorem RO.more{a:Yi}{o:DO}(q:RO Y H B a o):RO Y H (B++[p]) a o:=by
 cases o with
 |lst ds=>obtain⟨vs,z,s⟩:=q;exact⟨vs,z,s.more⟩
 |dic ds=>obtain⟨vs,z,s⟩:=q;exact⟨vs,z,s.more⟩
 |ins C ds=>obtain⟨a1,a2,a3,z,m,s⟩:=q;exact⟨a1,a2,a3,z,m,s.more⟩
 |fdic ds=>obtain⟨o,vs,z,s⟩:=q;exact⟨o,vs,z,s.more⟩
end
def ZkF{T:Tb}{Y:Yx}{E:XK}{K:Yk}(hY:Y.K=K){js:List (Option Nat)}{g:Tg}{c:Option Tx}{e:Ex}{tc:TT}{J:It}{w:Wk}{H1:Hp}{μ1:List Yi}{h1:Hd}{S:Ev}{Z:L2.St}{Q:VK}{Dd:Yi}
 (htc:∀Z H Q,(∃S h B,RH Y H B h/\RS Y H B S Z/\Fin Y (λ_ _ (a b:Bool)=>a=b) H B (tsto T c S h) Q E)->tc Z H Q)
 (rh:RH Y H1 μ1 h1) (rs:RS Y H1 μ1 S Z) (wj:WJ Y H1 μ1 w J) (f:Fin Y (RD Y) H1 μ1 ((ZaC w.src g (tsto T c) (ev T e) w.xs (ZdH js S) [] h1).bind λxs h2=>ZcS (.lst xs) h2) Q E) (hD:H1 Dd=Wl) :
 ∃W:Nat->Nat->List V->Hp->Prop,(∃m,W 0 m [] (upd H1 Dd (.lst []))) /\
  ∀i m ys H,W i m ys H->H Dd=Wj (.lst ys)->(J.stop i H/\Q (.ref Dd) H) \/
   (J.go i H/\ys.length<sizeLine/\∀x H',J.yld i H x H'->tgR K g x (capt js Z) H' λσ2 H2=>tc σ2 H2 λb H3=>
    if b=Wm then ZbO T Y E e σ2 H3 λy H4=>H4 Dd=Wj (.lst ys)/\∃m',m'<m/\W (i+1) m' (ys++[y]) (upd H4 Dd (.lst (ys++[y])))
    else H3 Dd=Wj (.lst ys)/\∃m',m'<m/\W (i+1) m' ys H3):=by
 have n1:Dd ∉ μ1:=λz=>by have:=rh.mut z;rw[hD]at this;exact this
 refine⟨λi m ys H=>∃acc h B,i<=w.xs.length/\m=w.xs.length - i/\Gr H1 μ1 H B/\RH Y H B h/\RDs Y H B acc ys/\Dd ∉ B /\
  Fin Y (RD Y) H1 μ1 ((ZaC w.src g (tsto T c) (ev T e) (w.xs.drop i) (ZdH js S) acc h).bind λxs h2=>ZcS (.lst xs) h2) Q E,⟨w.xs.length,[],h1,μ1,Yv _,by simp,Gr.lay0 hD,rh.lay0 hD,.nil,n1,f⟩,?_⟩
 rintro i m ys H ⟨acc,h,B,hi,rfl,g1,rh1,ra,nD,f1⟩ hl;by_cases hlt:i<w.xs.length
 . obtain⟨d,hd⟩:∃d,w.xs[i]? = Wj d:=⟨_,Og hlt⟩
   have hdrop:w.xs.drop i=d::w.xs.drop (i+1):=by rw[List.drop_eq_getElem_cons hlt];have:=Og hlt;rw[hd]at this;rw[<- YC this]
   rw[hdrop,ZaC]at f1;by_cases hs:Wk.stays w.src h=Wm/\acc.length<sizeLine
   . rw[if_pos hs]at f1;obtain⟨go,yl⟩:=(wj H B h g1 rh1 hs.1).1 i d hd;refine .inr ⟨go,by rw[<- ra.length];exact hs.2,λx H' hy=>?_⟩;obtain⟨g2,rh2,rx⟩:=yl x H' hy;obtain⟨hl2,nD2⟩:=g2.out hl nD;have g02:=g1.trans g2;split at f1
     . exact f1.elim
     . rename_i ρ1 hb;refine ZhR hY rx ((rs.mono rh g02).capt js) hb λσ1 rs1=>htc σ1 H' _ ⟨ρ1,h,B,rh2,rs1,?_⟩;rw[R.bind_assoc]at f1;refine Fin.bindAt g02 f1 λb h3 b' H3 μ3 _ g3 rh3 eb f3=>?_;subst eb;obtain⟨hl3,nD3⟩:=g3.out hl2 nD2;have g03:=g02.trans g3;cases b with
       |true=>
        rw[if_pos rfl]at f3 ⊢;rw[R.bind_assoc]at f3;refine⟨ρ1,h3,μ3,rh3,rs1.mono rh2 g3,Fin.bindAt g03 f3 λy h4 y' H4 μ4 _ g4 rh4 ry f4=>?_⟩;obtain⟨hl4,nD4⟩:=g4.out hl3 nD3;refine⟨hl4,_,Nat.sub_lt_sub_left hlt (OH i),acc++[y],h4,μ4,hlt,rfl,?_,rh4.swap hl4 nD4,?_,nD4,f4⟩
        . have g04:=g03.trans g4;exact⟨g04.pre,g04.new,λb o hb e=>by rw[Zc (λz=>by rw[z,hD]at e;cases e)];exact g04.keep b o hb e,λb u v e=>by rw[Zc (λz=>by rw[z,hD]at e;cases e)];exact g04.fz b u v e⟩
        . exact((((ra.mono rh1 g2).mono rh2 g3).mono rh3 g4).append (.cons ry .nil)).swap hl4
       |false=>rw[if_neg (by decide)]at f3 ⊢;exact⟨hl3,_,Nat.sub_lt_sub_left hlt (OH i),acc,h3,μ3,hlt,rfl,g03,rh3,(ra.mono rh1 g2).mono rh2 g3,nD3,f3⟩
   . rw[if_neg hs]at f1;exact f1.elim
 . have he:i=w.xs.length:=by lia
   subst he;rw[List.drop_eq_nil_of_le (Oq _),ZaC]at f1;by_cases hs:Wk.stays w.src h=Wm
   . rw[if_pos hs]at f1;refine .inl ⟨(wj H B h g1 rh1 hs).2,?_⟩;have f2:Fin Y (RD Y) H1 μ1 (.ok (.ref h.length) (h++[.lst acc])) Q E:=f1;have gg:Gr H B H (B++[Dd])->True:=λ_=>trivial;have g3:Gr H1 μ1 H (B++[Dd]):=by
      refine⟨λj a e=>?_,λa ha=>?_,g1.keep,g1.fz⟩
      . have:=g1.pre j a e;rw[Oe (Ob.mp this).1];exact this
      . rcases OD.mp ha with z|z
        . exact g1.new a z
        . rw[Ox.mp z];exact .inr hD
     refine f2.at g3 ?_ (.ref (by rw[rh1.len];simp));have pre:∀{d:D}{v:V},RD Y H B d v->RD Y H (B++[Dd]) d v:=λr=>r.more;refine⟨by simp[rh1.len],?_,λj o a e1 e2=>?_,ZjB rh1.ks trivial⟩
     . rw[List.nodup_append];refine⟨rh1.nd,by simp,λa ha b hb=>?_⟩;rw[Ox.mp hb];intro z;exact nD (z ▸ ha)
     . by_cases hj:j<h.length
       . rw[Oe hj]at e1;rw[Oe (by rw[<- rh1.len];exact hj)]at e2;exact(rh1.ob j o a e1 e2).more
       . have hj':j=h.length:=by
          have:=(Ob.mp e1).1;simp at this
          lia
         subst hj';rw[Om (Oq _)]at e1;rw[Om (by rw[rh1.len];exact Oq _)]at e2;simp[rh1.len]at e1 e2;subst e1;subst e2;exact⟨ys,hl,ra.more⟩
   . rw[if_neg hs]at f1;exact f1.elim
end IV
end
section
namespace IV
open PySem PySem.Spec PyProof.Rows L2
section
variable {Y:Yx}{H:Hp}{B:List Yi}{h:Hd}
theorem RKs.look{f:Str}:∀{fs:List (Str×D)}{gs:List (Str×V)},RKs Y H B fs gs->(∀d,fs.lookup f=Wj d->∃v,gs.lookup f=Wj v/\RD Y H B d v)/\(fs.lookup f=Wl->gs.lookup f=Wl)
 |_,_,.nil=>⟨λd e=>by simp at e,λ_=>rfl⟩
 |_,_,.cons (k:=k) (d:=d0) (v:=v0) a s=>by
  by_cases e:f=k
  . subst e;exact⟨λd z=>by simp at z;subst z;exact⟨_,by simp,a⟩,λz=>by simp at z⟩
  . have b:(f==k)=Wn:=by simpa using e
    obtain⟨q1,q2⟩:=RKs.look (f:=f) s;refine⟨λd z=>?_,λz=>?_⟩
    . rw[OF,b]at z ⊢;exact q1 d z
    . rw[OF,b]at z ⊢;exact q2 z
theorem RKs.putAF{f:Str}{d:D}{v:V}(r:RD Y H B d v):∀{fs:List (Str×D)}{gs:List (Str×V)},RKs Y H B fs gs->RKs Y H B (Zhd f d fs) (Zb2 f v gs)
 |_,_,.nil=>.cons r .nil
 |_,_,.cons (k:=k) a s=>by
  unfold Zhd Zb2;by_cases e:k=f
  . rw[if_pos e,if_pos e];exact .cons r s
  . rw[if_neg e,if_neg e];exact .cons a (RKs.putAF r s)
def Zf1(rh:RH Y H B h){d:D}{v:V}{C:Str}{fs:List (Str×D)}(r:RD Y H B d v)(e:Zq d h=Wj (C,fs)):∃i a Ca dx gs,d=.ref i/\v=.ref a/\B[i]? = Wj a/\h[i]? = Wj (.ins C fs)/\H a=Wj (.ins Ca dx gs)/\Y.mg C=Wj (.ref Ca)/\RKs Y H B fs gs:=by
 unfold Zq at e;split at e
 . rename_i i;split at e
   . rename_i C' fs' hi;cases e;cases r with
     |ref q=>rename_i a;obtain⟨Ca,dx,gs,z,m,s⟩:=rh.ob i _ a hi q;exact⟨i,a,Ca,dx,gs,rfl,rfl,q,hi,z,m,s⟩
   . cases e
 . cases e
def Zon{C:Str}{x dx Ca:Yi}(rh:RH Y H B h)(hx:H x=Wl)(hd:H dx=Wl)(ne:dx≠x)(m:Y.mg C=Wj (.ref Ca)):RH Y (upd (upd H dx (.own x)) x (.ins Ca dx [])) (B++[x]) (h++[.ins C []])/\Gr H B (upd (upd H dx (.own x)) x (.ins Ca dx [])) (B++[x]):=by
 have hx':upd H dx (.own x) x=Wl:=by rw[Zc (λz=>ne z.symm)];exact hx
 exact⟨(rh.lay0 hd).lay hx' ⟨Ca,dx,[],Zl,m,.nil⟩,(Gr.lay0 hd).trans (Gr.lay hx')⟩
end
def Zle{o:Expr}{name:Str}{apos pos:Pos}{args:List Expr}{env:Env}(hbase:attributeBase o name env (eval o env)=eval o env)
 (hform:methodCallForm (args.length+([]:List Keyword).length) (YO pos (Yw args env)) (backToKw pos (YW [] env))=Wm) (hline:(apos.endLine==pos.line)=Wm) :
 eval (.Call (.Attribute o name apos) args [] pos) env=(do
  let ov <- eval o env
  standAt apos.atName
  let (f,first) <- holding [ov] (getMethod ov name (do return (<- importBound o env).getD Wm))
  callWith pos f first (YO pos (Yw args env)) (backToKw pos (YW [] env))):=by
 have hpos:methodCallPos Wm o env apos pos=pure pos:=by unfold methodCallPos;simp[hline]
 rw[arm_eval_Call,hbase];unfold methodCall;simp only[hform,hpos];rfl
section
variable {T:Tb}{Γ:Gm}{X:Cx}{Y:Yx}{E:XK}{k:Nat}
def Zq5(G:Gd T Γ X Y E k){Cs:List Str}{f:Str}(hc:(Cs.all λC=>Wo (C∈Γ.kl.cs))=Wm)(hf:f∈Γ.kl.ats){H:Hp}{B:List Yi}{h:Hd}{d:D}{x:V}{Q:VK}(rh:RH Y H B h)(rd:RD Y H B d x)(ff:Fin Y (RD Y) H B (ZaY Cs f d h) Q E):
 ∃a C dx fs v,x=.ref a/\H a=Wj (.ins C dx fs)/\Cls X.K C/\Z6 X.K C f/\fs.lookup f=Wj v/\Q v H:=by
 unfold ZaY at ff;split at ff
 . rename_i C fs e;obtain⟨hC,ff⟩:=ff.iff;obtain⟨i,a,Ca,dx,gs,rfl,rfl,q,hi,z,m,s⟩:=Zf1 rh rd e;obtain⟨w,e1,ff⟩:=ff.ofO;obtain⟨v,l,rv⟩:=(s.look (f:=f)).1 w e1;rw[OC]at hc;obtain⟨Ca',m',cl,na⟩:=G.cls C (of_decide_eq_true (hc C hC));rw[G.gk.mg,m']at m;cases m;exact⟨a,Ca,dx,gs,v,rfl,z,cl,na f hf,l,ff.ok rh rv⟩
 . exact ff.elim
def ZlS(G:Gd T Γ X Y E k){Cs:List Str}{f:Str}(hc:(Cs.all λC=>Wo (C∈Γ.kl.cs))=Wm)(hf:f∈Γ.kl.ats){H:Hp}{B:List Yi}{h:Hd}{d e:D}{x y:V}{Q:VK}(rh:RH Y H B h)(rd:RD Y H B d x)(re:RD Y H B e y)(ff:Fin Y (RD Y) H B (Zfa Cs f d e h) Q E):
 ∃a C dx fs,x=.ref a/\H a=Wj (.ins C dx fs)/\Cls X.K C/\Z6 X.K C f/\fs.length<1000/\Q .non (upd H a (.ins C dx (Zb2 f y fs))):=by
 unfold Zfa at ff;split at ff
 . rename_i i;split at ff
   . rename_i C fs hi;obtain⟨⟨hC,hl⟩,ff⟩:=ff.iff;obtain⟨i',a,Ca,dx,gs,e1,rfl,q,hi',z,m,s⟩:=Zf1 rh rd (show Zq (.ref i) h=Wj (C,fs) by simp[Zq,hi]);cases e1;rw[OC]at hc;obtain⟨Ca',m',cl,na⟩:=G.cls C (of_decide_eq_true (hc C hC));have m0:=m;rw[G.gk.mg,m']at m;cases m;refine⟨a,Ca,dx,gs,rfl,z,cl,na f hf,by rw[<- s.length];exact hl,ff.at (Gr.write (O0 q) (by rw[z];trivial)) (rh.write q ?_ (by rw[z];trivial)) .non⟩;exact⟨Ca,dx,_,Zl,m0,(RKs.putAF re s).mono rh (Gr.write (O0 q) (by rw[z];trivial))⟩
   . exact ff.elim
 . exact ff.elim
def Zsm(G:Gd T Γ X Y E k){C:Str}{es:Exs}{ys:List Expr}{p pos:Pos}(h2:C∈Γ.kl.is)(h3:glb Γ C=Wm)(h4:chks Γ es ys=Wm)(ha:PA X ys (Znz T Y E es)):PE X (.Call (.Name C p) ys [] pos) (ZbO T Y E (.mk C es)):=by
 obtain⟨a,f,fd,ps,m,M,F,B_⟩:=G.mks _ h2;obtain⟨g1,g2⟩:=G.gl h3;have key:∀(ds:List D) (h1:Hd) (xs:List V) (H1:Hp) (μ1:List Yi) (Q:VK),RH Y H1 μ1 h1->RDs Y H1 μ1 ds xs->Fin Y (RD Y) H1 μ1 (ZfP T.C C ds h1) Q E->∀x dx,H1 x=Wl->H1 dx=Wl->dx≠x ->
  Ze9 T Y (mnm C (O "__init__")) (.ref x::(xs++[])) (upd (upd H1 dx (.own x)) x (.ins a dx [])) (λv H2=>v=.non/\Q (.ref x) H2) E:=by
  intro ds h1 xs H1 μ1 Q rh1 rds f1 x dx hx hd ne;obtain⟨rh2,g2⟩:=Zon (C:=C) (Ca:=a) rh1 hx hd ne (by rw[G.gk.mg];exact m);have px:(μ1++[x])[h1.length]? = Wj x:=by rw[rh1.len];simp
  refine⟨.ref h1.length::ds,h1++[.ins C []],μ1++[x],rh2,.cons (.ref px) (by rw[Yr];exact rds.mono rh1 g2),?_⟩;refine Fin.bind (Fin.mono g2 f1) λd h3 v H3 μ3 _ g3 rh3 rd3 f3=>?_;cases d with
  |non=>cases rd3;exact⟨rfl,f3.ok rh3 (.ref (g3.pre _ _ px))⟩
  |_=>exact f3.elim
 cases ys with
 |nil=>
  cases es with
  |nil=>exact(Zmn M F G.room1 g1 m B_ .nil G.pass g2).imp λZ H Q ⟨S,h,B,rh,rs,f⟩=>key [] h [] H B Q rh .nil f
  |cons e r=>unfold chks at h4;cases h4
 |cons y ys=>
  have st:Zag y=Wm:=by
   cases es with
   |nil=>unfold chks at h4;cases h4
   |cons e r=>unfold chks at h4;rw[Oa,Oa]at h4;exact h4.1.2
  have sp:∀pos,(YO pos (Yw ys X.env)).any (·.1)=Wn:=by
   cases es with
   |nil=>unfold chks at h4;cases h4
   |cons e r=>unfold chks at h4;rw[Oa,Oa]at h4;exact Zb9 Γ X.env r ys h4.2
  exact(ZnX M F G.room1 g1 m B_ .nil G.pass ha g2 (Zo X.env st) (sp _)).imp λZ H Q ⟨S,h,B,rh,rs,f⟩=>⟨S,h,B,rh,rs,Fin.bind f λds h1 xs H1 μ1 _ g rh1 rds f1=>key ds h1 xs H1 μ1 Q rh1 rds f1⟩
def Zqv(G:Gd T Γ X Y E k){C n:Str}{o:Ex}{es:Exs}{xo:Expr}{ys:List Expr}{ap cp:Pos}(h5:(C,n)∈Γ.kl.ms)(h3:Zch xo=Wm)(h4:chks Γ es ys=Wm)(h6:ys.length<29)(h7:(ap.endLine==cp.line)=Wm)(ho:PE X xo (ZbO T Y E o))(ha:PA X ys (Znz T Y E es)):
 PE X (.Call (.Attribute xo n ap) ys [] cp) (ZbO T Y E (.mcl C n o es)):=by
 obtain⟨a,f,fd,ps,mm,c,hm,F,B_⟩:=G.mts _ h5;have hform:methodCallForm (ys.length+([]:List Keyword).length) (YO cp (Yw ys X.env)) (backToKw cp (YW [] X.env))=Wm:=by
  unfold methodCallForm;rw[Zer Γ X.env es ys h4];have h30:Wo (ys.length+([]:List Keyword).length+(if (backToKw cp (YW [] X.env)).isEmpty then 0 else 1)<30)=Wm:=by
   rw[decide_eq_true_eq];show ys.length+0+0<30
   lia
  rw[h30];rfl
 have ht:=Zle (o:=xo) (name:=n) (apos:=ap) (pos:=cp) (args:=ys) (env:=X.env) (Zeh h3) hform h7;have key:∀(d:D) (h1:Hd) (x:V) (H1:Hp) (μ1:List Yi) (S:Ev) (Z:L2.St) (Q:VK),RH Y H1 μ1 h1->RS Y H1 μ1 S Z->RD Y H1 μ1 d x->Fin Y (RD Y) H1 μ1 (match Zq d h1 with
  |some (C',fs)=>if C'=C/\fs.lookup n=Wl then(evs T es S h1).bind λxs h2=>T.C (mnm C n) (d::xs) h2 else .bad
  |none=>.bad) Q E->∃b dx fs,x=.ref b/\H1 b=Wj (.ins a dx fs)/\fs.lookup n=Wl/\Znz T Y E es Z H1 λvs H2=>Ze9 T Y (mnm C n) (x::(vs++[])) H2 Q E:=by
  intro d h1 x H1 μ1 S Z Q rh1 rs1 rd f1;split at f1
  . rename_i C' fs e;obtain⟨⟨e1,e2⟩,f1⟩:=f1.iff;subst e1;obtain⟨i,b,Ca,dx,gs,rfl,rfl,q,hi,z,m',s⟩:=Zf1 rh1 rd e;rw[G.gk.mg,mm]at m';cases m';refine⟨b,dx,gs,rfl,z,(s.look (f:=n)).2 e2,S,h1,μ1,rh1,rs1,f1.bind λds h2 vs H2 μ2 _ g2 rh2 rds f2=>⟨_,h2,μ2,rh2,.cons (rd.mono rh1 g2) (by rw[Yr];exact rds),f2⟩⟩
  . exact f1.elim
 cases ys with
 |nil=>
  cases es with
  |nil=>
   refine(Zmm ho c hm F G.room B_ .nil G.pass ht).imp λZ H Q ⟨S,h,B,rh,rs,f⟩=>⟨S,h,B,rh,rs,Fin.bind f λd h1 x H1 μ1 _ g rh1 rd f1=>?_⟩
   obtain⟨b,dx,fs,e1,e2,e3,ρ',h',μ',rh',rs',f'⟩:=key d h1 x H1 μ1 S Z Q rh1 (rs.mono rh g) rd f1;exact⟨b,dx,fs,e1,e2,e3,f'.ok rh' .nil⟩
  |cons e r=>unfold chks at h4;cases h4
 |cons y ys=>
  have st:Zag y=Wm:=by
   cases es with
   |nil=>unfold chks at h4;cases h4
   |cons e r=>unfold chks at h4;rw[Oa,Oa]at h4;exact h4.1.2
  have sp:∀pos,(YO pos (Yw ys X.env)).any (·.1)=Wn:=by
   cases es with
   |nil=>unfold chks at h4;cases h4
   |cons e r=>unfold chks at h4;rw[Oa,Oa]at h4;exact Zb9 Γ X.env r ys h4.2
  exact(ZnW ho c hm F G.room B_ .nil G.pass ha (Zo X.env st) (sp _) ht).imp λZ H Q ⟨S,h,B,rh,rs,f⟩=>⟨S,h,B,rh,rs,Fin.bind f λd h1 x H1 μ1 _ g rh1 rd f1=>key d h1 x H1 μ1 S Z Q rh1 (rs.mono rh g) rd f1⟩
end
section
variable {X:Cx}{Y:Yx}{E:XK}{H:Hp}{B:List Yi}{h:Hd}
theorem Zkf:∀{xs:List D}{vs:List V}{ss:List Str},RDs Y H B xs vs->strsOf xs=Wj ss->vs=ss.map .str
 |[],vs,ss,r,e=>by cases r;cases e;rfl
 |d::ds,vs,ss,r,e=>by
  cases r with
  |cons r1 r2=>
   cases r1 with
   |str x ok=>rw[strsOf]at e;obtain⟨t,e1,rfl⟩:=Oo.mp e;rw[Zkf r2 e1];rfl
   |_=>cases e
def ZpA(hY:Y.K=X.K){a b:Yi}{xs:List D}{vs:List V}{y:D}{v:V}{Q:V->Hp->Prop}(ea:V.ref a=.ref b)(t:SqT Y.K H b vs)(s:RDs Y H B xs vs)(rh:RH Y H B h)(ry:RD Y H B y v)
 (f:Fin Y (RD Y) H B (Zlv (.tup xs) y h) Q E):Zjn X.K (.ref a) [v] H Q:=by
 cases ry with
 |str z ok=>
  unfold Zlv at f;simp only at f;split at f
  . rename_i ss e;obtain⟨d,e1,f⟩:=f.ofO;obtain⟨j,e2,rfl⟩:=Oo.mp e1;have ev:=Zkf s e;subst ev;exact⟨b,ss,z,j,ea,rfl,hY ▸ t,e2,f.ok rh (.int _)⟩
  . exact f.elim
 |_=>exact f.elim
end
end IV
end
section
namespace IV
open PySem PySem.Spec PyProof.Rows L2
def ZoG{T:Tb}{Γ:Gm}{X:Cx}{Y:Yx}{E:XK}{k:Nat}(G:Gd T Γ X Y E k){op:CmpOp}{a b:Ex}{l r:Expr}{pos:Pos}(ha:PE X l (ZbO T Y E a))(hb:PE X r (ZbO T Y E b))(hm:Zeu r=Wm):PT X (.Compare l [op] [r] pos) (ZlU T Y E (.ex (.cmp op a b))):=by refine(ZnL (Zms (E:=E) G.room G.h60 G.gk op) ha hb (Zkt hm)).imp λZ H Q ⟨S,h,B,rh,rs,f⟩=>ZnA (f:=opC T.GD op) rh rs ?_;refine Fin.bind (show Fin Y _ H B ((ev T (.cmp op a b) S h).bind λx h1=>R.ofO (Zb1 T.GD x h1) h1) Q E from f) λd h1 x H1 μ1 er g rh1 rd f1=>?_;obtain⟨_,_,_,er⟩:=R.bind_eq (show(ev T a S h).bind _=.ok d h1 from er);obtain⟨_,_,_,er⟩:=R.bind_eq er;obtain⟨c,rfl⟩:=Zqp er;cases rd;exact⟨c,rfl,Fin.ok (show Fin Y _ H1 μ1 (.ok c h1) Q E from f1) rh1 rfl⟩
def ZoI{Γ:Gm}{e:Ex}{l:Expr}{o:List CmpOp}{r:List Expr}{p:Pos}(h:chk Γ e (.Compare l o r p)=Wm):(∃op a b,e=.cmp op a b)\/(∃o1 o2 a b c,e=.cmp2 o1 o2 a b c)\/(∃a b,e=.lin a b):=by
 cases e with
 |lin a b=>exact .inr (.inr ⟨a,b,rfl⟩)
 |cmp op a b=>exact .inl ⟨op,a,b,rfl⟩
 |cmp2 o1 o2 a b c=>exact .inr (.inl ⟨o1,o2,a,b,c,rfl⟩)
 |cst d=>cases d<;>(unfold chk Zm7 at h;cases h)
 |_=>unfold chk at h;cases h
def Zk1{T:Tb}{Γ:Gm}{X:Cx}{Y:Yx}{E:XK}{k:Nat}(G:Gd T Γ X Y E k){e:Ex}{x:Expr}(he:PE X x (ZbO T Y E e))(h1:Zjr x=Wm)(hx:∀l o r p,x≠.Compare l o r p):PT X x (ZlU T Y E (.ex e)):=by
 refine(Zmb he (Zmh h1 hx)).imp λZ H Q ⟨S,h,B,rh,rs,f⟩=>⟨S,h,B,rh,rs,Fin.bind (show Fin Y _ H B ((ev T e S h).bind λx h1=>R.ofO (Zb1 T.GD x h1) h1) Q E from f) λd h1 x H1 μ1 er g rh1 rd f1=>?_⟩
 obtain⟨b,eb,f1⟩:=f1.ofO;exact⟨b,Znr G.gk.K rh1 rd eb,f1.ok rh1 rfl⟩
noncomputable def Zkc(T:Tb)(Y:Yx)(E:XK):Exs->List (TE×TE)
 |.nil=>[]
 |.cons k r=>match r with
  |.nil=>[]
  |.cons v r'=>(ZbO T Y E k,ZbO T Y E v)::Zkc T Y E r'
section
variable {Y:Yx}{H:Hp}{B:List Yi}{h:Hd}{Dd:Yi}{ys zs:List (Key×V)}
def ZkQ{K:Yk}(hD:H Dd=Wj (.dK ys)){a:Yi}{vs:List V}(t:SqT K H a vs):SqT K (upd H Dd (.dK zs)) a vs:=by
 rcases t with t|t
 . rcases t with t|⟨o,t⟩
   . exact .inl (.inl (by rw[Zc (λz=>by rw[z,hD]at t;cases t)];exact t))
   . exact .inl (.inr ⟨o,by rw[Zc (λz=>by rw[z,hD]at t;cases t)];exact t⟩)
 . exact .inr t
def Zlq{K:Yk}(hD:H Dd=Wj (.dK ys)){a:Yi}{vs:List V}(t:FzL K H a vs):FzL K (upd H Dd (.dK zs)) a vs:=by
 rcases t with ⟨o,t⟩|t
 . exact .inl ⟨o,by rw[Zc (λz=>by rw[z,hD]at t;cases t)];exact t⟩
 . exact .inr t
mutual
theorem RD.swapD(hD:H Dd=Wj (.dK ys)):∀{d:D}{v:V},RD Y H B d v->RD Y (upd H Dd (.dK zs)) B d v
 |_,_,.non=>.non
 |_,_,.bl b=>.bl b
 |_,_,.int i=>.int i
 |_,_,.str x ok=>.str x ok
 |_,_,.tup t s=>.tup (ZkQ hD t) (RDs.swapD hD s)
 |_,_,.ref e=>.ref e
 |_,_,.ty n=>.ty n
 |_,_,.ro t s=>.ro (Zlq hD t) (RDs.swapD hD s)
 |_,_,.kd e=>.kd e
theorem RDs.swapD(hD:H Dd=Wj (.dK ys)):∀{d:List D}{v:List V},RDs Y H B d v->RDs Y (upd H Dd (.dK zs)) B d v
 |_,_,.nil=>.nil
 |_,_,.cons a s=>.cons (RD.swapD hD a) (RDs.swapD hD s)
end
theorem RKs.swapD{κ:Type}(hD:H Dd=Wj (.dK ys)):∀{d:List (κ×D)}{v:List (κ×V)},RKs Y H B d v->RKs Y (upd H Dd (.dK zs)) B d v
 |_,_,.nil=>.nil
 |_,_,.cons a s=>.cons (a.swapD hD) (s.swapD hD)
theorem RO.swapD{a:Yi}{o:DO}(hD:H Dd=Wj (.dK ys))(ne:a≠Dd)(q:RO Y H B a o):RO Y (upd H Dd (.dK zs)) B a o:=by
 cases o with
 |lst ds=>obtain⟨vs,z,s⟩:=q;exact⟨vs,by rw[Zc ne];exact z,s.swapD hD⟩
 |dic ds=>obtain⟨vs,z,s⟩:=q;exact⟨vs,by rw[Zc ne];exact z,s.swapD hD⟩
 |ins C ds=>obtain⟨a1,a2,a3,z,m,s⟩:=q;exact⟨a1,a2,a3,by rw[Zc ne];exact z,m,s.swapD hD⟩
 |fdic ds=>obtain⟨o,vs,z,s⟩:=q;exact⟨o,vs,by rw[Zc ne];exact z,s.swapD hD⟩
end
inductive RPs(Y:Yx)(H:Hp)(B:List Yi):List D->List (V×V)->Prop
 |nil:RPs Y H B [] []
 |cons {k v:D}{r:List D}{x y:V}{ps:List (V×V)}:RD Y H B k x->RD Y H B v y->RPs Y H B r ps->RPs Y H B (k::v::r) ((x,y)::ps)
theorem RPs.pairs{Y:Yx}{H:Hp}{B:List Yi}:∀{ds:List D}{ps:List (V×V)}{kvs:List (Key×D)},RPs Y H B ds ps->ZdL ds=Wj kvs->∃kvs':List (Key×V),ps=kvs'.map (λkv=>(kV kv.1,kv.2))/\RKs Y H B kvs kvs'
 |_,_,_,.nil,e=>by cases e;exact⟨[],rfl,.nil⟩
 |_,_,_,.cons a b s,e=>by
  rw[ZdL]at e;split at e
  . rename_i k r e1 e2;cases e;obtain⟨kvs',rfl,rk⟩:=s.pairs e2;have:=Zdo a e1;subst this;exact⟨(k,_)::kvs',rfl,.cons b rk⟩
  . cases e
theorem RPs.keysOk{Y:Yx}{H:Hp}{B:List Yi}:∀{ds:List D}{ps:List (V×V)}{kvs:List (Key×D)},RPs Y H B ds ps->ZdL ds=Wj kvs->ZcM kvs
 |_,_,_,.nil,e=>by cases e;intro p hp;cases hp
 |_,_,_,.cons a b s,e=>by
  rw[ZdL]at e;split at e
  . rename_i k r e1 e2;cases e;intro p hp x z;rcases O1.mp hp with rfl|hp
    . exact ZmF a e1 x z
    . exact s.keysOk e2 p hp x z
  . cases e
theorem Zd9:∀{more kvs:List (Key×D)},ZcM more->ZcM kvs->ZcM (Zev kvs more)
 |[],kvs,_,h=>h
 |(k,d)::r,kvs,hm,h=>Zd9 (more:=r) (kvs:=putD kvs k d) (λp hp=>hm p (Oh _ hp)) (ZfU h (λx e=>hm (k,d) Oi x e))
theorem RKs.merge{Y:Yx}{H:Hp}{B:List Yi}:∀{more:List (Key×D)}{more':List (Key×V)}{kvs:List (Key×D)}{kvs':List (Key×V)},RKs Y H B more more'->RKs Y H B kvs kvs'->RKs Y H B (Zev kvs more) (ZdM kvs' more')
 |_,_,_,_,.nil,s=>s
 |_,_,_,_,.cons (k:=k) a r,s=>by have z:=RKs.merge r (s.put k a);exact z
def Zmq{T:Tb}{Y:Yx}{E:XK}{H0:Hp}{μ0:List Yi}{Q:VK}{S:Ev}{Z:L2.St}:∀(n:Nat) (ps:Exs) {K:List D->Hd->R D}{H:Hp}{B:List Yi}{h:Hd}{Q1:List (V×V)->Hp->Prop}{Γ:Gm}{ks:List (Option Expr)}{vs:List Expr},ks.length<=n->chkp Γ ps ks vs=Wm ->
 Gr H0 μ0 H B->RH Y H B h->RS Y H B S Z->Fin Y (RD Y) H0 μ0 ((evs T ps S h).bind K) Q E ->
 (∀ds h1 qs H1 μ1,Gr H B H1 μ1->RH Y H1 μ1 h1->RPs Y H1 μ1 ds qs->Fin Y (RD Y) H0 μ0 (K ds h1) Q E->Q1 qs H1)->Zg7 (Zkc T Y E ps) Z H Q1:=by
 intro n;induction n with
 |zero=>
  intro ps K H B h Q1 Γ ks vs hl hc g0 rh rs f hq;cases ps with
  |nil=>exact hq [] h [] H B Gr.refl rh .nil f
  |cons k r=>
   cases r with
   |nil=>unfold chkp at hc;cases hc
   |cons v r'=>
    unfold chkp at hc;simp only at hc;split at hc
    . simp at hl
    . cases hc
 |succ n ih=>
  intro ps K H B h Q1 Γ ks vs hl hc g0 rh rs f hq;cases ps with
  |nil=>exact hq [] h [] H B Gr.refl rh .nil f
  |cons k r=>
   cases r with
   |nil=>unfold chkp at hc;cases hc
   |cons v r'=>
    unfold chkp at hc;simp only at hc;split at hc
    . rw[Oa]at hc;have f1:Fin Y (RD Y) H0 μ0 ((ev T k S h).bind λx h1=>(ev T v S h1).bind λy h2=>(evs T r' S h2).bind λxs h3=>K (x::y::xs) h3) Q E:=by
       have e:(evs T (.cons k (.cons v r')) S h).bind K=(ev T k S h).bind λx h1=>(ev T v S h1).bind λy h2=>(evs T r' S h2).bind λxs h3=>K (x::y::xs) h3:=by show((ev T k S h).bind λx h1=>((ev T v S h1).bind λy h2=>(evs T r' S h2).bind λxs h3=>R.ok (y::xs) h3).bind λxs h2=>R.ok (x::xs) h2).bind K=_;simp only[R.bind_assoc,R.bind_ok]
       rw[<- e];exact f
      refine⟨S,h,B,rh,rs,Fin.bindB g0 f1 λd h1 x H1 μ1 _ g1 rh1 rd f2=>?_⟩;refine⟨S,h1,μ1,rh1,rs.mono rh g1,Fin.bindB (g0.trans g1) f2 λe h2 y H2 μ2 _ g2 rh2 re f3=>?_⟩;refine ih r' (by simpa using hl) hc.2 ((g0.trans g1).trans g2) rh2 ((rs.mono rh g1).mono rh1 g2) f3 λds h3 qs H3 μ3 g3 rh3 rp f4=>?_;exact hq (d::e::ds) h3 ((x,y)::qs) H3 μ3 ((g1.trans g2).trans g3) rh3 (.cons ((rd.mono rh1 g2).mono rh2 g3) (re.mono rh2 g3) rp) f4
    . cases hc
def ZoE{T:Tb}{Y:Yx}(ps:Exs){Γ:Gm}{X:Cx}{E:XK}{k:Nat}{ks:List (Option Expr)}{vs:List Expr}{pos:Pos}(G:Gd T Γ X Y E k)(h15:ks.length<=15)(hc:chkp Γ ps ks vs=Wm)(hp:PPs X pos ks vs (Zkc T Y E ps))(hall:ks.all (·.isSome)=Wm)(hl:ks.length=vs.length):PE X (.Dict ks vs pos) (ZbO T Y E (.dictl ps)):=by
 by_cases h0:ks=[]
 . subst h0;cases vs with
   |cons a b=>cases hl
   |nil=>
    cases ps with
    |cons k r=>
     cases r with
     |nil=>unfold chkp at hc;cases hc
     |cons v r'=>unfold chkp at hc;cases hc
    |nil=>refine Zmp.imp λZ H Q ⟨S,h,B,rh,rs,f⟩ p hp=>?_;have f:Fin Y (RD Y) H B (ZcS (.dic []) h) Q E:=f;exact f.new rh hp ⟨[],Zl,.nil⟩ (λp hp=>by cases hp)
 . refine(ZnZ hp hall hl h0 h15).imp λZ H Q ⟨S,h,B,rh,rs,f⟩ p hp=>?_;have np:p ∉ B:=λz=>by have:=rh.mut z;rw[hp]at this;exact this
   refine Zmq ks.length ps (Oq _) hc (Gr.lay0 hp) (rh.lay0 hp) (rs.mono rh (Gr.lay0 hp)) f λds h1 qs H1 μ1 g1 rh1 rp f1=>?_;obtain⟨hl1,nD⟩:=g1.out (Zl (H:=H)) np;have g01:Gr H B H1 μ1:=(Gr.lay0 hp).trans g1;split at f1
   . rename_i kvs ek;obtain⟨hz,f1⟩:=f1.iff;obtain⟨kvs',rfl,rk⟩:=rp.pairs ek;refine⟨hl1,kvs',rfl,by rw[<- rk.length];exact hz,?_⟩;have f2:Fin Y (RD Y) H B (.ok (.ref h1.length) (h1++[.dic (Zev [] kvs)])) Q E:=f1;have g3:Gr H B (upd H1 p (.dK (ZdM [] kvs'))) (μ1++[p]):=by
      refine⟨λj a e=>?_,λa ha=>?_,λb o hb e=>?_,λb u v e=>by rw[Zc (λz=>by rw[z,hp]at e;cases e)];exact g01.fz b u v e⟩
      . have:=g01.pre j a e;rw[Oe (Ob.mp this).1];exact this
      . rcases OD.mp ha with z|z
        . exact g01.new a z
        . rw[Ox.mp z];exact .inr hp
      . rw[Zc (λz=>by rw[z,hp]at e;cases e)];exact g01.keep b o hb e
     refine f2.at g3 ?_ (.ref (by rw[rh1.len];simp));refine⟨by simp[rh1.len],?_,λj o a e1 e2=>?_,ZjB rh1.ks (show ZcM (Zev [] kvs)from Zd9 (rp.keysOk ek) (λp hp=>by cases hp))⟩
     . rw[List.nodup_append];refine⟨rh1.nd,by simp,λa ha b hb=>?_⟩;rw[Ox.mp hb];intro z;exact nD (z ▸ ha)
     . by_cases hj:j<h1.length
       . rw[Oe hj]at e1;rw[Oe (by rw[<- rh1.len];exact hj)]at e2;exact((rh1.ob j o a e1 e2).swapD hl1 (λz=>nD (z ▸ O0 e2))).more
       . have hj':j=h1.length:=by
          have:=(Ob.mp e1).1;simp at this
          lia
         subst hj';rw[Om (Oq _)]at e1;rw[Om (by rw[rh1.len];exact Oq _)]at e2;simp[rh1.len]at e1 e2;subst e1;subst e2;exact⟨_,Zl,((rk.merge .nil).swapD hl1).more⟩
   . exact f1.elim
mutual
theorem Zm{T:Tb}{Y:Yx}:∀(e:Ex) {Γ:Gm}{X:Cx}{E:XK}{k:Nat}{x:Expr},Gd T Γ X Y E k->chk Γ e x=Wm->PE X x (ZbO T Y E e)
 |.var i,Γ,X,E,k,x,G,h=>by
  unfold chk at h;split at h
  . rw[Oa,Oa,Oa]at h;obtain⟨⟨⟨h1,h2⟩,h3⟩,h4⟩:=h;refine(Zp6 (by rw[G.N];exact of_decide_eq_true h1) (G.vis _ h2) (by simpa using h3) (by simpa using h4)).imp λZ H Q ⟨S,h,B,rh,rs,f⟩=>?_;obtain⟨d,e,f⟩:=Fin.ofO (show Fin Y (RD Y) H B (R.ofO (S[i]?).join h) Q E from f);obtain⟨v,e1,rd⟩:=rs.var e;exact⟨v,e1,f.ok rh rd⟩
  . cases h
 |.cst d,Γ,X,E,k,x,G,h=>Zm3 G (by unfold chk at h;exact h)
 |.glo y,Γ,X,E,k,x,G,h=>by
  unfold chk at h;split at h
  . rw[Oa]at h;have e:=of_decide_eq_true h.1;subst e;obtain⟨g1,g2⟩:=G.gl h.2;intro pins s Z H Q I ⟨S,h,B,rh,rs,f⟩;obtain⟨d,e,f⟩:=Fin.ofO (show Fin Y (RD Y) H B (R.ofO (T.G y) h) Q E from f);obtain⟨v,u,hm,rv,rd⟩:=G.gk.g y d e;exact ZnY g1 hm rv g2 pins s Z H Q I (f.ok rh (rd H B))
  . cases h
 |.bin op a b,Γ,X,E,k,x,G,h=>by
  unfold chk at h;split at h
  . rw[Oa,Oa]at h;have e:=of_decide_eq_true h.1.1;subst e;exact(Zr3 (Zqq G.gk.K op) (Zm a G h.1.2) (Zm b G h.2)).imp λZ H Q ⟨S,h,B,rh,rs,f⟩=>ZnA rh rs f
  . cases h
 |.cmp op a b,Γ,X,E,k,x,G,h=>by
  unfold chk at h;split at h
  . rw[Oa,Oa,Oa]at h;have e:=of_decide_eq_true h.1.1.1;subst e;exact(Zn1 (Zms G.room G.h60 G.gk op) (Zm a G h.1.1.2) (Zm b G h.1.2) (Zkt h.2)).imp λZ H Q ⟨S,h,B,rh,rs,f⟩=>ZnA rh rs f
  . cases h
 |.cmp2 o1 o2 a b c,Γ,X,E,k,x,G,h=>by unfold chk at h;cases h
 |.neg a,Γ,X,E,k,x,G,h=>by
  unfold chk at h;split at h
  . refine(Zr1 Zpu (Zm a G h)).imp λZ H Q ⟨S,h,B,rh,rs,f⟩=>⟨S,h,B,rh,rs,Fin.bind f λd h1 x H1 μ1 _ g rh1 rd f1=>?_⟩
    cases rd with
    |int i=>exact⟨i,rfl,Fin.ok f1 rh1 (.int _)⟩
    |_=>exact f1.elim
  . cases h
 |.nt a,Γ,X,E,k,x,G,h=>by
  unfold chk at h;split at h
  . refine(Zqa (Zm a G h)).imp λZ H Q ⟨S,h,B,rh,rs,f⟩=>⟨S,h,B,rh,rs,Fin.bind f λd h1 x H1 μ1 _ g rh1 rd f1=>?_⟩
    cases rd with
    |bl i=>exact⟨i,rfl,Fin.ok f1 rh1 (.bl _)⟩
    |_=>exact f1.elim
  . cases h
 |.ands es,Γ,X,E,k,x,G,h=>by
  unfold chk at h;split at h
  . exact and_ok es G h
  . cases h
 |.ors es,Γ,X,E,k,x,G,h=>by
  unfold chk at h;split at h
  . exact or_ok es G h
  . cases h
 |.ite c a b,Γ,X,E,k,x,G,h=>by
  unfold chk at h;split at h
  . rw[Oa,Oa]at h;refine(Zmo (tst_ok c G h.1.1) (Zm a G h.1.2) (Zm b G h.2)).imp λZ H Q ⟨S,h,B,rh,rs,f⟩=>⟨S,h,B,rh,rs,Fin.bind f λd h1 x H1 μ1 _ g rh1 rd f1=>?_⟩
    subst rd;cases d with
    |true=>exact ZjO ⟨S,h1,μ1,rh1,rs.mono rh g,f1⟩
    |false=>exact ZjP ⟨S,h1,μ1,rh1,rs.mono rh g,f1⟩
  . cases h
 |.tupl es,Γ,X,E,k,x,G,h=>by
  unfold chk at h;split at h
  . refine(Zp7 (evs_ok es G h)).imp λZ H Q ⟨S,h,B,rh,rs,f⟩=>⟨S,h,B,rh,rs,Fin.bind f λd h1 x H1 μ1 _ g rh1 rd f1=>?_⟩
    obtain⟨hz,f1⟩:=f1.iff;exact⟨by rw[<- rd.length];exact hz,λp hp=>f1.tup rh1 hp rd⟩
  . cases h
 |.lstl es,Γ,X,E,k,x,G,h=>by
  unfold chk at h;split at h
  . refine(Zqc (evs_ok es G h)).imp λZ H Q ⟨S,h,B,rh,rs,f⟩=>⟨S,h,B,rh,rs,Fin.bind f λd h1 x H1 μ1 _ g rh1 rd f1=>?_⟩
    obtain⟨hz,f1⟩:=f1.iff;exact⟨by rw[<- rd.length];exact hz,λp hp=>f1.new rh1 hp ⟨_,Zl,rd.mono rh1 (Gr.lay hp)⟩⟩
  . cases h
 |.ix a i,Γ,X,E,k,x,G,h=>by
  unfold chk at h;split at h
  . rw[Oa,Oa]at h;exact(Zr4 (Zod G.gk) (Zm a G h.1.1) (Zm i G h.1.2) (ZlP h.2)).imp λZ H Q ⟨S,h,B,rh,rs,f⟩=>ZnA rh rs f
  . cases h
 |.sl a lo hi,Γ,X,E,k,x,G,h=>by
  unfold chk at h;split at h
  . rw[Oa,Oa]at h;refine(Zmk (Zoa (E:=E) G.gk.K) (Zm a G h.1.1) (evo_ok lo G h.1.2) (evo_ok hi G h.2)).imp λZ H Q ⟨S,h,B,rh,rs,f⟩=>⟨S,h,B,rh,rs,Fin.bind f λd h1 x H1 μ1 _ g rh1 rd f1=>⟨S,h1,μ1,rh1,rs.mono rh g,Fin.bind f1 λl h2 l' H2 μ2 _ g2 rh2 rl f2=>⟨S,h2,μ2,rh2,(rs.mono rh g).mono rh1 g2,Fin.bind f2 λu h3 u' H3 μ3 _ g3 rh3 ru f3=>?_⟩⟩⟩
    subst rl ru;exact⟨d,h3,μ3,rh3,(rd.mono rh1 g2).mono rh2 g3,f3⟩
  . cases h
 |.blt f es,Γ,X,E,k,x,G,h=>by
  unfold chk at h;split at h
  . rename_i y ys _;rw[Oa,Oa]at h;have e:=of_decide_eq_true h.1.1;subst e;have hs:=h.2;have st:Zag y=Wm:=by
     cases es with
     |nil=>rw[chks]at hs;cases hs
     |cons e r=>rw[chks,Oa,Oa]at hs;exact hs.1.2
    have sp:∀pos,(YO pos (Yw ys X.env)).any (·.1)=Wn:=by
     cases es with
     |nil=>rw[chks]at hs;cases hs
     |cons e r=>rw[chks,Oa,Oa]at hs;exact Zb9 Γ X.env r ys hs.2
    exact(ZqY G f ((Oa _ _).mp h.1.2).1 (G.gl ((Oa _ _).mp h.1.2).2).1 (evs_ok es G h.2) (Zo X.env st) (sp _)).imp λZ H Q ⟨S,h,B,rh,rs,f⟩=>⟨S,h,B,rh,rs,Fin.bind f λd h1 x H1 μ1 _ g rh1 rd f1=>⟨d,h1,μ1,rh1,rd,f1⟩⟩
  . cases h
 |.call f es,Γ,X,E,k,x,G,h=>by
  unfold chk at h;split at h
  . rename_i y ys _;rw[Oa,Oa,Oa]at h;have e:=of_decide_eq_true h.1.1.1;subst e;obtain⟨ps,hd⟩:=G.defs _ (of_decide_eq_true h.1.1.2);obtain⟨g1,g2⟩:=G.gl h.1.2;have hs:=h.2;have st:Zag y=Wm:=by
     cases es with
     |nil=>rw[chks]at hs;cases hs
     |cons e r=>rw[chks,Oa,Oa]at hs;exact hs.1.2
    have sp:∀pos,(YO pos (Yw ys X.env)).any (·.1)=Wn:=by
     cases es with
     |nil=>rw[chks]at hs;cases hs
     |cons e r=>rw[chks,Oa,Oa]at hs;exact Zb9 Γ X.env r ys hs.2
    exact(Zqf hd G.room g1 G.pass (evs_ok es G h.2) g2 (Zo X.env st) (sp _)).imp λZ H Q ⟨S,h,B,rh,rs,f⟩=>⟨S,h,B,rh,rs,Fin.bind f λd h1 x H1 μ1 _ g rh1 rd f1=>⟨d,h1,μ1,rh1,rd,f1⟩⟩
  . cases h
 |.meth m o es,Γ,X,E,k,x,G,h=>by
  unfold chk at h;split at h
  . rename_i xo n ap ys cp;rw[Oa,Oa,Oa,Oa,Oa]at h;obtain⟨⟨⟨⟨⟨h1,h2⟩,h3⟩,h4⟩,h5⟩,h6⟩:=h;have e:=of_decide_eq_true h1;subst e;obtain⟨sl,ty⟩:=Zsl m;have tyl:∀{H1:Hp}{μ1:List Yi}{h1:Hd}{d:D}{v:V},RH Y H1 μ1 h1->RD Y H1 μ1 d v->Zab d h1=Wm->tyV X.K "list" v H1:=by
     intro H1 μ1 h1 d v rh r il;cases r with
     |ref q=>
      rename_i i a;have:∃xs,h1[i]? = Wj (.lst xs):=by
       unfold Zab at il;simp only at il;split at il
       . exact⟨_,by assumption⟩
       . cases il
      obtain⟨xs,hx⟩:=this;obtain⟨vs,hl,_⟩:=rh.ob i _ a hx q;exact .inl ⟨rfl,vs,.of hl⟩
     |_=>cases il
    cases ys with
    |nil=>
     refine(Zqg PySem.F.plainAttrs_list sl ty (Zks (Y:=Y) (E:=E) G.gk.K m) (Zm o G h2) (Zeh h3) h6).imp λZ H Q ⟨S,h,B,rh,rs,f⟩=>⟨S,h,B,rh,rs,Fin.bind f λd h1 x H1 μ1 _ g rh1 rd f1=>?_⟩
     obtain⟨il,f1⟩:=f1.iff;refine⟨tyl rh1 rd il,?_⟩;cases es with
     |nil=>exact⟨d,[],h1,μ1,rh1,rd,.nil,f1⟩
     |cons e r=>unfold chks at h4;cases h4
    |cons y ys=>
     have st:Zag y=Wm:=by
      cases es with
      |nil=>unfold chks at h4;cases h4
      |cons e r=>unfold chks at h4;rw[Oa,Oa]at h4;exact h4.1.2
     have sp:∀pos,(YO pos (Yw ys X.env)).any (·.1)=Wn:=by
      cases es with
      |nil=>unfold chks at h4;cases h4
      |cons e r=>unfold chks at h4;rw[Oa,Oa]at h4;exact Zb9 Γ X.env r ys h4.2
     refine(Zr5 PySem.F.plainAttrs_list sl ty (Zks (Y:=Y) (E:=E) G.gk.K m) (Zm o G h2) (evs_ok es G h4) (Zeh h3) ?_ h6 (Zo X.env st) (sp _)).imp λZ H Q ⟨S,h,B,rh,rs,f⟩=>⟨S,h,B,rh,rs,Fin.bind f λd h1 x H1 μ1 _ g rh1 rd f1=>?_⟩
     . rw[Zer Γ X.env es (y::ys) h4];have:=of_decide_eq_true h5;have h30:Wo ((y::ys).length+([]:List Keyword).length+(if ([]:List Keyword).isEmpty then 0 else 1)<30)=Wm:=by
        rw[decide_eq_true_eq];simp only[List.isEmpty_nil,List.length_nil,if_true]
        lia
       rw[h30];rfl
     . obtain⟨il,f1⟩:=f1.iff;exact⟨tyl rh1 rd il,S,h1,μ1,rh1,rs.mono rh g,f1.bind λds h2 xs H2 μ2 _ g2 rh2 rds f2=>⟨d,ds,h2,μ2,rh2,rd.mono rh1 g2,rds,f2⟩⟩
  . cases h
 |.comp NC js it g c e,Γ,X,E,k,x,G,h=>by
  unfold chk at h;split at h
  . rename_i scope _;rw[Oa,Oa,Oa,Oa,Oa,Oa,Oa]at h;obtain⟨⟨⟨⟨⟨⟨⟨h0,h1⟩,h2⟩,h3⟩,h4⟩,h5⟩,h6⟩,h7⟩:=h;have S_:=ZiV h1;rw[<- G.N,<- G.sc h0]at S_;have Gc:=λ(pins:List (Yi×Obj)) (Z:L2.St) (C:Yi) (s3:Yb) (H3:Hp) (fp:List Yi) (i3:Inv X pins Z H3 s3) (j3:∀b∈fp,Zbg X pins H3 b) (k3:C=s3.heap.objs.size)=>G.comp NC scope C s3 H3 fp S_.nd (G.passC h0 pins Z NC scope C s3 H3 fp i3 j3 k3);rw[OC]at h5;refine(Zn0 (g:=tgR X.K g) (tc:=λZ H Q=>∃S h B,RH Y H B h/\RS Y H B S Z/\Fin Y (λ_ _ (a b:Bool)=>a=b) H B (tsto T c S h) Q E) (te:=ZbO T Y E e) S_ rfl G.calm (evi_ok it G h2) (λpins Z C s3 H3 fp i3 j3 k3=>⟨Zko rfl S_.nd rfl (λx hx=>?_) h4,?_,Zm e (Gc pins Z C s3 H3 fp i3 j3 k3) h7⟩) (Zrw X.K g) (λj hj=>of_decide_eq_true (h5 j (List.mem_range.mpr hj))) (Zjh X.env h3)).imp
     λZ H Q ⟨S,h,B,rh,rs,f⟩=>⟨S,h,B,rh,rs,Fin.bind f λw h1 J H1 μ1 _ g1 rh1 wj f1 D hD=>ZkF G.gk.K (λ_ _ _ z=>z) rh1 (rs.mono rh g1) wj f1 hD⟩
    . have hl:=of_decide_eq_true hx;have:(relabel scope X.env).names.lookup x=Wj .local:=by rw[Zan,hl];rfl
      exact⟨.inl this,.inr this⟩
    . exact ifs_ok c (Gc pins Z C s3 H3 fp i3 j3 k3) h6
  . cases h
 |.sorts e,Γ,X,E,k,x,G,h=>by unfold chk at h;cases h
 |.trev e,Γ,X,E,k,x,G,h=>by
  unfold chk at h;split at h
  . rw[Oa,Oa,Oa,Oa,Oa]at h;obtain⟨⟨⟨⟨⟨h1,h2⟩,h3⟩,h4⟩,h5⟩,h6⟩:=h;have e1:=of_decide_eq_true h1;have e2:=of_decide_eq_true h2;subst e1 e2;refine(Zk3 G.calm (G.gl h3).1 (G.blt _ (by decide)) (G.gl h4).1 (G.blt _ (by decide)) (Zdn (Zm e G h5) Zet (Zo X.env h6)) (Zo X.env h6)).imp λZ H Q ⟨S,h,B,rh,rs,f⟩=>⟨S,h,B,rh,rs,Fin.bind f λd h1 x H1 μ1 er g rh1 rd f1=>?_⟩
    cases d with
    |tup xs=>
     cases xs with
     |nil=>exact f1.elim
     |cons y ys=>obtain⟨a,vs,rfl,t,s⟩:=rd.tup_inv;refine⟨a,vs,rfl,G.gk.K ▸ t,?_,λp hp=>f1.tup rh1 hp s.reverse⟩;have:=s.length;intro z;rw[z]at this;cases this
    |_=>exact f1.elim
  . cases h
 |.lrv e,Γ,X,E,k,x,G,h=>by unfold chk at h;cases h
 |.tix o e,Γ,X,E,k,x,G,h=>by
  unfold chk at h;split at h
  . rw[Oa,Oa,Oa,Oa,Oa]at h;obtain⟨⟨⟨⟨⟨h1,h2⟩,h3⟩,h4⟩,h5⟩,h6⟩:=h;have e1:=of_decide_eq_true h1;subst e1;refine(Zp8 G.gk.bare (Zm o G h2) (Zdn (Zm e G h4) Zet (Zo X.env h5)) (Zeh h3) ?_ h6 (Zo X.env h5)).imp λZ H Q ⟨S,h,B,rh,rs,f⟩=>⟨S,h,B,rh,rs,Fin.bind f λd h1 x H1 μ1 _ g rh1 rd f1=>?_⟩
    . rw[Zo X.env h5];rfl
    . obtain⟨il,f1⟩:=f1.iff;cases d with
      |tup xs=>obtain⟨a,vs,rfl,t,s⟩:=rd.tup_inv;refine⟨⟨a,vs,rfl,G.gk.K ▸ t⟩,S,h1,μ1,rh1,rs.mono rh g,f1.bind λy h2 v H2 μ2 _ g2 rh2 ry f2=>?_⟩;have rd2:=rd.mono rh1 g2;obtain⟨a2,vs2,ea,t2,s2⟩:=rd2.tup_inv;exact ZpA G.gk.K ea t2 s2 rh2 ry f2
      |_=>cases il
  . cases h
 |.lix o e,Γ,X,E,k,x,G,h=>by unfold chk at h;cases h
 |.lin a b,Γ,X,E,k,x,G,h=>by unfold chk at h;cases h
 |.any,Γ,X,E,k,x,G,h=>λpins s Z H Q I ⟨S,h,B,rh,rs,f⟩=>f.elim
 |.att Cs o f,Γ,X,E,k,x,G,h=>by
  unfold chk at h;split at h
  . rw[Oa,Oa,Oa,Oa]at h;obtain⟨⟨⟨⟨h1,h2⟩,h3⟩,h4⟩,h5⟩:=h;have e:=of_decide_eq_true h1;subst e;exact(Zqe (Zm o G h2) (Zeh h3)).imp λZ H Q ⟨S,h,B,rh,rs,f⟩=>⟨S,h,B,rh,rs,Fin.bind f λd h1 x H1 μ1 _ g rh1 rd f1=>Zq5 G h4 (of_decide_eq_true h5) rh1 rd f1⟩
  . cases h
 |.mk C es,Γ,X,E,k,x,G,h=>by
  unfold chk at h;split at h
  . rw[Oa,Oa,Oa]at h;obtain⟨⟨⟨h1,h2⟩,h3⟩,h4⟩:=h;have e:=of_decide_eq_true h1;subst e;exact Zsm G (of_decide_eq_true h2) h3 h4 (evs_ok es G h4)
  . cases h
 |.mcl C m o es,Γ,X,E,k,x,G,h=>by
  unfold chk at h;split at h
  . rw[Oa,Oa,Oa,Oa,Oa,Oa]at h;obtain⟨⟨⟨⟨⟨⟨h1,h2⟩,h3⟩,h4⟩,h5⟩,h6⟩,h7⟩:=h;have e:=of_decide_eq_true h1;subst e;exact Zqv G (of_decide_eq_true h5) h3 h4 (of_decide_eq_true h6) h7 (Zm o G h2) (evs_ok es G h4)
  . cases h
 |.maxd a d,Γ,X,E,k,x,G,h=>by unfold chk at h;cases h
 |.dictl ps,Γ,X,E,k,x,G,h=>by
  unfold chk at h;split at h
  . rw[Oa]at h;obtain⟨p1,p2,p3⟩:=pairs_ok ps G h.2;exact ZoE ps G (of_decide_eq_true h.1) h.2 p1 p2 p3
  . cases h
theorem evs_ok{T:Tb}{Y:Yx}:∀(e:Exs) {Γ:Gm}{X:Cx}{E:XK}{k:Nat}{x:List Expr},Gd T Γ X Y E k->chks Γ e x=Wm->PA X x (Znz T Y E e)
 |.nil,Γ,X,E,k,x,G,h=>by
  rw[chks]at h;cases x with
  |nil=>exact Zet.imp λZ H Q ⟨S,h,B,rh,rs,f⟩=>Fin.ok (show Fin Y (RDs Y) H B (.ok [] h) Q E from f) rh .nil
  |cons a b=>cases h
 |.cons e r,Γ,X,E,k,x,G,h=>by
  cases x with
  |nil=>rw[chks]at h;cases h
  |cons y ys=>
   rw[chks,Oa,Oa]at h;exact(Zdn (Zm e G h.1.1) (evs_ok r G h.2) (Zo X.env h.1.2)).imp λZ H Q ⟨S,h,B,rh,rs,f⟩=>⟨S,h,B,rh,rs,Fin.bind f λd h1 x H1 μ1 _ g rh1 rd f1=>⟨S,h1,μ1,rh1,rs.mono rh g,f1.bind λds h2 xs H2 μ2 _ g2 rh2 rds f2=>f2.ok rh2 (.cons (rd.mono rh1 g2) rds)⟩⟩
theorem and_ok{T:Tb}{Y:Yx}:∀(e:Exs) {Γ:Gm}{X:Cx}{E:XK}{k:Nat}{x:List Expr}{pos:Pos},Gd T Γ X Y E k->chks Γ e x=Wm->PE X (.BoolOp .And x pos) (ZbO T Y E (.ands e))
 |.nil,Γ,X,E,k,x,pos,G,h=>λpins s Z H Q I ⟨S,h,B,rh,rs,f⟩=>f.elim
 |.cons e r,Γ,X,E,k,x,pos,G,h=>by
  cases x with
  |nil=>rw[chks]at h;cases h
  |cons y ys=>
   rw[chks,Oa,Oa]at h;cases r with
   |nil=>
    have h2:=h.2;rw[chks]at h2;cases ys with
    |nil=>exact(Zml (Zm e G h.1.1)).imp λZ H Q q=>q
    |cons a b=>cases h2
   |cons e' r'=>
    cases ys with
    |nil=>have h2:=h.2;rw[chks]at h2;cases h2
    |cons z zs=>
     refine(Zqh (Zm e G h.1.1) (and_ok (.cons e' r') G h.2)).imp λZ H Q ⟨S,h,B,rh,rs,f⟩=>⟨S,h,B,rh,rs,Fin.bind f λd h1 x H1 μ1 _ g rh1 rd f1=>?_⟩
     cases rd with
     |bl c=>
      refine⟨c,rfl,?_⟩;cases c with
      |true=>exact ZjO ⟨S,h1,μ1,rh1,rs.mono rh g,f1⟩
      |false=>exact ZjP (Fin.ok f1 rh1 (.bl _))
     |_=>exact f1.elim
theorem or_ok{T:Tb}{Y:Yx}:∀(e:Exs) {Γ:Gm}{X:Cx}{E:XK}{k:Nat}{x:List Expr}{pos:Pos},Gd T Γ X Y E k->chks Γ e x=Wm->PE X (.BoolOp .Or x pos) (ZbO T Y E (.ors e))
 |.nil,Γ,X,E,k,x,pos,G,h=>λpins s Z H Q I ⟨S,h,B,rh,rs,f⟩=>f.elim
 |.cons e r,Γ,X,E,k,x,pos,G,h=>by
  cases x with
  |nil=>rw[chks]at h;cases h
  |cons y ys=>
   rw[chks,Oa,Oa]at h;cases r with
   |nil=>
    have h2:=h.2;rw[chks]at h2;cases ys with
    |nil=>exact(Zml (Zm e G h.1.1)).imp λZ H Q q=>q
    |cons a b=>cases h2
   |cons e' r'=>
    cases ys with
    |nil=>have h2:=h.2;rw[chks]at h2;cases h2
    |cons z zs=>
     refine(Zr2 (Zm e G h.1.1) (or_ok (.cons e' r') G h.2)).imp λZ H Q ⟨S,h,B,rh,rs,f⟩=>⟨S,h,B,rh,rs,Fin.bind f λd h1 x H1 μ1 _ g rh1 rd f1=>?_⟩
     cases rd with
     |bl c=>
      refine⟨c,rfl,?_⟩;cases c with
      |true=>exact ZjO (Fin.ok f1 rh1 (.bl _))
      |false=>exact ZjP ⟨S,h1,μ1,rh1,rs.mono rh g,f1⟩
     |_=>exact f1.elim
theorem evo_ok{T:Tb}{Y:Yx}:∀(e:Option Ex) {Γ:Gm}{X:Cx}{E:XK}{k:Nat}{x:Option Expr},Gd T Γ X Y E k->chko Γ e x=Wm->PO X x (Zty T Y E e)
 |none,Γ,X,E,k,x,G,h=>by
  unfold chko at h;cases x with
  |none=>exact ZnR.imp λZ H Q ⟨S,h,B,rh,rs,f⟩=>Fin.ok (show Fin Y _ H B (.ok Wl h) Q E from f) rh rfl
  |some a=>cases h
 |some e,Γ,X,E,k,x,G,h=>by
  unfold chko at h;cases x with
  |none=>cases h
  |some a=>
   refine(ZnQ (Zm e G h)).imp λZ H Q ⟨S,h,B,rh,rs,f⟩=>⟨S,h,B,rh,rs,Fin.bind f λd h1 x H1 μ1 _ g rh1 rd f1=>?_⟩
   cases rd with
   |int i=>exact⟨i,rfl,Fin.ok f1 rh1 rfl⟩
   |_=>exact f1.elim
theorem tst_ok{T:Tb}{Y:Yx}:∀ (e:Tx) {Γ:Gm}{X:Cx}{E:XK}{k:Nat}{x:Expr},Gd T Γ X Y E k->chkt Γ e x=Wm->PT X x (ZlU T Y E e)
 | .ex e,Γ,X,E,k,x,G,h=>by
   unfold chkt at h;rw [Oa] at h;have pl:=Zk1 G (Zm e G h.2) h.1;by_cases hx:∀ l o r p,x≠.Compare l o r p
   . exact pl hx
   . have h2:=h.2;cases e with
     | cmp op a b =>
       unfold chk at h2;split at h2
       . rw [Oa,Oa,Oa] at h2;have e:=of_decide_eq_true h2.1.1.1;subst e;exact ZoG G (Zm a G h2.1.1.2) (Zm b G h2.1.2) h2.2
       . cases h2
     | lin a b=>unfold chk at h2;cases h2
     | cmp2 o1 o2 a b c=>unfold chk at h2;cases h2
     | _ =>
       refine pl fun l o r p z=>?_;subst z;rcases ZoI h2 with ⟨_,_,_,q⟩|⟨_,_,_,_,_,q⟩|⟨_,_,q⟩<;>cases q
 | .ands ts,Γ,X,E,k,x,G,h=>by
   unfold chkt at h;split at h
   . exact (tand_ok ts G h).pt
   . cases h
 | .ors ts,Γ,X,E,k,x,G,h=>by
   unfold chkt at h;split at h
   . exact (tor_ok ts G h).pt
   . cases h
 | .nt t,Γ,X,E,k,x,G,h=>by
   unfold chkt at h;split at h
   . exact (ZpZ (tst_ok t G h)).imp fun Z H Q ⟨S,h,B,rh,rs,f⟩=>⟨S,h,B,rh,rs,Fin.bind (show Fin Y _ H B ((tst T t S h).bind fun c h1=>.ok (!c) h1) Q E from f) fun d h1 x H1 μ1 er g rh1 rd f1=>by
       subst rd;exact Fin.ok f1 rh1 rfl⟩
   . cases h
theorem tand_ok{T:Tb}{Y:Yx}:∀(e:Txs) {Γ:Gm}{X:Cx}{E:XK}{k:Nat}{x:List Expr}{pos:Pos},Gd T Γ X Y E k->chkts Γ e x=Wm->PW X (.BoolOp .And x pos) (ZlU T Y E (.ands e))
 |.one t,Γ,X,E,k,x,pos,G,h=>by
  unfold chkts at h;split at h
  . exact(ZnK (tst_ok t G h)).imp λZ H Q q=>q
  . cases h
 |.cons t ts,Γ,X,E,k,x,pos,G,h=>by
  unfold chkts at h;split at h
  . rw[Oa]at h;refine(ZpX (tst_ok t G h.1) (tand_ok ts G h.2)).imp λZ H Q ⟨S,h,B,rh,rs,f⟩=>⟨S,h,B,rh,rs,Fin.bind (show Fin Y _ H B ((tst T t S h).bind λc h1=>if c then tstAnd T ts S h1 else .ok Wn h1) Q E from f) λd h1 x H1 μ1 er g rh1 rd f1=>?_⟩
    subst rd;cases d with
    |true=>exact ZjO ⟨S,h1,μ1,rh1,rs.mono rh g,f1⟩
    |false=>exact ZjP (Fin.ok f1 rh1 rfl)
  . cases h
theorem tor_ok{T:Tb}{Y:Yx}:∀(e:Txs) {Γ:Gm}{X:Cx}{E:XK}{k:Nat}{x:List Expr}{pos:Pos},Gd T Γ X Y E k->chkts Γ e x=Wm->PW X (.BoolOp .Or x pos) (ZlU T Y E (.ors e))
 |.one t,Γ,X,E,k,x,pos,G,h=>by
  unfold chkts at h;split at h
  . exact(ZpW (tst_ok t G h)).imp λZ H Q q=>q
  . cases h
 |.cons t ts,Γ,X,E,k,x,pos,G,h=>by
  unfold chkts at h;split at h
  . rw[Oa]at h;refine(ZrW (tst_ok t G h.1) (tor_ok ts G h.2)).imp λZ H Q ⟨S,h,B,rh,rs,f⟩=>⟨S,h,B,rh,rs,Fin.bind (show Fin Y _ H B ((tst T t S h).bind λc h1=>if c then .ok Wm h1 else tstOr T ts S h1) Q E from f) λd h1 x H1 μ1 er g rh1 rd f1=>?_⟩
    subst rd;cases d with
    |true=>exact ZjO (Fin.ok f1 rh1 rfl)
    |false=>exact ZjP ⟨S,h1,μ1,rh1,rs.mono rh g,f1⟩
  . cases h
theorem ifs_ok{T:Tb}{Y:Yx}:∀(c:Option Tx) {Γ:Gm}{X:Cx}{E:XK}{k:Nat}{x:List Expr},Gd T Γ X Y E k->chkf Γ c x=Wm->PIf X x (λZ H Q=>∃S h B,RH Y H B h/\RS Y H B S Z/\Fin Y (λ_ _ (a b:Bool)=>a=b) H B (tsto T c S h) Q E)
 |none,Γ,X,E,k,x,G,h=>by
  unfold chkf at h;cases x with
  |nil=>intro pins s Z H Q I ⟨S,h,B,rh,rs,f⟩;exact ZnT pins s Z H Q I (Fin.ok (show Fin Y (λ_ _ (a b:Bool)=>a=b) H B (.ok Wm h) Q E from f) rh rfl)
  |cons a b=>cases h
 |some t,Γ,X,E,k,x,G,h=>by
  unfold chkf at h;split at h
  . exact ZnS (tst_ok t G h)
  . cases h
theorem evi_ok{T:Tb}{Y:Yx}:∀(e:Ix) {Γ:Gm}{X:Cx}{E:XK}{k:Nat}{x tg:Expr},Gd T Γ X Y E k->chki Γ e tg x=Wm->PI X tg x (Ztz T Y E e)
 |.pl e,Γ,X,E,k,x,tg,G,h=>by
  unfold chki at h;refine(Zp4 (Zm e G h)).imp λZ H Q ⟨S,h,B,rh,rs,f⟩=>⟨S,h,B,rh,rs,Fin.bind (show Fin Y _ H B ((ev T e S h).bind λx h1=>R.ofO (Zbk x h1) h1) Q E from f) λd h1 x H1 μ1 er g rh1 rd f1=>?_⟩
  obtain⟨w,ew,f1⟩:=f1.ofO;exact Znm G.gk.K rh1 rd ew λJ wj=>f1.ok rh1 wj
 |.rng e,Γ,X,E,k,x,tg,G,h=>by
  unfold chki at h;split at h
  . rw[Oa,Oa,Oa]at h;obtain⟨⟨⟨h1,h2⟩,h3⟩,h4⟩:=h;have e1:=of_decide_eq_true h1;subst e1;refine(Zk2 (G.gl h2).1 (G.blt _ (by decide)) (Zdn (Zm e G h3) Zet (Zo X.env h4)) (Zo X.env h4)).imp λZ H Q ⟨S,h,B,rh,rs,f⟩=>⟨S,h,B,rh,rs,Fin.bind f λd h1 x H1 μ1 er g rh1 rd f1=>?_⟩
    cases rd with
    |int j=>obtain⟨hz,f1⟩:=Fin.iff (show Fin Y (WJ Y) H1 μ1 (if Zdm j=Wm then .ok ⟨Wl,ZaH 0 j.toNat⟩ h1 else .bad) Q E from f1);unfold Zdm at hz;rw[Oa]at hz;exact⟨j,rfl,of_decide_eq_true hz.1,of_decide_eq_true hz.2,f1.ok rh1 Zps⟩
    |_=>exact f1.elim
  . cases h
 |.rng2 a b,Γ,X,E,k,x,tg,G,h=>by unfold chki at h;cases h
 |.enu e,Γ,X,E,k,x,tg,G,h=>by
  unfold chki at h;split at h
  . rw[Oa,Oa,Oa,Oa]at h;obtain⟨⟨⟨⟨h1,h2⟩,h3⟩,h4⟩,h5⟩:=h;have e1:=of_decide_eq_true h1;subst e1;have:∃es kk tp,tg=.Tuple es kk tp:=by cases tg<;>first|exact⟨_,_,_,rfl⟩|cases h5
    obtain⟨es,kk,tp,rfl⟩:=this;refine(ZnV (G.gl h2).1 (G.blt _ (by decide)) (Zdn (Zm e G h3) Zet (Zo X.env h4)) (Zo X.env h4)).imp λZ H Q ⟨S,h,B,rh,rs,f⟩=>⟨S,h,B,rh,rs,Fin.bind f λd h1 x H1 μ1 er g rh1 rd f1=>?_⟩
    obtain⟨w,ew,f1⟩:=f1.ofO;obtain⟨w0,ew0,rfl⟩:=Oo.mp ew;cases d with
    |ro xs=>
     cases ew0;cases rd with
     |ro t s=>refine⟨_,rfl,⟨_,G.gk.K ▸ t.sq⟩,f1.ok rh1 (Zj8 (ZoY G.gk.K rh1 t s) λH2 μ2 h2 g2 rh2 st=>⟨_,G.gk.K ▸ (g2.rdF rh1 t).sq,s.mono rh1 g2⟩)⟩
    |ref i=>
     unfold ZlA at ew0;simp only at ew0;split at ew0
     . rename_i xs hi;cases ew0;obtain⟨a,vs,rfl,hm,hl,s⟩:=rd.lst rh1 hi;refine⟨a,rfl,⟨vs,.of hl⟩,f1.ok rh1 (Zj8 (Zlz hm) λH2 μ2 h2 g2 rh2 st=>?_)⟩;obtain⟨vs2,hl2,s2⟩:=rh2.ob i _ a (Zfu st) (g2.pre i a hm);exact⟨vs2,.of hl2,s2⟩
     . cases ew0
    |_=>cases ew0
  . cases h
 |.rev e,Γ,X,E,k,x,tg,G,h=>by
  unfold chki at h;split at h
  . rw[Oa,Oa,Oa]at h;obtain⟨⟨⟨h1,h2⟩,h3⟩,h4⟩:=h;have e1:=of_decide_eq_true h1;subst e1;refine(ZnU (G.gl h2).1 (G.blt _ (by decide)) (Zdn (Zm e G h3) Zet (Zo X.env h4)) (Zo X.env h4)).imp λZ H Q ⟨S,h,B,rh,rs,f⟩=>⟨S,h,B,rh,rs,Fin.bind f λd h1 x H1 μ1 er g rh1 rd f1=>?_⟩
    obtain⟨w,ew,f1⟩:=f1.ofO;obtain⟨w0,ew0,rfl⟩:=Oo.mp ew;cases d with
    |tup xs=>cases ew0;obtain⟨a,vs,rfl,t,s⟩:=rd.tup_inv;exact⟨a,vs,rfl,.inl ⟨G.gk.K ▸ t,f1.ok rh1 (Zpt G.gk.K rh1 t s)⟩⟩
    |ref i=>
     unfold Zj9 at ew0;simp only at ew0;split at ew0
     . rename_i xs ex;cases ew0;obtain⟨a,vs,rfl,hi,hl,s⟩:=rd.lst rh1 ex;exact⟨a,vs,rfl,.inr ⟨.of hl,by rw[<- s.length];exact f1.ok rh1 (Znl hi)⟩⟩
     . cases ew0
    |_=>cases ew0
  . cases h
 |.en1 e,Γ,X,E,k,x,tg,G,h=>by unfold chki at h;cases h
 |.en0 e,Γ,X,E,k,x,tg,G,h=>by unfold chki at h;cases h
 |.dk e,Γ,X,E,k,x,tg,G,h=>by unfold chki at h;cases h
theorem pairs_ok{T:Tb}{Y:Yx}:∀(ps:Exs) {Γ:Gm}{X:Cx}{E:XK}{k:Nat}{ks:List (Option Expr)}{vs:List Expr}{pos:Pos},Gd T Γ X Y E k->chkp Γ ps ks vs=Wm->PPs X pos ks vs (Zkc T Y E ps)/\ks.all (·.isSome)=Wm/\ks.length=vs.length
 |.nil,Γ,X,E,k,ks,vs,pos,G,h=>by
  unfold chkp at h;rw[Oa]at h;cases ks with
  |nil=>cases vs with
   |nil=>exact⟨ZnP,rfl,rfl⟩
   |cons a b=>cases h.2
  |cons a b=>cases h.1
 |.cons e r,Γ,X,E,k,ks,vs,pos,G,h=>by
  cases r with
  |nil=>unfold chkp at h;cases h
  |cons v r'=>
   unfold chkp at h;simp only at h;split at h
   . rw[Oa,Oa]at h;obtain⟨p1,p2,p3⟩:=pairs_ok r' (pos:=pos) G h.2;refine⟨Zmg (Zm e G h.1.1) (Zm v G h.1.2) p1,?_,?_⟩
     . rw[List.all_cons,p2];rfl
     . rw[Os,Os,p3]
   . cases h
end
end IV
end
section
namespace IV
open PySem PySem.Spec PyProof.Rows L2
noncomputable def Zd7:Expr->Bool
 |.ListComp _ _ _ _|.SetComp _ _ _ _|.DictComp _ _ _ _ _=>Wn
 |_=>Wm
noncomputable def Zmv:Expr->Bool
 |.Tuple _ _ _=>Wn
 |_=>Wm
noncomputable def ZiJ:Expr->Expr->Bool
 |.Name _ _,.ListComp _ _ _ _=>Wm
 |_,_=>Wn
mutual
noncomputable def Zdd(Γ:Gm):Sx->Stmt->Bool
 |.ret e,s=>match s with
  |.Return (Wj x) _=>chk Γ e x
  |_=>Wn
 |.set g e,s=>match s with
  |.Assign [tg] x _=>Zls Γ.N (ownD Γ.sc) g tg&&chk Γ e x&&((Zd7 x&&(!isTup tg || Zmv x)) || ZiJ tg x)
  |_=>Wn
 |.put o i e,s=>match s with
  |.Assign [.Subscript xo xi _] x _=>chk Γ o xo&&chk Γ i xi&&chk Γ e x&&ZfO xi&&Zd7 x
  |_=>Wn
 |.aug i op e,s=>match s with
  |.AugAssign (.Name y _) op' x _=>Wo (op=.Add)&&Wo (op'=.Add)&&Wo (Γ.N[i]? = Wj y)&&ownD Γ.sc y&&chk Γ e x
  |_=>Wn
 |.drp e,s=>match s with
  |.Expr x _=>chk Γ e x&&Zd7 x
  |_=>Wn
 |.iff c a b,s=>match s with
  |.If t xs ys _=>chkt Γ c t&&chkSs Γ a xs&&chkSs Γ b ys
  |_=>Wn
 |.whl c b,s=>match s with
  |.While t xs [] _=>chkt Γ c t&&chkSs Γ b xs
  |_=>Wn
 |.forr g it b,s=>match s with
  |.For tg x xs [] _=>chki Γ it tg x&&Zeu x&&Zls Γ.N (ownD Γ.sc) g tg&&chkSs Γ b xs
  |_=>Wn
 |.pas,s=>match s with
  |.Pass _=>Wm
  |_=>Wn
 |.brk,s=>match s with
  |.Break _=>Wm
  |_=>Wn
 |.cnt,s=>match s with
  |.Continue _=>Wm
  |_=>Wn
 |.seta Cs o f e,s=>match s with
  |.Assign [.Attribute xo n _] x _=>Wo (n=f)&&chk Γ o xo&&chk Γ e x&&Zd7 x&&(Cs.all λC=>Wo (C∈Γ.kl.cs))&&Wo (f∈Γ.kl.ats)
  |_=>Wn
 |.auga Cs o f e,s=>match s with
  |.AugAssign (.Attribute xo n _) op x _=>Wo (op=.Add)&&Wo (n=f)&&chk Γ o xo&&chk Γ e x&&(Cs.all λC=>Wo (C∈Γ.kl.cs))&&Wo (f∈Γ.kl.ats)
  |_=>Wn
 |.any,_=>Wm
 |.rai _ _,_=>Wn
 |.trs _ _ _ _,_=>Wn
noncomputable def chkSs(Γ:Gm):Sxs->List Stmt->Bool
 |.nil,ss=>ss.isEmpty
 |.cons s r,ss=>match ss with
  |x::xs=>Zdd Γ s x&&chkSs Γ r xs
  |[]=>Wn
end
def ZC(Y:Yx)(H:Hp)(B:List Yi)(r:R (Fl×Ev))(D:Ends)(E:XK):Prop:=match r with
 |.bad=>False
 |.ok p h'=>∀H' μ',Gr H B H' μ'->RH Y H' μ' h'->match p.1 with
  |.nx=>∀σ',RS Y H' μ' p.2 σ'->D.nx σ' H'
  |.bk=>∀σ',RS Y H' μ' p.2 σ'->D.bk σ' H'
  |.ct=>∀σ',RS Y H' μ' p.2 σ'->D.ct σ' H'
  |.rt d=>∀v,RD Y H' μ' d v->D.rt v H'
 |.exc c h'=>∀H' μ' C,Gr H B H' μ'->RH Y H' μ' h'->Y.mg c=Wj (.ref C)->E (.ref C) Wl H'
section
variable {Y:Yx}{α β:Type}{rel:Hp->List Yi->α->β->Prop}{H H1:Hp}{B μ1:List Yi}{E:XK}{D:Ends}
def ZC.mono{r:R (Fl×Ev)}(g:Gr H B H1 μ1)(f:ZC Y H B r D E):ZC Y H1 μ1 r D E:=by
 cases r with
 |bad=>exact f
 |ok a h=>exact λH' μ' g'=>f H' μ' (g.trans g')
 |exc c h=>exact λH' μ' C g'=>f H' μ' C (g.trans g')
theorem ZC.bind{r:R α}{k:α->Hd->R (Fl×Ev)}{Q1:β->Hp->Prop}(f:ZC Y H B (r.bind k) D E)
 (hk:∀a h1 b H1 μ1,r=.ok a h1->Gr H B H1 μ1->RH Y H1 μ1 h1->rel H1 μ1 a b->ZC Y H1 μ1 (k a h1) D E->Q1 b H1):Fin Y rel H B r Q1 E:=by
 cases r with
 |bad=>exact f
 |ok a h=>exact λb H' μ' g' rh rl=>hk a h b H' μ' rfl g' rh rl (ZC.mono g' f)
 |exc c h=>exact f
theorem ZC.ofO{o:Option α}{h:Hd}{k:α->Hd->R (Fl×Ev)}(f:ZC Y H B ((R.ofO o h).bind k) D E):∃a,o=Wj a/\ZC Y H B (k a h) D E:=by
 cases o with
 |none=>exact f.elim
 |some a=>exact⟨a,rfl,f⟩
theorem ZC.nx{S:Ev}{Z:L2.St}{h:Hd}(f:ZC Y H B (.ok (.nx,S) h) D E)(rh:RH Y H B h)(rs:RS Y H B S Z):D.nx Z H:=f H B Gr.refl rh Z rs
def ZC.part{r:R (Fl×Ev)}{k:(Fl×Ev)->Hd->R (Fl×Ev)}{D1:Ends}(f:ZC Y H B (r.bind k) D E)
 (hk:∀p h1 H1 μ1,r=.ok p h1->Gr H B H1 μ1->RH Y H1 μ1 h1->ZC Y H1 μ1 (k p h1) D E->match p.1 with
  |.nx=>∀σ',RS Y H1 μ1 p.2 σ'->D1.nx σ' H1
  |.bk=>∀σ',RS Y H1 μ1 p.2 σ'->D1.bk σ' H1
  |.ct=>∀σ',RS Y H1 μ1 p.2 σ'->D1.ct σ' H1
  |.rt d=>∀v,RD Y H1 μ1 d v->D1.rt v H1):ZC Y H B r D1 E:=by
 cases r with
 |bad=>exact f
 |ok p h=>exact λH' μ' g' rh=>hk p h H' μ' rfl g' rh (ZC.mono g' f)
 |exc c h=>exact f
end
noncomputable def ZrH(T:Tb)(Y:Yx)(E:XK)(s:Sx):TS:=λD Z H=>∃S h B,RH Y H B h/\RS Y H B S Z/\ZC Y H B (xs1 T s S h) D E
noncomputable def Zo6(T:Tb)(Y:Yx)(E:XK)(s:Sxs):TS:=λD Z H=>∃S h B,RH Y H B h/\RS Y H B S Z/\ZC Y H B (xs2 T s S h) D E
def _root_.L2.PS.imp{X:Cx}{s:Stmt}{t t':TS}(h:PS X s t)(i:∀D Z H,t' D Z H->t D Z H):PS X s t':=λpins s Z H D I q=>h pins s Z H D I (i D Z H q)
def _root_.L2.PSs.imp{X:Cx}{s:List Stmt}{t t':TS}(h:PSs X s t)(i:∀D Z H,t' D Z H->t D Z H):PSs X s t':=λpins s Z H D I q=>h pins s Z H D I (i D Z H q)
structure XOk(K:Yk)(a:Yi):Prop extends ExcN K a where
 own:PySem.W.excIn K a [.type "ValueError",.type "Exception",.type "BaseException",.type "object"] "ValueError.__new__" = Wm
 sub:PySem.W.subIn K (.ref a) (.ref a)=Wj Wm
structure GdS(T:Tb)(Γ:Gm)(X:Cx)(Y:Yx)(E:XK)(k:Nat):Prop extends Gd T Γ X Y E k where
 top:Γ.top=Wm
 fnt:∀x,X.fn x=Wm
 own:PassesOwn (model X.prog X.w) X.A X.env X.xe
 bk:X.env.blockKind=.function
 rz:ZkK X E
 stk:X.stack=X.env::X.outer
 frm:X.env.frame=Wj X.env.locals
 xcs:∀C∈Γ.kl.xs,∃a,X.mg C=Wj (.ref a)/\XOk X.K a
theorem GdS.ownD{T:Tb}{Γ:Gm}{X:Cx}{Y:Yx}{E:XK}{k:Nat}(G:GdS T Γ X Y E k):∀x,ownD Γ.sc x=Wm->Loc X.env.scope x/\(X.fn x=Wm\/X.env.scope.names.lookup x=Wj .local):=by intro x h;refine⟨?_,.inl (G.fnt x)⟩;unfold IV.ownD at h;rw[G.sc G.top];rw[Wi]at h;exact h.imp of_decide_eq_true of_decide_eq_true
def Zdl{x:Expr}{t:Option Expr}{n:Nat}{env:Env}(h:Zd7 x=Wm):swapsWith x t n env=pure Wn:=by cases x<;>first|rfl|cases h
def Zeq{tg x:Expr}{env:Env}(h:(!isTup tg || Zmv x)=Wm)(hg:∀es p,tg≠.List es p):swappedStores [tg] x env=pure Wl:=by
 cases tg with
 |List es p=>exact absurd rfl (hg es p)
 |Tuple es k p=>cases x<;>first|rfl|cases h
 |_=>rfl
def ZlT{T:Tb}{Γ:Gm}{X:Cx}{Y:Yx}{E:XK}{k:Nat}(G:GdS T Γ X Y E k){i:Nat}{y:Str}{py pos spos:Pos}{elt:Expr}{gs:List Comprehension}{scope:Scope}{e:Ex}
 (hi:Γ.N[i]? = Wj y) (ho:ownD Γ.sc y=Wm) (h:chk Γ e (.ListComp elt gs scope pos)=Wm):PS X (.Assign [.Name y py] (.ListComp elt gs scope pos) spos) (ZlK (ZbO T Y E e) (Zda i)):=by
 obtain⟨o1,o2⟩:=G.ownD y ho;have hy:X.N[i]? = Wj y:=by rw[G.N];exact hi
 by_cases sw:swapsWith (.ListComp elt gs scope pos) (Wj (.Name y py)) spos.line X.env=pure Wm
 . cases e with
   |comp NC js it g c e=>
    unfold chk at h;split at h
    . rename_i heq;cases heq;rw[Oa,Oa,Oa,Oa,Oa,Oa,Oa]at h;obtain⟨⟨⟨⟨⟨⟨⟨h0,h1⟩,h2⟩,h3⟩,h4⟩,h5⟩,h6⟩,h7⟩:=h;have S_:=ZiV h1;rw[<- G.N,<- G.sc h0]at S_;have Gc:=λ(pins:List (Yi×Obj)) (Z:L2.St) (C:Yi) (s3:Yb) (H3:Hp) (fp:List Yi) (i3:Inv X pins Z H3 s3) (j3:∀b∈fp,Zbg X pins H3 b) (k3:C=s3.heap.objs.size)=>G.toGd.comp NC scope C s3 H3 fp S_.nd (G.passC h0 pins Z NC scope C s3 H3 fp i3 j3 k3);rw[OC]at h5;refine(Zjp (g:=tgR X.K g) (tc:=λZ H Q=>∃S h B,RH Y H B h/\RS Y H B S Z/\Fin Y (λ_ _ (a b:Bool)=>a=b) H B (tsto T c S h) Q E) (te:=ZbO T Y E e) G.nd hy o1 o2 S_ rfl G.calm (evi_ok it G.toGd h2) (λpins Z C s3 H3 fp i3 j3 k3=>⟨Zko rfl S_.nd rfl (λx hx=>?_) h4,?_,Zm e (Gc pins Z C s3 H3 fp i3 j3 k3) h7⟩) (Zrw X.K g) (λj hj=>of_decide_eq_true (h5 j (List.mem_range.mpr hj))) (Zjh X.env h3) sw).imp
       λD Z H q=>?_
      . have hl:=of_decide_eq_true hx;have:(relabel scope X.env).names.lookup x=Wj .local:=by rw[Zan,hl];rfl
        exact⟨.inl this,.inr this⟩
      . exact ifs_ok c (Gc pins Z C s3 H3 fp i3 j3 k3) h6
      . obtain⟨S,h,B,rh,rs,f⟩:=q;exact⟨S,h,B,rh,rs,Fin.bind f λw h1 J H1 μ1 _ g1 rh1 wj f1 D hD=>ZkF G.gk.K (λ_ _ _ z=>z) rh1 (rs.mono rh g1) wj f1 hD⟩
    . cases h
   |cst d=>cases d<;>(unfold chk Zm7 at h;cases h)
   |any=>exact λpins s Z H D I ⟨S,h,B,rh,rs,f⟩=>f.elim
   |_=>unfold chk at h;cases h
 . refine Zme G.nd hy o1 (Zm e G.toGd h) ?_ o2;have e1:swapsWith (.ListComp elt gs scope pos) (Wj (.Name y py)) spos.line X.env=pure (X.env.blockKind==.function&&X.env.kindOf y==Wj .local&&py.line==pos.line&&!(scope.names.any λ(n,k)=>n==y&&(k==.local || k==.cell))):=rfl;cases q:(X.env.blockKind==.function&&X.env.kindOf y==Wj .local&&py.line==pos.line&&!(scope.names.any λ(n,k)=>n==y&&(k==.local || k==.cell)))with
   |true=>rw[q]at e1;exact absurd e1 sw
   |false=>rw[q]at e1;exact e1
def Zq4{T:Tb}{Γ:Gm}{X:Cx}{Y:Yx}{E:XK}{k:Nat}(G:Gd T Γ X Y E k){Cs:List Str}{f:Str}{e:Ex}(hc:(Cs.all λC=>Wo (C∈Γ.kl.cs))=Wm)(hf:f∈Γ.kl.ats){H1:Hp}{μ1:List Yi}{h1:Hd}{d:D}{x:V}{S:Ev}{Z:L2.St}{D:Ends}(rh1:RH Y H1 μ1 h1)(rs1:RS Y H1 μ1 S Z)(rd:RD Y H1 μ1 d x)
 (f1:ZC Y H1 μ1 ((ZaY Cs f d h1).bind λv h2=>(ev T e S h2).bind λy h3=>match v,y with
  |.int a,.int b=>if (Zq d h1).map (·.1)=(Zq d h3).map (·.1)then(Zfa Cs f d (.int (a+b)) h3).bind λ_ h4=>.ok (.nx,S) h4 else .bad
  |_,_=>.bad) D E) :
 ∃a C dx fs v,x=.ref a/\H1 a=Wj (.ins C dx fs)/\Cls X.K C/\Z6 X.K C f/\fs.lookup f=Wj v /\
  ZbO T Y E e Z H1 λy H2=>ZrV v y H2 λz H3=>∃dx' fs',H3 a=Wj (.ins C dx' fs')/\fs'.length<1000/\D.nx Z (upd H3 a (.ins C dx' (Zb2 f z fs'))):=by
 unfold ZaY at f1;cases ei:Zq d h1 with
 |none=>rw[ei]at f1;exact f1.elim
 |some p=>
  obtain⟨C,fs⟩:=p;rw[ei]at f1;simp only at f1;by_cases hC:C∈Cs
  . rw[if_pos hC]at f1;obtain⟨w,e1,f1⟩:=f1.ofO;obtain⟨i,a,Ca,dx,gs,rfl,rfl,q,hi,z,m,s⟩:=Zf1 rh1 rd ei;obtain⟨v,l,rv⟩:=(s.look (f:=f)).1 w e1;have hc':=hc;rw[OC]at hc';obtain⟨Ca',m',cl,na⟩:=G.cls C (of_decide_eq_true (hc' C hC));have m0:=m;rw[G.gk.mg,m']at m;cases m;refine⟨a,Ca,dx,gs,v,rfl,z,cl,na f hf,l,S,h1,μ1,rh1,rs1,ZC.bind f1 λy h3 u H3 μ3 _ g3 rh3 ry f3=>?_⟩;cases w with
    |int p=>
     cases y with
     |int r=>
      cases rv;cases ry;refine⟨p,r,rfl,rfl,?_⟩;simp only at f3;by_cases hk:Option.map (·.1) (Wj (C,fs))=(Zq (.ref i) h3).map (·.1)
      . rw[if_pos hk]at f3;obtain⟨a',C',dx',fs',e4,z',_,_,l',nx⟩:=ZlS (Q:=λ_ H'=>D.nx Z H') G hc hf rh3 (rd.mono rh1 g3) (.int _) (ZC.bind f3 λ_ h4 _ H4 μ4 _ g4 rh4 _ f4=>f4.nx rh4 ((rs1.mono rh1 g3).mono rh3 g4));cases e4;cases e5:Zq (.ref i) h3 with
        |none=>rw[e5]at hk;cases hk
        |some p3=>obtain⟨C3,fs3⟩:=p3;rw[e5]at hk;cases hk;obtain⟨i3,a3,Ca3,dx3,gs3,e6,e7,_,_,z3,m3,_⟩:=Zf1 rh3 (rd.mono rh1 g3) e5;cases e7;rw[m0]at m3;cases m3;rw[z']at z3;cases z3;exact⟨dx',fs',z',l',nx⟩
      . rw[if_neg hk]at f3;exact f3.elim
     |_=>exact f3.elim
    |_=>exact f3.elim
  . rw[if_neg hC]at f1;exact f1.elim
mutual
theorem ZrG{T:Tb}{Y:Yx}:∀ (s:Sx) {Γ:Gm}{X:Cx}{E:XK}{k:Nat}{x:Stmt},GdS T Γ X Y E k->Zdd Γ s x=Wm->PS X x (ZrH T Y E s)
 | .ret e,Γ,X,E,k,x,G,h=>by
   unfold Zdd at h;split at h
   . exact (Zp0 (Zm e G.toGd h)).imp fun D Z H ⟨S,h,B,rh,rs,f⟩=>⟨S,h,B,rh,rs,ZC.bind f fun d h1 v H1 μ1 _ g rh1 rd f1=>f1 H1 μ1 Gr.refl rh1 v rd⟩
   . cases h
 | .set g e,Γ,X,E,k,x,G,h=>by
   unfold Zdd at h;split at h
   . rename_i tg xe pos;rw [Oa,Oa] at h;obtain ⟨⟨h1,h2⟩,h3⟩:=h;have fin:∀ {D:Ends}{Z:L2.St}{H:Hp},ZrH T Y E (.set g e) D Z H->ZlK (ZbO T Y E e) (tgR X.K g) D Z H:=fun {D Z H} ⟨S,h,B,rh,rs,f⟩=>⟨S,h,B,rh,rs,ZC.bind f fun d h1 v H1 μ1 _ g1 rh1 rd f1=>by
       obtain ⟨ρ1,eb,f1⟩:=f1.ofO;exact ZhR G.gk.K rd (rs.mono rh g1) eb fun σ1 rs1=>f1.nx rh1 rs1⟩
     rw [Wi,Oa] at h3;have pg:=Zko (X:=X) G.N G.nd G.calm G.ownD h1;rcases h3 with ⟨h3,h4⟩|h3
     . cases g with
       | nm i =>
         obtain ⟨y,py,rfl,e1,e2⟩:=Zbp (show Ziy Γ.N (ownD Γ.sc) i tg=Wm from h1);obtain ⟨o1,o2⟩:=G.ownD y e2;exact (Zme G.nd (by rw [G.N];exact e1) o1 (Zm e G.toGd h2) (Zdl h3) o2).imp fun D Z H q=>fin q
       | two i j =>
         obtain ⟨x,p,y,q,k,r,rfl,_⟩:=Zg5 h1;exact (Zjq (pos:=pos) (Zm e G.toGd h2) pg (by unfold swapsWithSole;exact Zdl h3) (Zeq h4 (fun _ _ z=>by cases z)) rfl).imp fun D Z H q=>fin q
       | many is =>
         obtain ⟨es,k,r,rfl,_⟩:=ZfQ h1;exact (Zjq (pos:=pos) (Zm e G.toGd h2) pg (by unfold swapsWithSole;exact Zdl h3) (Zeq h4 (fun _ _ z=>by cases z)) rfl).imp fun D Z H q=>fin q
     . unfold ZiJ at h3;split at h3
       . rename_i y0 p0 _ _ _ _;cases g with
         | nm i =>
           obtain ⟨y,py,q,e1,e2⟩:=Zbp (show Ziy Γ.N (ownD Γ.sc) i (.Name y0 p0)=Wm from h1);cases q;exact (ZlT G e1 e2 h2).imp fun D Z H q=>fin q
         | two i j=>obtain ⟨x,p,y,q,k,r,z,_⟩:=Zg5 h1;cases z
         | many is=>obtain ⟨es,k,r,z,_⟩:=ZfQ h1;cases z
       . cases h3
   . cases h
 | .put o i e,Γ,X,E,k,x,G,h=>by
   unfold Zdd at h;split at h
   . rename_i xo xi p1 xe p2;rw [Oa,Oa,Oa,Oa] at h;obtain ⟨⟨⟨⟨h1,h2⟩,h3⟩,h4⟩,h5⟩:=h;refine (Zjq (pos:=p2) (Zm e G.toGd h3) (Zp5 (pos:=p1) (Zm o G.toGd h1) (Zm i G.toGd h2) (ZpY (Y:=Y) (E:=E)) ?_) (by unfold swapsWithSole;exact Zdl h5) (Zeq rfl (fun _ _ z=>by cases z)) rfl).imp fun D Z H ⟨S,h,B,rh,rs,f⟩=>⟨S,h,B,rh,rs,ZC.bind f fun d h1 v H1 μ1 _ g1 rh1 rd f1 =>
       ⟨S,h1,μ1,rh1,rs.mono rh g1,f1.bind fun d2 h2 v2 H2 μ2 _ g2 rh2 rd2 f2=>⟨S,h2,μ2,rh2,(rs.mono rh g1).mono rh1 g2,f2.bind fun d3 h3 v3 H3 μ3 _ g3 rh3 rd3 f3 =>
         ⟨d2,d3,d,h3,μ3,rh3,rd2.mono rh2 g3,rd3,(rd.mono rh1 g2).mono rh2 g3,f3.bind fun _ h4 _ H4 μ4 _ g4 rh4 _ f4=>f4.nx rh4 ((((rs.mono rh g1).mono rh1 g2).mono rh2 g3).mono rh3 g4)⟩⟩⟩⟩
     cases xi<;>first|(intro _;rfl)|cases h4
   . cases h
 | .aug i op e,Γ,X,E,k,x,G,h=>by
   unfold Zdd at h;split at h
   . rw [Oa,Oa,Oa,Oa] at h;obtain ⟨⟨⟨⟨h1,h2⟩,h3⟩,h4⟩,h5⟩:=h;have e1:=of_decide_eq_true h1;have e2:=of_decide_eq_true h2;subst e1 e2;obtain ⟨o1,o2⟩:=G.ownD _ h4;refine (Zp3 G.nd (by rw [G.N];exact of_decide_eq_true h3) o1 (Zm e G.toGd h5) ZqH o2).imp fun D Z H ⟨S,h,B,rh,rs,f⟩=>?_;obtain ⟨d,ed,f⟩:=ZC.ofO f;obtain ⟨v,ev,rd⟩:=rs.var ed;refine ⟨v,ev,S,h,B,rh,rs,ZC.bind f fun d2 h2 v2 H2 μ2 _ g2 rh2 rd2 f2=>?_⟩;cases rd with
     | int a =>
       cases rd2 with
       | int b=>exact ⟨a,b,rfl,rfl,ZC.nx f2 rh2 ((rs.mono rh g2).set (.int _))⟩
       | _=>exact f2.elim
     | _=>exact f2.elim
   . cases h
 | .drp e,Γ,X,E,k,x,G,h=>by
   unfold Zdd at h;split at h
   . rw [Oa] at h;exact (ZnO (Zm e G.toGd h.1) (Zdl h.2)).imp fun D Z H ⟨S,h,B,rh,rs,f⟩=>⟨S,h,B,rh,rs,ZC.bind f fun d h1 v H1 μ1 _ g1 rh1 rd f1=>f1.nx rh1 (rs.mono rh g1)⟩
   . cases h
 | .iff c a b,Γ,X,E,k,x,G,h=>by
   unfold Zdd at h;split at h
   . rw [Oa,Oa] at h;refine (Zr0 (tst_ok c G.toGd h.1.1) (sts_ok a G h.1.2) (sts_ok b G h.2)).imp fun D Z H ⟨S,h,B,rh,rs,f⟩=>⟨S,h,B,rh,rs,ZC.bind f fun t h1 v H1 μ1 _ g1 rh1 rd f1=>?_⟩
     subst rd;cases t with
     | true=>exact ZjO ⟨S,h1,μ1,rh1,rs.mono rh g1,f1⟩
     | false=>exact ZjP ⟨S,h1,μ1,rh1,rs.mono rh g1,f1⟩
   . cases h
 | .whl c b,Γ,X,E,k,x,G,h=>by
   unfold Zdd at h;split at h
   . rw [Oa] at h;refine (Zmd G.own (tst_ok c G.toGd h.1) (sts_ok b G h.2)).imp fun D Z H ⟨S,h,B,rh,rs,f⟩=>?_;refine ⟨fun m Z H=>∃ S h B,RH Y H B h/\RS Y H B S Z/\ZC Y H B (Zbj (tst T c) (xs2 T b) m S h) D E,⟨T.L,S,h,B,rh,rs,f⟩,?_⟩;rintro m Z H ⟨S,h,B,rh,rs,f⟩;cases m with
     | zero=>exact f.elim
     | succ m =>
       refine ⟨S,h,B,rh,rs,ZC.bind f fun t h1 v H1 μ1 _ g1 rh1 rd f1=>?_⟩;subst rd;cases t with
       | false=>exact ZjP (ZC.nx f1 rh1 (rs.mono rh g1))
       | true =>
         refine ZjO ⟨fun σ' H'=>∃ S h B,RH Y H' B h/\RS Y H' B S σ'/\ZC Y H' B (Zbj (tst T c) (xs2 T b) m S h) D E,fun σ' H' q=>⟨m,OH m,q⟩,S,h1,μ1,rh1,rs.mono rh g1,?_⟩;refine ZC.part f1 fun p h2 H2 μ2 _ g2 rh2 f2=>?_;obtain ⟨fl,ρ2⟩:=p;cases fl with
         | nx=>exact fun σ' rs'=>⟨ρ2,h2,μ2,rh2,rs',f2⟩
         | ct=>exact fun σ' rs'=>⟨ρ2,h2,μ2,rh2,rs',f2⟩
         | bk=>exact fun σ' rs'=>ZC.nx f2 rh2 rs'
         | rt d=>exact fun v rv=>f2 H2 μ2 Gr.refl rh2 v rv
   . cases h
 | .forr g it b,Γ,X,E,k,x,G,h=>by
   unfold Zdd at h;split at h
   . rw [Oa,Oa,Oa] at h;obtain ⟨⟨⟨h1,h2⟩,h3⟩,h4⟩:=h;refine (Zp1 G.own G.calm (evi_ok it G.toGd h1) (Zko (X:=X) G.N G.nd G.calm G.ownD h3) (sts_ok b G h4) (Zjh X.env h2)).imp fun D Z H ⟨S,h,B,rh,rs,f⟩=>⟨S,h,B,rh,rs,ZC.bind f fun w h1 J H1 μ1 _ g1 rh1 wj f1=>?_⟩
     refine ⟨fun i m Z H=>∃ S h B,i<=w.xs.length/\m=w.xs.length - i/\Gr H1 μ1 H B/\RH Y H B h/\RS Y H B S Z/\ZC Y H B (ZaI w.src g (xs2 T b) (w.xs.drop i) S h) D E,⟨w.xs.length,S,h1,μ1,Yv _,by simp,Gr.refl,rh1,rs.mono rh g1,f1⟩,?_⟩;rintro i m Z H ⟨S,h,B,hi,rfl,g0,rh,rs,f⟩;by_cases hlt:i<w.xs.length
     . obtain ⟨d,hd⟩:∃ d,w.xs[i]? = Wj d:=⟨_,Og hlt⟩
       have hdrop:w.xs.drop i=d::w.xs.drop (i+1):=by
         rw [List.drop_eq_getElem_cons hlt];have:=Og hlt;rw [hd] at this;rw [<- YC this]
       rw [hdrop,ZaI] at f;by_cases hs:Wk.stays w.src h=Wm
       . rw [if_pos hs] at f;obtain ⟨go,yl⟩:=(wj H B h g0 rh hs).1 i d hd;refine .inr ⟨go,fun σ' H'=>∃ S h B,i+1<=w.xs.length/\Gr H1 μ1 H' B/\RH Y H' B h/\RS Y H' B S σ'/\ZC Y H' B (ZaI w.src g (xs2 T b) (w.xs.drop (i+1)) S h) D E,fun σ' H' ⟨S,h,B,q1,q2,q3,q4,q5⟩=>⟨_,Nat.sub_lt_sub_left hlt (OH i),S,h,B,q1,rfl,q2,q3,q4,q5⟩,fun x H' hy=>?_⟩;obtain ⟨g2,rh2,rx⟩:=yl x H' hy;split at f
         . exact f.elim
         . rename_i ρ1 hb;refine ZhR G.gk.K rx (rs.mono rh g2) hb fun σ1 rs1=>⟨ρ1,h,B,rh2,rs1,ZC.part (ZC.mono g2 f) fun p h3 H3 μ3 _ g3 rh3 f3=>?_⟩
           have g03:=(g0.trans g2).trans g3;obtain ⟨fl,ρ2⟩:=p;cases fl with
           | nx=>exact fun σ' rs'=>⟨ρ2,h3,μ3,hlt,g03,rh3,rs',f3⟩
           | ct=>exact fun σ' rs'=>⟨ρ2,h3,μ3,hlt,g03,rh3,rs',f3⟩
           | bk=>exact fun σ' rs'=>ZC.nx f3 rh3 rs'
           | rt d=>exact fun v rv=>f3 H3 μ3 Gr.refl rh3 v rv
       . rw [if_neg hs] at f;exact f.elim
     . have he:i=w.xs.length:=by lia
       subst he;rw [List.drop_eq_nil_of_le (Oq _),ZaI] at f;by_cases hs:Wk.stays w.src h=Wm
       . rw [if_pos hs] at f;exact .inl ⟨(wj H B h g0 rh hs).2,ZC.nx f rh rs⟩
       . rw [if_neg hs] at f;exact f.elim
   . cases h
 | .pas,Γ,X,E,k,x,G,h=>by
   unfold Zdd at h;split at h
   . exact ZnN.imp fun D Z H ⟨S,h,B,rh,rs,f⟩=>ZC.nx f rh rs
   . cases h
 | .brk,Γ,X,E,k,x,G,h=>by
   unfold Zdd at h;split at h
   . exact Zmf.imp fun D Z H ⟨S,h,B,rh,rs,f⟩=>f H B Gr.refl rh Z rs
   . cases h
 | .cnt,Γ,X,E,k,x,G,h=>by
   unfold Zdd at h;split at h
   . exact Zis.imp fun D Z H ⟨S,h,B,rh,rs,f⟩=>f H B Gr.refl rh Z rs
   . cases h
 | .any,Γ,X,E,k,x,G,h=>fun pins s Z H D I ⟨S,h,B,rh,rs,f⟩=>f.elim
 | .rai C e,Γ,X,E,k,x,G,h=>by unfold Zdd at h;cases h
 | .trs i f es C,Γ,X,E,k,x,G,h=>by unfold Zdd at h;cases h
 | .seta Cs o f e,Γ,X,E,k,x,G,h=>by
   unfold Zdd at h;split at h
   . rw [Oa,Oa,Oa,Oa,Oa] at h;obtain ⟨⟨⟨⟨⟨h1,h2⟩,h3⟩,h4⟩,h5⟩,h6⟩:=h;have en:=of_decide_eq_true h1;subst en;exact (Zp2 (Zm o G.toGd h2) (Zm e G.toGd h3) (Zdl h4)).imp fun D Z H ⟨S,h,B,rh,rs,f⟩=>⟨S,h,B,rh,rs,ZC.bind f fun d h1 v H1 μ1 _ g1 rh1 rd f1=>⟨S,h1,μ1,rh1,rs.mono rh g1,ZC.bind f1 fun d2 h2 v2 H2 μ2 _ g2 rh2 rd2 f2 =>
       ZlS (Q:=fun _ H'=>D.nx Z H') G.toGd h5 (of_decide_eq_true h6) rh2 rd2 (rd.mono rh1 g2) (ZC.bind f2 fun _ h3 _ H3 μ3 _ g3 rh3 _ f3=>f3.nx rh3 (((rs.mono rh g1).mono rh1 g2).mono rh2 g3))⟩⟩
   . cases h
 | .auga Cs o f e,Γ,X,E,k,x,G,h=>by
   unfold Zdd at h;split at h
   . rw [Oa,Oa,Oa,Oa,Oa] at h;obtain ⟨⟨⟨⟨⟨h0,h1⟩,h2⟩,h3⟩,h5⟩,h6⟩:=h;have eo:=of_decide_eq_true h0;have en:=of_decide_eq_true h1;subst eo;subst en;exact (ZkZ (Zm o G.toGd h2) (Zm e G.toGd h3) ZqI).imp fun D Z H ⟨S,h,B,rh,rs,f⟩=>⟨S,h,B,rh,rs,ZC.bind f fun d h1 x H1 μ1 _ g1 rh1 rd f1=>Zq4 G.toGd h5 (of_decide_eq_true h6) rh1 (rs.mono rh g1) rd f1⟩
   . cases h
theorem sts_ok{T:Tb}{Y:Yx}:∀(s:Sxs) {Γ:Gm}{X:Cx}{E:XK}{k:Nat}{x:List Stmt},GdS T Γ X Y E k->chkSs Γ s x=Wm->PSs X x (Zo6 T Y E s)
 |.nil,Γ,X,E,k,x,G,h=>by
  unfold chkSs at h;cases x with
  |nil=>exact ZnM.imp λD Z H ⟨S,h,B,rh,rs,f⟩=>ZC.nx f rh rs
  |cons a b=>cases h
 |.cons s r,Γ,X,E,k,x,G,h=>by
  unfold chkSs at h;split at h
  . rw[Oa]at h;refine(Zmc (ZrG s G h.1) (sts_ok r G h.2)).imp λD Z H ⟨S,h,B,rh,rs,f⟩=>⟨S,h,B,rh,rs,ZC.part f λp h1 H1 μ1 _ g1 rh1 f1=>?_⟩
    obtain⟨fl,ρ1⟩:=p;cases fl with
    |nx=>exact λσ' rs'=>⟨ρ1,h1,μ1,rh1,rs',f1⟩
    |bk=>exact λσ' rs'=>f1 H1 μ1 Gr.refl rh1 σ' rs'
    |ct=>exact λσ' rs'=>f1 H1 μ1 Gr.refl rh1 σ' rs'
    |rt d=>exact λv rv=>f1 H1 μ1 Gr.refl rh1 v rv
  . cases h
end
end IV
end
section
set_option tactic.hygienic false
namespace IV
open PySem PySem.Spec PyProof.Rows L2
structure BodyOk(K:Yk)(kl:Kl)(fs:List Str)(x q:Str)(fd:Fd)(st:Stmt)(f:Yi)(fdd:FuncData):Prop where
 fn:Fun K x q st f fdd
 sc:FnScope fd.N fd.ps (ZT st)
 hb:∀(kV doc pm:Yj) (an:Option Yi) (cdv ct:Yj) (us:List Yj),us.length=fd.ps.length->bindArgs (PySem.W.fnOf x q (Zdp st) (ZbW st) (ZT st) .none kV doc pm an cdv ct) ⟨us,[]⟩=pure (fd.ps.zip us)
 ck:chkSs ⟨fd.N,ZT st,fs,Wm,kl⟩ fd.body (ZbW st)=Wm
structure DefOk(K:Yk)(mg:Str->Option Yj)(kl:Kl)(fs:List Str)(x:Str)(fd:Fd)(st:Stmt)(f:Yi)(fdd:FuncData):Prop where
 bd:BodyOk K kl fs x x fd st f fdd
 mg:mg x=Wj (.ref f)
structure Md(Pr:Yh)(w:Yg)(K:Yk)(mg:Str->Option Yj)(P:Pg)(kl:Kl):Prop where
 bare:Zb8 K=Wm
 gd:∀x kvs,P.GD x=Wj kvs->∃a kvs',mg x=Wj (.ref a)/\DkK Pr w K a kvs'/\∀H B,RKs ⟨K,mg⟩ H B kvs kvs'
 g:∀x d,P.G x=Wj d->∃v u,mg x=Wj u/\RelV v u/\∀H B,RD ⟨K,mg⟩ H B d v
 blt:∀x∈(["len", "isinstance", "int", "tuple", "list", "sum", "all", "sorted", "range", "enumerate", "reversed", "str", "bool", "max"]:List Str),mg x=Wl
 defs:∀x fd,P.tb.lookup x=Wj fd->∃st f fdd,DefOk K mg kl (P.tb.map (·.1)) x fd st f fdd
 cls:∀C∈kl.cs,∃a,mg C=Wj (.ref a)/\Cls K a/\∀f∈kl.ats,Z6 K a f
 mts:∀p∈kl.ms,∃a f fdd fd st q,mg p.1=Wj (.ref a)/\Cls K a/\Meth K a p.2 f/\P.look (mnm p.1 p.2)=Wj fd/\BodyOk K kl (P.tb.map (·.1)) p.2 q fd st f fdd
 mks:∀C∈kl.is,∃a f fdd fd st q,mg C=Wj (.ref a)/\Mk K a f/\P.look (mnm C (O "__init__"))=Wj fd/\BodyOk K kl (P.tb.map (·.1)) (O "__init__") q fd st f fdd
 xcs:∀C∈kl.xs,∃a,mg C=Wj (.ref a)/\XOk K a
def ZlL{Y:Yx}{H:Hp}{B:List Yi}{N:List Str}{ds:List D}{vs:List V}(r:RDs Y H B ds vs):RS Y H B (Za N ds) (L2.start N vs):=by
 refine⟨by simp[Za,L2.start,r.length],λi d e=>?_⟩;unfold Za at e;unfold L2.start;by_cases hi:i<ds.length
 . rw[Oe (by simpa using hi),On]at e;rw[Oe (by simpa[<- r.length]using hi),On];obtain⟨d',e1,e2⟩:=Oo.mp e;cases e2;obtain⟨v,h1,h2⟩:=r.get e1;exact⟨v,by rw[h1];rfl,h2⟩
 . rw[Om (by simpa using hi)]at e;have:=O0 e;rw[List.mem_replicate]at this;cases this.2
def ZnC{Y:Yx}{H:Hp}{B:List Yi}{r:R (Fl×Ev)}{Q:VK}{E:XK}(f:Fin Y (RD Y) H B (ZaV r) Q E):ZC Y H B r {nx:=λ_ H'=>Q .non H',rt:=Q} E:=by
 cases r with
 |bad=>exact f.elim
 |exc c h=>exact f
 |ok p h=>
  obtain⟨fl,S⟩:=p;cases fl with
  |nx=>exact λH' μ' g rh σ' _=>f .non H' μ' g rh .non
  |bk=>exact f.elim
  |ct=>exact f.elim
  |rt d=>exact λH' μ' g rh v rv=>f v H' μ' g rh rv
section
variable {Pr:Yh}{w:Yg}{K:Yk}{mg:Str->Option Yj}{base:YD}{P:Pg}{kl:Kl}
def Zhp{x:Str}{fd:Fd}(h:P.tb.lookup x=Wj fd):P.look x=Wj fd:=by unfold Pg.look;rw[h]
def ZlN{n:Nat}{x:Str}{fd:Fd}(hl:P.look x=Wj fd){vs:List V}{H:Hp}{Q:VK}{E:XK}(h:Ze9 (P.tbl n) ⟨K,mg⟩ x vs H Q E):vs.length=fd.ps.length:=by
 obtain⟨ds,h,B,rh,rs,f⟩:=h;cases n with
 |zero=>exact f.elim
 |succ n=>have f:Fin ⟨K,mg⟩ (RD ⟨K,mg⟩) H B (run P (n+1) x ds h) Q E:=f;rw[run,hl]at f;obtain⟨hz,_⟩:=f.iff;rw[<- rs.length];exact hz
structure Lev(Pr:Yh)(w:Yg)(K:Yk)(mg:Str->Option Yj)(base:YD)(P:Pg)(kl:Kl)(n:Nat):Prop where
 defs:∀y∈P.tb.map (·.1),∃ps,Def Pr w K mg base (2 * n+61) y ps (Ze9 (P.tbl n) ⟨K,mg⟩ y)
 mts:∀p∈kl.ms,∃a f fd ps,mg p.1=Wj (.ref a)/\Cls K a/\Meth K a p.2 f/\FnOk Pr w K mg base (CXF Pr w) (2 * n+61) f fd ps (Ze9 (P.tbl n) ⟨K,mg⟩ (mnm p.1 p.2))/\Binds K fd ps []
 mks:∀C∈kl.is,∃a f fd ps,mg C=Wj (.ref a)/\Mk K a f/\FnOk Pr w K mg base (CXF Pr w) (2 * n+61) f fd ps (Ze9 (P.tbl n) ⟨K,mg⟩ (mnm C (O "__init__")))/\Binds K fd ps []
def ZhI(M:Md Pr w K mg P kl){x nm q:Str}{fd:Fd}{st:Stmt}{f:Yi}{fdd:FuncData}(hl:P.look x=Wj fd)(o:BodyOk K kl (P.tb.map (·.1)) nm q fd st f fdd):
 ∀n,Lev Pr w K mg base P kl n->FnOk Pr w K mg base (CXF Pr w) (2 * (n+1)+61) f fdd fd.ps (Ze9 (P.tbl (n+1)) ⟨K,mg⟩ x):=by
 intro n ih;obtain⟨oc,od,kV,doc,pm,an,cdv,ct,osl,rfl,lk,hcd⟩:=o.fn.ex;have S_:=o.sc;rw[show 2 * (n+1)+61=(2 * n+61+1)+1 by lia];refine Zsx lk hcd S_ (λvs H Q E h=>ZlN hl h) λA outer s H vs Q E hr hsp=>?_;refine ZoL (t:=Zo6 (P.tbl n) ⟨K,mg⟩ E fd.body) (sts_ok fd.body (k:=2 * n+61) (Γ:=⟨fd.N,ZT st,P.tb.map (·.1),Wm,kl⟩) ⟨⟨⟨rfl,rfl,M.gd,M.g,M.bare⟩,rfl,λ_=>rfl,λy hy=>?_,λy hy=>hy,S_.nd,rfl,hr.mono (by lia),by lia,Zn4 λ_ _ z=>z,ih.defs,M.blt,hr,λ_ _ _ _ _ _ _ _ _ i3 j3 k3=>Zk4 i3 j3 k3 λ_ _ z=>z,M.cls,ih.mts,ih.mks⟩,rfl,λ_=>rfl,PassesOwn.leaving,?_,ZlW,rfl,rfl,M.xcs⟩ o.ck) ?_
 . unfold Zno at hy;rw[Wi,Wi]at hy;rcases hy with (hy|hy)|hy
   . exact .inl (of_decide_eq_true hy)
   . exact .inr (.inl (of_decide_eq_true hy))
   . exact .inr (.inr (of_decide_eq_true hy))
 . show(if (ZT st).kind.isAnnotationScope then ScopeKind.function else(ZT st).kind)=.function;rw[S_.kind];rfl
 . obtain⟨ds,h,B,rh,rs,f⟩:=hsp;have f:Fin ⟨K,mg⟩ (RD ⟨K,mg⟩) H B (run P (n+1) x ds h) Q E:=f;rw[run,hl]at f;obtain⟨hz,f⟩:=f.iff;exact⟨Za fd.N ds,h,B,rh,ZlL rs,ZnC f⟩
def mem_lookup{α:Type}{l:List (Str×α)}{x:Str}(h:x∈l.map (·.1)):∃a,l.lookup x=Wj a:=by
 induction l with
 |nil=>simp at h
 |cons p r ih=>
  rw[OF];by_cases e:x=p.1
  . have:(x==p.1)=Wm:=by simpa using e
    rw[this];exact⟨_,rfl⟩
  . have:(x==p.1)=Wn:=by simpa using e
    rw[this];exact ih (by simpa[e]using h)
def ZhH{x:Str}{fd:Fd}{f:Yi}{fdd:FuncData}(hl:P.look x=Wj fd):FnOk Pr w K mg base (CXF Pr w) (2 * 0+61) f fdd fd.ps (Ze9 (P.tbl 0) ⟨K,mg⟩ x):=⟨λvs H Q E h=>ZlN hl h,λA outer s H args us vs Q E _ _ _ _ h=>by obtain⟨ds,h,B,rh,rs,f⟩:=h;exact f.elim⟩
def Zng(M:Md Pr w K mg P kl):∀n,Lev Pr w K mg base P kl n:=by
 intro n;induction n with
 |zero=>
  refine⟨λy hy=>?_,λp hp=>?_,λC hC=>?_⟩
  . obtain⟨fd,hl⟩:=mem_lookup hy;obtain⟨st,f,fdd,o⟩:=M.defs y fd hl;exact⟨fd.ps,f,fdd,o.mg,o.bd.fn.kp,o.bd.fn.binds o.bd.hb,ZhH (Zhp hl)⟩
  . obtain⟨a,f,fdd,fd,st,q,m,c,me,hl,o⟩:=M.mts p hp;exact⟨a,f,fdd,fd.ps,m,c,me,ZhH hl,o.fn.binds o.hb⟩
  . obtain⟨a,f,fdd,fd,st,q,m,me,hl,o⟩:=M.mks C hC;exact⟨a,f,fdd,fd.ps,m,me,ZhH hl,o.fn.binds o.hb⟩
 |succ n ih=>
  refine⟨λy hy=>?_,λp hp=>?_,λC hC=>?_⟩
  . obtain⟨fd,hl⟩:=mem_lookup hy;obtain⟨st,f,fdd,o⟩:=M.defs y fd hl;exact⟨fd.ps,f,fdd,o.mg,o.bd.fn.kp,o.bd.fn.binds o.bd.hb,ZhI M (Zhp hl) o.bd n ih⟩
  . obtain⟨a,f,fdd,fd,st,q,m,c,me,hl,o⟩:=M.mts p hp;exact⟨a,f,fdd,fd.ps,m,c,me,ZhI M hl o n ih,o.fn.binds o.hb⟩
  . obtain⟨a,f,fdd,fd,st,q,m,me,hl,o⟩:=M.mks C hC;exact⟨a,f,fdd,fd.ps,m,me,ZhI M hl o n ih,o.fn.binds o.hb⟩
def Zqw(M:Md Pr w K mg P kl){x:Str}{a:Str}{fd:Fd}{fa:Yi}(n:Nat)(hl:P.tb.lookup x=Wj fd)(hps:fd.ps=[a])(hm:mg x=Wj (.ref fa)):
 ∃fdd:FuncData,(∀(s:Yb) (v:Yj),BindsTo s fdd ⟨[v],[]⟩ [(a,v)])/\∀base:YD,FnOk Pr w K mg base (CXF Pr w) (2 * (n+1)+61) fa fdd [a] (Ze9 (P.tbl (n+1)) ⟨K,mg⟩ x):=by
 obtain⟨st,f,fdd,o⟩:=M.defs x fd hl;have e:=hm.symm.trans o.mg;cases e;refine⟨fdd,λs v=>?_,λbase=>hps ▸ ZhI M (Zhp hl) o.bd n (Zng M n)⟩;obtain⟨oc,od,kV,doc,pm,an,cdv,ct,osl,rfl,lk,hcd⟩:=o.bd.fn.ex;have:=o.bd.hb kV doc pm an cdv ct [v] (by rw[hps];rfl);rw[hps]at this;exact BindsTo.of_eq this
end
def Zrp{α:Type}{us:List α}(h:us.length=0):us=[]:=List.length_eq_zero_iff.mp h
def Znp{α:Type}{us:List α}{n:Nat}(h:us.length=n+1):∃a r,us=a::r/\r.length=n:=by
 cases us with
 |nil=>cases h
 |cons a r=>exact⟨a,r,rfl,Nat.succ.inj h⟩
def Zro{α:Type}{us:List α}(h:us.length=1):∃a0,us=[a0]:=by obtain⟨a0,r,rfl,h2⟩:=Znp h;exact⟨a0,by rw[Zrp h2]⟩
def Zrn{α:Type}{us:List α}(h:us.length=2):∃a0 a1,us=[a0,a1]:=by obtain⟨a0,r,rfl,h2⟩:=Znp h;obtain⟨a1,rfl⟩:=Zro h2;exact⟨a0,a1,rfl⟩
def Zrm{α:Type}{us:List α}(h:us.length=3):∃a0 a1 a2,us=[a0,a1,a2]:=by obtain⟨a0,r,rfl,h2⟩:=Znp h;obtain⟨a1,a2,rfl⟩:=Zrn h2;exact⟨a0,a1,a2,rfl⟩
def Ztg{α:Type}{us:List α}(h:us.length=4):∃a0 a1 a2 a3,us=[a0,a1,a2,a3]:=by obtain⟨a0,r,rfl,h2⟩:=Znp h;obtain⟨a1,a2,a3,rfl⟩:=Zrm h2;exact⟨a0,a1,a2,a3,rfl⟩
end IV
end
section
namespace IV
open PySem PySem.Spec PyProof.Rows L2
def All{α:Type}(p:α->Prop):List α->Prop
 |[]=>True
 |a::l=>p a/\All p l
theorem All.mem{α:Type}{p:α->Prop}:∀{l:List α},All p l->∀a∈l,p a
 |[],_,a,h=>by simp at h
 |b::l,⟨h1,h2⟩,a,h=>by
  rcases O1.mp h with rfl|h
  . exact h1
  . exact All.mem h2 a h
def lookup_mem{α:Type}{l:List (Str×α)}{x:Str}{a:α}(h:l.lookup x=Wj a):(x,a)∈l:=by
 induction l with
 |nil=>cases h
 |cons p r ih=>
  rw[OF]at h;by_cases e:x=p.1
  . have:(x==p.1)=Wm:=by simpa using e
    rw[this]at h;cases h;subst e;exact Oi
  . have:(x==p.1)=Wn:=by simpa using e
    rw[this]at h;exact Oh _ (ih h)
noncomputable def spL(K:Yk):Sp:=λvs H Q _=>∃(a:Yi) (ns:List Int),vs=[.ref a]/\SqL K H a (ns.map V.int)/\ns.length<=63/\ZoX H/\∀H',Q (.bl Wm) H'
theorem Zky{Y:Yx}{H:Hp}{B:List Yi}:∀ns:List Int,RDs Y H B (ns.map D.int) (ns.map V.int)
 |[]=>.nil
 |n::r=>.cons (.int n) (Zky r)
def Zrl{l:PySem.W.OpenLaw}{q:Yh}{loose:List Str}{XP:(Str->Option Yj)->YD->Prop}{YP:Yg->YD->Prop}{d:DefRec}{K:Params->Yk}{P:Pg}{kl:Kl}{fd:Fd}(n:Nat)(hn:l.most=Wj 63)(hdf:d.params.defaults=[])(hd:d.name=O "law")(hr:Room (2 * (n+1)+61) callerA)
 (hY:∀(w:Yg) (h:YD),YP w h->(K w.params).In h) (hl:P.tb.lookup (O "law")=Wj fd) (hps:fd.ps=[O "_law_script"])
 (hrun:∀ns:List Int,ns.length<=63->∃h',run P (n+1) (O "law") [.ro (ns.map .int)] []=.ok (.bl Wm) h')
 (M:∀(w:Yg) (mg:Str->Option Yj) (h:YD),(K w.params).In h->h.Ns Yd mg->Md l.prog w (K w.params) mg P kl) :
 PySem.W.WalkO q loose XP YP l.row.toRowW d [] (λf vs=>PySem.call f vs):=by
 refine L2.Znn (n:=63) (k:=2 * (n+1)+61) (x := "_law_script") (CX:=λw=>CXF l.prog w) (sp:=λw=>spL (K w.params)) hn (by decide) hdf hr hY (λw mg fa h KX G hmg=>?_) (λ_ _ a ns hl hO hS=>⟨a,ns,rfl,hS,hl,hO,λ_=>rfl⟩) λ_ _ _ _ _ z=>by obtain⟨_,_,_,_,_,_,_,_,_,_,_,_,_,z⟩:=z;exact z
 rw[hd]at hmg;obtain⟨fdd,hb,F⟩:=Zqw (M w mg h KX G) n hl hps hmg;refine⟨fdd,hb,λbase _ _=>(F base).imp λvs H Q E hsp=>?_⟩;obtain⟨a,ns,rfl,hS,hz,hO,hq⟩:=hsp;obtain⟨h',e⟩:=hrun ns hz;refine⟨[.ro (ns.map .int)],[],[],⟨rfl,.nil,λi o a e=>by simp at e,λi o e=>by simp at e⟩,.cons (.ro ?_ (Zky ns)) .nil,?_⟩
 . rcases hS with hS|hS
   . rcases hS with hS|hS
     . rcases hO a with z|⟨o,xs,z⟩<;>(rw[z]at hS;cases hS)
     . exact .inl hS
   . exact .inr hS
 . show Fin _ _ H [] (run P (n+1) (O "law") [.ro (ns.map .int)] []) Q E;rw[e];exact λb H' μ' _ _ r=>by cases r;exact hq H'
def Zc1{K:Yk}{H:Hp}{a:Yi}{od:Option Yi}{its:Array Yj}{n:Nat}{sl:Array (Option Yj)}{vs:List V}(h:K.lookup a=Wj ⟨.type "tuple",od,.seq its n,sl⟩)(hz:its.size<=sizeLine)(r:Zk vs its.toList):SqT K H a vs:=
 .inr ⟨_,its,n,h,rfl,rfl,hz,r⟩
end IV
end
section
namespace IV
open PySem L2 PyProof.Rows
structure Chk(kl:Kl)(fs:List Str)(x q:Str)(fd:Fd)(st:Stmt):Prop where
 sc:FnScope fd.N fd.ps (ZT st)
 hb:∀(kV doc pm:Yj) (an:Option Yi) (cdv ct:Yj) (us:List Yj),us.length=fd.ps.length->bindArgs (PySem.W.fnOf x q (Zdp st) (ZbW st) (ZT st) .none kV doc pm an cdv ct) ⟨us,[]⟩=pure (fd.ps.zip us)
 ck:chkSs ⟨fd.N,ZT st,fs,Wm,kl⟩ fd.body (ZbW st)=Wm
variable {K:Yk}{h:YD}{mg:Str->Option Yj}{kl:Kl}{fs:List Str}{x q C:Str}{fd:Fd}{st:Stmt}{ca:Yi}{P:Pg}
def Chk.bd(c:Chk kl fs x q fd st){f:Yi}{fdd:FuncData}(F:Fun K x q st f fdd):BodyOk K kl fs x q fd st f fdd:=⟨F,c.sc,c.hb,c.ck⟩
def ZX(K:Yk)(x:Str)(st:Stmt):Prop:=∃f fdd,Yl K Yd x=Wj (Wj (.ref f))/\Fun K x x st f fdd
def Za9(K:Yk)(ca:Yi)(x q:Str)(st:Stmt):Prop:=∃f fdd,YG K (.ref ca) x=Wj (Wj (.ref f))/\PySem.W.isFn K (.ref f)=Wm/\YZ K (.ref f)=Wm/\Fun K x q st f fdd
def Zf(X:K.In h)(G:h.Ns Yd mg)(d:ZX K x st)(c:Chk kl fs x x fd st):∃st f fdd,DefOk K mg kl fs x fd st f fdd:=by obtain⟨f,fdd,a,F⟩:=d;exact⟨st,f,fdd,c.bd F,YL X G a⟩
def ZA(X:K.In h)(G:h.Ns Yd mg)(y:Yl K Yd C=Wj (Wj (.ref ca)))(cl:Cls K ca)(d:Za9 K ca x q st)(c:Chk kl (P.tb.map (·.1)) x q fd st)(e:P.look (mnm C x)=Wj fd):∃a f fdd fd st q,mg C=Wj (.ref a)/\Cls K a/\Meth K a x f/\P.look (mnm C x)=Wj fd/\BodyOk K kl (P.tb.map (·.1)) x q fd st f fdd:=by obtain⟨f,fdd,u1,u2,u3,F⟩:=d;exact⟨ca,f,fdd,fd,st,q,YL X G y,cl,⟨u1,u2,u3⟩,e,c.bd F⟩
def Zhk(X:K.In h)(G:h.Ns Yd mg)(y:Yl K Yd C=Wj (Wj (.ref ca)))(m:PySem.W.makesIn K ca=Wm)(k:YZ K (.ref ca)=Wm)(d:Za9 K ca (O "__init__") q st)(c:Chk kl (P.tb.map (·.1)) (O "__init__") q fd st)(e:P.look (mnm C (O "__init__"))=Wj fd):∃a f fdd fd st q,mg C=Wj (.ref a)/\Mk K a f/\P.look (mnm C (O "__init__"))=Wj fd/\BodyOk K kl (P.tb.map (·.1)) (O "__init__") q fd st f fdd:=by obtain⟨f,fdd,u1,u2,u3,F⟩:=d;exact⟨ca,f,fdd,fd,st,q,YL X G y,⟨m,u1,u2,k⟩,e,c.bd F⟩
end IV
end
section
set_option tactic.hygienic false
namespace IV
open PySem L2
def Zhh{a b:String}(h:Str.ofString a=Str.ofString b):a=b:=by
 have e:∀s:String,(Str.ofString s).cps.toList=s.toList.map Char.toNat:=λs=>by show(cpsOfBytes 0 0 s.toByteArray.data.toList).toArray.toList=_;rw[cpsOfBytes_string]
 have h1:=congrArg (λs:Str=>s.cps.toList) h;simp only[e]at h1;have h2:a.toList=b.toList:=by
  have inj:∀{x y:Char},x.toNat=y.toNat->x=y:=λ{x y} q=>by have:x.val=y.val:=UInt32.toNat_inj.mp q;exact Char.ext this
  exact(List.map_inj_right λx y q=>inj q).mp h1
 exact String.toList_inj.mp h2
@[simp] theorem ofString_eq(a b:String):(Str.ofString a=Str.ofString b)↔a=b:=⟨Zhh,λh=>h ▸ rfl⟩
@[simp] theorem Zol(a b:String):(Str.ofString a==Str.ofString b)=(a==b):=by rw[Bool.eq_iff_iff];simp
def Un{γ:Type}(k:γ):Type:=Unit
noncomputable def un{γ:Type}{k:γ}:Un k:=()
noncomputable def R.bnd{α β:Type}(r:R α)(k:α->Hd->R β)(u:Un k:=un):R β:=r.bind k
@[simp] theorem ZbC{α β:Type}{a:α}{h:Hd}{k:α->Hd->R β}{u:Un k}:R.bnd (.ok a h) k u=k a h:=rfl
@[simp] theorem Zte{α β:Type}{k:α->Hd->R β}{u:Un k}:R.bnd (R.bad:R α) k u=.bad:=rfl
section
variable {T:Tb}{S:Ev}{h:Hd}
@[simp] theorem bind_ok{α β:Type}{a:α}{h:Hd}{k:α->Hd->R β}:(R.ok a h).bind k=k a h:=rfl
@[simp] theorem bind_bad{α β:Type}{k:α->Hd->R β}:(R.bad:R α).bind k=.bad:=rfl
@[simp] theorem ofO_some{α:Type}{a:α}{h:Hd}:R.ofO (Wj a) h=.ok a h:=rfl
@[simp] theorem Zrc{α:Type}{a:α}{h:Hd}:(R.ok a h).plain=.ok a h:=rfl
@[simp] theorem ZjU{i}:ev T (.var i) S h=R.ofO (S[i]?).join h:=rfl
@[simp] theorem Zt5{d}:ev T (.cst d) S h=.ok d h:=rfl
@[simp] theorem Zt4{x}:ev T (.glo x) S h=R.ofO (T.G x) h:=rfl
@[simp] theorem ZqT{op a b}:ev T (.bin op a b) S h=(ev T a S h).bnd λx h1=>(ev T b S h1).bnd λy h2=>opB op x y h2:=rfl
@[simp] theorem ZqR{op a b}:ev T (.cmp op a b) S h=(ev T a S h).bnd λx h1=>(ev T b S h1).bnd λy h2=>opC T.GD op x y h2:=rfl
@[simp] theorem Zt0{a}:ev T (.neg a) S h=(ev T a S h).bnd λx h1=>match x with
 |.int i=>.ok (.int (-i)) h1
 |_=>.bad:=rfl
@[simp] theorem Zur{a}:ev T (.nt a) S h=(ev T a S h).bnd λx h1=>match x with
 |.bl b=>.ok (.bl (!b)) h1
 |_=>.bad:=rfl
@[simp] theorem Ztd{es}:ev T (.ands es) S h=evAnd T es S h:=rfl
@[simp] theorem ZtZ{es}:ev T (.ors es) S h=evOr T es S h:=rfl
@[simp] theorem Zrf{e}:evAnd T (.cons e .nil) S h=ev T e S h:=rfl
@[simp] theorem Zre{e e' r}:evAnd T (.cons e (.cons e' r)) S h=(ev T e S h).bnd λx h1=>match x with
 |.bl Wm=>evAnd T (.cons e' r) S h1
 |.bl Wn=>.ok (.bl Wn) h1
 |_=>.bad:=rfl
@[simp] theorem ZsF{e}:evOr T (.cons e .nil) S h=ev T e S h:=rfl
@[simp] theorem ZsE{e e' r}:evOr T (.cons e (.cons e' r)) S h=(ev T e S h).bnd λx h1=>match x with
 |.bl Wm=>.ok (.bl Wm) h1
 |.bl Wn=>evOr T (.cons e' r) S h1
 |_=>.bad:=rfl
@[simp] theorem ZmT{c a b}:ev T (.ite c a b) S h=(tst T c S h).bnd λc h1=>if c then ev T a S h1 else ev T b S h1:=rfl
@[simp] theorem Zoz{es}:ev T (.tupl es) S h=(evs T es S h).bnd λxs h1=>if xs.length<=sizeLine then .ok (.tup xs) h1 else .bad:=rfl
@[simp] theorem ZoA{es}:ev T (.lstl es) S h=(evs T es S h).bnd λxs h1=>if xs.length<=sizeLine then ZcS (.lst xs) h1 else .bad:=rfl
@[simp] theorem ZsB{a i}:ev T (.ix a i) S h=(ev T a S h).bnd λx h1=>(ev T i S h1).bnd λy h2=>Zcx T.GD x y h2:=rfl
@[simp] theorem Zuq{a lo hi}:ev T (.sl a lo hi) S h=(ev T a S h).bnd λx h1=>(evo T lo S h1).bnd λl h2=>(evo T hi S h2).bnd λu h3=>Zk8 x l u h3:=rfl
@[simp] theorem ZqS{f es}:ev T (.blt f es) S h=(evs T es S h).bnd λxs h1=>ZeN T.GD f xs h1:=rfl
@[simp] theorem ZoD{f es}:ev T (.call f es) S h=(evs T es S h).bnd λxs h1=>T.C f xs h1:=rfl
@[simp] theorem Ztb{m o es}:ev T (.meth m o es) S h=(ev T o S h).bnd λx h1=>if Zab x h1 then(evs T es S h1).bnd λxs h2=>ZaX m x xs h2 else .bad:=rfl
@[simp] theorem ZoC{NC js it g c e}:ev T (.comp NC js it g c e) S h=(evi T it S h).bnd λw h1=>(ZaC w.src g (tsto T c) (ev T e) w.xs (ZdH js S) [] h1).bnd λxs h2=>ZcS (.lst xs) h2:=rfl
@[simp] theorem Ztc{e d}:ev T (.maxd e d) S h=(ev T e S h).bnd λx h1=>(ev T d S h1).bnd λy h2=>Zpk x y h2:=rfl
@[simp] theorem ZsC{ps}:ev T (.dictl ps) S h=(evs T ps S h).bnd λxs h1=>match ZdL xs with
 |some kvs=>if kvs.length<=15 then ZcS (.dic (Zev [] kvs)) h1 else .bad
 |none=>.bad:=rfl
@[simp] theorem Zt7{Cs o f}:ev T (.att Cs o f) S h=(ev T o S h).bnd λx h1=>ZaY Cs f x h1:=rfl
@[simp] theorem ZsA{C es}:ev T (.mk C es) S h=(evs T es S h).bnd λxs h1=>ZfP T.C C xs h1:=rfl
@[simp] theorem ZqQ{C m o es}:ev T (.mcl C m o es) S h=(ev T o S h).bnd λx h1=>match Zq x h1 with
 |some (C',fs)=>if C'=C/\fs.lookup m=Wl then(evs T es S h1).bnd λxs h2=>T.C (mnm C m) (x::xs) h2 else .bad
 |none=>.bad:=rfl
@[simp] theorem Zta{e}:ev T (.trev e) S h=(ev T e S h).bnd λx h1=>ZkJ x h1:=rfl
@[simp] theorem Zt1{e}:ev T (.lrv e) S h=(ev T e S h).bnd λx h1=>ZsN x h1:=rfl
@[simp] theorem ZtY{o e}:ev T (.tix o e) S h=(ev T o S h).bnd λx h1=>if ZqG x then(ev T e S h1).bnd λy h2=>Zlv x y h2 else .bad:=rfl
@[simp] theorem Zt2{o e}:ev T (.lix o e) S h=(ev T o S h).bnd λx h1=>if Zab x h1 then(ev T e S h1).bnd λy h2=>ZsO x y h2 else .bad:=rfl
@[simp] theorem Zt3{a b}:ev T (.lin a b) S h=(ev T a S h).bnd λx h1=>(ev T b S h1).bnd λy h2=>ZsP x y h2:=rfl
@[simp] theorem Zrh{Cs o f e}:xs1 T (.seta Cs o f e) S h=(ev T e S h).bnd λd h1=>(ev T o S h1).bnd λx h2=>(Zfa Cs f x d h2).bnd λ_ h3=>.ok (.nx,S) h3:=rfl
@[simp] theorem Zrj{Cs o f e}:xs1 T (.auga Cs o f e) S h=(ev T o S h).bnd λx h1=>(ZaY Cs f x h1).bnd λv h2=>(ev T e S h2).bnd λy h3=>match v,y with
 |.int a,.int b=>if (Zq x h1).map (·.1)=(Zq x h3).map (·.1)then(Zfa Cs f x (.int (a+b)) h3).bnd λ_ h4=>.ok (.nx,S) h4 else .bad
 |_,_=>.bad:=rfl
@[simp] theorem Zs5:evs T .nil S h=.ok [] h:=rfl
@[simp] theorem ZmR{e es}:evs T (.cons e es) S h=(ev T e S h).bnd λx h1=>(evs T es S h1).bnd λxs h2=>.ok (x::xs) h2:=rfl
@[simp] theorem Zsz:evo T Wl S h=.ok Wl h:=rfl
@[simp] theorem Zsy{e}:evo T (Wj e) S h=(ev T e S h).bnd λx h1=>match x with
 |.int i=>.ok (Wj i) h1
 |_=>.bad:=rfl
@[simp] theorem Zpw{e}:tst T (.ex e) S h=(ev T e S h).bnd λx h1=>R.ofO (Zb1 T.GD x h1) h1:=rfl
@[simp] theorem Zrs{ts}:tst T (.ands ts) S h=tstAnd T ts S h:=rfl
@[simp] theorem ZsZ{ts}:tst T (.ors ts) S h=tstOr T ts S h:=rfl
@[simp] theorem Zth{a}:tst T (.nt a) S h=(tst T a S h).bnd λc h1=>.ok (!c) h1:=rfl
@[simp] theorem Zpy{t}:tstAnd T (.one t) S h=tst T t S h:=rfl
@[simp] theorem ZoZ{t ts}:tstAnd T (.cons t ts) S h=(tst T t S h).bnd λc h1=>if c then tstAnd T ts S h1 else .ok Wn h1:=rfl
@[simp] theorem Zra{t}:tstOr T (.one t) S h=tst T t S h:=rfl
@[simp] theorem Zpx{t ts}:tstOr T (.cons t ts) S h=(tst T t S h).bnd λc h1=>if c then .ok Wm h1 else tstOr T ts S h1:=rfl
@[simp] theorem ZkP:tsto T Wl S h=.ok Wm h:=rfl
@[simp] theorem Zq9{t}:tsto T (Wj t) S h=tst T t S h:=rfl
@[simp] theorem ZmS{e}:evi T (.pl e) S h=(ev T e S h).bnd λx h1=>R.ofO (Zbk x h1) h1:=rfl
@[simp] theorem Zs6{e}:evi T (.rng e) S h=(ev T e S h).bnd λx h1=>match x with
 |.int j=>if Zdm j then .ok ⟨Wl,ZaH 0 j.toNat⟩ h1 else .bad
 |_=>.bad:=rfl
@[simp] theorem Zoy{e}:evi T (.enu e) S h=(ev T e S h).bnd λx h1=>R.ofO ((ZlA x h1).map λw=>⟨w.src,ZcQ w.xs⟩) h1:=rfl
@[simp] theorem Zs7{e}:evi T (.rev e) S h=(ev T e S h).bnd λx h1=>R.ofO ((Zj9 x h1).map λw=>⟨w.src,w.xs.reverse⟩) h1:=rfl
@[simp] theorem Zs8{e}:evi T (.en1 e) S h=(ev T e S h).bnd λx h1=>match x with
 |.tup xs=>.ok ⟨Wl,ZmX xs⟩ h1
 |_=>.bad:=rfl
@[simp] theorem Zs9{e}:evi T (.en0 e) S h=(ev T e S h).bnd λx h1=>match x with
 |.tup xs=>.ok ⟨Wl,ZcQ xs⟩ h1
 |_=>.bad:=rfl
@[simp] theorem ZtX{e}:evi T (.dk e) S h=(ev T e S h).bnd λx h1=>Zsv x h1:=rfl
@[simp] theorem Zni{e}:xs1 T (.ret e) S h=(ev T e S h).bnd λx h1=>.ok (.rt x,S) h1:=rfl
@[simp] theorem Zg4{g e}:xs1 T (.set g e) S h=(ev T e S h).bnd λx h1=>(R.ofO (ZbX g x S) h1).bnd λρ1 h2=>.ok (.nx,ρ1) h2:=rfl
@[simp] theorem ZsW{o i e}:xs1 T (.put o i e) S h=(ev T e S h).bnd λx h1=>(ev T o S h1).bnd λy h2=>(ev T i S h2).bnd λz h3=>(Zkl y z x h3).bnd λ_ h4=>.ok (.nx,S) h4:=rfl
@[simp] theorem Znj{e}:xs1 T (.drp e) S h=(ev T e S h).bnd λ_ h1=>.ok (.nx,S) h1:=rfl
@[simp] theorem Zj7{c a b}:xs1 T (.iff c a b) S h=(tst T c S h).bnd λt h1=>if t then xs2 T a S h1 else xs2 T b S h1:=rfl
@[simp] theorem ZsV{c b}:xs1 T (.whl c b) S h=Zbj (tst T c) (xs2 T b) T.L S h:=rfl
@[simp] theorem Zly{g it b}:xs1 T (.forr g it b) S h=(evi T it S h).bnd λw h1=>ZaI w.src g (xs2 T b) w.xs S h1:=rfl
@[simp] theorem ZsU:xs2 T .nil S h=.ok (.nx,S) h:=rfl
@[simp] theorem Zig{s r}:xs2 T (.cons s r) S h=(xs1 T s S h).bnd λp h1=>match p with
 |(.nx,ρ1)=>xs2 T r ρ1 h1
 |p=>.ok p h1:=rfl
def Zb{s:Sx}{r:Sxs}{ρ1:Ev}{h1:Hd}(e:xs1 T s S h=.ok (.nx,ρ1) h1):xs2 T (.cons s r) S h=xs2 T r ρ1 h1:=by rw[Zig,e];rfl
def ZD{s:Sx}{r:Sxs}{ρ1:Ev}{h1:Hd}{d:D}(e:xs1 T s S h=.ok (.rt d,ρ1) h1):xs2 T (.cons s r) S h=.ok (.rt d,ρ1) h1:=by rw[Zig,e];rfl
@[simp] theorem ZoQ{i d}:ZbX (.nm i) d S=Wj (S.set i (Wj d)):=rfl
@[simp] theorem Znc{i j a b}:ZbX (.two i j) (.tup [a,b]) S=Wj ((S.set i (Wj a)).set j (Wj b)):=rfl
@[simp] theorem ZtB{d:D}:ZaV (.ok (.rt d,S) h)=.ok d h:=rfl
@[simp] theorem ZtC:ZaV (.ok (.nx,S) h)=.ok .non h:=rfl
end
@[simp] theorem ZkR{xs:List D}{h:Hd}:seqOf (.tup xs) h=Wj xs:=rfl
@[simp] theorem Zsd{f:Int->Int->Bool}{i j:Int}{h:Hd}:Zhf f (.int i) (.int j) h=.ok (.bl (f i j)) h:=rfl
section
variable {GD:Str->Option (List (Key×D))}{h:Hd}
@[simp] theorem Zhg{x y}:opC GD .Eq x y h=Zdr Wn x y h:=rfl
@[simp] theorem ZtO{x y}:opC GD .NotEq x y h=Zdr Wm x y h:=rfl
@[simp] theorem ZtP{i j}:opC GD .Lt (.int i) (.int j) h=.ok (.bl (Wo (i<j))) h:=rfl
@[simp] theorem ZtQ{i j}:opC GD .LtE (.int i) (.int j) h=.ok (.bl (Wo (i<=j))) h:=rfl
@[simp] theorem ZtS{i j}:opC GD .Gt (.int i) (.int j) h=.ok (.bl (Wo (j<i))) h:=rfl
@[simp] theorem ZtT{i j}:opC GD .GtE (.int i) (.int j) h=.ok (.bl (Wo (j<=i))) h:=rfl
@[simp] theorem ZtR{x}:opC GD .Is x .non h=.ok (.bl (Wo (x=.non))) h:=rfl
@[simp] theorem Zsf{x}:opC GD .IsNot x .non h=.ok (.bl (!Wo (x=.non))) h:=rfl
@[simp] theorem Zrd{s n}:opC GD .In (.str s) (.kd n) h=match GD n with
 |some kvs=>.ok (.bl (Zdq kvs (.inr s)).isSome) h
 |none=>.bad:=by
 show ZbS GD Wn (.str s) (.kd n) h=_;unfold ZbS;simp only[seqOf,lstOf,dicOf,keyOf];cases GD n<;>rfl
@[simp] theorem Zoh{s n}:opC GD .NotIn (.str s) (.kd n) h=match GD n with
 |some kvs=>.ok (.bl (!(Zdq kvs (.inr s)).isSome)) h
 |none=>.bad:=by
 show ZbS GD Wm (.str s) (.kd n) h=_;unfold ZbS;simp only[seqOf,lstOf,dicOf,keyOf];cases GD n<;>rfl
def Zjd(ss:List Str):(ss.map D.str).all D.flat=Wm:=by rw[OC];intro x hx;obtain⟨s,_,rfl⟩:=List.mem_map.mp hx;rfl
def any_words(ss:List Str)(x:Str):((ss.map D.str).any λz=>eqF z (.str x))=Wo (x∈ss):=by
 induction ss with
 |nil=>rfl
 |cons s r ih=>
  rw[Op,YY,ih];show((s==x) || Wo (x∈r))=_;by_cases e:s=x
  . subst e;simp
  . have:(s==x)=Wn:=by simpa using e
    rw[this];have e':¬ x=s:=λq=>e q.symm;simp[e']
def Zd6{ss:List Str}{x:Str}:opC GD .In (.str x) (.tup (ss.map .str)) h=.ok (.bl (Wo (x∈ss))) h:=by show ZbS GD Wn (.str x) (.tup (ss.map .str)) h=_;unfold ZbS;rw[ZkR];simp only[Zjd,any_words];rfl
@[simp] theorem Zsc{xs i}:Zcx GD (.tup xs) (.int i) h=R.ofO (atI xs i) h:=rfl
@[simp] theorem Zoc{xs i}:Zcx GD (.ro xs) (.int i) h=R.ofO (atI xs i) h:=rfl
@[simp] theorem Zs1{n s}:Zcx GD (.kd n) (.str s) h=match GD n with
 |some kvs=>R.ofO (Zdq kvs (.inr s)) h
 |none=>.bad:=rfl
def Zd5{i k xs}(e:h[i]? = Wj (.lst xs)):Zcx GD (.ref i) (.int k) h=R.ofO (atI xs k) h:=by unfold Zcx;simp only[seqOf,lstOf,e]
@[simp] theorem Zuv{α:Type}{x:α}{l:List α}:atI (x::l) 0=Wj x:=by simp[atI,ixN]
def ZcL{α:Type}{l:List α}{k:Nat}:atI l (k:Int)=l[k]? := by
 unfold atI ixN;by_cases hk:k<l.length
 . simp[hk]
 . simp[hk]
@[simp] theorem Zuu{α:Type}{x y:α}{l:List α}:atI (x::y::l) 1=Wj y:=ZcL (k:=1)
@[simp] theorem Zut{α:Type}{x y z:α}{l:List α}:atI (x::y::z::l) 2=Wj z:=ZcL (k:=2)
@[simp] theorem Zus{α:Type}{x y z w:α}{l:List α}:atI (x::y::z::w::l) 3=Wj w:=ZcL (k:=3)
def Zgq{α:Type}{l:List α}{x:α}:atI (l++[x]) (-1)=Wj x:=by
 unfold atI ixN;rw[if_neg (by decide),if_pos (by simp;lia)];have:(-1+((l++[x]).length:Int)).toNat=l.length:=by simp;lia
 simp only[Option.bind_some,this];simp
@[simp] theorem Zsb{xs l u}:Zk8 (.tup xs) l u h=.ok (.tup (cutD xs l u)) h:=rfl
@[simp] theorem Zrg{x:D}{l:List D}:cutD (x::l) (Wj 1) Wl=l:=by simp[cutD,HT.sIx]
@[simp] theorem Zs0{b}:Zb1 GD (.bl b) h=Wj b:=rfl
@[simp] theorem Zrv{i}:Zb1 GD (.int i) h=Wj (i != 0):=rfl
@[simp] theorem Zrt{xs}:Zb1 GD (.tup xs) h=Wj (!xs.isEmpty):=rfl
@[simp] theorem Zru:Zb1 GD .non h=Wj Wn:=rfl
@[simp] theorem Zs3{i j}:opB .Add (.int i) (.int j) h=.ok (.int (i+j)) h:=rfl
@[simp] theorem Zs2{i j}:opB .Sub (.int i) (.int j) h=.ok (.int (i - j)) h:=rfl
def Zao{i j:Int}(hj:0<j):opB .Mod (.int i) (.int j) h=.ok (.int (i % j)) h:=if_pos hj
def Zoi{i j:Int}(hj:0<j/\j<1073741824):opB .FloorDiv (.int i) (.int j) h=.ok (.int (i / j)) h:=if_pos hj
def ZaQ{i j:Int}(hj:i.natAbs<2 ^ 2000/\j.natAbs<2 ^ 2000):opB .Mult (.int i) (.int j) h=.ok (.int (i * j)) h:=if_pos hj
def Zcy{xs ys:List D}(hl:xs.length+ys.length<=sizeLine):opB .Add (.tup xs) (.tup ys) h=.ok (.tup (xs++ys)) h:=if_pos hl
@[simp] theorem ZfM{n:Bool}{x y:Str}:Zdr n (.str x) (.str y) h=.ok (.bl (if n then !Wo (x=y)else Wo (x=y))) h:=by
 have e:YM (.str x) (.str y)=Wo (x=y):=by show(x==y)=_;rw[Bool.beq_eq_decide_eq]
 have q:Zdr n (.str x) (.str y) h=if min (PyData.str x).depth (PyData.str y).depth<=1100 then .ok (.bl (if n then !YM (.str x) (.str y)else YM (.str x) (.str y))) h else .bad:=rfl;rw[q,if_pos (by simp[PyData.depth]),e]
@[simp] theorem Zmr{n:Bool}{x y:Int}:Zdr n (.int x) (.int y) h=.ok (.bl (if n then !Wo (x=y)else Wo (x=y))) h:=by
 have e:YM (.int x) (.int y)=Wo (x=y):=by show(x==y)=_;rw[Bool.beq_eq_decide_eq]
 have q:Zdr n (.int x) (.int y) h=if min (PyData.int x).depth (PyData.int y).depth<=1100 then .ok (.bl (if n then !YM (.int x) (.int y)else YM (.int x) (.int y))) h else .bad:=rfl;rw[q,if_pos (by simp[PyData.depth]),e]
end
@[simp] theorem Zrb{xs:List D}(h:xs.length<=1000):xs.length<=sizeLine:=OE h (by decide)
def Zg{P:Pg}{n:Nat}{f:Str}{fd:Fd}{ds:List D}{h:Hd}(e:P.tb.lookup f=Wj fd)(hl:ds.length=fd.ps.length):run P (n+1) f ds h=ZaV (xs2 ⟨P.G,P.GD,run P n,P.L⟩ fd.body (Za fd.N ds) h):=by rw[run,show P.look f=Wj fd by unfold Pg.look;rw[e]];simp only;rw[if_pos hl]
def Zaa{P:Pg}{n:Nat}{f:Str}{fd:Fd}{ds:List D}{h:Hd}(hn:P.tb.lookup f=Wl)(e:P.ms.lookup f=Wj fd)(hl:ds.length=fd.ps.length):run P (n+1) f ds h=ZaV (xs2 ⟨P.G,P.GD,run P n,P.L⟩ fd.body (Za fd.N ds) h):=by rw[run,show P.look f=Wj fd by unfold Pg.look;rw[hn];exact e];simp only;rw[if_pos hl]
section
variable {h:Hd}{x y z w:DO}{r:List DO}
@[simp] theorem ZoV:(h++x::r)[h.length]? = Wj x:=by simp
@[simp] theorem Zux:(h++x::y::r)[h.length+1]? = Wj y:=by simp
@[simp] theorem Zui:(h++x::y::z::r)[h.length+2]? = Wj z:=by simp
@[simp] theorem Zuw:(h++x::y::z::w::r)[h.length+3]? = Wj w:=by simp
@[simp] theorem Zup{o:DO}:(h++x::r).set h.length o=h++o::r:=by simp
@[simp] theorem ZrX{o:DO}:(h++x::y::r).set (h.length+1) o=h++x::o::r:=by simp
@[simp] theorem Zuo{o:DO}:(h++x::y::z::r).set (h.length+2) o=h++x::y::o::r:=by simp
end
@[simp] theorem Zs4{o:DO}{h:Hd}:ZcS o h=.ok (.ref h.length) (h++[o]):=rfl
section
variable {h:Hd}
def ZiB{i:Nat}{ys:List D}{d:D}(e:h[i]? = Wj (.lst (ys++[d]))):ZaX .pop (.ref i) [] h=.ok d (h.set i (.lst ys)):=by simp only[ZaX,e,ZcT,Zmz];simp
def ZgP{i:Nat}{ys:List D}(e:h[i]? = Wj (.lst ys)):Zab (.ref i) h=Wm:=by simp[Zab,e]
def Zkb{GD:Str->Option (List (Key×D))}{i:Nat}{ys:List D}(e:h[i]? = Wj (.lst ys)):Zb1 GD (.ref i) h=Wj (!ys.isEmpty):=by simp[Zb1,e]
@[simp] theorem Zsw{g:Tg}{body:Ev->Hd->R (Fl×Ev)}{S:Ev}:ZaI Wl g body [] S h=.ok (.nx,S) h:=rfl
def ZgQ{g:Tg}{body:Ev->Hd->R (Fl×Ev)}{d:D}{ds:List D}{S:Ev}:ZaI Wl g body (d::ds) S h=match ZbX g d S with
 |none=>.bad
 |some ρ1=>(body ρ1 h).bnd λp h2=>match p with
  |(.nx,ρ2)=>ZaI Wl g body ds ρ2 h2
  |(.ct,ρ2)=>ZaI Wl g body ds ρ2 h2
  |(.bk,ρ2)=>.ok (.nx,ρ2) h2
  |(.rt d,ρ2)=>.ok (.rt d,ρ2) h2:=rfl
def ZdS{src:Option (Nat×List D)}{g:Tg}{test:Ev->Hd->R Bool}{elt:Ev->Hd->R D}{d:D}{ds:List D}{S:Ev}{acc:List D}:ZaC src g test elt (d::ds) S acc h=if Wk.stays src h/\acc.length<sizeLine then match ZbX g d S with
 |none=>.bad
 |some ρ1=>(test ρ1 h).bnd λb h1=>if b then(elt ρ1 h1).bnd λx h2=>ZaC src g test elt ds S (acc++[x]) h2 else ZaC src g test elt ds S acc h1
 else .bad:=rfl
def ZZ{test:Ev->Hd->R Bool}{body:Ev->Hd->R (Fl×Ev)}{n:Nat}{S:Ev}:Zbj test body (n+1) S h=(test S h).bnd λb h1=>if b then(body S h1).bnd λp h2=>match p with
 |(.nx,ρ2)=>Zbj test body n ρ2 h2
 |(.ct,ρ2)=>Zbj test body n ρ2 h2
 |(.bk,ρ2)=>.ok (.nx,ρ2) h2
 |(.rt d,ρ2)=>.ok (.rt d,ρ2) h2
 else .ok (.nx,S) h1:=rfl
end
inductive Wd where
 |add|sub|mul|lt
 deriving DecidableEq
noncomputable def Wd.s:Wd->Str
 |.add=>O "+"
 |.sub=>O "-"
 |.mul=>O "*"
 |.lt=>O "<"
inductive T where
 |num (n:Int)|name (x:Str)|fn (x:Str) (e:T)|rcc (f x:Str) (e:T)|call (f a:T)|iff (c t e:T)|op (w:Wd) (a b:T)
noncomputable def T.d:T->D
 |.num n=>.tup [.str (O "num"),.int n]
 |.name x=>.tup [.str (O "name"),.str x]
 |.fn x e=>.tup [.str (O "fn"),.str x,e.d]
 |.rcc f x e=>.tup [.str (O "rec"),.str f,.str x,e.d]
 |.call f a=>.tup [.str (O "call"),f.d,a.d]
 |.iff c t e=>.tup [.str (O "if"),c.d,t.d,e.d]
 |.op w a b=>.tup [.str w.s,a.d,b.d]
noncomputable def T.parts:T->List T
 |.num _|.name _=>[]
 |.fn _ e|.rcc _ _ e=>[e]
 |.call f a=>[f,a]
 |.iff c t e=>[c,t,e]
 |.op _ a b=>[a,b]
noncomputable def T.places:T->List T
 |.num n=>[.num n]
 |.name x=>[.name x]
 |.fn x e=>.fn x e::e.places
 |.rcc f x e=>.rcc f x e::e.places
 |.call f a=>.call f a::(f.places++a.places)
 |.iff c t e=>.iff c t e::(c.places++(t.places++e.places))
 |.op w a b=>.op w a b::(a.places++b.places)
noncomputable def T.size(t:T):Nat:=t.places.length
def T.places_parts(t:T):t.places=t::t.parts.flatMap T.places:=by cases t<;>simp[T.places,T.parts]
end IV
end
section
namespace IV
open PySem L2
section
variable {U:Tb}{S:Ev}{h h1:Hd}{f:Str}{as:List D}{r:R D}
def Ze0{c:Tx}{a b:Sxs}(e:tst U c S h=.ok Wm h1):xs1 U (.iff c a b) S h=xs2 U a S h1:=by rw[Zj7,e];rfl
def ZaB{c:Tx}{a b:Sxs}(e:tst U c S h=.ok Wn h1):xs1 U (.iff c a b) S h=xs2 U b S h1:=by rw[Zj7,e];rfl
def Zbo{e:Ex}{d:D}(q:ev U e S h=.ok d h1):xs1 U (.ret e) S h=.ok (.rt d,S) h1:=by rw[Zni,q];rfl
def ZU{i:Nat}{e:Ex}{d:D}(q:ev U e S h=.ok d h1):xs1 U (.set (.nm i) e) S h=.ok (.nx,S.set i (Wj d)) h1:=by rw[Zg4,q];rfl
def ZjS{g:Tg}{it:Ix}{b:Sxs}{w:Wk}(q:evi U it S h=.ok w h1):xs1 U (.forr g it b) S h=ZaI w.src g (xs2 U b) w.xs S h1:=by rw[Zly,q];rfl
def Zj{op:Operator}{a b:Ex}{x y:D}{h2:Hd}(p:ev U a S h=.ok x h1)(q:ev U b S h1=.ok y h2):ev U (.bin op a b) S h=opB op x y h2:=by rw[ZqT,p];simp only[ZbC,q]
def Za1{op:CmpOp}{a b:Ex}{x y:D}{h2:Hd}(p:ev U a S h=.ok x h1)(q:ev U b S h1=.ok y h2):ev U (.cmp op a b) S h=opC U.GD op x y h2:=by rw[ZqR,p];simp only[ZbC,q]
def Zox{e:Ex}{b:Bool}(q:ev U e S h=.ok (.bl b) h1):tst U (.ex e) S h=.ok b h1:=by rw[Zpw,q];rfl
def Zba{b c:Bool}{y:R Bool}(q:y=.ok b h1)(e:b=c):y=.ok c h1:=e ▸ q
def Zh{a:Ex}{es:Exs}{x:D}{xs:List D}{h2:Hd}(p:ev U a S h=.ok x h1)(q:evs U es S h1=.ok xs h2):evs U (.cons a es) S h=.ok (x::xs) h2:=by rw[ZmR,p,ZbC,q];rfl
def Zt6{g:Str}{es:Exs}{xs:List D}(p:evs U es S h=.ok xs h1):ev U (.call g es) S h=U.C g xs h1:=by rw[ZoD,p];rfl
def Zaw{g:Str}{es:Exs}{xs:List D}{y:R D}(e:U.C g xs h1=y)(p:evs U es S h=.ok xs h1):ev U (.call g es) S h=y:=(Zt6 p).trans e
def ZeI{es:Exs}{xs:List D}(p:evs U es S h=.ok xs h1)(hz:xs.length<=1000):ev U (.tupl es) S h=.ok (.tup xs) h1:=by rw[Zoz,p,ZbC,if_pos (OE hz (by decide))]
def ZmU{a b:Ex}{x y:Str}{h2:Hd}(p:ev U a S h=.ok (.str x) h1)(q:ev U b S h1=.ok (.str y) h2):tst U (.ex (.cmp .Eq a b)) S h=.ok (Wo (x=y)) h2:=Zox ((Za1 p q).trans (by rw[Zhg,ZfM];rfl))
def ZcV{a b:Ex}{x y:Int}{h2:Hd}(p:ev U a S h=.ok (.int x) h1)(q:ev U b S h1=.ok (.int y) h2):tst U (.ex (.cmp .Eq a b)) S h=.ok (Wo (x=y)) h2:=Zox ((Za1 p q).trans (by rw[Zhg,Zmr];rfl))
def Zge{a b:Ex}{x y:D}{h2:Hd}(p:ev U a S h=.ok x h1)(q:ev U b S h1=.ok y h2):ev U (.ix a b) S h=Zcx U.GD x y h2:=by rw[ZsB,p,ZbC,q,ZbC]
end
end IV
end
section
set_option tactic.hygienic false
namespace Gn
open PySem L2 IV
noncomputable def ZkB:List (Key×D):=[(.inr (O "fn"),.tup [.int 1,.int 1]),(.inr (O "rec"),.tup [.int 2,.int 1]),(.inr (O "call"),.tup [.int 0,.int 2]),(.inr (O "if"),.tup [.int 0,.int 3]),(.inr (O "+"),.tup [.int 0,.int 2]),(.inr (O "-"),.tup [.int 0,.int 2]),(.inr (O "*"),.tup [.int 0,.int 2]),(.inr (O "<"),.tup [.int 0,.int 2])]
end Gn
end
section
namespace IV
open PySem L2
section
variable {U:Tb}{S:Ev}{h h1 h2 h3:Hd}
def ZsI{e:Ex}{d:D}(q:ev U e S h=.ok d h1):xs1 U (.drp e) S h=.ok (.nx,S) h1:=by rw[Znj,q];rfl
def Zpd{C m:Str}{o:Ex}{es:Exs}{i:Nat}{fs:List (Str×D)}{xs:List D}{r:R D}(p:ev U o S h=.ok (.ref i) h1)(l:h1[i]? = Wj (.ins C fs))(f:fs.lookup m=Wl)(q:evs U es S h1=.ok xs h2)(e:U.C (mnm C m) (.ref i::xs) h2=r):ev U (.mcl C m o es) S h=r:=by rw[ZqQ,p,ZbC,show Zq (.ref i) h1=Wj (C,fs) by simp[Zq,l]];simp only[f,and_self,if_true,q];exact e
def ZsD{NC:List Str}{js:List (Option Nat)}{it:Ix}{g:Tg}{c:Option Tx}{e:Ex}{w:Wk}{xs:List D}(p:evi U it S h=.ok w h1)(q:ZaC w.src g (tsto U c) (ev U e) w.xs (ZdH js S) [] h1=.ok xs h2):ev U (.comp NC js it g c e) S h=.ok (.ref h2.length) (h2++[.lst xs]):=by rw[ZoC,p,ZbC,q];rfl
def ZqP{e:Ex}{xs:List D}(p:ev U e S h=.ok (.tup xs) h1):evi U (.pl e) S h=.ok ⟨Wl,xs⟩ h1:=by rw[ZmS,p];rfl
def ZoB{es:Exs}{xs:List D}(p:evs U es S h=.ok xs h1)(hz:xs.length<=1000):ev U (.lstl es) S h=.ok (.ref h1.length) (h1++[.lst xs]):=by rw[ZoA,p,ZbC,if_pos (OE hz (by decide))];rfl
def ZjV{f:Bf}{es:Exs}{xs:List D}{r:R D}(p:evs U es S h=.ok xs h1)(q:ZeN U.GD f xs h1=r):ev U (.blt f es) S h=r:=by rw[ZqS,p];exact q
def Zsp{GD:Str->Option (List (Key×D))}{i:Nat}{ys:List D}(e:h[i]? = Wj (.lst ys)):ZeN GD .len [.ref i] h=.ok (.int ys.length) h:=by simp only[ZeN,Zgp,seqOf,lstOf,e];rfl
def ZtU{a b:Ex}{x y:Int}(p:ev U a S h=.ok (.int x) h1)(q:ev U b S h1=.ok (.int y) h2):tst U (.ex (.cmp .Lt a b)) S h=.ok (Wo (x<y)) h2:=Zox (Za1 p q)
def ZmO{g:Tg}{body:Ev->Hd->R (Fl×Ev)}{d:D}{ds:List D}{ρ1 ρ2:Ev}(b:ZbX g d S=Wj ρ1)(q:body ρ1 h=.ok (.nx,ρ2) h2):ZaI Wl g body (d::ds) S h=ZaI Wl g body ds ρ2 h2:=by rw[ZgQ,b];simp only;rw[q];rfl
def ZqM{g:Tg}{body:Ev->Hd->R (Fl×Ev)}{d x:D}{ds:List D}{ρ1 ρ2:Ev}(b:ZbX g d S=Wj ρ1)(q:body ρ1 h=.ok (.rt x,ρ2) h2):ZaI Wl g body (d::ds) S h=.ok (.rt x,ρ2) h2:=by rw[ZgQ,b];simp only;rw[q];rfl
variable {c:Str}
end
end IV
end
section
set_option tactic.hygienic false
set_option exponentiation.threshold 3000
namespace Gn
open PySem L2 IV
def Zz{i:Int}(h:-(2 ^ 128)<i)(h2:i<2 ^ 128):i.natAbs<2 ^ 2000:=by
 have:i.natAbs<2 ^ 128:=by lia
 exact Ot this (Nat.pow_le_pow_right (by decide) (by decide))
def Cl:List Str->T->Prop
 |_,.num n=>0<=n/\n<1000000
 |sc,.name x=>x∈sc
 |sc,.fn x e=>Cl (x::sc) e
 |sc,.rcc f x e=>Cl (x::f::sc) e/\f≠x
 |sc,.call f a=>Cl sc f/\Cl sc a
 |sc,.iff c t e=>Cl sc c/\Cl sc t/\Cl sc e
 |sc,.op _ a b=>Cl sc a/\Cl sc b
end Gn
end
section
namespace Rw
open PySem L2 IV Gn
variable {P:Pg}{h:Hd}
noncomputable def wk(w:Wd)(a b:Int):Int:=match w with
 |.lt=>if a<b then 1 else 0
 |.add=>(a+b) % 1000000
 |.sub=>(a - b) % 1000000
 |.mul=>a * b % 1000000
end Rw
end
section
namespace IV
open PySem L2
mutual
noncomputable def D.pure:D->Bool
 |.non|.bl _|.int _|.str _=>Wm
 |.tup xs=>D.pures xs
 |_=>Wn
noncomputable def D.pures:List D->Bool
 |[]=>Wm
 |x::xs=>D.pure x&&D.pures xs
end
mutual
noncomputable def D.dp:D->Nat
 |.tup xs=>D.dps xs+1
 |_=>0
noncomputable def D.dps:List D->Nat
 |[]=>0
 |x::xs=>max (D.dp x) (D.dps xs)
end
mutual
theorem ZnJ{rd:Nat->Option PyData}:∀d:D,d.pure=Wm->∃p,D.py rd d=Wj p/\p.depth<=d.dp/\YM p p=Wm
 |.non,_=>⟨.none,rfl,Oq _,rfl⟩
 |.bl b,_=>⟨.bool b,rfl,Oq _,by simp[YM]⟩
 |.int b,_=>⟨.int b,rfl,Oq _,by simp[YM]⟩
 |.str b,_=>⟨.str b,rfl,Oq _,by simp[YM]⟩
 |.tup xs,h=>by
  obtain⟨ps,e1,e2,e3⟩:=pys_same (rd:=rd) xs (by simpa[D.pure]using h);refine⟨.tuple ps,by simp[D.py,e1],?_,?_⟩
  . simp only[PyData.depth,D.dp];lia
  . simpa[YM]using e3
 |.ref _,h=>by cases h
 |.ty _,h=>by cases h
 |.ro _,h=>by cases h
 |.kd _,h=>by cases h
theorem pys_same{rd:Nat->Option PyData}:∀ds:List D,D.pures ds=Wm->∃ps,D.pys rd ds=Wj ps/\PyData.depthAll ps<=D.dps ds/\PyData.eqvAll ps ps=Wm
 |[],_=>⟨[],rfl,Oq _,by simp[PyData.eqvAll]⟩
 |x::xs,h=>by
  rw[D.pures,Oa]at h;obtain⟨p,a1,a2,a3⟩:=ZnJ (rd:=rd) x h.1;obtain⟨ps,b1,b2,b3⟩:=pys_same (rd:=rd) xs h.2;refine⟨p::ps,by simp[D.pys,a1,b1],?_,?_⟩
  . simp only[PyData.depthAll,D.dps];lia
  . simp[PyData.eqvAll,a3,b3]
end
end IV
end
section
set_option tactic.hygienic false
namespace Ce
open PySem L2 IV
noncomputable def Zb7:Sxs:=(.cons (.iff (.ex (.cmp .NotIn (.ix (.var 0) (.cst (.int 0))) (.glo (O "FORMS")))) (.cons (.ret (.tupl .nil)) .nil) .nil) (.cons (.ret (.sl (.var 0) (Wj (.cst (.int 1))) (Wj (.bin .Add (.cst (.int 1)) (.ix (.ix (.glo (O "FORMS")) (.ix (.var 0) (.cst (.int 0)))) (.cst (.int 0))))))) .nil))
noncomputable def ZQ:Fd:=⟨[(O "E")],[(O "E")],Zb7⟩
noncomputable def ZdT:Sxs:=(.cons (.iff (.ex (.cmp .NotIn (.ix (.var 0) (.cst (.int 0))) (.glo (O "FORMS")))) (.cons (.ret (.tupl .nil)) .nil) .nil) (.cons (.ret (.sl (.var 0) (Wj (.bin .Add (.cst (.int 1)) (.ix (.ix (.glo (O "FORMS")) (.ix (.var 0) (.cst (.int 0)))) (.cst (.int 0))))) Wl)) .nil))
noncomputable def Zah:Fd:=⟨[(O "E")],[(O "E")],ZdT⟩
noncomputable def Zbb:Sxs:=(.cons (.iff (.ex (.cmp .Is (.var 0) (.cst .non))) (.cons (.ret (.tupl (.cons (.cst (.str (O "stuck"))) .nil))) .nil) .nil) (.cons (.ret (.tupl (.cons (.cst (.str (O "loud"))) (.cons (.var 0) .nil)))) .nil))
noncomputable def ZB:Fd:=⟨[(O "state")],[(O "state")],Zbb⟩
noncomputable def Zja:Sxs:=(.cons (.iff (.ex (.cmp .NotEq (.ix (.var 0) (.cst (.int 0))) (.cst (.str (O "num"))))) (.cons (.ret (.cst .non)) .nil) .nil) (.cons (.ret (.ite (.ex (.cmp .Eq (.ix (.var 0) (.cst (.int 1))) (.cst (.int 0)))) (.var 2) (.var 1))) .nil))
noncomputable def Zci:Fd:=⟨[(O "C"),(O "T"),(O "E")],[(O "C"),(O "T"),(O "E")],Zja⟩
noncomputable def Zgg:Sxs:=(.cons (.iff (.ors (.cons (.ex (.cmp .NotEq (.ix (.var 1) (.cst (.int 0))) (.cst (.str (O "num"))))) (.one (.ex (.cmp .NotEq (.ix (.var 2) (.cst (.int 0))) (.cst (.str (O "num")))))))) (.cons (.ret (.cst .non)) .nil) .nil) (.cons (.iff (.ex (.cmp .Eq (.var 0) (.cst (.str (O "<"))))) (.cons (.ret (.tupl (.cons (.cst (.str (O "num"))) (.cons (.ite (.ex (.cmp .Lt (.ix (.var 1) (.cst (.int 1))) (.ix (.var 2) (.cst (.int 1))))) (.cst (.int 1)) (.cst (.int 0))) .nil)))) .nil) .nil) (.cons (.iff (.ex (.cmp .Eq (.var 0) (.cst (.str (O "+"))))) (.cons (.ret (.tupl (.cons (.cst (.str (O "num"))) (.cons (.bin .Mod (.bin .Add (.ix (.var 1) (.cst (.int 1))) (.ix (.var 2) (.cst (.int 1)))) (.glo (O "BEYOND"))) .nil)))) .nil) .nil) (.cons (.iff (.ex (.cmp .Eq (.var 0) (.cst (.str (O "-"))))) (.cons (.ret (.tupl (.cons (.cst (.str (O "num"))) (.cons (.bin .Mod (.bin .Sub (.ix (.var 1) (.cst (.int 1))) (.ix (.var 2) (.cst (.int 1)))) (.glo (O "BEYOND"))) .nil)))) .nil) .nil) (.cons (.ret (.tupl (.cons (.cst (.str (O "num"))) (.cons (.bin .Mod (.bin .Mult (.ix (.var 1) (.cst (.int 1))) (.ix (.var 2) (.cst (.int 1)))) (.glo (O "BEYOND"))) .nil)))) .nil)))))
noncomputable def Zbt:Fd:=⟨[(O "word"),(O "first"),(O "second")],[(O "word"),(O "first"),(O "second")],Zgg⟩
noncomputable def Zic:Sxs:=(.cons (.ret (.tupl (.cons (.cst (.int 0)) (.cons (.tupl .nil) (.cons (.tupl .nil) (.cons (.tupl .nil) .nil)))))) .nil)
noncomputable def Zar:Fd:=⟨[(O "code")],[(O "code")],Zic⟩
noncomputable def ZcH:Sxs:=(.cons (.iff (.ex (.cmp .Eq (.ix (.var 0) (.cst (.int 0))) (.cst (.str (O "num"))))) (.cons (.ret (.var 0)) .nil) .nil) (.cons (.iff (.ex (.cmp .Eq (.ix (.var 0) (.cst (.int 0))) (.cst (.str (O "fetch"))))) (.cons (.ret (.ix (.var 1) (.ix (.var 0) (.cst (.int 1))))) .nil) .nil) (.cons (.ret (.tupl (.cons (.cst (.str (O "clo"))) (.cons (.ix (.var 0) (.cst (.int 1))) (.cons (.ix (.var 0) (.cst (.int 2))) (.cons (.var 1) .nil)))))) .nil)))
noncomputable def Z2:Fd:=⟨[(O "row"),(O "around")],[(O "row"),(O "around")],ZcH⟩
noncomputable def Zb4:Sxs:=(.cons (.iff (.ex (.cmp .Eq (.ix (.var 0) (.cst (.int 0))) (.cst (.str (O "jump"))))) (.cons (.ret (.bin .Add (.tupl (.cons (.ix (.var 0) (.cst (.int 1))) .nil)) (.sl (.var 1) (Wj (.cst (.int 1))) Wl))) .nil) .nil) (.cons (.iff (.ex (.cmp .Eq (.ix (.var 0) (.cst (.int 0))) (.cst (.str (O "back"))))) (.cons (.set (.nm 2) (.ix (.ix (.var 1) (.cst (.int 3))) (.cst (.int 0)))) (.cons (.ret (.tupl (.cons (.ix (.var 2) (.cst (.int 0))) (.cons (.ix (.var 1) (.cst (.int 1))) (.cons (.ix (.var 2) (.cst (.int 1))) (.cons (.sl (.ix (.var 1) (.cst (.int 3))) (Wj (.cst (.int 1))) Wl) .nil)))))) .nil)) .nil) (.cons (.ret (.tupl (.cons (.bin .Add (.ix (.var 1) (.cst (.int 0))) (.cst (.int 1))) (.cons (.bin .Add (.ix (.var 1) (.cst (.int 1))) (.tupl (.cons (.call (O "thing_of") (.cons (.var 0) (.cons (.ix (.var 1) (.cst (.int 2))) .nil))) .nil))) (.cons (.ix (.var 1) (.cst (.int 2))) (.cons (.ix (.var 1) (.cst (.int 3))) .nil)))))) .nil)))
noncomputable def ZP:Fd:=⟨[(O "row"),(O "state")],[(O "row"),(O "state"),(O "below")],Zb4⟩
noncomputable def ZeR:Sxs:=(.cons (.iff (.ex (.cmp .Eq (.blt .len (.cons (.ix (.var 0) (.cst (.int 2))) .nil)) (.cst (.int 1)))) (.cons (.ret (.bin .Add (.tupl (.cons (.var 1) .nil)) (.ix (.var 0) (.cst (.int 3))))) .nil) .nil) (.cons (.ret (.bin .Add (.tupl (.cons (.var 1) (.cons (.var 0) .nil))) (.ix (.var 0) (.cst (.int 3))))) .nil))
noncomputable def ZaL:Fd:=⟨[(O "W"),(O "V")],[(O "W"),(O "V")],ZeR⟩
noncomputable def Zg2:Sxs:=(.cons (.set (.nm 2) (.ix (.var 0) (.neg (.cst (.int 2))))) (.cons (.iff (.ex (.cmp .Eq (.ix (.var 2) (.cst (.int 0))) (.cst (.str (O "num"))))) (.cons (.ret (.cst .non)) .nil) .nil) (.cons (.ret (.tupl (.cons (.ix (.var 2) (.cst (.int 1))) (.cons (.sl (.var 0) Wl (Wj (.neg (.cst (.int 2))))) (.cons (.call (O "entered") (.cons (.var 2) (.cons (.ix (.var 0) (.neg (.cst (.int 1)))) .nil))) (.cons (.var 1) .nil)))))) .nil)))
noncomputable def Zbi:Fd:=⟨[(O "stack"),(O "pile")],[(O "stack"),(O "pile"),(O "W")],Zg2⟩
noncomputable def ZeQ:Sxs:=(.cons (.set (.nm 2) (.call (O "chosen") (.cons (.ix (.ix (.var 1) (.cst (.int 1))) (.neg (.cst (.int 1)))) (.cons (.bin .Add (.ix (.var 1) (.cst (.int 0))) (.cst (.int 1))) (.cons (.var 0) .nil))))) (.cons (.iff (.ex (.cmp .Is (.var 2) (.cst .non))) (.cons (.ret (.cst .non)) .nil) .nil) (.cons (.ret (.tupl (.cons (.var 2) (.cons (.sl (.ix (.var 1) (.cst (.int 1))) Wl (Wj (.neg (.cst (.int 1))))) (.cons (.ix (.var 1) (.cst (.int 2))) (.cons (.ix (.var 1) (.cst (.int 3))) .nil)))))) .nil)))
noncomputable def ZaK:Fd:=⟨[(O "L"),(O "state")],[(O "L"),(O "state"),(O "at")],ZeQ⟩
noncomputable def Zgh:Sxs:=(.cons (.set (.nm 2) (.ix (.var 1) (.cst (.int 1)))) (.cons (.set (.nm 3) (.call (O "worked") (.cons (.var 0) (.cons (.ix (.var 2) (.neg (.cst (.int 2)))) (.cons (.ix (.var 2) (.neg (.cst (.int 1)))) .nil))))) (.cons (.iff (.ex (.cmp .Is (.var 3) (.cst .non))) (.cons (.ret (.cst .non)) .nil) .nil) (.cons (.ret (.tupl (.cons (.bin .Add (.ix (.var 1) (.cst (.int 0))) (.cst (.int 1))) (.cons (.bin .Add (.sl (.var 2) Wl (Wj (.neg (.cst (.int 2))))) (.tupl (.cons (.var 3) .nil))) (.cons (.ix (.var 1) (.cst (.int 2))) (.cons (.ix (.var 1) (.cst (.int 3))) .nil)))))) .nil))))
noncomputable def ZaJ:Fd:=⟨[(O "word"),(O "state")],[(O "word"),(O "state"),(O "stack"),(O "N")],Zgh⟩
noncomputable def Zax:Sxs:=(.cons (.iff (.ex (.cmp .Eq (.ix (.var 0) (.cst (.int 0))) (.cst (.str (O "call"))))) (.cons (.ret (.call (O "applied") (.cons (.ix (.var 1) (.cst (.int 1))) (.cons (.bin .Add (.tupl (.cons (.tupl (.cons (.bin .Add (.ix (.var 1) (.cst (.int 0))) (.cst (.int 1))) (.cons (.ix (.var 1) (.cst (.int 2))) .nil))) .nil)) (.ix (.var 1) (.cst (.int 3)))) .nil)))) .nil) .nil) (.cons (.iff (.ex (.cmp .Eq (.ix (.var 0) (.cst (.int 0))) (.cst (.str (O "hop"))))) (.cons (.ret (.call (O "applied") (.cons (.ix (.var 1) (.cst (.int 1))) (.cons (.ix (.var 1) (.cst (.int 3))) .nil)))) .nil) .nil) (.cons (.iff (.ex (.cmp .Eq (.ix (.var 0) (.cst (.int 0))) (.cst (.str (O "unless"))))) (.cons (.ret (.call (O "gone_on") (.cons (.ix (.var 0) (.cst (.int 1))) (.cons (.var 1) .nil)))) .nil) .nil) (.cons (.ret (.call (O "reckoned") (.cons (.ix (.var 0) (.cst (.int 1))) (.cons (.var 1) .nil)))) .nil))))
noncomputable def ZE:Fd:=⟨[(O "row"),(O "state")],[(O "row"),(O "state")],Zax⟩
noncomputable def ZbZ:Sxs:=(.cons (.set (.nm 2) (.ix (.var 0) (.ix (.var 1) (.cst (.int 0))))) (.cons (.iff (.ex (.cmp .Eq (.ix (.var 2) (.cst (.int 0))) (.cst (.str (O "end"))))) (.cons (.ret (.tupl (.cons (.cst (.str (O "value"))) .nil))) .nil) .nil) (.cons (.iff (.ex (.cmp .In (.ix (.var 2) (.cst (.int 0))) (.glo (O "LOUD")))) (.cons (.ret (.call (O "loud_or_stuck") (.cons (.call (O "loud_state") (.cons (.var 2) (.cons (.var 1) .nil))) .nil))) .nil) .nil) (.cons (.ret (.tupl (.cons (.cst (.str (O "quiet"))) (.cons (.call (O "quiet_state") (.cons (.var 2) (.cons (.var 1) .nil))) .nil)))) .nil))))
noncomputable def ZW:Fd:=⟨[(O "code"),(O "state")],[(O "code"),(O "state"),(O "row")],ZbZ⟩
noncomputable def Zel:Sxs:=(.cons (.set (.nm 1) (.cst (.int 0))) (.cons (.set (.nm 2) (.lstl (.cons (.var 0) .nil))) (.cons (.whl (.ex (.var 2)) (.cons (.set (.nm 3) (.meth .pop (.var 2) .nil)) (.cons (.aug 1 .Add (.ite (.ex (.cmp .Eq (.ix (.var 3) (.cst (.int 0))) (.cst (.str (O "if"))))) (.cst (.int 2)) (.cst (.int 1)))) (.cons (.iff (.nt (.ex (.call (O "bound_names") (.cons (.var 3) .nil)))) (.cons (.drp (.meth .ext (.var 2) (.cons (.call (O "parts_of") (.cons (.var 3) .nil)) .nil))) .nil) .nil) .nil)))) (.cons (.ret (.var 1)) .nil))))
noncomputable def Z8:Fd:=⟨[(O "E")],[(O "E"),(O "count"),(O "waiting"),(O "place")],Zel⟩
noncomputable def ZaU:Sx:=(.iff (.ex (.cmp .Eq (.ix (.var 0) (.cst (.int 0))) (.cst (.str (O "call"))))) (.cons (.ret (.lstl (.cons (.tupl (.cons (.cst (.str (O "part"))) (.cons (.ix (.var 0) (.cst (.int 1))) (.cons (.cst (.bl Wn)) .nil)))) (.cons (.tupl (.cons (.cst (.str (O "part"))) (.cons (.ix (.var 0) (.cst (.int 2))) (.cons (.cst (.bl Wn)) .nil)))) (.cons (.tupl (.cons (.cst (.str (O "row"))) (.cons (.ite (.ex (.var 1)) (.tupl (.cons (.cst (.str (O "hop"))) .nil)) (.tupl (.cons (.cst (.str (O "call"))) .nil))) .nil))) .nil))))) .nil) .nil)
noncomputable def ZaT:Sx:=(.iff (.ex (.cmp .Eq (.ix (.var 0) (.cst (.int 0))) (.cst (.str (O "if"))))) (.cons (.ret (.lstl (.cons (.tupl (.cons (.cst (.str (O "part"))) (.cons (.ix (.var 0) (.cst (.int 1))) (.cons (.cst (.bl Wn)) .nil)))) (.cons (.tupl (.cons (.cst (.str (O "row"))) (.cons (.tupl (.cons (.cst (.str (O "unless"))) (.cons (.bin .Add (.call (O "count_rows") (.cons (.ix (.var 0) (.cst (.int 2))) .nil)) (.cst (.int 2))) .nil))) .nil))) (.cons (.tupl (.cons (.cst (.str (O "part"))) (.cons (.ix (.var 0) (.cst (.int 2))) (.cons (.var 1) .nil)))) (.cons (.tupl (.cons (.cst (.str (O "row"))) (.cons (.tupl (.cons (.cst (.str (O "jump"))) (.cons (.bin .Add (.call (O "count_rows") (.cons (.ix (.var 0) (.cst (.int 3))) .nil)) (.cst (.int 1))) .nil))) .nil))) (.cons (.tupl (.cons (.cst (.str (O "part"))) (.cons (.ix (.var 0) (.cst (.int 3))) (.cons (.var 1) .nil)))) .nil))))))) .nil) .nil)
noncomputable def ZaS:Sx:=(.ret (.lstl (.cons (.tupl (.cons (.cst (.str (O "part"))) (.cons (.ix (.var 0) (.cst (.int 1))) (.cons (.cst (.bl Wn)) .nil)))) (.cons (.tupl (.cons (.cst (.str (O "part"))) (.cons (.ix (.var 0) (.cst (.int 2))) (.cons (.cst (.bl Wn)) .nil)))) (.cons (.tupl (.cons (.cst (.str (O "row"))) (.cons (.tupl (.cons (.cst (.str (O "work"))) (.cons (.ix (.var 0) (.cst (.int 0))) .nil))) .nil))) .nil)))))
noncomputable def ZbY:Sxs:=(.cons ZaU (.cons ZaT (.cons ZaS .nil)))
noncomputable def ZV:Fd:=⟨[(O "E"),(O "last")],[(O "E"),(O "last")],ZbY⟩
noncomputable def Zek:Sxs:=(.cons (.set (.nm 1) (.lstl (.cons (.cst (.int 0)) .nil))) (.cons (.forr (.nm 2) (.pl (.var 0)) (.cons (.drp (.meth .app (.var 1) (.cons (.bin .Add (.ix (.var 1) (.neg (.cst (.int 1)))) (.blt .len (.cons (.att [(O "Unit")] (.var 2) (O "rows")) .nil))) .nil))) .nil)) (.cons (.ret (.var 1)) .nil)))
noncomputable def Z7:Fd:=⟨[(O "units")],[(O "units"),(O "firsts"),(O "unit")],Zek⟩
noncomputable def ZbD:Sxs:=(.cons (.iff (.ex (.cmp .In (.ix (.var 0) (.cst (.int 0))) (.glo (O "LEADING")))) (.cons (.ret (.tupl (.cons (.ix (.var 0) (.cst (.int 0))) (.cons (.bin .Add (.var 1) (.ix (.var 0) (.cst (.int 1)))) .nil)))) .nil) .nil) (.cons (.iff (.ex (.cmp .Eq (.ix (.var 0) (.cst (.int 0))) (.cst (.str (O "close"))))) (.cons (.ret (.tupl (.cons (.cst (.str (O "close"))) (.cons (.ix (.var 2) (.ix (.var 0) (.cst (.int 1)))) (.cons (.ix (.var 0) (.cst (.int 2))) .nil))))) .nil) .nil) (.cons (.ret (.var 0)) .nil)))
noncomputable def ZK:Fd:=⟨[(O "row"),(O "first"),(O "firsts")],[(O "row"),(O "first"),(O "firsts")],ZbD⟩
noncomputable def Ze8:Sx:=(.set (.nm 1) (.mk (O "Coder") .nil))
noncomputable def Ze7:Sx:=(.drp (.mcl (O "Coder") (O "begin_unit") (.var 1) (.cons (.var 0) (.cons (.tupl .nil) (.cons (.cst (.str (O "end"))) .nil)))))
noncomputable def Ze6:Sx:=(.drp (.mcl (O "Coder") (O "do_all") (.var 1) .nil))
noncomputable def Ze5:Sx:=(.set (.nm 2) (.call (O "first_rows") (.cons (.att [(O "Coder")] (.var 1) (O "units")) .nil)))
noncomputable def Ze4:Sx:=(.set (.nm 3) (.lstl .nil))
noncomputable def Ze3:Sx:=(.forr (.nm 4) (.pl (.att [(O "Coder")] (.var 1) (O "units"))) (.cons (.set (.nm 5) (.blt .len (.cons (.var 3) .nil))) (.cons (.drp (.meth .ext (.var 3) (.cons (.comp [(O "row"),(O "first"),(O "firsts")] [Wl,Wj 5,Wj 2] (.pl (.att [(O "Unit")] (.var 4) (O "rows"))) (.nm 0) Wl (.call (O "numbered") (.cons (.var 0) (.cons (.var 1) (.cons (.var 2) .nil))))) .nil))) .nil)))
noncomputable def Ze2:Sx:=(.ret (.var 3))
noncomputable def Zg1:Sxs:=(.cons Ze8 (.cons Ze7 (.cons Ze6 (.cons Ze5 (.cons Ze4 (.cons Ze3 (.cons Ze2 .nil)))))))
noncomputable def Zbh:Fd:=⟨[(O "E")],[(O "E"),(O "coder"),(O "firsts"),(O "code"),(O "unit"),(O "first")],Zg1⟩
noncomputable def ZcR:Sxs:=(.cons (.seta [(O "Unit")] (.var 0) (O "around") (.var 1)) (.cons (.seta [(O "Unit")] (.var 0) (O "rows") (.lstl .nil)) .nil))
noncomputable def ZL:Fd:=⟨[(O "self"),(O "around")],[(O "self"),(O "around")],ZcR⟩
noncomputable def Zay:Sxs:=(.cons (.iff (.ex (.cmp .In (.ix (.var 1) (.cst (.int 0))) (.glo (O "LEADING")))) (.cons (.drp (.meth .app (.att [(O "Unit")] (.var 0) (O "rows")) (.cons (.tupl (.cons (.ix (.var 1) (.cst (.int 0))) (.cons (.bin .Add (.blt .len (.cons (.att [(O "Unit")] (.var 0) (O "rows")) .nil)) (.ix (.var 1) (.cst (.int 1)))) .nil))) .nil))) .nil) (.cons (.drp (.meth .app (.att [(O "Unit")] (.var 0) (O "rows")) (.cons (.var 1) .nil))) .nil)) .nil)
noncomputable def Zr:Fd:=⟨[(O "self"),(O "row")],[(O "self"),(O "row")],Zay⟩
noncomputable def Zcv:Sxs:=(.cons (.seta [(O "Coder")] (.var 0) (O "units") (.lstl .nil)) (.cons (.seta [(O "Coder")] (.var 0) (O "waiting") (.lstl .nil)) .nil))
noncomputable def ZJ:Fd:=⟨[(O "self")],[(O "self")],Zcv⟩
noncomputable def Zcu:Sxs:=(.cons (.drp (.meth .ext (.att [(O "Coder")] (.var 0) (O "waiting")) (.cons (.comp [(O "piece"),(O "unit")] [Wl,Wj 1] (.rev (.var 2)) (.nm 0) Wl (.tupl (.cons (.var 1) (.cons (.var 0) .nil)))) .nil))) .nil)
noncomputable def ZI:Fd:=⟨[(O "self"),(O "unit"),(O "pieces")],[(O "self"),(O "unit"),(O "pieces")],Zcu⟩
noncomputable def Z5:Sx:=(.set (.nm 4) (.mk (O "Unit") (.cons (.var 2) .nil)))
noncomputable def Z4:Sx:=(.drp (.meth .app (.att [(O "Coder")] (.var 0) (O "units")) (.cons (.var 4) .nil)))
noncomputable def Z3:Sx:=(.drp (.mcl (O "Coder") (O "wait_for") (.var 0) (.cons (.var 4) (.cons (.lstl (.cons (.tupl (.cons (.cst (.str (O "part"))) (.cons (.var 1) (.cons (.cmp .Eq (.var 3) (.cst (.str (O "back")))) .nil)))) (.cons (.tupl (.cons (.cst (.str (O "row"))) (.cons (.tupl (.cons (.var 3) .nil)) .nil))) .nil))) .nil))))
noncomputable def Zai:Sxs:=(.cons Z5 (.cons Z4 (.cons Z3 .nil)))
noncomputable def Zs:Fd:=⟨[(O "self"),(O "E"),(O "around"),(O "ended")],[(O "self"),(O "E"),(O "around"),(O "ended"),(O "unit")],Zai⟩
noncomputable def Zaf:Sx:=(.set (.nm 3) (.trev (.call (O "bound_names") (.cons (.var 2) .nil))))
noncomputable def Zae:Sx:=(.drp (.mcl (O "Unit") (O "add_row") (.var 1) (.cons (.tupl (.cons (.cst (.str (O "close"))) (.cons (.blt .len (.cons (.att [(O "Coder")] (.var 0) (O "units")) .nil)) (.cons (.var 3) .nil)))) .nil)))
noncomputable def Zad:Sx:=(.drp (.mcl (O "Coder") (O "begin_unit") (.var 0) (.cons (.ix (.call (O "parts_of") (.cons (.var 2) .nil)) (.cst (.int 0))) (.cons (.bin .Add (.var 3) (.att [(O "Unit")] (.var 1) (O "around"))) (.cons (.cst (.str (O "back"))) .nil)))))
noncomputable def Zaz:Sxs:=(.cons Zaf (.cons Zae (.cons Zad .nil)))
noncomputable def Zp:Fd:=⟨[(O "self"),(O "unit"),(O "E")],[(O "self"),(O "unit"),(O "E"),(O "names")],Zaz⟩
noncomputable def Zv:Sxs:=(.cons (.iff (.ex (.cmp .Eq (.ix (.var 2) (.cst (.int 0))) (.cst (.str (O "num"))))) (.cons (.drp (.mcl (O "Unit") (O "add_row") (.var 1) (.cons (.var 2) .nil))) .nil) (.cons (.iff (.ex (.cmp .Eq (.ix (.var 2) (.cst (.int 0))) (.cst (.str (O "name"))))) (.cons (.drp (.mcl (O "Unit") (O "add_row") (.var 1) (.cons (.tupl (.cons (.cst (.str (O "fetch"))) (.cons (.tix (.att [(O "Unit")] (.var 1) (O "around")) (.ix (.var 2) (.cst (.int 1)))) .nil))) .nil))) .nil) (.cons (.iff (.ex (.call (O "bound_names") (.cons (.var 2) .nil))) (.cons (.drp (.mcl (O "Coder") (O "begin_function") (.var 0) (.cons (.var 1) (.cons (.var 2) .nil)))) .nil) (.cons (.drp (.mcl (O "Coder") (O "wait_for") (.var 0) (.cons (.var 1) (.cons (.call (O "pieces_of") (.cons (.var 2) (.cons (.var 3) .nil))) .nil)))) .nil)) .nil)) .nil)) .nil)
noncomputable def Zi:Fd:=⟨[(O "self"),(O "unit"),(O "E"),(O "last")],[(O "self"),(O "unit"),(O "E"),(O "last")],Zv⟩
noncomputable def Zdj:Sxs:=(.cons (.whl (.ex (.att [(O "Coder")] (.var 0) (O "waiting"))) (.cons (.set (.nm 1) (.meth .pop (.att [(O "Coder")] (.var 0) (O "waiting")) .nil)) (.cons (.set (.nm 2) (.ix (.var 1) (.cst (.int 1)))) (.cons (.iff (.ex (.cmp .Eq (.ix (.var 2) (.cst (.int 0))) (.cst (.str (O "row"))))) (.cons (.drp (.mcl (O "Unit") (O "add_row") (.ix (.var 1) (.cst (.int 0))) (.cons (.ix (.var 2) (.cst (.int 1))) .nil))) .nil) (.cons (.drp (.mcl (O "Coder") (O "do_part") (.var 0) (.cons (.ix (.var 1) (.cst (.int 0))) (.cons (.ix (.var 2) (.cst (.int 1))) (.cons (.ix (.var 2) (.cst (.int 2))) .nil))))) .nil)) .nil)))) .nil)
noncomputable def ZS:Fd:=⟨[(O "self")],[(O "self"),(O "pair"),(O "piece")],Zdj⟩
structure Cod(P:Pg):Prop where
 bound_names:P.tb.lookup (O "bound_names")=Wj ZQ
 parts_of:P.tb.lookup (O "parts_of")=Wj Zah
 loud_or_stuck:P.tb.lookup (O "loud_or_stuck")=Wj ZB
 chosen:P.tb.lookup (O "chosen")=Wj Zci
 worked:P.tb.lookup (O "worked")=Wj Zbt
 code_begun:P.tb.lookup (O "code_begun")=Wj Zar
 thing_of:P.tb.lookup (O "thing_of")=Wj Z2
 quiet_state:P.tb.lookup (O "quiet_state")=Wj ZP
 entered:P.tb.lookup (O "entered")=Wj ZaL
 applied:P.tb.lookup (O "applied")=Wj Zbi
 gone_on:P.tb.lookup (O "gone_on")=Wj ZaK
 reckoned:P.tb.lookup (O "reckoned")=Wj ZaJ
 loud_state:P.tb.lookup (O "loud_state")=Wj ZE
 code_step:P.tb.lookup (O "code_step")=Wj ZW
 count_rows:P.tb.lookup (O "count_rows")=Wj Z8
 pieces_of:P.tb.lookup (O "pieces_of")=Wj ZV
 first_rows:P.tb.lookup (O "first_rows")=Wj Z7
 numbered:P.tb.lookup (O "numbered")=Wj ZK
 code_of:P.tb.lookup (O "code_of")=Wj Zbh
 n_Unit___init__:P.tb.lookup (mnm (O "Unit") (O "__init__"))=Wl
 Unit___init__:P.ms.lookup (mnm (O "Unit") (O "__init__"))=Wj ZL
 n_Unit_add_row:P.tb.lookup (mnm (O "Unit") (O "add_row"))=Wl
 Unit_add_row:P.ms.lookup (mnm (O "Unit") (O "add_row"))=Wj Zr
 n_Coder___init__:P.tb.lookup (mnm (O "Coder") (O "__init__"))=Wl
 Coder___init__:P.ms.lookup (mnm (O "Coder") (O "__init__"))=Wj ZJ
 n_Coder_wait_for:P.tb.lookup (mnm (O "Coder") (O "wait_for"))=Wl
 Coder_wait_for:P.ms.lookup (mnm (O "Coder") (O "wait_for"))=Wj ZI
 n_Coder_begin_unit:P.tb.lookup (mnm (O "Coder") (O "begin_unit"))=Wl
 Coder_begin_unit:P.ms.lookup (mnm (O "Coder") (O "begin_unit"))=Wj Zs
 n_Coder_begin_function:P.tb.lookup (mnm (O "Coder") (O "begin_function"))=Wl
 Coder_begin_function:P.ms.lookup (mnm (O "Coder") (O "begin_function"))=Wj Zp
 n_Coder_do_part:P.tb.lookup (mnm (O "Coder") (O "do_part"))=Wl
 Coder_do_part:P.ms.lookup (mnm (O "Coder") (O "do_part"))=Wj Zi
 n_Coder_do_all:P.tb.lookup (mnm (O "Coder") (O "do_all"))=Wl
 Coder_do_all:P.ms.lookup (mnm (O "Coder") (O "do_all"))=Wj ZS
 g:P.G (O "FORMS")=Wj (.kd (O "FORMS"))
 gl:P.G (O "LEADING")=Wj (.tup [.str (O "unless"),.str (O "jump")])
 go:P.G (O "LOUD")=Wj (.tup [.str (O "call"),.str (O "hop"),.str (O "unless"),.str (O "work")])
 gb:P.G (O "BEYOND")=Wj (.int 1000000)
 gd:P.GD (O "FORMS")=Wj Gn.ZkB
 big:1000000<=P.L
end Ce
end
section
set_option tactic.hygienic false
namespace Ce
open PySem L2 IV
variable {P:Pg}
noncomputable def bnd:T->List Str
 |.fn x _=>[x]
 |.rcc f x _=>[f,x]
 |_=>[]
section
variable {w:Wd}
@[simp] theorem Ztf:(w.s=O "num")↔False:=by cases w<;>simp[Wd.s]
@[simp] theorem ZsX:(w.s=O "name")↔False:=by cases w<;>simp[Wd.s]
@[simp] theorem ZsY:(w.s=O "call")↔False:=by cases w<;>simp[Wd.s]
@[simp] theorem Zun:(w.s=O "if")↔False:=by cases w<;>simp[Wd.s]
@[simp] theorem Zrk:Zdq Gn.ZkB (.inr w.s)=Wj (.tup [.int 0,.int 2]):=by cases w<;>rfl
end
def Zd4(H:Cod P)(n:Nat)(t:T)(h:Hd):run P (n+1) (O "bound_names") [t.d] h=.ok (.tup ((bnd t).map .str)) h:=by
 rw[Zg H.bound_names (by cases t<;>rfl)];have g:=H.g;have gd:=H.gd;generalize P.G=PG at g;generalize P.GD=PD at gd;cases t with
 |op w a b=>simp[T.d,bnd,ZQ,Zb7,Za,g,gd,cutD,HT.sIx]
 |_=>simp[T.d,bnd,ZQ,Zb7,Za,g,gd,Gn.ZkB,Zdq,cutD,HT.sIx]
def Zhb(H:Cod P)(n:Nat)(t:T)(h:Hd):run P (n+1) (O "parts_of") [t.d] h=.ok (.tup (t.parts.map T.d)) h:=by
 rw[Zg H.parts_of (by cases t<;>rfl)];have g:=H.g;have gd:=H.gd;generalize P.G=PG at g;generalize P.GD=PD at gd;cases t with
 |op w a b=>simp[T.d,T.parts,Zah,ZdT,Za,g,gd,cutD,HT.sIx]
 |_=>simp[T.d,T.parts,Zah,ZdT,Za,g,gd,Gn.ZkB,Zdq,cutD,HT.sIx]
noncomputable def cnt:T->Nat
 |.call f a=>cnt f+cnt a+1
 |.op _ a b=>cnt a+cnt b+1
 |.iff c t e=>cnt c+cnt t+cnt e+2
 |_=>1
noncomputable def inn(t:T):List T:=if bnd t=[]then t.parts else []
noncomputable def one:T->Int
 |.iff _ _ _=>2
 |_=>1
def ZoF(t:T):(cnt t:Int)=one t+((inn t).map cnt).sum:=by cases t<;>simp[cnt,one,inn,bnd,T.parts]<;>lia
def Ze(t:T):t.size=1+(t.parts.map T.size).sum:=by
 unfold T.size;rw[T.places_parts];simp only[Os,List.length_flatMap]
 lia
def ZlR(t:T):1+((inn t).map T.size).sum<=t.size:=by
 rw[Ze t];unfold inn;split
 . lia
 . simp
def Zbl(t:T):1<=t.size:=by rw[Ze];lia
theorem ZfT:∀W:List T,W.length<=(W.map T.size).sum
 |[]=>by simp
 |t::W=>by
  have:=Zbl t;have:=ZfT W;simp
  lia
noncomputable def ZfR:Sxs:=(.cons (.set (.nm 3) (.meth .pop (.var 2) .nil)) (.cons (.aug 1 .Add (.ite (.ex (.cmp .Eq (.ix (.var 3) (.cst (.int 0))) (.cst (.str (O "if"))))) (.cst (.int 2)) (.cst (.int 1)))) (.cons (.iff (.nt (.ex (.call (O "bound_names") (.cons (.var 3) .nil)))) (.cons (.drp (.meth .ext (.var 2) (.cons (.call (O "parts_of") (.cons (.var 3) .nil)) .nil))) .nil) .nil) .nil)))
@[simp] theorem Zri{T:Tb}{S:Ev}{h:Hd}{i e}:xs1 T (.aug i .Add e) S h=(R.ofO (S[i]?).join h).bnd λx h1=>(ev T e S h1).bnd λy h2=>match x,y with
 |.int a,.int b=>.ok (.nx,S.set i (Wj (.int (a+b)))) h2
 |_,_=>.bad:=by
 show R.bind _ _=R.bind _ _;congr 1;funext x h1;show R.bind _ _=R.bind _ _;congr 1;funext y h2;cases x<;>cases y<;>rfl
theorem Zkv(H:Cod P){h:Hd}{E:D}(n:Nat):∀(fuel:Nat) (W:List T) (c:Int) (p:Option D),(W.map T.size).sum<fuel->(W.map T.size).sum<=900000->∃p',
 Zbj (tst ⟨P.G,P.GD,run P (n+1),P.L⟩ (.ex (.var 2))) (xs2 ⟨P.G,P.GD,run P (n+1),P.L⟩ ZfR)
  fuel [Wj E,Wj (.int c),Wj (.ref h.length),p] (h++[.lst (W.map T.d)])
  = .ok (.nx,[Wj E,Wj (.int (c+(W.map cnt).sum)),Wj (.ref h.length),p']) (h++[.lst []])
 |0,W,c,p,h1,h2=>by lia
 |fuel+1,W,c,p,h1,h2=>by
  rcases List.eq_nil_or_concat W with rfl|⟨V,t,rfl⟩
  . exact⟨p,by rw[ZZ];simp[Zb1]⟩
  . rw[List.concat_eq_append]at h1 h2 ⊢;have e1:=ZlR t;have e2:=ZoF t;have e3:=ZfT (V++inn t);rw[List.map_append,List.sum_append]at h1 h2;simp only[Op,Oy,OI,List.sum_nil]at h1 h2;rw[List.map_append,List.sum_append]at e3;obtain⟨p',e⟩:=Zkv H (h:=h) (E:=E) n fuel (V++inn t) (c+one t) (Wj t.d) (by rw[List.map_append,List.sum_append];lia) (by rw[List.map_append,List.sum_append];lia);refine⟨p',?_⟩;rw[OA]at e3;have eo:∀h':Hd,ev ⟨P.G,P.GD,run P (n+1),P.L⟩ (.ite (.ex (.cmp .Eq (.ix (.var 3) (.cst (.int 0))) (.cst (.str (O "if"))))) (.cst (.int 2)) (.cst (.int 1))) [Wj E,Wj (.int c),Wj (.ref h.length),Wj t.d] h'=.ok (.int (one t)) h':=by
     intro h';cases t with
     |op w a b=>simp[T.d,one]
     |_=>simp[T.d,one]
    rw[ZZ];rw[show(c+(List.map cnt (V++[t])).sum:Int)=c+one t+(List.map cnt (V++inn t)).sum by simp;lia];simp only[List.map_append]at e;unfold ZfR at e ⊢;by_cases hb:bnd t=[]
    . have hi:inn t=t.parts:=by unfold inn;rw[if_pos hb]
      rw[hi]at e e3 ⊢;have hp3:t.parts.length<=3:=by cases t<;>simp[T.parts]
      have e4:=ZfT V;have hz:V.length+t.parts.length<=sizeLine:=by rw[Yz];lia
      simp[-ZmT,Zb1,Zab,ZaX,ZcT,Zlf,Zmz,Zd4 H,Zhb H,eo,hz,hb];simpa using e
    . have hi:inn t=[]:=by unfold inn;rw[if_neg hb]
      rw[hi]at e ⊢;simp[-ZmT,Zb1,Zab,ZaX,ZcT,Zlf,Zmz,Zd4 H,Zhb H,eo,hb];simpa using e
def Zki(H:Cod P)(n:Nat)(t:T)(h:Hd)(hz:t.size<=1000):run P (n+2) (O "count_rows") [t.d] h=.ok (.int (cnt t)) (h++[.lst []]):=by rw[Zg H.count_rows (by rfl)];obtain⟨p',e⟩:=Zkv H (h:=h) (E:=t.d) n P.L [t] 0 Wl (by have:=H.big;simp;lia) (by simp;lia);simp at e;unfold ZfR at e;simp[Z8,Zel,Za,Yz,e]
end Ce
end
section
namespace Ce
open PySem L2 IV
inductive Rw where
 |num (n:Int)|fetch (i:Nat)|close (k:Int) (ns:List Str)|work (w:Wd)|call|hop|unl (k:Int)|jmp (k:Int)|back|fin
noncomputable def Rw.d:Rw->D
 |.num n=>.tup [.str (O "num"),.int n]
 |.fetch i=>.tup [.str (O "fetch"),.int (i:Int)]
 |.close k ns=>.tup [.str (O "close"),.int k,.tup (ns.map .str)]
 |.work w=>.tup [.str (O "work"),.str w.s]
 |.call=>.tup [.str (O "call")]
 |.hop=>.tup [.str (O "hop")]
 |.unl k=>.tup [.str (O "unless"),.int k]
 |.jmp k=>.tup [.str (O "jump"),.int k]
 |.back=>.tup [.str (O "back")]
 |.fin=>.tup [.str (O "end")]
noncomputable def wd:Rw->String
 |.num _ => "num" |.fetch _ => "fetch" |.close _ _ => "close" |.work _ => "work" |.call => "call" |.hop => "hop" |.unl _ => "unless" |.jmp _ => "jump" |.back => "back" |.fin => "end"
def Zm1(r:Rw):∃ds,r.d=.tup (.str (Str.ofString (wd r))::ds):=by cases r<;>exact⟨_,rfl⟩
noncomputable def Rw.up(p:Int):Rw->Rw
 |.unl k=>.unl (p+k)
 |.jmp k=>.jmp (p+k)
 |r=>r
inductive It where
 |row (r:Rw)|part (t:T) (last:Bool)
noncomputable def It.d:It->D
 |.row r=>.tup [.str (O "row"),r.d]
 |.part t b=>.tup [.str (O "part"),t.d,.bl b]
noncomputable def its(last:Bool):T->List It
 |.call f a=>[.part f Wn,.part a Wn,.row (if last then .hop else .call)]
 |.op w a b=>[.part a Wn,.part b Wn,.row (.work w)]
 |.iff c t e=>[.part c Wn,.row (.unl (cnt t+2)),.part t last,.row (.jmp (cnt e+1)),.part e last]
 |_=>[]
structure Un where
 u:Nat
 r:Nat
 sc:List Str
 rows:List Rw
structure St(h0 h:Hd)(c us w:Nat)(U:List Un)(ws:List D):Prop where
 qc:h[c]? = Wj (.ins (O "Coder") [(O "units",.ref us),(O "waiting",.ref w)])
 qs:h[us]? = Wj (.lst (U.map λx=>.ref x.u))
 qw:h[w]? = Wj (.lst ws)
 qu:∀x∈U,h[x.u]? = Wj (.ins (O "Unit") [(O "around",.tup (x.sc.map .str)),(O "rows",.ref x.r)])
 qr:∀x∈U,h[x.r]? = Wj (.lst (x.rows.map Rw.d))
 nd:(U.map Un.r).Nodup
 d1:us≠w
 d2:∀x∈U,us≠x.r
 d3:∀x∈U,w≠x.r
 o1:h0.length<=us
 o2:h0.length<=w
 o3:∀x∈U,h0.length<=x.r
 ol:h0.length<=h.length
 old:∀i,i<h0.length->h[i]? = h0[i]?
variable {P:Pg}{h0 h:Hd}{c us w:Nat}{U A B_:List Un}{x:Un}{ws:List D}
def ZbT{i:Nat}{o:DO}(e:h[i]? = Wj o):i<h.length:=by
 rcases Nat.lt_or_ge i h.length with q|q
 . exact q
 . rw[List.getElem?_eq_none q]at e;cases e
def keep{i:Nat}{o:DO}{g:Hd}(e:h[i]? = Wj o):(h++g)[i]? = Wj o:=by rw[Oe (ZbT e)];exact e
def St.app(q:St h0 h c us w U ws){g:Hd}:St h0 (h++g) c us w U ws:=⟨keep q.qc,keep q.qs,keep q.qw,λx hx=>keep (q.qu x hx),λx hx=>keep (q.qr x hx),q.nd,q.d1,q.d2,q.d3,q.o1,q.o2,q.o3,by have:=q.ol;simp;lia,λi hi=>by rw[Oe (by have:=q.ol;lia)];exact q.old i hi⟩
def Zd8{i j:Nat}{C fs l}(e:h[i]? = Wj (.ins C fs))(e':h[j]? = Wj (.lst l)):j≠i:=by intro q;rw[q,e]at e';cases e'
def St.setW(q:St h0 h c us w U ws)(vs:List D):St h0 (h.set w (.lst vs)) c us w U vs:=by
 refine⟨?_,?_,?_,λx hx=>?_,λx hx=>?_,q.nd,q.d1,q.d2,q.d3,q.o1,q.o2,q.o3,by simpa using q.ol,λi hi=>by rw[Oc (by have:=q.o2;lia)];exact q.old i hi⟩
 . rw[Oc (Zd8 q.qc q.qw)];exact q.qc
 . rw[Oc q.d1.symm];exact q.qs
 . rw[Ol (ZbT q.qw)]
 . rw[Oc (Zd8 (q.qu x hx) q.qw)];exact q.qu x hx
 . rw[Oc (q.d3 x hx)];exact q.qr x hx
def St.setR(q:St h0 h c us w (A++x::B_) ws)(vs:List Rw):St h0 (h.set x.r (.lst (vs.map Rw.d))) c us w (A++{x with rows:=vs}::B_) ws:=by
 have hx:x∈A++x::B_:=by simp
 have hr:=q.qr x hx;have hn:=q.nd;rw[List.map_append,Op,List.nodup_append]at hn;obtain⟨n1,n2,n3⟩:=hn;rw[List.nodup_cons]at n2;have ne:∀y,y∈A\/y∈B_->x.r≠y.r:=by
  intro y hy e;rcases hy with hy|hy
  . exact n3 y.r (List.mem_map_of_mem hy) x.r (Oi) e.symm
  . exact n2.1 (e ▸ List.mem_map_of_mem hy)
 have mem:∀y,y∈A++{x with rows:=vs}::B_->y={x with rows:=vs}\/(y∈A\/y∈B_):=by
  intro y hy;rcases OD.mp hy with hy|hy
  . exact .inr (.inl hy)
  . rcases O1.mp hy with hy|hy
    . exact .inl hy
    . exact .inr (.inr hy)
 have old:∀y,y∈A\/y∈B_->y∈A++x::B_:=by intro y hy;rcases hy with hy|hy<;>simp[hy]
 refine⟨?_,?_,?_,λy hy=>?_,λy hy=>?_,?_,q.d1,λy hy=>?_,λy hy=>?_,q.o1,q.o2,λy hy=>?_,by simpa using q.ol,λi hi=>by rw[Oc (by have:=q.o3 x hx;lia)];exact q.old i hi⟩
 . rw[Oc (Zd8 q.qc hr)];exact q.qc
 . rw[Oc (q.d2 x hx).symm];have:=q.qs;simpa using this
 . rw[Oc (q.d3 x hx).symm];exact q.qw
 . rcases mem y hy with rfl|hy
   . rw[Oc (Zd8 (q.qu x hx) hr)];exact q.qu x hx
   . rw[Oc (Zd8 (q.qu y (old y hy)) hr)];exact q.qu y (old y hy)
 . rcases mem y hy with rfl|hy
   . rw[Ol (ZbT hr)]
   . rw[Oc (ne y hy)];exact q.qr y (old y hy)
 . have:=q.nd;simpa using this
 . rcases mem y hy with rfl|hy
   . exact q.d2 x hx
   . exact q.d2 y (old y hy)
 . rcases mem y hy with rfl|hy
   . exact q.d3 x hx
   . exact q.d3 y (old y hy)
 . rcases mem y hy with rfl|hy
   . exact q.o3 x hx
   . exact q.o3 y (old y hy)
def St.more(q:St h0 h c us w U ws)(sc:List Str):St h0 (List.set (h++[.ins (O "Unit") [(O "around",.tup (sc.map .str)),(O "rows",.ref (h.length+1))],.lst []]) us (.lst ((U.map λx=>.ref x.u)++[.ref h.length]))) c us w (U++[⟨h.length,h.length+1,sc,[]⟩]) ws:=by
 have q1:=q.app (g:=[.ins (O "Unit") [(O "around",.tup (sc.map .str)),(O "rows",.ref (h.length+1))],.lst []]);have lu:=ZbT q.qs;have new:∀y,y∈U++[⟨h.length,h.length+1,sc,[]⟩]->y∈U\/y=⟨h.length,h.length+1,sc,[]⟩:=λy hy=>by simpa using hy
 refine⟨?_,?_,?_,λy hy=>?_,λy hy=>?_,?_,q.d1,λy hy=>?_,λy hy=>?_,q.o1,q.o2,λy hy=>?_,by have:=q.ol;simp;lia,λi hi=>by rw[Oc (by have:=q.o1;lia)];exact q1.old i hi⟩
 . rw[Oc (Zd8 q1.qc q1.qs)];exact q1.qc
 . rw[Ol (by simp;lia)];simp
 . rw[Oc q.d1];exact q1.qw
 . rcases new y hy with hy|rfl
   . rw[Oc (Zd8 (q1.qu y hy) q1.qs)];exact q1.qu y hy
   . rw[Oc (by simp only;lia)];simp
 . rcases new y hy with hy|rfl
   . rw[Oc (q.d2 y hy)];exact q1.qr y hy
   . rw[Oc (by simp only;lia)];simp
 . rw[List.map_append,List.nodup_append];refine⟨q.nd,by simp,λa ha b hb e=>?_⟩;obtain⟨y,hy,rfl⟩:=List.mem_map.mp ha;have:=ZbT (q.qr y hy);simp at hb
   lia
 . rcases new y hy with hy|rfl
   . exact q.d2 y hy
   . simp only;lia
 . rcases new y hy with hy|rfl
   . exact q.d3 y hy
   . have:=ZbT q.qw;simp only;lia
 . rcases new y hy with hy|rfl
   . exact q.o3 y hy
   . have:=q.ol;simp only;lia
end Ce
end
section
set_option tactic.hygienic false
namespace Ce
open PySem L2 IV
variable {P:Pg}{h0 h:Hd}{c us w:Nat}{U A B_:List Un}{x:Un}{ws:List D}
def Zl0(H:Cod P)(n:Nat)(t:T)(last:Bool)(h:Hd)(hz:t.size<=1000)(ht:its last t≠[]):∃g,run P (n+3) (O "pieces_of") [t.d,.bl last] h=.ok (.ref (h++g).length) ((h++g)++[.lst ((its last t).map It.d)]):=by
 rw[Zg H.pieces_of (by rfl)];cases t with
 |call f a=>refine⟨[],?_⟩;cases last<;>simp[T.d,its,It.d,Rw.d,ZV,ZbY,ZaU,ZaT,ZaS,Za,Yz]
 |op w a b=>refine⟨[],?_⟩;simp[T.d,its,It.d,Rw.d,ZV,ZbY,ZaU,ZaT,ZaS,Za,Yz]
 |iff c t e=>refine⟨[.lst [],.lst []],?_⟩;rw[Ze]at hz;simp only[T.parts,Op,Oy,OI,List.sum_nil]at hz;have e1:=Zki H n t h (by lia);have e2:=Zki H n e (h++[.lst []]) (by lia);simp at e2;simp[T.d,its,It.d,Rw.d,ZV,ZbY,ZaU,ZaT,ZaS,Za,Yz,e1,e2]
 |_=>exact absurd rfl ht
def ZcF{GD:Str->Option (List (Key×D))}{h:Hd}{x:String}:opC GD .In (.str (Str.ofString x)) (.tup [.str (O "unless"),.str (O "jump")]) h=.ok (.bl (Wo (x = "unless" \/ x = "jump"))) h:=by have:=@Zd6 GD h [O "unless",O "jump"] (Str.ofString x);simpa using this
def Zkk(H:Cod P)(n:Nat)(q:St h0 h c us w U ws)(hx:x∈U)(rw':Rw)(hz:x.rows.length<=100000):
 run P (n+1) (mnm (O "Unit") (O "add_row")) [.ref x.u,rw'.d] h=.ok .non (h.set x.r (.lst ((x.rows++[rw'.up x.rows.length]).map Rw.d))):=by
 rw[Zaa H.n_Unit_add_row H.Unit_add_row (by rfl)];have gl:=H.gl;generalize P.G=PG at gl;have qu:=q.qu x hx;have qr:=q.qr x hx;have hz2:x.rows.length<16777216:=by lia
 have go:wd rw' ≠ "unless" -> wd rw' ≠ "jump" -> rw'.up x.rows.length=rw'->ZaV (xs2 ⟨PG,P.GD,run P n,P.L⟩ Zr.body (Za Zr.N [.ref x.u,rw'.d]) h)=.ok .non (h.set x.r (.lst ((x.rows++[rw'.up x.rows.length]).map Rw.d))):=by intro w1 w2 e;rw[e];obtain⟨ds,ed⟩:=Zm1 rw';simp[ed,Zr,Zay,Za,gl,ZcF,w1,w2,ZaY,Zq,qu,qr,Zab,ZaX,ZcT,Zhm,hz2,We,Yz]
 cases rw' with
 |unl k=>simp[Rw.d,Rw.up,Zr,Zay,Za,gl,ZcF,ZaY,Zq,qu,qr,Zab,ZaX,ZcT,Zhm,hz2,We,ZeN,Zgp,seqOf,lstOf,Yz]
 |jmp k=>simp[Rw.d,Rw.up,Zr,Zay,Za,gl,ZcF,ZaY,Zq,qu,qr,Zab,ZaX,ZcT,Zhm,hz2,We,ZeN,Zgp,seqOf,lstOf,Yz]
 |_=>exact go (by simp[wd]) (by simp[wd]) rfl
theorem ZmC{U:Tb}{u k:Nat}{ps:List D}(e:h[k]? = Wj (.lst ps)):∀(ds acc:List D),acc.length+ds.length<=1000 ->
 ZaC (Wj (k,ps)) (.nm 0) (tsto U Wl) (ev U (.tupl (.cons (.var 1) (.cons (.var 0) .nil)))) ds [Wl,Wj (.ref u)] acc h=.ok (acc++ds.map λd=>.tup [.ref u,d]) h
 |[],acc,hz=>by simp[ZaC,Wk.stays,e]
 |d::ds,acc,hz=>by
  have ih:=ZmC (U:=U) (u:=u) e ds (acc++[.tup [.ref u,d]]) (by simp at hz ⊢;lia);have hz2:acc.length<16777216:=by simp at hz;lia
  rw[ZdS];simp[Wk.stays,e,hz2,Yz];simpa using ih
def ZlY(H:Cod P)(n:Nat)(q:St h0 h c us w U ws){u k:Nat}{ps:List D}(e:h[k]? = Wj (.lst ps))(hp:ps.length<=1000)(hz:ws.length<=100000):
 run P (n+1) (mnm (O "Coder") (O "wait_for")) [.ref c,.ref u,.ref k] h=.ok .non (List.set (h++[DO.lst (ps.reverse.map λd=>.tup [.ref u,d])]) w (.lst (ws++ps.reverse.map λd=>.tup [.ref u,d]))):=by
 rw[Zaa H.n_Coder_wait_for H.Coder_wait_for (by rfl)];have qc:=q.qc;have qw:=q.qw;have qw2:(h++[DO.lst (ps.reverse.map λd=>.tup [.ref u,d])])[w]? = _:=keep qw;have ec:=ZmC (U:=⟨P.G,P.GD,run P n,P.L⟩) (u:=u) e ps.reverse [] (by simp;lia);have hz2:ws.length+ps.length<=16777216:=by lia
 simp at ec qw2;simp[ZI,Zcu,Za,ZaY,Zq,qc,qw,Zab,Zj9,e,ZdH,ec,ZaX,ZcT,Zlf,qw2,hz2,We,Yz]
def ZpJ(H:Cod P)(n:Nat)(sc:List Str):ZfP (run P (n+1)) (O "Unit") [.tup (sc.map .str)] h=.ok (.ref h.length) (h++[.ins (O "Unit") [(O "around",.tup (sc.map .str)),(O "rows",.ref (h.length+1))],.lst []]):=by unfold ZfP;rw[Zaa H.n_Unit___init__ H.Unit___init__ (by rfl)];generalize sc.map D.str=ds;simp[ZL,ZcR,Za,Zfa,Zhd,Yz]
noncomputable def Zc6(u:Nat)(is:List It):List D:=(is.map λi=>D.tup [.ref u,i.d]).reverse
def Zkj(H:Cod P)(n:Nat)(q:St h0 h c us w U ws)(t:T)(sc:List Str)(fn:Bool)(hU:U.length<=100000)(hw:ws.length<=100000):
 ∃h' y,run P (n+2) (mnm (O "Coder") (O "begin_unit")) [.ref c,t.d,.tup (sc.map .str),.str (Str.ofString (if fn then "back" else "end"))] h=.ok .non h'
  /\ y.sc=sc/\y.rows=[]/\St h0 h' c us w (U++[y]) (ws++Zc6 y.u [.part t fn,.row (if fn then .back else .fin)]):=by
 rw[Zaa H.n_Coder_begin_unit H.Coder_begin_unit (by rfl)];have eu:=ZpJ H n (h:=h) sc;have q1:=q.more sc;have qs1:=(q.app (g:=[.ins (O "Unit") [(O "around",.tup (sc.map .str)),(O "rows",.ref (h.length+1))],.lst []])).qs;have qc1:=(q.app (g:=[.ins (O "Unit") [(O "around",.tup (sc.map .str)),(O "rows",.ref (h.length+1))],.lst []])).qc;generalize hh:List.set (h++[.ins (O "Unit") [(O "around",.tup (sc.map .str)),(O "rows",.ref (h.length+1))],.lst []]) us (.lst ((U.map λx=>.ref x.u)++[.ref h.length]))=h1 at q1;have q2:=q1.app (g:=[.lst ([It.part t fn,.row (if fn then .back else .fin)].map It.d)]);have ew:=ZlY H n q2 (u:=h.length) (k:=h1.length) (ps:=[It.part t fn,.row (if fn then .back else .fin)].map It.d) (by simp) (by simp) hw;have q3:=(q2.app (g:=[.lst (([It.part t fn,.row (if fn then .back else .fin)].map It.d).reverse.map λd=>D.tup [.ref h.length,d])])).setW (ws++([It.part t fn,.row (if fn then .back else .fin)].map It.d).reverse.map λd=>D.tup [.ref h.length,d]);refine⟨_,⟨h.length,h.length+1,sc,[]⟩,?_,rfl,rfl,by simpa[Zc6]using q3⟩;have hU2:U.length<16777216:=by lia
 have q2c:=q2.qc;generalize sc.map D.str=ds at *;cases fn
 . simp[It.d,Rw.d]at ew q2c;simp[Zs,Zai,Z5,Z4,Z3,Za,eu,ZaY,Zq,qc1,qs1,Zab,ZaX,ZcT,Zhm,We,Yz,hU2,hh,q1.qc,ew,q2c,It.d,Rw.d]
 . simp[It.d,Rw.d]at ew q2c;simp[Zs,Zai,Z5,Z4,Z3,Za,eu,ZaY,Zq,qc1,qs1,Zab,ZaX,ZcT,Zhm,We,Yz,hU2,hh,q1.qc,ew,q2c,It.d,Rw.d]
end Ce
end
section
namespace Ce
open PySem L2 IV
variable {P:Pg}{h0 h:Hd}{c us w:Nat}{U A B_:List Un}{x:Un}{ws:List D}
theorem Zes{y:Str}:∀{sc:List Str},y∈sc->∃i,Tx.place y sc=Wj i/\i<sc.length
 |[],h=>by cases h
 |z::r,h=>by
  unfold Tx.place;by_cases e:z=y
  . exact⟨0,by rw[if_pos e],by simp⟩
  . rw[if_neg e];have:y∈r:=by
     rcases O1.mp h with q|q
     . exact absurd q.symm e
     . exact q
    obtain⟨i,e1,e2⟩:=Zes this;exact⟨i+1,by rw[e1];rfl,by simp;lia⟩
def Znw(ss:List Str):strsOf (ss.map D.str)=Wj ss:=by
 induction ss with
 |nil=>rfl
 |cons s r ih=>simp[strsOf,ih]
def ZpS(H:Cod P)(n:Nat)(q:St h0 h c us w (A++x::B_) ws)(t e:T)(hp:t.parts=[e])(hb:bnd t≠[])(hx:x.rows.length<=100000)(hU:(A++x::B_).length<=90000)(hw:ws.length<=100000)(hs:x.sc.length<=100000):
 ∃h' y,run P (n+3) (mnm (O "Coder") (O "begin_function")) [.ref c,.ref x.u,t.d] h=.ok .non h'/\y.sc=(bnd t).reverse++x.sc/\y.rows=[]
  /\ St h0 h' c us w ((A++{x with rows:=x.rows++[.close (A++x::B_).length (bnd t).reverse]}::B_)++[y]) (ws++Zc6 y.u [.part e Wm,.row .back]):=by
 rw[Zaa H.n_Coder_begin_function H.Coder_begin_function (by rfl)];have hxm:x∈A++x::B_:=by simp
 have eb:=Zd4 H (n+1) t h;have ea:=Zkk H (n+1) q hxm (.close (A++x::B_).length (bnd t).reverse) hx;have q1:=q.setR (x.rows++[.close (A++x::B_).length (bnd t).reverse]);have hu:=q.qu x hxm;have hcc:=q.qc;have hss:=q.qs;simp only[Rw.up]at ea;generalize hh:h.set x.r (.lst ((x.rows++[Rw.close (A++x::B_).length (bnd t).reverse]).map Rw.d))=h1 at ea q1;have ep:=Zhb H (n+1) t h1;rw[hp]at ep;have hu1:=q1.qu {x with rows:=x.rows++[.close (A++x::B_).length (bnd t).reverse]} (by simp);simp only at hu1;obtain⟨h',y,e3,y1,y2,q3⟩:=Zkj H n q1 e ((bnd t).reverse++x.sc) Wm (by simp at hU ⊢;lia) hw;refine⟨h',y,?_,y1,y2,q3⟩;have lu:(A++x::B_).length=(A.length+(B_.length+1)):=by simp
 have h1c:=q1.qc;have bl:(bnd t).length<=2:=by cases t<;>simp[bnd]
 have htr:∀h':Hd,ZkJ (.tup ((bnd t).map .str)) h'=.ok (.tup ((bnd t).reverse.map .str)) h':=by
  intro h';cases hbb:bnd t with
  |nil=>exact absurd hbb hb
  |cons b r=>simp[ZkJ]
 have ht2:∀h':Hd,opB .Add (.tup ((bnd t).reverse.map .str)) (.tup (x.sc.map .str)) h'=.ok (.tup (((bnd t).reverse++x.sc).map .str)) h':=by intro h';rw[Zcy (by rw[Yz];simp;lia),List.map_append]
 simp only[Rw.d]at ea;rw[lu]at ea;generalize (bnd t).reverse.map D.str=nms at *;generalize ((bnd t).reverse++x.sc).map D.str=ars at *;simp at e3 hss ea;simp[Zp,Zaz,Zaf,Zae,Zad,Za,eb,htr,Zq,hu,ZaY,hcc,hss,We,ZeN,Zgp,seqOf,lstOf,Yz,ea,h1c,ep,hu1,ht2,e3]
end Ce
end
section
set_option tactic.hygienic false
namespace Ce
open PySem L2 IV
variable {P:Pg}{h0 h:Hd}{c us w:Nat}{U A B_:List Un}{x:Un}{ws:List D}
noncomputable def leaf(sc:List Str):T->Option Rw
 |.num n=>Wj (.num n)
 |.name y=>(Tx.place y sc).map .fetch
 |_=>Wl
def ZpP(H:Cod P)(n:Nat)(q:St h0 h c us w (A++x::B_) ws)(t:T)(last:Bool){r:Rw}(hr:leaf x.sc t=Wj r)(hx:x.rows.length<=100000):
 ∃h',run P (n+4) (mnm (O "Coder") (O "do_part")) [.ref c,.ref x.u,t.d,.bl last] h=.ok .non h'/\St h0 h' c us w (A++{x with rows:=x.rows++[r]}::B_) ws:=by
 rw[Zaa H.n_Coder_do_part H.Coder_do_part (by rfl)];have hxm:x∈A++x::B_:=by simp
 have hu:=q.qu x hxm;cases t with
 |num m=>cases hr;have ea:=Zkk H (n+2) q hxm (.num m) hx;refine⟨_,?_,q.setR _⟩;simp[Rw.d,Rw.up]at ea;simp[Zi,Zv,Za,Zq,T.d,hu,ea,Rw.d,We]
 |name y=>
  obtain⟨i,e1,rfl⟩:=Oo.mp hr;have ea:=Zkk H (n+2) q hxm (.fetch i) hx;refine⟨_,?_,q.setR _⟩;have ei:∀h':Hd,Zlv (.tup (x.sc.map .str)) (.str y) h'=.ok (.int (i:Int)) h':=λh'=>by unfold Zlv;simp only[Znw,e1];rfl
  generalize x.sc.map D.str=ds at *;simp[Rw.d,Rw.up]at ea;simp[Zi,Zv,Za,Zq,ZaY,T.d,hu,ea,Rw.d,We,ZqG,ei,Yz]
 |_=>cases hr
def ZrO(H:Cod P)(n:Nat)(q:St h0 h c us w (A++x::B_) ws)(t e:T)(last:Bool)(hp:t.parts=[e])(hb:bnd t≠[])(hx:x.rows.length<=100000)(hU:(A++x::B_).length<=90000)(hw:ws.length<=100000)(hs:x.sc.length<=100000):
 ∃h' y,run P (n+4) (mnm (O "Coder") (O "do_part")) [.ref c,.ref x.u,t.d,.bl last] h=.ok .non h'/\y.sc=(bnd t).reverse++x.sc/\y.rows=[]
  /\ St h0 h' c us w ((A++{x with rows:=x.rows++[.close (A++x::B_).length (bnd t).reverse]}::B_)++[y]) (ws++Zc6 y.u [.part e Wm,.row .back]):=by
 rw[Zaa H.n_Coder_do_part H.Coder_do_part (by rfl)];obtain⟨h',y,e1,y1,y2,q1⟩:=ZpS H n q t e hp hb hx hU hw hs;refine⟨h',y,?_,y1,y2,q1⟩;have eb:=Zd4 H (n+2) t h;have hcc:=q.qc;cases t with
 |fn a b=>simp[T.d,bnd]at e1 eb;simp[Zi,Zv,Za,Zq,T.d,hcc,eb,e1,We]
 |rcc f a b=>simp[T.d,bnd]at e1 eb;simp[Zi,Zv,Za,Zq,T.d,hcc,eb,e1,We]
 |_=>exact absurd rfl hb
def Zl1(H:Cod P)(n:Nat)(q:St h0 h c us w (A++x::B_) ws)(t:T)(last:Bool)(ht:its last t≠[])(hz:t.size<=1000)(hw:ws.length<=100000):
 ∃h',run P (n+4) (mnm (O "Coder") (O "do_part")) [.ref c,.ref x.u,t.d,.bl last] h=.ok .non h'/\St h0 h' c us w (A++x::B_) (ws++Zc6 x.u (its last t)):=by
 rw[Zaa H.n_Coder_do_part H.Coder_do_part (by rfl)];obtain⟨g,e1⟩:=Zl0 H n t last h hz ht;have q2:St h0 (h++g++[.lst ((its last t).map It.d)]) c us w (A++x::B_) ws:=q.app.app;have hl:(its last t).length<=5:=by cases t<;>simp[its]
 have e2:=ZlY H (n+2) q2 (u:=x.u) (k:=(h++g).length) (ps:=(its last t).map It.d) (by simp) (by simp;lia) hw;have q3:=(q2.app (g:=[.lst (((its last t).map It.d).reverse.map λd=>.tup [.ref x.u,d])])).setW (ws++((its last t).map It.d).reverse.map λd=>.tup [.ref x.u,d]);generalize (List.set (h++g++[.lst ((its last t).map It.d)]++[DO.lst (((its last t).map It.d).reverse.map λd=>.tup [.ref x.u,d])]) w (.lst (ws++((its last t).map It.d).reverse.map λd=>.tup [.ref x.u,d])))=h2 at e2 q3;have q5:St h0 h2 c us w (A++x::B_) (ws++Zc6 x.u (its last t)):=by
  have e:((its last t).map It.d).reverse.map (λd=>D.tup [.ref x.u,d])=Zc6 x.u (its last t):=by simp[Zc6,List.map_reverse,Function.comp_def]
  rw[e]at q3;exact q3
 refine⟨h2,?_,q5⟩;have eb:=Zd4 H (n+2) t h;have hcc:=q.qc;generalize h++g=hg at *;cases t with
 |call f a=>simp[T.d,bnd]at e1 eb e2;simp[Zi,Zv,Za,Zq,T.d,hcc,eb,e1,e2,We]
 |op wd a b=>simp[T.d,bnd]at e1 eb e2;simp[Zi,Zv,Za,Zq,T.d,hcc,eb,e1,e2,We]
 |iff a b d=>simp[T.d,bnd]at e1 eb e2;simp[Zi,Zv,Za,Zq,T.d,hcc,eb,e1,e2,We]
 |_=>exact absurd rfl ht
noncomputable def Zho:Sxs:=(.cons (.set (.nm 1) (.meth .pop (.att [(O "Coder")] (.var 0) (O "waiting")) .nil)) (.cons (.set (.nm 2) (.ix (.var 1) (.cst (.int 1)))) (.cons (.iff (.ex (.cmp .Eq (.ix (.var 2) (.cst (.int 0))) (.cst (.str (O "row"))))) (.cons (.drp (.mcl (O "Unit") (O "add_row") (.ix (.var 1) (.cst (.int 0))) (.cons (.ix (.var 2) (.cst (.int 1))) .nil))) .nil) (.cons (.drp (.mcl (O "Coder") (O "do_part") (.var 0) (.cons (.ix (.var 1) (.cst (.int 0))) (.cons (.ix (.var 2) (.cst (.int 1))) (.cons (.ix (.var 2) (.cst (.int 2))) .nil))))) .nil)) .nil)))
noncomputable def loop(P:Pg)(n c fuel:Nat)(pr pc:Option D)(h:Hd):R (Fl×Ev):=Zbj (tst ⟨P.G,P.GD,run P (n+4),P.L⟩ (.ex (.att [(O "Coder")] (.var 0) (O "waiting")))) (xs2 ⟨P.G,P.GD,run P (n+4),P.L⟩ Zho) fuel [Wj (.ref c),pr,pc] h
inductive Sr(h0:Hd)(P:Pg)(n c us w:Nat)(A B_:List Un)(x:Un)(rr:Rw)(ws:List D)(h:Hd)(fuel:Nat)(pr pc:Option D):Prop
 |mk (h':Hd) (pr' pc':Option D) (e:loop P n c (fuel+1) pr pc h=loop P n c fuel pr' pc' h') (q:St h0 h' c us w (A++{x with rows:=x.rows++[rr.up x.rows.length]}::B_) ws)
def s_row(H:Cod P)(n fuel:Nat){rr:Rw}(q:St h0 h c us w (A++x::B_) (ws++[.tup [.ref x.u,(It.row rr).d]]))(hx:x.rows.length<=100000)(pr pc:Option D):
 Sr h0 P n c us w A B_ x rr ws h fuel pr pc:=by
 have hxm:x∈A++x::B_:=by simp
 have q1:=q.setW ws;have hpop:=ZiB (h:=h) (i:=w) q.qw;have isl:Zab (.ref w) h=Wm:=ZgP q.qw;have tru:Zb1 P.GD (.ref w) h=Wj Wm:=by rw[Zkb q.qw];simp
 have qc:=q.qc;generalize h.set w (.lst ws)=hp at q1 hpop;have ea:=Zkk H (n+3) q1 hxm rr hx;have q1u:=q1.qu x hxm;refine⟨_,Wj (.tup [.ref x.u,(It.row rr).d]),Wj (It.row rr).d,?_,q1.setR _⟩;unfold loop Zho;rw[ZZ];simp only[It.d]at hpop ⊢;simp[ZaY,Zq,qc,tru,isl,hpop,q1u,ea,We]
def Zg9(H:Cod P)(n fuel:Nat)(t:T)(last:Bool)(q:St h0 h c us w (A++x::B_) (ws++[.tup [.ref x.u,(It.part t last).d]]))(pr pc:Option D):
 ∃hp,St h0 hp c us w (A++x::B_) ws/\∀h',run P (n+4) (mnm (O "Coder") (O "do_part")) [.ref c,.ref x.u,t.d,.bl last] hp=.ok .non h'->∃pr' pc',loop P n c (fuel+1) pr pc h=loop P n c fuel pr' pc' h':=by
 have q1:=q.setW ws;have hpop:=ZiB (h:=h) (i:=w) q.qw;have isl:Zab (.ref w) h=Wm:=ZgP q.qw;have tru:Zb1 P.GD (.ref w) h=Wj Wm:=by rw[Zkb q.qw];simp
 have qc:=q.qc;generalize h.set w (.lst ws)=hp at q1 hpop;refine⟨hp,q1,λh' e=>⟨Wj (.tup [.ref x.u,(It.part t last).d]),Wj (It.part t last).d,?_⟩⟩;have q1c:=q1.qc;unfold loop Zho;rw[ZZ];simp only[It.d]at hpop ⊢;simp[ZaY,Zq,qc,tru,isl,hpop,q1c,e,We]
end Ce
end
section
set_option tactic.hygienic false
namespace Ce
open PySem L2 IV
noncomputable def comp:T->List Str->Bool->Nat->Nat->List Rw×List (List Rw)
 |.num n,_,_,_,_=>([.num n],[])
 |.name y,sc,_,_,_=>([.fetch ((Tx.place y sc).getD 0)],[])
 |.fn y e,sc,_,_,k=>([.close k [y]],((comp e (y::sc) Wm 0 (k+1)).1++[.back])::(comp e (y::sc) Wm 0 (k+1)).2)
 |.rcc f y e,sc,_,_,k=>([.close k [y,f]],((comp e (y::f::sc) Wm 0 (k+1)).1++[.back])::(comp e (y::f::sc) Wm 0 (k+1)).2)
 |.call f a,sc,l,p,k=>
  ((comp f sc Wn p k).1++((comp a sc Wn (p+cnt f) (k+(comp f sc Wn p k).2.length)).1++[if l then .hop else .call]),
   (comp f sc Wn p k).2++(comp a sc Wn (p+cnt f) (k+(comp f sc Wn p k).2.length)).2)
 |.op w f a,sc,_,p,k=>
  ((comp f sc Wn p k).1++((comp a sc Wn (p+cnt f) (k+(comp f sc Wn p k).2.length)).1++[.work w]),
   (comp f sc Wn p k).2++(comp a sc Wn (p+cnt f) (k+(comp f sc Wn p k).2.length)).2)
 |.iff c t e,sc,l,p,k=>
  ((comp c sc Wn p k).1++(.unl ((p+cnt c+1+cnt t+1:Nat):Int)::((comp t sc l (p+cnt c+1) (k+(comp c sc Wn p k).2.length)).1 ++
   (.jmp ((p+cnt c+1+cnt t+1+cnt e:Nat):Int)::(comp e sc l (p+cnt c+1+cnt t+1) (k+(comp c sc Wn p k).2.length+(comp t sc l (p+cnt c+1) (k+(comp c sc Wn p k).2.length)).2.length)).1))),
   (comp c sc Wn p k).2++((comp t sc l (p+cnt c+1) (k+(comp c sc Wn p k).2.length)).2 ++
    (comp e sc l (p+cnt c+1+cnt t+1) (k+(comp c sc Wn p k).2.length+(comp t sc l (p+cnt c+1) (k+(comp c sc Wn p k).2.length)).2.length)).2))
theorem Zn:∀(t:T) (sc:List Str) (l:Bool) (p k:Nat),(comp t sc l p k).1.length=cnt t
 |.num _,_,_,_,_=>rfl
 |.name _,_,_,_,_=>rfl
 |.fn _ _,_,_,_,_=>rfl
 |.rcc _ _ _,_,_,_,_=>rfl
 |.call f a,sc,l,p,k=>by simp[comp,Zn f,Zn a,cnt];lia
 |.op w f a,sc,l,p,k=>by simp[comp,Zn f,Zn a,cnt];lia
 |.iff c t e,sc,l,p,k=>by simp[comp,Zn c,Zn t,Zn e,cnt];lia
noncomputable def cost:T->Nat
 |.num _=>1
 |.name _=>1
 |.fn _ e=>cost e+2
 |.rcc _ _ e=>cost e+2
 |.call f a=>cost f+cost a+2
 |.op _ f a=>cost f+cost a+2
 |.iff c t e=>cost c+cost t+cost e+3
theorem Zav:∀t:T,cnt t<=2 * t.size
 |.num _=>by simp[cnt,T.size,T.places]
 |.name _=>by simp[cnt,T.size,T.places]
 |.fn _ e=>by rw[Ze];simp[cnt,T.parts];lia
 |.rcc _ _ e=>by rw[Ze];simp[cnt,T.parts];lia
 |.call f a=>by have:=Zav f;have:=Zav a;rw[Ze];simp[cnt,T.parts];lia
 |.op _ f a=>by have:=Zav f;have:=Zav a;rw[Ze];simp[cnt,T.parts];lia
 |.iff c t e=>by have:=Zav c;have:=Zav t;have:=Zav e;rw[Ze];simp[cnt,T.parts];lia
theorem units_le:∀(t:T) (sc:List Str) (l:Bool) (p k:Nat),(comp t sc l p k).2.length+1<=t.size
 |.num _,_,_,_,_=>by simp[comp,T.size,T.places]
 |.name _,_,_,_,_=>by simp[comp,T.size,T.places]
 |.fn y e,sc,l,p,k=>by have:=units_le e (y::sc) Wm 0 (k+1);rw[Ze];simp[comp,T.parts];lia
 |.rcc f y e,sc,l,p,k=>by have:=units_le e (y::f::sc) Wm 0 (k+1);rw[Ze];simp[comp,T.parts];lia
 |.call f a,sc,l,p,k=>by have:=units_le f sc Wn p k;have:=units_le a sc Wn (p+cnt f) (k+(comp f sc Wn p k).2.length);rw[Ze];simp[comp,T.parts];lia
 |.op w f a,sc,l,p,k=>by have:=units_le f sc Wn p k;have:=units_le a sc Wn (p+cnt f) (k+(comp f sc Wn p k).2.length);rw[Ze];simp[comp,T.parts];lia
 |.iff c t e,sc,l,p,k=>by
  have:=units_le c sc Wn p k;have:=units_le t sc l (p+cnt c+1) (k+(comp c sc Wn p k).2.length);have:=units_le e sc l (p+cnt c+1+cnt t+1) (k+(comp c sc Wn p k).2.length+(comp t sc l (p+cnt c+1) (k+(comp c sc Wn p k).2.length)).2.length);rw[Ze];simp[comp,T.parts]
  lia
variable {P:Pg}{h0:Hd}{c us w:Nat}
structure Rm(t:T)(A B_:List Un)(x:Un)(ws:List D):Prop where
 z:t.size<=1000
 r:x.rows.length+2 * t.size<=50000
 u:(A++x::B_).length+t.size<=50000
 w:ws.length+5 * t.size<=50000
 s:x.sc.length+2 * t.size<=50000
def Rm.of{t t':T}{A B_ A' B':List Un}{x x':Un}{ws ws':List D}(rm:Rm t A B_ x ws)(z:t'.size<t.size)(r:x'.rows.length+2 * t'.size<=x.rows.length+2 * t.size)(u:(A'++x'::B').length+t'.size<=(A++x::B_).length+t.size)(w:ws'.length+5 * t'.size<=ws.length+5 * t.size)(s:x'.sc=x.sc):Rm t' A' B' x' ws':=⟨by have:=rm.z;lia,OE r rm.r,OE u rm.u,OE w rm.w,by rw[s];have:=rm.s;lia⟩
inductive Dn(h0:Hd)(P:Pg)(n c us w:Nat)(t:T)(last:Bool)(A B_:List Un)(x:Un)(ws:List D)(h:Hd)(fuel:Nat)(pr pc:Option D):Prop
 |mk (h':Hd) (pr' pc':Option D) (N:List Un) (e:loop P n c (fuel+cost t) pr pc h=loop P n c fuel pr' pc' h') (m:N.map Un.rows=(comp t x.sc last x.rows.length (A++x::B_).length).2)
  (q:St h0 h' c us w (A++{x with rows:=x.rows++(comp t x.sc last x.rows.length (A++x::B_).length).1}::(B_++N)) ws)
def Done(h0:Hd)(P:Pg)(n c us w:Nat)(t:T)(last:Bool)(A B_:List Un)(x:Un)(ws:List D)(h:Hd):Prop:=∀fuel pr pc,Dn h0 P n c us w t last A B_ x ws h fuel pr pc
def ZgS(H:Cod P)(n:Nat)(t:T)(last:Bool){A B_:List Un}{x:Un}{ws:List D}{h:Hd}(rm:Rm t A B_ x ws){r:Rw}(hr:leaf x.sc t=Wj r)(hc:(comp t x.sc last x.rows.length (A++x::B_).length)=([r],[]))(h1:cost t=1)
 (q:St h0 h c us w (A++x::B_) (ws++[.tup [.ref x.u,(It.part t last).d]])):Done h0 P n c us w t last A B_ x ws h:=by
 intro fuel pr pc;have hr1:=rm.r;obtain⟨hp,q1,k⟩:=Zg9 H n fuel t last q pr pc;obtain⟨h',e1,q2⟩:=ZpP H n q1 t last hr (by lia);obtain⟨pr',pc',e2⟩:=k h' e1;refine⟨h',pr',pc',[],by rw[h1];exact e2,by rw[hc];rfl,?_⟩;rw[hc];simpa using q2
end Ce
end
section
set_option tactic.hygienic false
namespace Ce
open PySem L2 IV
variable {P:Pg}{h0:Hd}{c us w:Nat}
def map_len{N:List Un}{l:List (List Rw)}(e:N.map Un.rows=l):N.length=l.length:=by rw[<- e];simp
def ZiS(H:Cod P)(n:Nat)(t e:T)(last:Bool){A B_:List Un}{x:Un}{ws:List D}{h:Hd}(rm:Rm t A B_ x ws)(hp:t.parts=[e])(hb:bnd t≠[])(hcost:cost t=cost e+2)
 (hc:comp t x.sc last x.rows.length (A++x::B_).length=([.close (A++x::B_).length (bnd t).reverse],((comp e ((bnd t).reverse++x.sc) Wm 0 ((A++x::B_).length+1)).1++[.back])::(comp e ((bnd t).reverse++x.sc) Wm 0 ((A++x::B_).length+1)).2))
 (ih:∀(A' B':List Un) (x':Un) (ws':List D) (h':Hd),x'.sc=(bnd t).reverse++x.sc->Rm e A' B' x' ws'->St h0 h' c us w (A'++x'::B') (ws'++[.tup [.ref x'.u,(It.part e Wm).d]])->Done h0 P n c us w e Wm A' B' x' ws' h')
 (q:St h0 h c us w (A++x::B_) (ws++[.tup [.ref x.u,(It.part t last).d]])):Done h0 P n c us w t last A B_ x ws h:=by
 intro fuel pr pc;have r1:=rm.r;have r2:=rm.u;have r3:=rm.w;have r4:=rm.s;have r5:=rm.z;have sz:t.size=1+e.size:=by rw[Ze,hp];simp
 have ep:=Zbl e;have bl:(bnd t).length<=2:=by cases t<;>simp[bnd]
 obtain⟨hpp,q1,k⟩:=Zg9 H n (fuel+1+cost e) t last q pr pc;obtain⟨h1,y,e1,y1,y2,q2⟩:=ZrO H n q1 t e last hp hb (by lia) (by lia) (by lia) (by lia);obtain⟨pr1,pc1,e2⟩:=k h1 e1;have pe:ws++Zc6 y.u [.part e Wm,.row .back]=(ws++[.tup [.ref y.u,(It.row .back).d]])++[.tup [.ref y.u,(It.part e Wm).d]]:=by simp[Zc6]
 rw[pe]at q2;have hl2:((A++{x with rows:=x.rows++[Rw.close (A++x::B_).length (bnd t).reverse]}::B_)++[y]).length=(A++x::B_).length+1:=by simp;lia
 have rm2:Rm e (A++{x with rows:=x.rows++[Rw.close (A++x::B_).length (bnd t).reverse]}::B_) [] y (ws++[.tup [.ref y.u,(It.row .back).d]]):=⟨by lia,by rw[y2];simp;lia,by rw[hl2];lia,by simp;lia,by rw[y1];simp;lia⟩
 obtain⟨h2,pr2,pc2,N,e3,n3,q3⟩:=ih _ [] y _ h1 y1 rm2 q2 (fuel+1) pr1 pc1;rw[y1,y2,hl2]at n3 q3;simp only[List.length_nil,OB]at n3 q3;obtain⟨h3,pr3,pc3,e4,q4⟩:=s_row H n fuel q3 (by simp only[Zn];have:=Zav e;lia) pr2 pc2;refine⟨h3,pr3,pc3,{y with rows:=(comp e ((bnd t).reverse++x.sc) Wm 0 ((A++x::B_).length+1)).1++[Rw.back]}::N,?_,?_,?_⟩
 . rw[hcost,show fuel+(cost e+2)=fuel+1+cost e+1 by lia,e2,e3,e4]
 . rw[hc,Op,n3]
 . rw[hc];simpa[Rw.up,y1]using q4
def done_two(H:Cod P)(n:Nat)(t f a:T)(last:Bool)(r:Rw){A B_:List Un}{x:Un}{ws:List D}{h:Hd}(rm:Rm t A B_ x ws)(hp:t.parts=[f,a])(hi:its last t=[.part f Wn,.part a Wn,.row r])(hup:∀p,r.up p=r)(hcost:cost t=cost f+cost a+2)
 (hc:∀sc p k,comp t sc last p k=((comp f sc Wn p k).1++((comp a sc Wn (p+cnt f) (k+(comp f sc Wn p k).2.length)).1++[r]),(comp f sc Wn p k).2++(comp a sc Wn (p+cnt f) (k+(comp f sc Wn p k).2.length)).2))
 (ihf:∀(A' B':List Un) (x':Un) (ws':List D) (h':Hd),x'.sc=x.sc->Rm f A' B' x' ws'->St h0 h' c us w (A'++x'::B') (ws'++[.tup [.ref x'.u,(It.part f Wn).d]])->Done h0 P n c us w f Wn A' B' x' ws' h')
 (iha:∀(A' B':List Un) (x':Un) (ws':List D) (h':Hd),x'.sc=x.sc->Rm a A' B' x' ws'->St h0 h' c us w (A'++x'::B') (ws'++[.tup [.ref x'.u,(It.part a Wn).d]])->Done h0 P n c us w a Wn A' B' x' ws' h')
 (q:St h0 h c us w (A++x::B_) (ws++[.tup [.ref x.u,(It.part t last).d]])):Done h0 P n c us w t last A B_ x ws h:=by
 intro fuel pr pc;have r1:=rm.r;have r2:=rm.u;have r3:=rm.w;have r4:=rm.s;have r5:=rm.z;have sz:t.size=1+(f.size+a.size):=by rw[Ze,hp];simp
 have s1:=Zbl f;have s2:=Zbl a;have c1:=Zav f;have c2:=Zav a;obtain⟨hpp,q1,k⟩:=Zg9 H n (fuel+1+cost a+cost f) t last q pr pc;obtain⟨h1,e1,q2⟩:=Zl1 H n q1 t last (by rw[hi];simp) (by lia) (by lia);obtain⟨pr1,pc1,e2⟩:=k h1 e1;have pe:ws++Zc6 x.u (its last t)=(ws++[.tup [.ref x.u,(It.row r).d],.tup [.ref x.u,(It.part a Wn).d]])++[.tup [.ref x.u,(It.part f Wn).d]]:=by rw[hi];simp[Zc6]
 rw[pe]at q2;obtain⟨h2,pr2,pc2,N,e3,n3,q3⟩:=ihf A B_ x _ h1 rfl (rm.of (by lia) (by lia) (by lia) (by simp;lia) rfl) q2 (fuel+1+cost a) pr1 pc1;have u1:=units_le f x.sc Wn x.rows.length (A++x::B_).length;have l3:=map_len n3;generalize hx1:({x with rows:=x.rows++(comp f x.sc Wn x.rows.length (A++x::B_).length).1}:Un)=x1 at q3;have xs1:x1.sc=x.sc:=by rw[<- hx1]
 have xu1:x1.u=x.u:=by rw[<- hx1]
 have xr1:x1.rows.length=x.rows.length+cnt f:=by rw[<- hx1];simp[Zn]
 have xl1:(A++x1::(B_++N)).length=(A++x::B_).length+(comp f x.sc Wn x.rows.length (A++x::B_).length).2.length:=by rw[<- l3];simp;lia
 rw[show ws++[D.tup [.ref x.u,(It.row r).d],.tup [.ref x.u,(It.part a Wn).d]]=(ws++[D.tup [.ref x1.u,(It.row r).d]])++[.tup [.ref x1.u,(It.part a Wn).d]] by rw[xu1];simp]at q3;obtain⟨h3,pr3,pc3,N2,e4,n4,q4⟩:=iha A (B_++N) x1 _ h2 xs1 (rm.of (by lia) (by lia) (by rw[xl1];lia) (by simp;lia) xs1) q3 (fuel+1) pr2 pc2;rw[xs1,xr1,xl1]at n4 q4;obtain⟨h4,pr4,pc4,e5,q5⟩:=s_row H n fuel q4 (by simp[Zn,xr1];lia) pr3 pc3;refine⟨h4,pr4,pc4,N++N2,?_,?_,?_⟩
 . rw[hcost,show fuel+(cost f+cost a+2)=fuel+1+cost a+cost f+1 by lia,e2,e3,e4,e5]
 . rw[hc,List.map_append,n3,n4]
 . rw[hc];rw[hup]at q5;subst hx1;simpa using q5
end Ce
end
section
set_option tactic.hygienic false
namespace Ce
open PySem L2 IV
variable {P:Pg}{h0:Hd}{c us w:Nat}
def ZmZ(H:Cod P)(n:Nat)(f a b:T)(last:Bool){A B_:List Un}{x:Un}{ws:List D}{h:Hd}(rm:Rm (.iff f a b) A B_ x ws)
 (ihf:∀(A' B':List Un) (x':Un) (ws':List D) (h':Hd),x'.sc=x.sc->Rm f A' B' x' ws'->St h0 h' c us w (A'++x'::B') (ws'++[.tup [.ref x'.u,(It.part f Wn).d]])->Done h0 P n c us w f Wn A' B' x' ws' h')
 (iha:∀(A' B':List Un) (x':Un) (ws':List D) (h':Hd),x'.sc=x.sc->Rm a A' B' x' ws'->St h0 h' c us w (A'++x'::B') (ws'++[.tup [.ref x'.u,(It.part a last).d]])->Done h0 P n c us w a last A' B' x' ws' h')
 (ihb:∀(A' B':List Un) (x':Un) (ws':List D) (h':Hd),x'.sc=x.sc->Rm b A' B' x' ws'->St h0 h' c us w (A'++x'::B') (ws'++[.tup [.ref x'.u,(It.part b last).d]])->Done h0 P n c us w b last A' B' x' ws' h')
 (q:St h0 h c us w (A++x::B_) (ws++[.tup [.ref x.u,(It.part (.iff f a b) last).d]])):Done h0 P n c us w (.iff f a b) last A B_ x ws h:=by
 intro fuel pr pc;have r1:x.rows.length<=50000:=by have:=rm.r;lia
 have r3:ws.length<=50000:=by have:=rm.w;lia
 have r5:=rm.z;have sz:(T.iff f a b).size=1+(f.size+(a.size+b.size)):=by rw[Ze];simp[T.parts]
 have s1:=Zbl f;have s2:=Zbl a;have s3:=Zbl b;have c1:=Zav f;have c2:=Zav a;have c3:=Zav b;obtain⟨hpp,q1,k⟩:=Zg9 H n (fuel+cost b+1+cost a+1+cost f) (.iff f a b) last q pr pc;obtain⟨h1,e1,q2⟩:=Zl1 H n q1 (.iff f a b) last (by simp[its]) (by lia) (by lia);obtain⟨pr1,pc1,e2⟩:=k h1 e1;have pe:ws++Zc6 x.u (its last (.iff f a b))=(ws++[.tup [.ref x.u,(It.part b last).d],.tup [.ref x.u,(It.row (.jmp (cnt b+1))).d],.tup [.ref x.u,(It.part a last).d],.tup [.ref x.u,(It.row (.unl (cnt a+2))).d]])++[.tup [.ref x.u,(It.part f Wn).d]]:=by simp[Zc6,its]
 rw[pe]at q2;obtain⟨h2,pr2,pc2,N,e3,n3,q3⟩:=ihf A B_ x _ h1 rfl (rm.of (by lia) (by lia) (by lia) (by simp;lia) rfl) q2 (fuel+cost b+1+cost a+1) pr1 pc1;have u1:=units_le f x.sc Wn x.rows.length (A++x::B_).length;have l3:=map_len n3;generalize hx1:({x with rows:=x.rows++(comp f x.sc Wn x.rows.length (A++x::B_).length).1}:Un)=x1 at q3;have xs1:x1.sc=x.sc:=by rw[<- hx1]
 have xu1:x1.u=x.u:=by rw[<- hx1]
 have xr1:x1.rows.length=x.rows.length+cnt f:=by rw[<- hx1];simp[Zn]
 have xl1:(A++x1::(B_++N)).length=(A++x::B_).length+(comp f x.sc Wn x.rows.length (A++x::B_).length).2.length:=by rw[<- l3];simp;lia
 rw[show ws++[D.tup [.ref x.u,(It.part b last).d],.tup [.ref x.u,(It.row (.jmp (cnt b+1))).d],.tup [.ref x.u,(It.part a last).d],.tup [.ref x.u,(It.row (.unl (cnt a+2))).d]]=(ws++[D.tup [.ref x.u,(It.part b last).d],.tup [.ref x.u,(It.row (.jmp (cnt b+1))).d],.tup [.ref x.u,(It.part a last).d]])++[.tup [.ref x1.u,(It.row (.unl (cnt a+2))).d]] by rw[xu1];simp]at q3;obtain⟨h3,pr3,pc3,e4,q4⟩:=s_row H n (fuel+cost b+1+cost a) q3 (by lia) pr2 pc2;generalize hx2:({x1 with rows:=x1.rows++[(Rw.unl (cnt a+2)).up x1.rows.length]}:Un)=x2 at q4;have xs2:x2.sc=x.sc:=by rw[<- hx2];exact xs1
 have xu2:x2.u=x.u:=by rw[<- hx2];exact xu1
 have xr2:x2.rows.length=x.rows.length+cnt f+1:=by rw[<- hx2];simp[xr1]
 have xl2:(A++x2::(B_++N)).length=(A++x::B_).length+(comp f x.sc Wn x.rows.length (A++x::B_).length).2.length:=by rw[<- xl1];simp
 rw[show ws++[D.tup [.ref x.u,(It.part b last).d],.tup [.ref x.u,(It.row (.jmp (cnt b+1))).d],.tup [.ref x.u,(It.part a last).d]]=(ws++[D.tup [.ref x.u,(It.part b last).d],.tup [.ref x.u,(It.row (.jmp (cnt b+1))).d]])++[.tup [.ref x2.u,(It.part a last).d]] by rw[xu2];simp]at q4;obtain⟨h4,pr4,pc4,N2,e5,n5,q5⟩:=iha A (B_++N) x2 _ h3 xs2 (rm.of (by lia) (by lia) (by rw[xl2];lia) (by simp;lia) xs2) q4 (fuel+cost b+1) pr3 pc3;rw[xs2,xr2,xl2]at n5 q5;have u2:=units_le a x.sc last (x.rows.length+cnt f+1) ((A++x::B_).length+(comp f x.sc Wn x.rows.length (A++x::B_).length).2.length);have l5:=map_len n5;generalize hx3:({x2 with sc:=x.sc,rows:=x2.rows++(comp a x.sc last (x.rows.length+cnt f+1) ((A++x::B_).length+(comp f x.sc Wn x.rows.length (A++x::B_).length).2.length)).1}:Un)=x3 at q5;have xs3:x3.sc=x.sc:=by rw[<- hx3]
 have xu3:x3.u=x.u:=by rw[<- hx3];exact xu2
 have xr3:x3.rows.length=x.rows.length+cnt f+1+cnt a:=by rw[<- hx3];simp[Zn,xr2]
 rw[show ws++[D.tup [.ref x.u,(It.part b last).d],.tup [.ref x.u,(It.row (.jmp (cnt b+1))).d]]=(ws++[D.tup [.ref x.u,(It.part b last).d]])++[.tup [.ref x3.u,(It.row (.jmp (cnt b+1))).d]] by rw[xu3];simp]at q5;obtain⟨h5,pr5,pc5,e6,q6⟩:=s_row H n (fuel+cost b) q5 (by lia) pr4 pc4;generalize hx4:({x3 with rows:=x3.rows++[(Rw.jmp (cnt b+1)).up x3.rows.length]}:Un)=x4 at q6;have xs4:x4.sc=x.sc:=by rw[<- hx4];exact xs3
 have xu4:x4.u=x.u:=by rw[<- hx4];exact xu3
 have xr4:x4.rows.length=x.rows.length+cnt f+1+cnt a+1:=by rw[<- hx4];simp[xr3]
 have xl4:(A++x4::(B_++N++N2)).length=(A++x::B_).length+(comp f x.sc Wn x.rows.length (A++x::B_).length).2.length+(comp a x.sc last (x.rows.length+cnt f+1) ((A++x::B_).length+(comp f x.sc Wn x.rows.length (A++x::B_).length).2.length)).2.length:=by rw[<- l5,<- l3];simp;lia
 rw[<- xu4]at q6;obtain⟨h6,pr6,pc6,N3,e7,n7,q7⟩:=ihb A (B_++N++N2) x4 _ h5 xs4 (rm.of (by lia) (by lia) (by rw[xl4];lia) (by lia) xs4) q6 fuel pr5 pc5;rw[xs4,xr4,xl4]at n7 q7;refine⟨h6,pr6,pc6,N++(N2++N3),?_,?_,?_⟩
 . rw[show cost (T.iff f a b)=cost f+cost a+cost b+3 from rfl,show fuel+(cost f+cost a+cost b+3)=fuel+cost b+1+cost a+1+cost f+1 by lia,e2,e3,e4,e5,e6,e7]
 . rw[comp,List.map_append,List.map_append,n3,n5,n7]
 . rw[comp];subst hx4 hx3 hx2 hx1;simp only[Rw.up]at q7;have lf:=Zn f x.sc Wn x.rows.length (A++x::B_).length;have la:=Zn a x.sc last (x.rows.length+cnt f+1) ((A++x::B_).length+(comp f x.sc Wn x.rows.length (A++x::B_).length).2.length);clear n3 n5 n7 e1 e2 e3 e4 e5 e6 e7 q q1 q2 q3 q4 q5 q6 xl1 xl2 xl4 xr1 xr2 xr3 xr4 xs1 xs2 xs3 xs4 xu1 xu2 xu3 xu4 u1 u2 l3 l5 k ihf iha ihb pe;generalize comp b x.sc last (x.rows.length+cnt f+1+cnt a+1) ((A++x::B_).length+(comp f x.sc Wn x.rows.length (A++x::B_).length).2.length+(comp a x.sc last (x.rows.length+cnt f+1) ((A++x::B_).length+(comp f x.sc Wn x.rows.length (A++x::B_).length).2.length)).2.length)=cb at *;generalize comp a x.sc last (x.rows.length+cnt f+1) ((A++x::B_).length+(comp f x.sc Wn x.rows.length (A++x::B_).length).2.length)=ca at *;generalize comp f x.sc Wn x.rows.length (A++x::B_).length=cf at *;have j1:((x.rows++cf.1).length:Int)+(cnt a+2)=((x.rows.length+cnt f+1+cnt a+1:Nat):Int):=by simp[lf];lia
   rw[j1]at q7;have j2:((x.rows++cf.1++[Rw.unl ((x.rows.length+cnt f+1+cnt a+1:Nat):Int)]++ca.1).length:Int)+((cnt b:Int)+1)=((x.rows.length+cnt f+1+cnt a+1+cnt b:Nat):Int):=by simp[lf,la];lia
   rw[j2]at q7;simpa only[Oz,List.cons_append,OB]using q7
theorem Zgt(H:Cod P)(n:Nat):∀(t:T) (last:Bool) (A B_:List Un) (x:Un) (ws:List D) (h:Hd),Gn.Cl x.sc t->Rm t A B_ x ws->St h0 h c us w (A++x::B_) (ws++[.tup [.ref x.u,(It.part t last).d]])->Done h0 P n c us w t last A B_ x ws h
 |.num m,last,A,B_,x,ws,h,hc,rm,q=>ZgS H n (.num m) last rm (r:=.num m) rfl rfl rfl q
 |.name y,last,A,B_,x,ws,h,hc,rm,q=>by obtain⟨i,e1,_⟩:=Zes (show y∈x.sc from hc);exact ZgS H n (.name y) last rm (r:=.fetch i) (by simp[leaf,e1]) (by simp[comp,e1]) rfl q
 |.fn y e,last,A,B_,x,ws,h,hc,rm,q=>ZiS H n (.fn y e) e last rm rfl (by simp[bnd]) rfl (by simp[comp,bnd]) (λA' B' x' ws' h' hs rm' q'=>Zgt H n e Wm A' B' x' ws' h' (by rw[hs];exact hc) rm' q') q
 |.rcc f y e,last,A,B_,x,ws,h,hc,rm,q=>ZiS H n (.rcc f y e) e last rm rfl (by simp[bnd]) rfl (by simp[comp,bnd]) (λA' B' x' ws' h' hs rm' q'=>Zgt H n e Wm A' B' x' ws' h' (by rw[hs];exact hc.1) rm' q') q
 |.call f a,last,A,B_,x,ws,h,hc,rm,q=>done_two H n (.call f a) f a last (if last then .hop else .call) rm rfl rfl (λp=>by cases last<;>rfl) rfl (λsc p k=>by rw[comp])
  (λA' B' x' ws' h' hs rm' q'=>Zgt H n f Wn A' B' x' ws' h' (by rw[hs];exact hc.1) rm' q') (λA' B' x' ws' h' hs rm' q'=>Zgt H n a Wn A' B' x' ws' h' (by rw[hs];exact hc.2) rm' q') q
 |.op wd f a,last,A,B_,x,ws,h,hc,rm,q=>done_two H n (.op wd f a) f a last (.work wd) rm rfl rfl (λp=>rfl) rfl (λsc p k=>by rw[comp])
  (λA' B' x' ws' h' hs rm' q'=>Zgt H n f Wn A' B' x' ws' h' (by rw[hs];exact hc.1) rm' q') (λA' B' x' ws' h' hs rm' q'=>Zgt H n a Wn A' B' x' ws' h' (by rw[hs];exact hc.2) rm' q') q
 |.iff f a b,last,A,B_,x,ws,h,hc,rm,q=>ZmZ H n f a b last rm
  (λA' B' x' ws' h' hs rm' q'=>Zgt H n f Wn A' B' x' ws' h' (by rw[hs];exact hc.1) rm' q') (λA' B' x' ws' h' hs rm' q'=>Zgt H n a last A' B' x' ws' h' (by rw[hs];exact hc.2.1) rm' q')
  (λA' B' x' ws' h' hs rm' q'=>Zgt H n b last A' B' x' ws' h' (by rw[hs];exact hc.2.2) rm' q') q
end Ce
end
section
set_option tactic.hygienic false
namespace Ce
open PySem L2 IV
variable {P:Pg}{h0 h:Hd}{c us w:Nat}{U A B_:List Un}{x:Un}{ws:List D}
def ZmA(n fuel:Nat)(q:St h0 h c us w U [])(pr pc:Option D):loop P n c (fuel+1) pr pc h=.ok (.nx,[Wj (.ref c),pr,pc]) h:=by unfold loop;have qc:=q.qc;have qw:=q.qw;rw[ZZ];simp[ZaY,Zq,qc,qw,Zb1,We]
def ZrQ(H:Cod P)(n:Nat)(t:T)(ct:Gn.Cl [] t)(hz:t.size<=1000)(hs:x.sc=[])(hr:x.rows=[])(q:St h0 h c us w [x] (Zc6 x.u [.part t Wn,.row .fin])):
 ∃h' y N,run P (n+5) (mnm (O "Coder") (O "do_all")) [.ref c] h=.ok .non h'/\St h0 h' c us w (y::N) []/\(y::N).map Un.rows=((comp t [] Wn 0 1).1++[.fin])::(comp t [] Wn 0 1).2:=by
 rw[Zaa H.n_Coder_do_all H.Coder_do_all (by rfl)];have cl:∀t:T,cost t<=3 * t.size:=by
  intro t;induction t with
  |num m=>simp[cost,T.size,T.places]
  |name m=>simp[cost,T.size,T.places]
  |fn y e ih=>rw[Ze];simp[cost,T.parts];lia
  |rcc f y e ih=>rw[Ze];simp[cost,T.parts];lia
  |call f a i1 i2=>rw[Ze];simp[cost,T.parts];lia
  |op wd f a i1 i2=>rw[Ze];simp[cost,T.parts];lia
  |iff a b d i1 i2 i3=>rw[Ze];simp[cost,T.parts];lia
 have hb:=H.big;have hct:=cl t;obtain⟨m,hm⟩:∃m,P.L=(m+1+1)+cost t:=⟨P.L - 2 - cost t,by lia⟩
 have pe:Zc6 x.u [.part t Wn,.row .fin]=[D.tup [.ref x.u,(It.row .fin).d]]++[.tup [.ref x.u,(It.part t Wn).d]]:=by simp[Zc6]
 rw[pe]at q;obtain⟨h1,pr1,pc1,N,e1,n1,q1⟩:=Zgt H n t Wn [] [] x _ h (by rw[hs];exact ct) ⟨hz,by rw[hr];simp;lia,by simp;lia,by simp;lia,by rw[hs];simp;lia⟩ q (m+1+1) Wl Wl;rw[hs,hr]at n1 q1;simp only[OB,List.length_nil,Os,Nat.zero_add]at n1 q1;obtain⟨h2,pr2,pc2,e2,q2⟩:=s_row H n (m+1) (A:=[]) (ws:=[]) (by simpa using q1) (by simp only[Zn];have:=Zav t;lia) pr1 pc1;have e3:=ZmA (P:=P) n m q2 pr2 pc2;refine⟨h2,_,N,?_,q2,?_⟩
 . have e4:loop P n c P.L Wl Wl h=.ok (.nx,[Wj (.ref c),pr2,pc2]) h2:=by rw[hm,e1,e2,e3]
   unfold loop Zho at e4;simp[ZS,Zdj,Za,e4]
 . rw[Op,n1];simp[Rw.up]
noncomputable def ZaA(a:Nat):List (List Rw)->List Nat
 |[]=>[a]
 |r::rs=>a::ZaA (a+r.length) rs
noncomputable def nmb(a:Nat)(F:List Nat):Rw->Rw
 |.unl k=>.unl (a+k)
 |.jmp k=>.jmp (a+k)
 |.close k ns=>.close (((F[k.toNat]?).getD 0:Nat):Int) ns
 |r=>r
noncomputable def flat(F:List Nat)(a:Nat):List (List Rw)->List Rw
 |[]=>[]
 |r::rs=>r.map (nmb a F)++flat F (a+r.length) rs
noncomputable def Zew:Sxs:=(.cons (.drp (.meth .app (.var 1) (.cons (.bin .Add (.ix (.var 1) (.neg (.cst (.int 1)))) (.blt .len (.cons (.att [(O "Unit")] (.var 2) (O "rows")) .nil))) .nil))) .nil)
def Zf5{j:Nat}{L:List D}{g:Tg}{body:Ev->Hd->R (Fl×Ev)}{d:D}{ds:List D}{S:Ev}{h:Hd}(e:h[j]? = Wj (.lst L)):ZaI (Wj (j,L)) g body (d::ds) S h=match ZbX g d S with
 |none=>.bad
 |some ρ1=>(body ρ1 h).bnd λp h2=>match p with
  |(.nx,ρ2)=>ZaI (Wj (j,L)) g body ds ρ2 h2
  |(.ct,ρ2)=>ZaI (Wj (j,L)) g body ds ρ2 h2
  |(.bk,ρ2)=>.ok (.nx,ρ2) h2
  |(.rt d,ρ2)=>.ok (.rt d,ρ2) h2:=by
 have:Wk.stays (Wj (j,L)) h=Wm:=by simp[Wk.stays,e]
 rw[ZaI,if_pos this];rfl
def Zf6{j:Nat}{L:List D}{g:Tg}{body:Ev->Hd->R (Fl×Ev)}{S:Ev}{h:Hd}(e:h[j]? = Wj (.lst L)):ZaI (Wj (j,L)) g body [] S h=.ok (.nx,S) h:=by
 have:Wk.stays (Wj (j,L)) h=Wm:=by simp[Wk.stays,e]
 rw[ZaI,if_pos this]
theorem ZiC{T:Tb}(q:St h0 h c us w U ws){o0:Option D}:∀(V:List Un) (acc:List D) (a:Nat) (un:Option D),(∀y∈V,y∈U)->acc.length+V.length<=100000->∃un',
 ZaI (Wj (us,U.map λx=>D.ref x.u)) (.nm 2) (xs2 T Zew) (V.map λx=>D.ref x.u) [o0,Wj (.ref h.length),un] (h++[.lst (acc++[.int (a:Int)])])
  = .ok (.nx,[o0,Wj (.ref h.length),un']) (h++[.lst (acc++(ZaA a (V.map Un.rows)).map λ(n:Nat)=>D.int (n:Int))])
 |[],acc,a,un,hV,hz=>⟨un,by rw[Oy,Zf6 (keep q.qs)];simp[ZaA]⟩
 |y::V,acc,a,un,hV,hz=>by
  obtain⟨un',e⟩:=ZiC (T:=T) q (o0:=o0) V (acc++[.int (a:Int)]) (a+y.rows.length) (Wj (.ref y.u)) (λz hz=>hV z (Oh _ hz)) (by simp at hz ⊢;lia);refine⟨un',?_⟩;have hy:=hV y Oi;have k1:(h++[DO.lst (acc++[.int (a:Int)])])[y.u]? = _:=keep (q.qu y hy);have k2:(h++[DO.lst (acc++[.int (a:Int)])])[y.r]? = _:=keep (q.qr y hy);have la:atI (acc++[D.int (a:Int)]) (-1)=Wj (.int a):=Zgq;have hz2:acc.length+1<16777216:=by simp at hz;lia
  rw[Op,Zf5 (keep q.qs)];simp only[Op,ZaA,Oz,List.cons_append,OB]at e ⊢;unfold Zew at e ⊢;simp[ZaY,Zq,k1,k2,We,ZeN,Zgp,seqOf,lstOf,Zcx,la,Zab,ZaX,ZcT,Zhm,Yz,hz2];simpa using e
def Zl4(H:Cod P)(n:Nat)(q:St h0 h c us w U ws)(hU:U.length<=90000):run P (n+1) (O "first_rows") [.ref us] h=.ok (.ref h.length) (h++[.lst ((ZaA 0 (U.map Un.rows)).map λ(n:Nat)=>D.int (n:Int))]):=by rw[Zg H.first_rows (by rfl)];obtain⟨un,e⟩:=ZiC (T:=⟨P.G,P.GD,run P n,P.L⟩) q (o0:=Wj (.ref us)) U [] 0 Wl (λy hy=>hy) (by simp;lia);have k1:(h++[DO.lst [D.int 0]])[us]? = _:=keep q.qs;unfold Zew at e;simp at e;simp[Z7,Zek,Za,Zbk,k1,Yz,e]
end Ce
end
section
set_option tactic.hygienic false
namespace Ce
open PySem L2 IV
variable {P:Pg}{h0:Hd}{c us w:Nat}{U:List Un}{ws:List D}
def ZcW(m:Nat):Rw->Prop
 |.close k _=>∃i:Nat,k=i/\i<m
 |_=>True
noncomputable def Fd'(F:List Nat):List D:=F.map λ(n:Nat)=>D.int (n:Int)
def ZrM(H:Cod P)(n:Nat)(r:Rw)(a fk:Nat)(F:List Nat)(h:Hd)(hf:h[fk]? = Wj (.lst (Fd' F)))(hr:ZcW F.length r):run P (n+1) (O "numbered") [r.d,.int (a:Int),.ref fk] h=.ok (nmb a F r).d h:=by
 rw[Zg H.numbered (by rfl)];have gl:=H.gl;generalize P.G=PG at gl;have go:wd r ≠ "unless" -> wd r ≠ "jump" -> wd r ≠ "close" -> nmb a F r=r->ZaV (xs2 ⟨PG,P.GD,run P n,P.L⟩ ZK.body (Za ZK.N [r.d,.int (a:Int),.ref fk]) h)=.ok (nmb a F r).d h:=by intro w1 w2 w3 e;rw[e];obtain⟨ds,ed⟩:=Zm1 r;simp[ed,ZK,ZbD,Za,gl,ZcF,w1,w2,w3]
 cases r with
 |close k ns=>
  obtain⟨i,rfl,hi⟩:=hr;have e:atI (Fd' F) (i:Int)=Wj (.int ((F[i]'hi:Nat):Int)):=by rw[IV.ZcL];simp[Fd',hi]
  simp[Rw.d,nmb,ZK,ZbD,Za,gl,ZcF,Yz,Zcx,seqOf,lstOf,hf,e,hi]
 |unl k=>simp[Rw.d,nmb,ZK,ZbD,Za,gl,ZcF,Yz]
 |jmp k=>simp[Rw.d,nmb,ZK,ZbD,Za,gl,ZcF,Yz]
 |_=>exact go (by simp[wd]) (by simp[wd]) (by simp[wd]) rfl
theorem Zpc(H:Cod P)(n:Nat){k a fk:Nat}{ps:List D}{F:List Nat}{h:Hd}(e:h[k]? = Wj (.lst ps))(hf:h[fk]? = Wj (.lst (Fd' F))):∀(ds:List Rw) (acc:List D),acc.length+ds.length<=100000->(∀r∈ds,ZcW F.length r) ->
 ZaC (Wj (k,ps)) (.nm 0) (tsto ⟨P.G,P.GD,run P (n+1),P.L⟩ Wl) (ev ⟨P.G,P.GD,run P (n+1),P.L⟩ (.call (O "numbered") (.cons (.var 0) (.cons (.var 1) (.cons (.var 2) .nil))))) (ds.map Rw.d) [Wl,Wj (.int (a:Int)),Wj (.ref fk)] acc h=.ok (acc++(ds.map (nmb a F)).map Rw.d) h
 |[],acc,hz,hc=>by simp[ZaC,Wk.stays,e]
 |d::ds,acc,hz,hc=>by
  have ih:=Zpc H n (a:=a) e hf ds (acc++[(nmb a F d).d]) (by simp at hz ⊢;lia) (λr hr=>hc r (Oh _ hr));have hz2:acc.length<16777216:=by simp at hz;lia
  have en:=ZrM H n d a fk F h hf (hc d Oi);rw[Op,ZdS];simp[Wk.stays,e,hz2,Yz,en];simpa using ih
structure Ct(h0 h:Hd)(c us w ck fk:Nat)(U:List Un)(ws:List D)(F:List Nat)(cs:List Rw):Prop where
 q:St h0 h c us w U ws
 f:h[fk]? = Wj (.lst (Fd' F))
 k:h[ck]? = Wj (.lst (cs.map Rw.d))
 n1:ck≠us
 n2:ck≠w
 n3:ck≠fk
 n4:∀y∈U,ck≠y.r
 n5:h0.length<=ck
theorem Ct.app{h g:Hd}{ck fk:Nat}{F:List Nat}{cs:List Rw}(z:Ct h0 h c us w ck fk U ws F cs):Ct h0 (h++g) c us w ck fk U ws F cs:=⟨z.q.app,keep z.f,keep z.k,z.n1,z.n2,z.n3,z.n4,z.n5⟩
theorem Ct.set{h:Hd}{ck fk:Nat}{F:List Nat}{cs:List Rw}(z:Ct h0 h c us w ck fk U ws F cs)(ds:List Rw):Ct h0 (h.set ck (.lst (ds.map Rw.d))) c us w ck fk U ws F ds:=by
 have q:=z.q;refine⟨⟨?_,?_,?_,λy hy=>?_,λy hy=>?_,q.nd,q.d1,q.d2,q.d3,q.o1,q.o2,q.o3,by simpa using q.ol,λi hi=>by rw[Oc (by have:=z.n5;lia)];exact q.old i hi⟩,?_,?_,z.n1,z.n2,z.n3,z.n4,z.n5⟩
 . rw[Oc (Zd8 q.qc z.k)];exact q.qc
 . rw[Oc z.n1];exact q.qs
 . rw[Oc z.n2];exact q.qw
 . rw[Oc (Zd8 (q.qu y hy) z.k)];exact q.qu y hy
 . rw[Oc (z.n4 y hy)];exact q.qr y hy
 . rw[Oc z.n3];exact z.f
 . rw[Ol (ZbT z.k)]
noncomputable def Zhn:Sxs:=(.cons (.set (.nm 5) (.blt .len (.cons (.var 3) .nil))) (.cons (.drp (.meth .ext (.var 3) (.cons (.comp [(O "row"),(O "first"),(O "firsts")] [Wl,Wj 5,Wj 2] (.pl (.att [(O "Unit")] (.var 4) (O "rows"))) (.nm 0) Wl (.call (O "numbered") (.cons (.var 0) (.cons (.var 1) (.cons (.var 2) .nil))))) .nil))) .nil))
theorem ZmE(H:Cod P)(n:Nat){ck fk:Nat}{F:List Nat}{o0 o1:Option D}:∀(V:List Un) (cs:List Rw) (h:Hd) (un fs:Option D),(∀y∈V,y∈U)->(∀y∈V,∀r∈y.rows,ZcW F.length r)->cs.length+(V.map λy=>y.rows.length).sum<=50000->Ct h0 h c us w ck fk U ws F cs->∃h' un' fs',
 ZaI (Wj (us,U.map λx=>D.ref x.u)) (.nm 4) (xs2 ⟨P.G,P.GD,run P (n+1),P.L⟩ Zhn) (V.map λx=>D.ref x.u) [o0,o1,Wj (.ref fk),Wj (.ref ck),un,fs] h=.ok (.nx,[o0,o1,Wj (.ref fk),Wj (.ref ck),un',fs']) h'
  /\ Ct h0 h' c us w ck fk U ws F (cs++flat F cs.length (V.map Un.rows))
 |[],cs,h,un,fs,hV,hc,hz,z=>⟨h,un,fs,by rw[Oy,Zf6 z.q.qs],by simpa[flat]using z⟩
 |y::V,cs,h,un,fs,hV,hc,hz,z=>by
  have hy:=hV y Oi;simp only[Op,OI]at hz;have ec:=Zpc H n (a:=cs.length) (z.q.qr y hy) z.f y.rows [] (by simp;lia) (hc y Oi);have z1:=(z.app (g:=[.lst ((y.rows.map (nmb cs.length F)).map Rw.d)])).set (cs++y.rows.map (nmb cs.length F));obtain⟨h',un',fs',e,z2⟩:=ZmE H n (o0:=o0) (o1:=o1) V _ _ (Wj (.ref y.u)) (Wj (.int (cs.length:Int))) (λr hr=>hV r (Oh _ hr)) (λr hr=>hc r (Oh _ hr)) (by simp;lia) z1;refine⟨h',un',fs',?_,?_⟩
  . have k1:=z.q.qu y hy;have k2:=z.q.qr y hy;have k3:=z.k;have k4:(h++[DO.lst ((y.rows.map (nmb cs.length F)).map Rw.d)])[ck]? = _:=keep z.k;have hz2:cs.length+y.rows.length<=16777216:=by lia
    rw[Op,Zf5 z.q.qs];unfold Zhn at e ⊢;simp at ec k4 e;simp[ZeN,Zgp,seqOf,lstOf,k3,Zab,ZaY,Zq,k1,k2,We,Zbk,ZdH,ec,ZaX,ZcT,Zlf,k4,hz2,Yz];simpa using e
  . have hl:(cs++y.rows.map (nmb cs.length F)).length=cs.length+y.rows.length:=by simp
    rw[hl]at z2;simpa[flat]using z2
end Ce
end
section
namespace Ce
open PySem L2 IV
variable {P:Pg}
def ZcW.mono{m k:Nat}(h:m<=k){r:Rw}(c:ZcW m r):ZcW k r:=by
 cases r with
 |close a ns=>obtain⟨i,e,q⟩:=c;exact⟨i,e,by lia⟩
 |_=>trivial
theorem Zir:∀(L:List (List Rw)) (a:Nat),(ZaA a L).length=L.length+1
 |[],a=>rfl
 |r::L,a=>by simp[ZaA,Zir L]
def Rows(X:List Rw×List (List Rw))(Q:Rw->Prop):Prop:=(∀r∈X.1,Q r)/\∀u∈X.2,∀r∈u,Q r
def Rows.imp{X:List Rw×List (List Rw)}{Q Q':Rw->Prop}(h:Rows X Q)(f:∀r,Q r->Q' r):Rows X Q':=⟨λr hr=>f r (h.1 r hr),λu hu r hr=>f r (h.2 u hu r hr)⟩
def ZlG{X Y:List Rw×List (List Rw)}{k:Nat}{r0:Rw}(hx:Rows X (ZcW (k+X.2.length)))(hy:Rows Y (ZcW (k+X.2.length+Y.2.length)))(h0:∀{m},ZcW m r0):Rows (X.1++(Y.1++[r0]),X.2++Y.2) (ZcW (k+(X.2++Y.2).length)):=by
 have hx':=hx.imp (λr hr=>hr.mono (k:=k+(X.2++Y.2).length) (by simp));have hy':=hy.imp (λr hr=>hr.mono (k:=k+(X.2++Y.2).length) (by simp;lia));refine⟨?_,?_⟩
 . intro r hr;simp only[OD,Ox]at hr;rcases hr with hr|hr|rfl
   . exact hx'.1 r hr
   . exact hy'.1 r hr
   . exact h0
 . intro u hu r hr;rcases OD.mp hu with hu|hu
   . exact hx'.2 u hu r hr
   . exact hy'.2 u hu r hr
def ZlI{X Y Z_:List Rw×List (List Rw)}{k:Nat}{a b:Int}(hx:Rows X (ZcW (k+X.2.length)))(hy:Rows Y (ZcW (k+X.2.length+Y.2.length)))(hz:Rows Z_ (ZcW (k+X.2.length+Y.2.length+Z_.2.length))):Rows (X.1++(.unl a::(Y.1++(.jmp b::Z_.1))),X.2++(Y.2++Z_.2)) (ZcW (k+(X.2++(Y.2++Z_.2)).length)):=by
 have hx':=hx.imp (λr hr=>hr.mono (k:=k+(X.2++(Y.2++Z_.2)).length) (by simp));have hy':=hy.imp (λr hr=>hr.mono (k:=k+(X.2++(Y.2++Z_.2)).length) (by simp;lia));have hz':=hz.imp (λr hr=>hr.mono (k:=k+(X.2++(Y.2++Z_.2)).length) (by simp;lia));refine⟨?_,?_⟩
 . intro r hr;simp only[OD,O1]at hr;rcases hr with hr|rfl|hr|rfl|hr
   . exact hx'.1 r hr
   . trivial
   . exact hy'.1 r hr
   . trivial
   . exact hz'.1 r hr
 . intro u hu r hr;simp only[OD]at hu;rcases hu with hu|hu|hu
   . exact hx'.2 u hu r hr
   . exact hy'.2 u hu r hr
   . exact hz'.2 u hu r hr
theorem Zac:∀(t:T) (sc:List Str) (l:Bool) (p k:Nat),Rows (comp t sc l p k) (ZcW (k+(comp t sc l p k).2.length))
 |.num _,_,_,_,_=>by simp[comp,Rows,ZcW]
 |.name _,_,_,_,_=>by simp[comp,Rows,ZcW]
 |.fn y e,sc,l,p,k=>by
  have ih:=Zac e (y::sc) Wm 0 (k+1);have ih':=ih.imp (λr hr=>hr.mono (k:=k+((comp e (y::sc) Wm 0 (k+1)).2.length+1)) (by lia));refine⟨?_,?_⟩
  . intro r hr;simp[comp]at hr;subst hr;exact⟨k,rfl,by simp[comp]⟩
  . intro u hu r hr;simp only[comp,O1]at hu;rcases hu with rfl|hu
    . rcases OD.mp hr with hr|hr
      . exact ih'.1 r hr
      . simp at hr;subst hr;trivial
    . exact ih'.2 u hu r hr
 |.rcc f y e,sc,l,p,k=>by
  have ih:=Zac e (y::f::sc) Wm 0 (k+1);have ih':=ih.imp (λr hr=>hr.mono (k:=k+((comp e (y::f::sc) Wm 0 (k+1)).2.length+1)) (by lia));refine⟨?_,?_⟩
  . intro r hr;simp[comp]at hr;subst hr;exact⟨k,rfl,by simp[comp]⟩
  . intro u hu r hr;simp only[comp,O1]at hu;rcases hu with rfl|hu
    . rcases OD.mp hr with hr|hr
      . exact ih'.1 r hr
      . simp at hr;subst hr;trivial
    . exact ih'.2 u hu r hr
 |.call f a,sc,l,p,k=>ZlG (Zac f sc Wn p k) (Zac a sc Wn (p+cnt f) (k+(comp f sc Wn p k).2.length)) (by cases l<;>(intro m;trivial))
 |.op w f a,sc,l,p,k=>ZlG (Zac f sc Wn p k) (Zac a sc Wn (p+cnt f) (k+(comp f sc Wn p k).2.length)) trivial
 |.iff c t e,sc,l,p,k=>ZlI (Zac c sc Wn p k) (Zac t sc l (p+cnt c+1) (k+(comp c sc Wn p k).2.length))
  (Zac e sc l (p+cnt c+1+cnt t+1) (k+(comp c sc Wn p k).2.length+(comp t sc l (p+cnt c+1) (k+(comp c sc Wn p k).2.length)).2.length))
noncomputable def units(t:T):List (List Rw):=((comp t [] Wn 0 1).1++[.fin])::(comp t [] Wn 0 1).2
noncomputable def code(t:T):List Rw:=flat (ZaA 0 (units t)) 0 (units t)
def ZlE(t:T):∀u∈units t,∀r∈u,ZcW (ZaA 0 (units t)).length r:=by
 have q:=Zac t [] Wn 0 1;have q':=q.imp (λr hr=>hr.mono (k:=(ZaA 0 (units t)).length) (by rw[Zir];simp[units];lia));intro u hu r hr;simp only[units,O1]at hu;rcases hu with rfl|hu
 . rcases OD.mp hr with hr|hr
   . exact q'.1 r hr
   . simp at hr;subst hr;trivial
 . exact q'.2 u hu r hr
theorem ZaP:∀(t:T) (sc:List Str) (l:Bool) (p k:Nat),(comp t sc l p k).1.length+((comp t sc l p k).2.map List.length).sum<=3 * t.size
 |.num _,_,_,_,_=>by simp[comp,T.size,T.places]
 |.name _,_,_,_,_=>by simp[comp,T.size,T.places]
 |.fn y e,sc,l,p,k=>by have:=ZaP e (y::sc) Wm 0 (k+1);rw[Ze];simp[comp,T.parts];lia
 |.rcc f y e,sc,l,p,k=>by have:=ZaP e (y::f::sc) Wm 0 (k+1);rw[Ze];simp[comp,T.parts];lia
 |.call f a,sc,l,p,k=>by have:=ZaP f sc Wn p k;have:=ZaP a sc Wn (p+cnt f) (k+(comp f sc Wn p k).2.length);rw[Ze];simp[comp,T.parts];lia
 |.op w f a,sc,l,p,k=>by have:=ZaP f sc Wn p k;have:=ZaP a sc Wn (p+cnt f) (k+(comp f sc Wn p k).2.length);rw[Ze];simp[comp,T.parts];lia
 |.iff c t e,sc,l,p,k=>by
  have:=ZaP c sc Wn p k;have:=ZaP t sc l (p+cnt c+1) (k+(comp c sc Wn p k).2.length);have:=ZaP e sc l (p+cnt c+1+cnt t+1) (k+(comp c sc Wn p k).2.length+(comp t sc l (p+cnt c+1) (k+(comp c sc Wn p k).2.length)).2.length);rw[Ze];simp[comp,T.parts]
  lia
def ZnG(H:Cod P)(n:Nat)(h:Hd):ZfP (run P (n+1)) (O "Coder") [] h=.ok (.ref h.length) (h++[.ins (O "Coder") [(O "units",.ref (h.length+1)),(O "waiting",.ref (h.length+2))],.lst [],.lst []]):=by unfold ZfP;rw[Zaa H.n_Coder___init__ H.Coder___init__ (by rfl)];simp[ZJ,Zcv,Za,Zfa,Zhd,Yz]
theorem ZpR (H:Cod P) (n:Nat) (t:T) (ct:Gn.Cl [] t) (hz:t.size<=1000) (h:Hd):∃ h' k,run P (n+6) (O "code_of") [t.d] h=.ok (.ref k) h'/\h'[k]? = Wj (.lst ((code t).map Rw.d))/\h.length<=k/\h.length<=h'.length/\∀ i,i<h.length->h'[i]? = h[i]? := by
 rw [Zg H.code_of (by rfl)];have e0:=ZnG H (n+4) h;have q0:St h (h++[.ins (O "Coder") [(O "units",.ref (h.length+1)),(O "waiting",.ref (h.length+2))],.lst [],.lst []]) h.length (h.length+1) (h.length+2) [] [] :=
   ⟨by simp,by simp,by simp,by simp,by simp,by simp,by lia,by simp,by simp,by lia,by lia,by simp,by simp,fun i hi=>by rw [Oe hi]⟩
 have c0:=q0.qc;generalize (h++[.ins (O "Coder") [(O "units",.ref (h.length+1)),(O "waiting",.ref (h.length+2))],.lst [],.lst []])=h1 at *;obtain ⟨h2,y,e1,y1,y2,q1⟩:=Zkj H (n+3) q0 t [] Wn (by simp) (by simp);simp only [OB] at q1;have c1:=q1.qc;obtain ⟨h3,z,N,e2,q2,er⟩:=ZrQ H n t ct hz y1 y2 q1;have c2:=q2.qc;have hl:(z::N).length=(units t).length:=by rw [<- Ys (f:=Un.rows),er];rfl
 have hu:=units_le t [] Wn 0 1;have e3:=Zl4 H (n+4) q2 (by rw [hl];simp [units];lia);rw [er] at e3;have q3:Ct h (h3++[.lst (Fd' (ZaA 0 (units t)))]++[.lst []]) h.length (h.length+1) (h.length+2) (h3.length+1) h3.length (z::N) [] (ZaA 0 (units t)) []:=by
   have l1:=ZbT q2.qs;have l2:=ZbT q2.qw;exact ⟨q2.app.app,by simp [Fd'],by simp,by lia,by lia,by lia,fun x hx=>by have:=ZbT (q2.qr x hx);lia,by have:=q2.ol;lia⟩
 have k1:(h3++[DO.lst (Fd' (ZaA 0 (units t)))])[h.length]? = _:=keep c2;have k2:(h3++[DO.lst (Fd' (ZaA 0 (units t)))]++[.lst []])[h.length+1]? = _:=q3.q.qs;have k3:(h3++[DO.lst (Fd' (ZaA 0 (units t)))]++[.lst []])[h.length]? = _:=q3.q.qc;have memU:∀ u∈z::N,u.rows∈units t:=fun u hu=>by
   have:u.rows∈(z::N).map Un.rows:=List.mem_map_of_mem hu;rw [er] at this;exact this
 obtain ⟨h4,un,fs,e4,q4⟩:=ZmE H (n+4) (o0:=Wj t.d) (o1:=Wj (.ref h.length)) (z::N) [] _ Wl Wl (fun y hy=>hy) (fun y hy r hr=>ZlE t y.rows (memU y hy) r hr) (by
     have:((z::N).map fun y=>y.rows.length).sum=((units t).map List.length).sum:=by
       rw [show (fun y:Un=>y.rows.length)=List.length ∘ Un.rows from rfl,<- List.map_map,er];rfl
     rw [this];have:=ZaP t [] Wn 0 1;simp [units]
     lia) q3
 refine ⟨h4,h3.length+1,?_,?_,by have:=q2.ol;lia,q4.q.ol,q4.q.old⟩
 . unfold Zhn at e4;have e3':run P (n+5) (O "first_rows") [.ref (h.length+1)] h3=.ok (.ref h3.length) (h3++[.lst (Fd' (ZaA 0 (units t)))]):=e3;generalize Fd' (ZaA 0 (units t))=ff at *;simp at e1 e4 k1 k2 k3;simp [Zbh,Zg1,Ze8,Ze7,Ze6,Ze5,Ze4,Ze3,Ze2,Za,e0,Zq,ZaY,c0,c1,c2,e1,e2,e3',k1,k2,k3,We,Yz,Zbk,e4]
 . have:=q4.k;rw [er] at this;simpa [code,units] using this
end Ce
end
section
set_option tactic.hygienic false
namespace Ce
open PySem L2 IV
noncomputable def off(L:List (List Rw))(i:Nat):Nat:=((L.take i).map List.length).sum
theorem Zkm:∀(L:List (List Rw)) (a i:Nat),i<=L.length->(ZaA a L)[i]? = Wj (a+off L i)
 |[],a,i,h=>by simp at h;subst h;simp[ZaA,off]
 |r::L,a,0,h=>by simp[ZaA,off]
 |r::L,a,i+1,h=>by
  have:=Zkm L (a+r.length) i (by simpa using h);simp[ZaA,this,off]
  lia
theorem ZkC(F:List Nat):∀(L:List (List Rw)) (a i j:Nat) (u:List Rw) (r:Rw),L[i]? = Wj u->u[j]? = Wj r->(flat F a L)[off L i+j]? = Wj (nmb (a+off L i) F r)
 |[],a,i,j,u,r,hi,hj=>by simp at hi
 |v::L,a,0,j,u,r,hi,hj=>by simp at hi;subst hi;have hl:=(Ob.mp hj).1;rw[flat,show off (v::L) 0=0 by simp[off],Nat.zero_add,Oe (by simpa using hl),On,hj];rfl
 |v::L,a,i+1,j,u,r,hi,hj=>by
  have ih:=ZkC F L (a+v.length) i j u r (by simpa using hi) hj;have e:off (v::L) (i+1)=v.length+off L i:=by simp[off]
  rw[flat,e,Om (by simp;lia)];rw[show v.length+off L i+j - (v.map (nmb a F)).length=off L i+j by simp;lia,ih];congr 2
  lia
def Plc(L:List (List Rw))(i p:Nat)(rs:List Rw):Prop:=∃u,L[i]? = Wj u/\∀j r,rs[j]? = Wj r->u[p+j]? = Wj r
def Uts(L:List (List Rw))(k:Nat)(us:List (List Rw)):Prop:=∀j u,us[j]? = Wj u->L[k+j]? = Wj u
variable {L:List (List Rw)}{i p k:Nat}
def Plc.left{a b:List Rw}(h:Plc L i p (a++b)):Plc L i p a:=by obtain⟨u,h1,h2⟩:=h;exact⟨u,h1,λj r hr=>h2 j r (by rw[Oe (Ob.mp hr).1];exact hr)⟩
def Plc.right{a b:List Rw}(h:Plc L i p (a++b)):Plc L i (p+a.length) b:=by
 obtain⟨u,h1,h2⟩:=h;refine⟨u,h1,λj r hr=>?_⟩;have:=h2 (a.length+j) r (by rw[Om (by lia)];simpa using hr);rw[<- this];congr 1
 lia
def Plc.head{r:Rw}{b:List Rw}(h:Plc L i p (r::b)):(flat (ZaA 0 L) 0 L)[off L i+p]? = Wj (nmb (off L i) (ZaA 0 L) r):=by obtain⟨u,h1,h2⟩:=h;have:=ZkC (ZaA 0 L) L 0 i p u r h1 (by simpa using h2 0 r rfl);simpa using this
def Plc.tail{r:Rw}{b:List Rw}(h:Plc L i p (r::b)):Plc L i (p+1) b:=Plc.right (a:=[r]) h
def Uts.left{a b:List (List Rw)}(h:Uts L k (a++b)):Uts L k a:=λj u hu=>h j u (by rw[Oe (Ob.mp hu).1];exact hu)
def Uts.right{a b:List (List Rw)}(h:Uts L k (a++b)):Uts L (k+a.length) b:=λj u hu=>by
 have:=h (a.length+j) u (by rw[Om (by lia)];simpa using hu);rw[<- this];congr 1
 lia
def Uts.head{r:List Rw}{b:List (List Rw)}(h:Uts L k (r::b)):Plc L k 0 r:=⟨r,by simpa using h 0 r rfl,λj x hx=>by simpa using hx⟩
def Uts.len{r:List Rw}{b:List (List Rw)}(h:Uts L k (r::b)):k<L.length:=(Ob.mp (show L[k]? = Wj r by simpa using h 0 r rfl)).1
def Uts.tail{r:List Rw}{b:List (List Rw)}(h:Uts L k (r::b)):Uts L (k+1) b:=Uts.right (a:=[r]) h
end Ce
end
section
set_option tactic.hygienic false
namespace Ce
open PySem L2 IV
noncomputable def Zd(z:Int):D:=.tup [.str (O "num"),.int z]
noncomputable def ZN(q:Nat)(ns:List Str)(ds:List D):D:=.tup [.str (O "clo"),.int q,.tup (ns.map .str),.tup ds]
structure Ma where
 p:Nat
 S_:List D
 E:List D
 pl:List (Nat×List D)
noncomputable def fr(f:Nat×List D):D:=.tup [.int (f.1:Int),.tup f.2]
noncomputable def Ma.d(s:Ma):D:=.tup [.int (s.p:Int),.tup s.S_,.tup s.E,.tup (s.pl.map fr)]
inductive Ans where
 |quiet (s:Ma)|loud (s:Ma)|value|stuck
noncomputable def Ans.d:Ans->D
 |.quiet s=>.tup [.str (O "quiet"),s.d]
 |.loud s=>.tup [.str (O "loud"),s.d]
 |.value=>.tup [.str (O "value")]
 |.stuck=>.tup [.str (O "stuck")]
section
variable {α:Type}{l:List α}{a b:α}
def Zpm:atI (l++[a,b]) (-1)=Wj b:=by have:=Zgq (l:=l++[a]) (x:=b);simpa using this
def Zpl:atI (l++[a,b]) (-2)=Wj a:=by
 unfold atI ixN;rw[if_neg (by decide),if_pos (by simp;lia)];have:(-2+((l++[a,b]).length:Int)).toNat=l.length:=by simp;lia
 simp only[Option.bind_some,this];simp
end
def ZqW{l:List D}{a:D}:cutD (l++[a]) Wl (Wj (-1))=l:=by
 have e:HT.sIx (l++[a]).length (l++[a]).length (Wj (-1))=l.length:=by simp[HT.sIx];lia
 have e0:HT.sIx (l++[a]).length 0 Wl=0:=by simp[HT.sIx]
 unfold cutD;rw[e,e0];simp
def Zm2{l:List D}{a b:D}:cutD (l++[a,b]) Wl (Wj (-2))=l:=by
 have e:HT.sIx (l++[a,b]).length (l++[a,b]).length (Wj (-2))=l.length:=by simp[HT.sIx];lia
 have e0:HT.sIx (l++[a,b]).length 0 Wl=0:=by simp[HT.sIx]
 unfold cutD;rw[e,e0];simp
variable {P:Pg}{h:Hd}
def Zkz{GD:Str->Option (List (Key×D))}{h:Hd}{x:String}:opC GD .In (.str (Str.ofString x)) (.tup [.str (O "call"),.str (O "hop"),.str (O "unless"),.str (O "work")]) h=.ok (.bl (Wo (x = "call" \/ x = "hop" \/ x = "unless" \/ x = "work"))) h:=by have:=@Zd6 GD h [O "call",O "hop",O "unless",O "work"] (Str.ofString x);simpa using this
noncomputable def psh(E:List D):Rw->Option D
 |.num z=>Wj (Zd z)
 |.fetch i=>E[i]?
 |.close q ns=>Wj (.tup [.str (O "clo"),.int q,.tup (ns.map .str),.tup E])
 |_=>Wl
def ZnE(H:Cod P)(n:Nat)(r:Rw)(E:List D){x:D}(hx:psh E r=Wj x):run P (n+1) (O "thing_of") [r.d,.tup E] h=.ok x h:=by
 rw[Zg H.thing_of (by rfl)];cases r with
 |num z=>cases hx;simp[Rw.d,Zd,Z2,ZcH,Za]
 |fetch i=>
  have e:atI E (i:Int)=Wj x:=by rw[IV.ZcL];exact hx
  simp[Rw.d,Z2,ZcH,Za,e]
 |close q ns=>cases hx;simp[Rw.d,Z2,ZcH,Za,Yz]
 |_=>cases hx
def ZnF(H:Cod P)(n:Nat)(r:Rw)(s:Ma){x:D}(hx:psh s.E r=Wj x)(hz:s.S_.length<=10000):run P (n+2) (O "quiet_state") [r.d,s.d] h=.ok (Ma.d ⟨s.p+1,s.S_++[x],s.E,s.pl⟩) h:=by
 rw[Zg H.quiet_state (by rfl)];have e1:=ZnE H n (h:=h) r s.E hx;have c1:opB .Add (.tup s.S_) (.tup [x]) h=.ok (.tup (s.S_++[x])) h:=Zcy (by rw[Yz];simp;lia);obtain⟨ds,ed⟩:=Zm1 r;rw[ed]at e1 ⊢;have hw:wd r ≠ "jump" /\ wd r ≠ "back" := by cases r<;>first|(cases hx;done)|simp[wd]
 generalize wd r=wr at *;simp[Ma.d,ZP,Zb4,Za,hw.1,hw.2,e1,c1,Yz]
def ZpQ(H:Cod P)(n:Nat)(q:Nat)(s:Ma):run P (n+1) (O "quiet_state") [(Rw.jmp q).d,s.d] h=.ok (Ma.d ⟨q,s.S_,s.E,s.pl⟩) h:=by rw[Zg H.quiet_state (by rfl)];have c1:∀a b c d:D,opB .Add (.tup [a]) (.tup [b,c,d]) h=.ok (.tup [a,b,c,d]) h:=λa b c d=>Zcy (by rw[Yz];simp);exact rfl
def ZpT(H:Cod P)(n:Nat)(p q:Nat)(S_ E ds:List D)(pl:List (Nat×List D)):run P (n+1) (O "quiet_state") [Rw.back.d,Ma.d ⟨p,S_,E,(q,ds)::pl⟩] h=.ok (Ma.d ⟨q,S_,ds,pl⟩) h:=by rw[Zg H.quiet_state (by rfl)];simp[Ma.d,Rw.d,fr,ZP,Zb4,Za,Yz]
noncomputable def ent(q:Nat)(ns:List Str)(ds:List D)(v:D):List D:=if ns.length=1 then v::ds else v::ZN q ns ds::ds
def ZkX(H:Cod P)(n:Nat)(q:Nat)(ns:List Str)(ds:List D)(v:D)(hz:ds.length<=10000):run P (n+1) (O "entered") [ZN q ns ds,v] h=.ok (.tup (ent q ns ds v)) h:=by
 rw[Zg H.entered (by rfl)];have c1:∀a:D,opB .Add (.tup [a]) (.tup ds) h=.ok (.tup (a::ds)) h:=λa=>Zcy (by rw[Yz];simp;lia);have c2:∀a b:D,opB .Add (.tup [a,b]) (.tup ds) h=.ok (.tup (a::b::ds)) h:=λa b=>Zcy (by rw[Yz];simp;lia);by_cases e:ns.length=1
 . simp[ZN,ent,e,ZaL,ZeR,Za,ZeN,Zgp,c1,Yz]
 . have e':¬ ((ns.length:Int)=1):=by lia
   simp[ZN,ent,e,e',ZaL,ZeR,Za,ZeN,Zgp,c2,Yz]
def ZgL(H:Cod P)(n:Nat)(q:Nat)(ns:List Str)(ds:List D)(S_:List D)(V pl:D)(hz:ds.length<=10000):run P (n+2) (O "applied") [.tup (S_++[ZN q ns ds,V]),pl] h=.ok (.tup [.int (q:Int),.tup S_,.tup (ent q ns ds V),pl]) h:=by
 rw[Zg H.applied (by rfl)];have e2:=Zpl (l:=S_) (a:=ZN q ns ds) (b:=V);have e1:=Zpm (l:=S_) (a:=ZN q ns ds) (b:=V);have e3:=Zm2 (l:=S_) (a:=ZN q ns ds) (b:=V);have e4:=ZkX H n (h:=h) q ns ds V hz;have c0:∀h',Zcx P.GD (ZN q ns ds) (.int 0) h'=.ok (.str (O "clo")) h':=λh'=>by simp[ZN]
 have c1:∀h',Zcx P.GD (ZN q ns ds) (.int 1) h'=.ok (.int q) h':=λh'=>by simp[ZN]
 generalize ZN q ns ds=W at *;simp[Zbi,Zg2,Za,e1,e2,e3,e4,c0,c1,Yz]
def Zl6(H:Cod P)(n:Nat)(z:Int)(A B_:D):run P (n+1) (O "chosen") [Zd z,A,B_] h=.ok (if z=0 then B_ else A) h:=by rw[Zg H.chosen (by rfl)];by_cases e:z=0<;>simp[Zci,Zja,Za,Zd,e]
def ZlX(H:Cod P)(n:Nat)(w:Wd)(a b:Int)(ha:0<=a/\a<1000000)(hb:0<=b/\b<1000000):run P (n+1) (O "worked") [.str w.s,Zd a,Zd b] h=.ok (Zd (_root_.Rw.wk w a b)) h:=by
 rw[Zg H.worked (by rfl)];have m1:∀z:Int,opB .Mod (.int z) (.int 1000000) h=.ok (.int (z % 1000000)) h:=λz=>Zao (by decide);have m2:opB .Mult (.int a) (.int b) h=.ok (.int (a * b)) h:=ZaQ ⟨Gn.Zz (by lia) (by lia),Gn.Zz (by lia) (by lia)⟩;have gb:=H.gb;generalize P.G=PG at gb;cases w with
 |lt=>by_cases e:a<b<;>simp[Zbt,Zgg,Za,Zd,Wd.s,_root_.Rw.wk,e,Yz]
 |_=>simp[Zbt,Zgg,Za,Zd,Wd.s,_root_.Rw.wk,Yz,gb,m1,m2]
end Ce
end
section
set_option tactic.hygienic false
namespace Ce
open PySem L2 IV
variable {P:Pg}{h:Hd}{C:List Rw}
def Zjm(H:Cod P)(n:Nat)(q p:Nat)(z:Int)(S_ E:List D)(pl:List (Nat×List D)):run P (n+2) (O "gone_on") [.int (q:Int),Ma.d ⟨p,S_++[Zd z],E,pl⟩] h=.ok (Ma.d ⟨if z=0 then q else p+1,S_,E,pl⟩) h:=by
 rw[Zg H.gone_on (by rfl)];have e1:=Zgq (l:=S_) (x:=Zd z);have e2:=ZqW (l:=S_) (a:=Zd z);have e3:=Zl6 H n (h:=h) z (.int ((p:Int)+1)) (.int q);generalize Zd z=v at *;by_cases e:z=0
 . simp[e]at e3;simp[Ma.d,ZaK,ZeQ,Za,e1,e2,e3,e,Yz]
 . simp[e]at e3;simp[Ma.d,ZaK,ZeQ,Za,e1,e2,e3,e,Yz]
def ZpL(H:Cod P)(n:Nat)(w:Wd)(p:Nat)(a b:Int)(S_ E:List D)(pl:List (Nat×List D))(ha:0<=a/\a<1000000)(hb:0<=b/\b<1000000)(hz:S_.length<=10000):run P (n+2) (O "reckoned") [.str w.s,Ma.d ⟨p,S_++[Zd a,Zd b],E,pl⟩] h=.ok (Ma.d ⟨p+1,S_++[Zd (_root_.Rw.wk w a b)],E,pl⟩) h:=by
 rw[Zg H.reckoned (by rfl)];have e1:=Zpm (l:=S_) (a:=Zd a) (b:=Zd b);have e2:=Zpl (l:=S_) (a:=Zd a) (b:=Zd b);have e3:=Zm2 (l:=S_) (a:=Zd a) (b:=Zd b);have e4:=ZlX H n (h:=h) w a b ha hb;have c1:∀x:D,opB .Add (.tup S_) (.tup [x]) h=.ok (.tup (S_++[x])) h:=λx=>Zcy (by rw[Yz];simp;lia);have nn:Zd (_root_.Rw.wk w a b)≠.non:=by simp[Zd]
 generalize Zd (_root_.Rw.wk w a b)=v at *;generalize Zd a=va at *;generalize Zd b=vb at *;simp[Ma.d,ZaJ,Zgh,Za,e1,e2,e3,e4,c1,nn,Yz]
def Zpo:D->Ans->Prop:=λd a=>(d=.non/\a=.stuck)\/∃s:Ma,d=s.d/\a=.loud s
def ZkW(H:Cod P)(n:Nat){d:D}{a:Ans}(ha:Zpo d a):run P (n+1) (O "loud_or_stuck") [d] h=.ok a.d h:=by
 rw[Zg H.loud_or_stuck (by rfl)];rcases ha with ⟨rfl,rfl⟩|⟨s,rfl,rfl⟩
 . simp[ZB,Zbb,Za,Ans.d,Yz]
 . simp[ZB,Zbb,Za,Ans.d,Yz,Ma.d]
def ZkV(H:Cod P)(n:Nat)(s:Ma){d:D}(hz:s.pl.length<=10000)(e:run P (n+2) (O "applied") [.tup s.S_,.tup (((s.p+1,s.E)::s.pl).map fr)] h=.ok d h):run P (n+3) (O "loud_state") [Rw.call.d,s.d] h=.ok d h:=by rw[Zg H.loud_state (by rfl)];have c1:∀a:D,opB .Add (.tup [a]) (.tup (s.pl.map fr)) h=.ok (.tup (a::s.pl.map fr)) h:=λa=>Zcy (by rw[Yz];simp;lia);simp[fr]at e;simp[Ma.d,Rw.d,ZE,Zax,Za,c1,e,Yz,fr]
def Zl3(H:Cod P)(n:Nat)(s:Ma){d:D}(e:run P (n+2) (O "applied") [.tup s.S_,.tup (s.pl.map fr)] h=.ok d h):run P (n+3) (O "loud_state") [Rw.hop.d,s.d] h=.ok d h:=by rw[Zg H.loud_state (by rfl)];simp[Ma.d,Rw.d,ZE,Zax,Za,e,Yz]
def Zl2(H:Cod P)(n:Nat)(q:Int)(s:Ma){d:D}(e:run P (n+2) (O "gone_on") [.int q,s.d] h=.ok d h):run P (n+3) (O "loud_state") [(Rw.unl q).d,s.d] h=.ok d h:=by rw[Zg H.loud_state (by rfl)];generalize s.d=sd at *;simp[Rw.d,ZE,Zax,Za,e,Yz]
def ZkU(H:Cod P)(n:Nat)(w:Wd)(s:Ma){d:D}(e:run P (n+2) (O "reckoned") [.str w.s,s.d] h=.ok d h):run P (n+3) (O "loud_state") [(Rw.work w).d,s.d] h=.ok d h:=by rw[Zg H.loud_state (by rfl)];generalize s.d=sd at *;simp[Rw.d,ZE,Zax,Za,e,Yz]
def Zha{GD:Str->Option (List (Key×D))}{k p:Nat}{r:Rw}(hk:h[k]? = Wj (.lst (C.map Rw.d)))(hc:C[p]? = Wj r):Zcx GD (.ref k) (.int (p:Int)) h=.ok r.d h:=by rw[Zd5 hk,IV.ZcL,On,hc];rfl
noncomputable def Zpa:Rw->Bool
 |.call|.hop|.unl _|.work _=>Wm
 |_=>Wn
noncomputable def Zjo:Rw->Bool
 |.num _|.fetch _|.close _ _|.jmp _|.back=>Wm
 |_=>Wn
def Zjk(H:Cod P)(n:Nat)(s:Ma){k:Nat}(hk:h[k]? = Wj (.lst (C.map Rw.d)))(hc:C[s.p]? = Wj .fin):run P (n+1) (O "code_step") [.ref k,s.d] h=.ok Ans.value.d h:=by
 rw[Zg H.code_step (by rfl)];have e:=Zha (GD:=P.GD) hk hc;have ep:∀h',Zcx P.GD s.d (.int 0) h'=.ok (.int (s.p:Int)) h':=λh'=>by simp[Ma.d]
 generalize s.d=sd at *;simp[Rw.d]at e;simp[ZW,ZbZ,Za,ep,e,Ans.d,Yz]
def Zoo{r:Rw}(hr:Zpa r=Wm):wd r ≠ "end" /\ (wd r = "call" \/ wd r = "hop" \/ wd r = "unless" \/ wd r = "work"):=by cases r<;>first|(cases hr;done)|simp[wd]
def Zma{r:Rw}(hr:Zjo r=Wm):wd r ≠ "end" /\ ¬ (wd r = "call" \/ wd r = "hop" \/ wd r = "unless" \/ wd r = "work"):=by cases r<;>first|(cases hr;done)|simp[wd]
def ZbR(H:Cod P)(n:Nat)(s:Ma){k:Nat}{r:Rw}(hk:h[k]? = Wj (.lst (C.map Rw.d)))(hc:C[s.p]? = Wj r)(hr:Zpa r=Wm){d:D}{a:Ans}(ha:Zpo d a)(e1:run P (n+3) (O "loud_state") [r.d,s.d] h=.ok d h):run P (n+4) (O "code_step") [.ref k,s.d] h=.ok a.d h:=by
 rw[Zg H.code_step (by rfl)];have e:=Zha (GD:=P.GD) hk hc;have ep:∀h',Zcx P.GD s.d (.int 0) h'=.ok (.int (s.p:Int)) h':=λh'=>by simp[Ma.d]
 have e2:=ZkW H (n+2) (h:=h) ha;have go:=H.go;generalize P.G=PG at go;generalize s.d=sd at *;generalize a.d=ad at *;obtain⟨ds,ed⟩:=Zm1 r;rw[ed]at e e1;have hw:=Zoo hr;generalize wd r=wr at *;simp[ZW,ZbZ,Za,ep,e,e1,e2,go,Zkz,hw.1,hw.2]
def Zcw(H:Cod P)(n:Nat)(s s':Ma){k:Nat}{r:Rw}(hk:h[k]? = Wj (.lst (C.map Rw.d)))(hc:C[s.p]? = Wj r)(hr:Zjo r=Wm)(e1:run P (n+3) (O "quiet_state") [r.d,s.d] h=.ok s'.d h):run P (n+4) (O "code_step") [.ref k,s.d] h=.ok (Ans.quiet s').d h:=by
 rw[Zg H.code_step (by rfl)];have e:=Zha (GD:=P.GD) hk hc;have ep:∀h',Zcx P.GD s.d (.int 0) h'=.ok (.int (s.p:Int)) h':=λh'=>by simp[Ma.d]
 have go:=H.go;generalize P.G=PG at go;generalize hs:s'.d=sd' at *;generalize s.d=sd at *;obtain⟨ds,ed⟩:=Zm1 r;rw[ed]at e e1;have hw:=Zma hr;generalize wd r=wr at *;simp[ZW,ZbZ,Za,ep,e,e1,go,Zkz,hw.1,hw.2,Ans.d,Yz,hs]
end Ce
end
section
namespace Ce
open PySem L2 IV
inductive Cd(C:List Rw):List Str->Bool->Nat->T->Nat->Prop
 |num {sc:List Str}{l:Bool}{p:Nat}{n:Int}:C[p]? = Wj (.num n)->Cd C sc l p (.num n) (p+1)
 |name {sc:List Str}{l:Bool}{p i:Nat}{x:Str}:C[p]? = Wj (.fetch i)->Tx.place x sc=Wj i->Cd C sc l p (.name x) (p+1)
 |fn {sc:List Str}{l:Bool}{p q q':Nat}{x:Str}{e:T}:C[p]? = Wj (.close (q:Int) [x])->Cd C (x::sc) Wm q e q'->C[q']? = Wj .back->Cd C sc l p (.fn x e) (p+1)
 |rcc {sc:List Str}{l:Bool}{p q q':Nat}{f x:Str}{e:T}:C[p]? = Wj (.close (q:Int) [x,f])->Cd C (x::f::sc) Wm q e q'->C[q']? = Wj .back->Cd C sc l p (.rcc f x e) (p+1)
 |call {sc:List Str}{l:Bool}{p p1 p2:Nat}{f a:T}:Cd C sc Wn p f p1->Cd C sc Wn p1 a p2->C[p2]? = Wj (if l then .hop else .call)->Cd C sc l p (.call f a) (p2+1)
 |op {sc:List Str}{l:Bool}{p p1 p2:Nat}{w:Wd}{a b:T}:Cd C sc Wn p a p1->Cd C sc Wn p1 b p2->C[p2]? = Wj (.work w)->Cd C sc l p (.op w a b) (p2+1)
 |iff {sc:List Str}{l:Bool}{p p1 p2 p3:Nat}{c t e:T}:Cd C sc Wn p c p1->C[p1]? = Wj (.unl ((p2+1:Nat):Int))->Cd C sc l (p1+1) t p2->C[p2]? = Wj (.jmp (p3:Int))->Cd C sc l (p2+1) e p3->Cd C sc l p (.iff c t e) p3
section
variable {L:List (List Rw)}{i p k:Nat}
def ZiX{ns:List Str}{r:List Rw}{us:List (List Rw)}(hp:Plc L i p [.close k ns])(hu:Uts L k (r::us)):(flat (ZaA 0 L) 0 L)[off L i+p]? = Wj (.close ((off L k:Nat):Int) ns):=by
 have e:nmb (off L i) (ZaA 0 L) (.close k ns)=.close ((off L k:Nat):Int) ns:=by have:=Zkm L 0 k (Nat.le_of_lt hu.len);simp[nmb,this]
 rw[<- e];exact hp.head
def Zm8{m:Nat}{rs:List Rw}{us:List (List Rw)}(hu:Uts L k ((rs++[.back])::us))(hm:rs.length=m):(flat (ZaA 0 L) 0 L)[off L k+(0+m)]? = Wj .back:=by have:=hu.head.right.head;rw[hm]at this;exact this
theorem ZaR:∀(t:T) (sc:List Str) (l:Bool) (p k i:Nat),Gn.Cl sc t->Plc L i p (comp t sc l p k).1->Uts L k (comp t sc l p k).2->Cd (flat (ZaA 0 L) 0 L) sc l (off L i+p) t (off L i+(p+cnt t))
 |.num m,sc,l,p,k,i,ct,hp,hu=>.num hp.head
 |.name y,sc,l,p,k,i,ct,hp,hu=>by obtain⟨j,e1,e2⟩:=Zes (show y∈sc from ct);have hc:=hp.head;simp only[e1,Option.getD_some]at hc;exact .name hc e1
 |.fn y e,sc,l,p,k,i,ct,hp,hu=>.fn (ZiX hp hu) (ZaR e (y::sc) Wm 0 (k+1) k ct hu.head.left hu.tail) (Zm8 hu (Zn e _ _ _ _))
 |.rcc f y e,sc,l,p,k,i,ct,hp,hu=>.rcc (ZiX hp hu) (ZaR e (y::f::sc) Wm 0 (k+1) k ct.1 hu.head.left hu.tail) (Zm8 hu (Zn e _ _ _ _))
 |.call f a,sc,l,p,k,i,ct,hp,hu=>by have p2:=hp.right;rw[Zn]at p2;have p3:=p2.right;rw[Zn]at p3;have:=Cd.call (l:=l) (ZaR f sc Wn p k i ct.1 hp.left hu.left) (ZaR a sc Wn (p+cnt f) _ i ct.2 p2.left hu.right) (by cases l<;>exact p3.head);rw[show off L i+(p+cnt (T.call f a))=off L i+(p+cnt f+cnt a)+1 by simp only[cnt];lia];exact this
 |.op w f a,sc,l,p,k,i,ct,hp,hu=>by have p2:=hp.right;rw[Zn]at p2;have p3:=p2.right;rw[Zn]at p3;have:=Cd.op (l:=l) (ZaR f sc Wn p k i ct.1 hp.left hu.left) (ZaR a sc Wn (p+cnt f) _ i ct.2 p2.left hu.right) p3.head;rw[show off L i+(p+cnt (T.op w f a))=off L i+(p+cnt f+cnt a)+1 by simp only[cnt];lia];exact this
 |.iff c t e,sc,l,p,k,i,ct,hp,hu=>by have p2:=hp.right;rw[Zn]at p2;have p3:=p2.tail;have p4:=p3.right;rw[Zn]at p4;have hh:=p2.head;have hj:=p4.head;simp only[nmb]at hh hj;rw[show((off L i:Nat):Int)+((p+cnt c+1+cnt t+1:Nat):Int)=((off L i+(p+cnt c+1+cnt t)+1:Nat):Int) by lia]at hh;rw[show((off L i:Nat):Int)+((p+cnt c+1+cnt t+1+cnt e:Nat):Int)=((off L i+(p+cnt c+1+cnt t+1+cnt e):Nat):Int) by lia]at hj;have:=Cd.iff (l:=l) (ZaR c sc Wn p k i ct.1 hp.left hu.left) hh (ZaR t sc l (p+cnt c+1) _ i ct.2.1 p3.left hu.right.left) hj (ZaR e sc l (p+cnt c+1+cnt t+1) _ i ct.2.2 p4.tail hu.right.right);rw[show p+cnt (T.iff c t e)=p+cnt c+1+cnt t+1+cnt e by simp[cnt];lia];exact this
end
def ZoJ(t:T)(ct:Gn.Cl [] t):Cd (code t) [] Wn 0 t (cnt t)/\(code t)[cnt t]? = Wj .fin:=by
 have hp:Plc (units t) 0 0 ((comp t [] Wn 0 1).1++[.fin]):=⟨_,rfl,λj x hx=>by simpa using hx⟩
 have hu:Uts (units t) 1 (comp t [] Wn 0 1).2:=λj u hu=>by rw[Nat.add_comm];simpa[units]using hu
 have h1:=hp.right.head;rw[Zn]at h1;have h2:=ZaR (L:=units t) t [] Wn 0 1 0 ct hp.left hu;have z:off (units t) 0=0:=by simp[off]
 rw[z]at h1 h2;simp only[Nat.zero_add]at h1 h2;exact⟨h2,h1⟩
end Ce
end
section
namespace Ce
open PySem L2 IV
inductive Stp(C:List Rw):Ma->Bool->Ma->Prop
 |push {p:Nat}{S_ E:List D}{pl:List (Nat×List D)}{r:Rw}{x:D} (hc:C[p]? = Wj r) (hx:psh E r=Wj x) (hz:S_.length<=10000):Stp C ⟨p,S_,E,pl⟩ Wn ⟨p+1,S_++[x],E,pl⟩
 |jmp {p q:Nat}{S_ E:List D}{pl:List (Nat×List D)} (hc:C[p]? = Wj (.jmp (q:Int))):Stp C ⟨p,S_,E,pl⟩ Wn ⟨q,S_,E,pl⟩
 |back {p q:Nat}{S_ E ds:List D}{pl:List (Nat×List D)} (hc:C[p]? = Wj .back):Stp C ⟨p,S_,E,(q,ds)::pl⟩ Wn ⟨q,S_,ds,pl⟩
 |call {p q:Nat}{ns:List Str}{V:D}{S_ E ds:List D}{pl:List (Nat×List D)} (hc:C[p]? = Wj .call) (hd:ds.length<=10000) (hp:pl.length<=10000):Stp C ⟨p,S_++[ZN q ns ds,V],E,pl⟩ Wm ⟨q,S_,ent q ns ds V,(p+1,E)::pl⟩
 |hop {p q:Nat}{ns:List Str}{V:D}{S_ E ds:List D}{pl:List (Nat×List D)} (hc:C[p]? = Wj .hop) (hd:ds.length<=10000):Stp C ⟨p,S_++[ZN q ns ds,V],E,pl⟩ Wm ⟨q,S_,ent q ns ds V,pl⟩
 |work {p:Nat}{w:Wd}{a b:Int}{S_ E:List D}{pl:List (Nat×List D)} (hc:C[p]? = Wj (.work w)) (ha:0<=a/\a<1000000) (hb:0<=b/\b<1000000) (hz:S_.length<=10000):Stp C ⟨p,S_++[Zd a,Zd b],E,pl⟩ Wm ⟨p+1,S_++[Zd (_root_.Rw.wk w a b)],E,pl⟩
 |unl {p q:Nat}{z:Int}{S_ E:List D}{pl:List (Nat×List D)} (hc:C[p]? = Wj (.unl (q:Int))):Stp C ⟨p,S_++[Zd z],E,pl⟩ Wm ⟨if z=0 then q else p+1,S_,E,pl⟩
noncomputable def Zdw(ld:Bool)(s:Ma):Ans:=if ld then .loud s else .quiet s
def ZrZ{E:List D}{r:Rw}{x:D}(h:psh E r=Wj x):Zjo r=Wm:=by cases r<;>first|rfl|cases h
variable {P:Pg}{h:Hd}{C:List Rw}
def ZrK(H:Cod P)(n:Nat){k:Nat}{s s':Ma}{ld:Bool}(hk:h[k]? = Wj (.lst (C.map Rw.d)))(q:Stp C s ld s'):run P (n+4) (O "code_step") [.ref k,s.d] h=.ok (Zdw ld s').d h:=by
 cases q with
 |push hc hx hz=>exact Zcw H n _ _ hk hc (ZrZ hx) (ZnF H (n+1) _ _ hx hz)
 |jmp hc=>exact Zcw H n _ _ hk hc rfl (ZpQ H (n+2) _ _)
 |back hc=>exact Zcw H n _ _ hk hc rfl (ZpT H (n+2) _ _ _ _ _ _)
 |@call p q ns V S_ E ds pl hc hd hp=>exact ZbR H n _ hk hc rfl (.inr ⟨_,rfl,rfl⟩) (ZkV H n ⟨p,S_++[ZN q ns ds,V],E,pl⟩ hp (ZgL H n _ _ _ _ _ _ hd))
 |@hop p q ns V S_ E ds pl hc hd=>exact ZbR H n _ hk hc rfl (.inr ⟨⟨q,S_,ent q ns ds V,pl⟩,rfl,rfl⟩) (Zl3 H n ⟨p,S_++[ZN q ns ds,V],E,pl⟩ (ZgL H n _ _ _ _ _ _ hd))
 |work hc ha hb hz=>exact ZbR H n _ hk hc rfl (.inr ⟨_,rfl,rfl⟩) (ZkU H n _ _ (ZpL H n _ _ _ _ _ _ _ ha hb hz))
 |unl hc=>exact ZbR H n _ hk hc rfl (.inr ⟨_,rfl,rfl⟩) (Zl2 H n _ _ (Zjm H n _ _ _ _ _ _))
inductive Go(C:List Rw):Ma->Nat->Nat->Nat->Ma->Prop
 |refl {s:Ma}:Go C s 0 0 0 s
 |step {s s1 s2:Ma}{ld:Bool}{k L hi:Nat} (q:Stp C s ld s1) (g:Go C s1 k L hi s2):Go C s (k+1) ((if ld then 1 else 0)+L) (max s1.pl.length hi) s2
def Go.one{s s1:Ma}{ld:Bool}(q:Stp C s ld s1):Go C s 1 (if ld then 1 else 0) s1.pl.length s1:=by have:=Go.step q .refl;rw[Nat.max_zero]at this;exact this
def Go.trans{s s1 s2:Ma}{k L hi k' L' hi':Nat}(a:Go C s k L hi s1)(b:Go C s1 k' L' hi' s2):Go C s (k+k') (L+L') (max hi hi') s2:=by
 induction a with
 |refl=>simpa using b
 |@step _ _ _ ld k L hi q g ih=>have:=Go.step q (ih b);rw[show k+1+k'=k+k'+1 by lia,Nat.add_assoc (if ld then 1 else 0),Nat.max_assoc];exact this
def Bk(C:List Rw):Nat->Nat->Prop
 |0,p=>C[p]? = Wj .back
 |j+1,p=>∃q:Nat,C[p]? = Wj (.jmp (q:Int))/\Bk C j q
def Nt(C:List Rw)(sc:List Str)(E:List D)(t:T)(K L H:Nat)(Q:D->Prop):Prop:=∀(p p':Nat) (S_:List D) (pl:List (Nat×List D)),Cd C sc Wn p t p'->S_.length+K<=9000->pl.length+K<=9000->∃v k,Q v/\k<=K/\Go C ⟨p,S_,E,pl⟩ k L (pl.length+H) ⟨p',S_++[v],E,pl⟩
def Tl(C:List Rw)(sc:List Str)(E:List D)(t:T)(K L H:Nat)(Q:D->Prop):Prop:=∀(p p' j:Nat) (S_:List D) (pl:List (Nat×List D)) (r:Nat) (F:List D),Cd C sc Wm p t p'->Bk C j p'->S_.length+K<=9000->pl.length+1+K<=9000->∃v k,Q v/\k<=K+j/\Go C ⟨p,S_,E,(r,F)::pl⟩ k L (pl.length+1+H) ⟨r,S_++[v],F,pl⟩
variable {sc:List Str}{E:List D}
def Zb3{n:Int}:Nt C sc E (.num n) 1 0 0 (·=Zd n):=λp p' S_ pl c hS hp=>by
 cases c with
 |num hc=>exact⟨_,1,rfl,Oq _,Go.one (.push hc rfl (by lia))⟩
def Zcz{x:Str}{i:Nat}{v:D}(h1:Tx.place x sc=Wj i)(h2:E[i]? = Wj v):Nt C sc E (.name x) 1 0 0 (·=v):=λp p' S_ pl c hS hp=>by
 cases c with
 |name hc e=>rw[h1]at e;cases e;exact⟨_,1,rfl,Oq _,Go.one (.push hc h2 (by lia))⟩
def Clo(C:List Rw)(ns sc:List Str)(e:T)(E:List D)(v:D):Prop:=∃q q',v=ZN q ns E/\Cd C (ns++sc) Wm q e q'/\Bk C 0 q'
def Zsg{x:Str}{e:T}:Nt C sc E (.fn x e) 1 0 0 (Clo C [x] sc e E):=λp p' S_ pl c hS hp=>by
 cases c with
 |fn hc c hb=>exact⟨_,1,⟨_,_,rfl,c,hb⟩,Oq _,Go.one (.push hc rfl (by lia))⟩
def Zqt{f x:Str}{e:T}:Nt C sc E (.rcc f x e) 1 0 0 (Clo C [x,f] sc e E):=λp p' S_ pl c hS hp=>by
 cases c with
 |rcc hc c hb=>exact⟨_,1,⟨_,_,rfl,c,hb⟩,Oq _,Go.one (.push hc rfl (by lia))⟩
def Go.hi{s s':Ma}{k L a b:Nat}(g:Go C s k L a s')(e:a=b):Go C s k L b s':=e ▸ g
def ZfN{w:Wd}{a b:T}{K1 L1 H1 K2 L2 H2:Nat}{x y:Int}(ha:Nt C sc E a K1 L1 H1 (·=Zd x))(hb:Nt C sc E b K2 L2 H2 (·=Zd y))(hx:0<=x/\x<1000000)(hy:0<=y/\y<1000000):Nt C sc E (.op w a b) (K1+K2+1) (L1+L2+1) (max H1 H2) (·=Zd (_root_.Rw.wk w x y)):=λp p' S_ pl c hS hp=>by
 cases c with
 |op c1 c2 hc=>obtain⟨_,k1,rfl,l1,g1⟩:=ha _ _ S_ pl c1 (by lia) (by lia);obtain⟨_,k2,rfl,l2,g2⟩:=hb _ _ (S_++[Zd x]) pl c2 (by simp;lia) (by lia);rw[Oz]at g2;have g:=(g1.trans g2).trans (Go.one (.work (E:=E) (pl:=pl) hc hx hy (show S_.length<=10000 by lia)));exact⟨_,_,rfl,by lia,g.hi (by simp only;lia)⟩
def Zkq{f a e:T}{K1 L1 H1 K2 L2 H2 K3 L3 H3:Nat}{ns sc':List Str}{F:List D}{u:D}{Q:D->Prop}(hf:Nt C sc E f K1 L1 H1 (Clo C ns sc' e F))(ha:Nt C sc E a K2 L2 H2 (·=u))(hF:F.length<=100)(hb:∀q,Clo C ns sc' e F (ZN q ns F)->Tl C (ns++sc') (ent q ns F u) e K3 L3 H3 Q):Nt C sc E (.call f a) (K1+K2+1+K3) (L1+L2+1+L3) (max (max H1 H2) (H3+1)) Q:=λp p' S_ pl c hS hp=>by
 cases c with
 |@call _ _ _ p1 p2 _ _ c1 c2 hc=>obtain⟨_,k1,⟨q,q',rfl,cq,bq⟩,l1,g1⟩:=hf _ _ S_ pl c1 (by lia) (by lia);obtain⟨_,k2,rfl,l2,g2⟩:=ha _ _ (S_++[ZN q ns F]) pl c2 (by simp;lia) (by lia);rw[Oz]at g2;obtain⟨v,k3,hv,l3,g3⟩:=hb q ⟨q,q',rfl,cq,bq⟩ _ _ _ S_ pl (p2+1) E cq bq (by lia) (by lia);have g:=((g1.trans g2).trans (Go.one (.call (S_:=S_) (pl:=pl) hc (by lia) (by lia)))).trans g3;exact⟨v,_,hv,by lia,g.hi (by simp only[Os];lia)⟩
theorem Zpj{s:List D}{E F:List D}{pl:List (Nat×List D)}{r:Nat}:∀{j p:Nat},Bk C j p->Go C ⟨p,s,E,(r,F)::pl⟩ (j+1) 0 (if j=0 then pl.length else pl.length+1) ⟨r,s,F,pl⟩
 |0,p,hb=>Go.one (.back hb)
 |j+1,p,⟨q,hc,hb⟩=>by have:=Go.step (.jmp (S_:=s) (E:=E) (pl:=(r,F)::pl) hc) (Zpj (s:=s) (E:=E) (F:=F) (r:=r) (pl:=pl) hb);refine this.hi ?_;simp only[Os];split<;>simp
def Zo0{t:T}{K L H:Nat}{Q:D->Prop}(hc:∀{p p':Nat},Cd C sc Wm p t p'->Cd C sc Wn p t p')(ht:Nt C sc E t K L H Q):Tl C sc E t (K+1) L H Q:=λp p' j S_ pl r F c hb hS hp=>by obtain⟨v,k,hv,l,g⟩:=ht _ _ S_ ((r,F)::pl) (hc c) (by lia) (by simp only[Os];lia);have:=g.trans (Zpj hb);refine⟨v,_,hv,by lia,this.hi ?_⟩;simp only[Os];split<;>lia
def Zg6{f a e:T}{K1 L1 H1 K2 L2 H2 K3 L3 H3:Nat}{ns sc':List Str}{F:List D}{u:D}{Q:D->Prop}(hf:Nt C sc E f K1 L1 H1 (Clo C ns sc' e F))(ha:Nt C sc E a K2 L2 H2 (·=u))(hF:F.length<=100)(hb:∀q,Clo C ns sc' e F (ZN q ns F)->Tl C (ns++sc') (ent q ns F u) e K3 L3 H3 Q):Tl C sc E (.call f a) (K1+K2+1+K3) (L1+L2+1+L3) (max (max H1 H2) H3) Q:=λp p' j S_ pl r G c hk hS hp=>by
 cases c with
 |call c1 c2 hc=>obtain⟨_,k1,⟨q,q',rfl,cq,bq⟩,l1,g1⟩:=hf _ _ S_ ((r,G)::pl) c1 (by lia) (by simp only[Os];lia);obtain⟨_,k2,rfl,l2,g2⟩:=ha _ _ (S_++[ZN q ns F]) ((r,G)::pl) c2 (by simp;lia) (by simp only[Os];lia);rw[Oz]at g2;obtain⟨v,k3,hv,l3,g3⟩:=hb q ⟨q,q',rfl,cq,bq⟩ _ _ _ S_ pl r G cq bq (by lia) (by lia);have g:=((g1.trans g2).trans (Go.one (.hop (S_:=S_) (pl:=(r,G)::pl) hc (by lia)))).trans g3;exact⟨v,_,hv,by lia,g.hi (by simp only[Os];lia)⟩
def Zdk{c t e:T}{K1 L1 H1 K2 L2 H2:Nat}{z:Int}{Q:D->Prop}(hc:Nt C sc E c K1 L1 H1 (·=Zd z))(nz:z≠0)(ht:Tl C sc E t K2 L2 H2 Q):Tl C sc E (.iff c t e) (K1+1+K2+1) (L1+1+L2) (max H1 H2) Q:=λp p' j S_ pl r G c hk hS hp=>by
 cases c with
 |iff c1 h1 c2 h2 c3=>obtain⟨_,k1,rfl,l1,g1⟩:=hc _ _ S_ ((r,G)::pl) c1 (by lia) (by simp only[Os];lia);obtain⟨v,k2,hv,l2,g2⟩:=ht _ _ (j+1) S_ pl r G c2 ⟨_,h2,hk⟩ (by lia) (by lia);have q:=Go.one (.unl (z:=z) (S_:=S_) (E:=E) (pl:=(r,G)::pl) h1);rw[if_neg nz]at q;exact⟨v,_,hv,by lia,((g1.trans q).trans g2).hi (by simp only[Os];lia)⟩
def ZdV{c t e:T}{K1 L1 H1 K2 L2 H2:Nat}{Q:D->Prop}(hc:Nt C sc E c K1 L1 H1 (·=Zd 0))(ht:Tl C sc E e K2 L2 H2 Q):Tl C sc E (.iff c t e) (K1+1+K2) (L1+1+L2) (max H1 H2) Q:=λp p' j S_ pl r G c hk hS hp=>by
 cases c with
 |iff c1 h1 c2 h2 c3=>obtain⟨_,k1,rfl,l1,g1⟩:=hc _ _ S_ ((r,G)::pl) c1 (by lia) (by simp only[Os];lia);obtain⟨v,k2,hv,l2,g2⟩:=ht _ _ _ S_ pl r G c3 hk (by lia) (by lia);have q:=Go.one (.unl (z:=0) (S_:=S_) (E:=E) (pl:=(r,G)::pl) h1);rw[if_pos rfl]at q;exact⟨v,_,hv,by lia,((g1.trans q).trans g2).hi (by simp only[Os];lia)⟩
def Nt.up{t:T}{K L H K' L' H':Nat}{Q:D->Prop}(a:Nt C sc E t K L H Q)(h1:K<=K')(h2:L=L')(h3:H=H'):Nt C sc E t K' L' H' Q:=λp p' S_ pl c hS hp=>by obtain⟨v,k,hv,l,g⟩:=a _ _ S_ pl c (by lia) (by lia);subst h2;subst h3;exact⟨v,k,hv,by lia,g⟩
def Tl.up{t:T}{K L H K' L' H':Nat}{Q:D->Prop}(a:Tl C sc E t K L H Q)(h1:K<=K')(h2:L=L')(h3:H=H'):Tl C sc E t K' L' H' Q:=λp p' j S_ pl r F c hb hS hp=>by obtain⟨v,k,hv,l,g⟩:=a _ _ _ S_ pl r F c hb (by lia) (by lia);subst h2;subst h3;exact⟨v,k,hv,by lia,g⟩
end Ce
end
section
namespace Ce
open PySem L2 IV
variable {C:List Rw}{sc:List Str}{E:List D}
def Nt.imp{t:T}{K L H:Nat}{Q Q':D->Prop}(a:Nt C sc E t K L H Q)(i:∀v,Q v->Q' v):Nt C sc E t K L H Q':=λp p' S_ pl c hS hp=>by obtain⟨v,k,hv,g⟩:=a p p' S_ pl c hS hp;exact⟨v,k,i v hv,g⟩
structure Ends(C:List Rw)(x:Str)(e:T)(K L:Nat)(due:Int):Prop where
 nt:∀sc E,Tx.place x sc=Wj 0->E[0]? = Wj (Zd 0)->Nt C sc E e K L 0 (·=Zd due)
 fl:∀sc {p p':Nat},Cd C sc Wm p e p'->Cd C sc Wn p e p'
 k:K<=3
 d:0<=due/\due<1000000
def Ends.tl{x:Str}{e:T}{K L:Nat}{due:Int}(h:Ends C x e K L due){y:Str}{W:D}:Tl C [x,y] [Zd 0,W] e (K+1) L 0 (·=Zd due):=Zo0 (h.fl _) (h.nt _ _ (by simp[Tx.place]) rfl)
def ZqN{n:Int}{p p':Nat}(c:Cd C sc Wm p (.num n) p'):Cd C sc Wn p (.num n) p':=by cases c with|num h=>exact .num h
def ZmP{w:Wd}{a b:T}{p p':Nat}(c:Cd C sc Wm p (.op w a b) p'):Cd C sc Wn p (.op w a b) p':=by cases c with|op h1 h2 h3=>exact .op h1 h2 h3
noncomputable def less(x:Str):T:=.op .sub (.name x) (.num 1)
def Znk(n:Nat)(hn:n+1<1000000):_root_.Rw.wk .sub ((n+1:Nat):Int) 1=(n:Int):=by
 show(((n+1:Nat):Int) - 1) % 1000000=_
 lia
def Zkp{x:Str}{i n:Nat}(h1:Tx.place x sc=Wj i)(h2:E[i]? = Wj (Zd ((n+1:Nat):Int)))(hn:n+1<1000000):Nt C sc E (less x) 3 1 0 (·=Zd (n:Int)):=by have:=ZfN (w:=.sub) (Zcz (C:=C) h1 h2) (Zb3 (n:=1)) (by lia) (by lia);rw[Znk n hn]at this;exact this
def Loop(C:List Rw)(f x:Str)(b:T)(k l g:Nat)(K L:Nat)(v:Nat->Int):Prop:=∀(n:Nat) (q:Nat),n<=40->Clo C [x,f] [] b [] (ZN q [x,f] [])->Tl C [x,f] [Zd (n:Int),ZN q [x,f] []] b (k * n+K) (l * n+L) (g * n) (·=Zd (v n))
section
variable {f x:Str}{e:T}{Ke Le:Nat}{due:Int}
def px:Tx.place x [x,f]=Wj 0:=by simp[Tx.place]
def pf(ne:x≠f):Tx.place f [x,f]=Wj 1:=by simp[Tx.place,ne]
def Zgu{n:Int}{W:D}:Nt C [x,f] [Zd n,W] (.name x) 1 0 0 (·=Zd n):=Zcz px rfl
def Zsh(ne:x≠f){n:D}{b:T}{q:Nat}(c:Clo C [x,f] [] b [] (ZN q [x,f] [])):Nt C [x,f] [n,ZN q [x,f] []] (.name f) 1 0 0 (Clo C [x,f] [] b []):=(Zcz (v:=ZN q [x,f] []) (pf ne) rfl).imp λv e=>e ▸ c
def Zo8{n:Nat}{W:D}(hn:n+1<1000000):Nt C [x,f] [Zd ((n+1:Nat):Int),W] (less x) 3 1 0 (·=Zd (n:Int)):=Zkp px rfl hn
def again(ne:x≠f){b:T}{k l:Nat}{Q:D->Prop}{n:Nat}(hn:n+1<=40){q:Nat}(c:Clo C [x,f] [] b [] (ZN q [x,f] []))(ih:∀q,Clo C [x,f] [] b [] (ZN q [x,f] [])->Tl C [x,f] [Zd (n:Int),ZN q [x,f] []] b k l 0 Q):Tl C [x,f] [Zd ((n+1:Nat):Int),ZN q [x,f] []] (.call (.name f) (less x)) (5+k) (2+l) 0 Q:=(Zg6 (Zsh ne c) (Zo8 (by lia)) (by simp) (λq' c'=>ih q' c')).up (by lia) (by lia) (by simp)
def Zhi(n:Nat):((n+1:Nat):Int)≠0:=by lia
noncomputable def bd0(f x:Str)(e:T):T:=.iff (.name x) (.call (.name f) (less x)) e
noncomputable def bd1(f x:Str)(e:T):T:=.iff (.op .lt (.name x) (.num 1)) e (.call (.name f) (less x))
noncomputable def bd2(f x:Str)(e:T):T:=.iff (.name x) (.iff (.num 5) (.call (.name f) (less x)) (.num 3)) e
noncomputable def hx(hh x:Str):T:=.call (.name hh) (less x)
noncomputable def bd3(hh f x:Str)(e:T):T:=.iff (.name x) (.call (.fn hh (hx hh x)) (.name f)) e
noncomputable def bd4(f x:Str)(e:T):T:=.iff (.name x) (.op .add (.num 2) (.call (.name f) (less x))) e
def lp0(ne:x≠f)(he:Ends C x e Ke Le due):Loop C f x (bd0 f x e) 8 3 0 8 (1+Le) (λ_=>due):=λn=>by
 have k3:=he.k;induction n with
 |zero=>exact λq hn c=>(ZdV Zgu he.tl).up (by lia) (by lia) (by simp)
 |succ n ih=>exact λq hn c=>(Zdk Zgu (Zhi n) (again ne hn c (λq' c'=>(ih q' (by lia) c').up (Oq _) rfl (by simp)))).up (by lia) (by lia) (by simp)
def lt1(n:Nat):_root_.Rw.wk .lt ((n+1:Nat):Int) 1=0:=by show(if ((n+1:Nat):Int)<1 then(1:Int)else 0)=0;exact if_neg (by lia)
def lp1(ne:x≠f)(he:Ends C x e Ke Le due):Loop C f x (bd1 f x e) 10 4 0 10 (2+Le) (λ_=>due):=λn=>by
 have k3:=he.k;induction n with
 |zero=>exact λq hn c=>(Zdk (ZfN Zgu Zb3 (by simp) (by lia)) (by decide) he.tl).up (by lia) (by lia) (by simp)
 |succ n ih=>intro q hn c;have h1:=ZfN (w:=.lt) (Zgu (C:=C) (x:=x) (f:=f) (n:=((n+1:Nat):Int)) (W:=ZN q [x,f] [])) (Zb3 (n:=1)) (by lia) (by lia);rw[lt1]at h1;exact(ZdV h1 (again ne hn c (λq' c'=>(ih q' (by lia) c').up (Oq _) rfl (by simp)))).up (by lia) (by lia) (by simp)
def lp2(ne:x≠f)(he:Ends C x e Ke Le due):Loop C f x (bd2 f x e) 11 4 0 8 (1+Le) (λ_=>due):=λn=>by
 have k3:=he.k;induction n with
 |zero=>exact λq hn c=>(ZdV Zgu he.tl).up (by lia) (by lia) (by simp)
 |succ n ih=>exact λq hn c=>(Zdk Zgu (Zhi n) (Zdk Zb3 (by decide) (again ne hn c (λq' c'=>(ih q' (by lia) c').up (Oq _) rfl (by simp))))).up (by lia) (by lia) (by simp)
def lp3{hh:Str}(ne:x≠f)(n1:hh≠x)(he:Ends C x e Ke Le due):Loop C f x (bd3 hh f x e) 11 4 0 8 (1+Le) (λ_=>due):=λn=>by
 have k3:=he.k;induction n with
 |zero=>exact λq hn c=>(ZdV Zgu he.tl).up (by lia) (by lia) (by simp)
 |succ n ih=>
  intro q hn c;have b:∀q',Clo C [hh] [x,f] (hx hh x) [Zd ((n+1:Nat):Int),ZN q [x,f] []] (ZN q' [hh] [Zd ((n+1:Nat):Int),ZN q [x,f] []])->Tl C ([hh]++[x,f]) (ent q' [hh] [Zd ((n+1:Nat):Int),ZN q [x,f] []] (ZN q [x,f] [])) (hx hh x) (5+(11 * n+8)) (2+(4 * n+(1+Le))) 0 (·=Zd due):=λq' c'=>(Zg6 (ns:=[x,f]) (sc':=[]) (F:=[]) (e:=bd3 hh f x e) ((Zcz (C:=C) (sc:=[hh,x,f]) (E:=[ZN q [x,f] [],Zd ((n+1:Nat):Int),ZN q [x,f] []]) (x:=hh) (i:=0) (v:=ZN q [x,f] []) (by simp[Tx.place]) rfl).imp λv e=>e ▸ c) (Zkp (n:=n) (i:=1) (by simp[Tx.place,n1]) rfl (by lia)) (by simp) (H3:=0) (λq' c'=>(ih q' (by lia) c').up (Oq _) rfl (by simp))).up (by lia) (by lia) (by simp)
  exact(Zdk Zgu (Zhi n) (Zg6 Zsg (Zcz (v:=ZN q [x,f] []) (pf ne) rfl) (by simp) b)).up (by lia) (by lia) (by simp)
def lp4(ne:x≠f)(he:Ends C x e Ke Le due):Loop C f x (bd4 f x e) 12 4 1 8 (1+Le) (λn=>(2 * (n:Int)+due) % 1000000):=λn=>by
 have k3:=he.k;have d:=he.d;induction n with
 |zero=>
  intro q hn c;have h1:=ZdV (t:=.op .add (.num 2) (.call (.name f) (less x))) (Zgu (C:=C) (x:=x) (f:=f) (n:=0) (W:=ZN q [x,f] [])) he.tl;have e0:(2 * ((0:Nat):Int)+due) % 1000000=due:=by lia
  show Tl C [x,f] [Zd 0,ZN q [x,f] []] (bd4 f x e) (12 * 0+8) (4 * 0+(1+Le)) (1 * 0) (·=Zd ((2 * ((0:Nat):Int)+due) % 1000000));rw[e0];exact h1.up (by lia) (by lia) (by simp)
 |succ n ih=>intro q hn c;have h1:Nt C [x,f] [Zd ((n+1:Nat):Int),ZN q [x,f] []] (.call (.name f) (less x)) (5+(12 * n+8)) (2+(4 * n+(1+Le))) (n+1) (·=Zd ((2 * (n:Int)+due) % 1000000)):=(Zkq (Zsh ne c) (Zo8 (by lia)) (by simp) (λq' c'=>ih q' (by lia) c')).up (by lia) (by lia) (by simp);have h2:=ZfN (w:=.add) (Zb3 (C:=C) (n:=2)) h1 (by lia) (by lia);rw[show _root_.Rw.wk .add 2 ((2 * (n:Int)+due) % 1000000)=(2 * ((n+1:Nat):Int)+due) % 1000000 by show(2+(2 * (n:Int)+due) % 1000000) % 1000000=_;lia]at h2;exact(Zdk Zgu (Zhi n) (Zo0 ZmP h2)).up (by lia) (by lia) (by simp)
def Ziv{b:T}{k l g K L:Nat}{v:Nat->Int}(lp:Loop C f x b k l g K L v){n:Nat}(hn:n<=40):Nt C [] [] (.call (.rcc f x b) (.num n)) (3+(k * n+K)) (1+(l * n+L)) (g * n+1) (·=Zd (v n)):=(Zkq (ns:=[x,f]) (sc':=[]) Zqt Zb3 (by simp) (λq c=>lp n q hn c)).up (by lia) (by lia) (by simp)
end
noncomputable def sm:List Int->T->T
 |[],t=>t
 |c::cs,t=>sm cs (.op .add (.num (c % 1000000)) t)
noncomputable def tot(a:Int):List Int->Int
 |[]=>a
 |c::cs=>tot ((a+c) % 1000000) cs
theorem Zmu:∀(cs:List Int) {t:T}{K L H:Nat}{a due:Int},Nt C [] [] t K L H (·=Zd ((a+due) % 1000000))->Nt C [] [] (sm cs t) (2 * cs.length+K) (cs.length+L) H (·=Zd ((tot a cs+due) % 1000000))
 |[],t,K,L,H,a,due,h=>h.up (by simp) (by simp) rfl
 |c::cs,t,K,L,H,a,due,h=>by have h1:=ZfN (w:=.add) (Zb3 (C:=C) (n:=c % 1000000)) h (by lia) (by lia);rw[show _root_.Rw.wk .add (c % 1000000) ((a+due) % 1000000)=((a+c) % 1000000+due) % 1000000 by show(c % 1000000+(a+due) % 1000000) % 1000000=_;lia]at h1;exact(Zmu cs (h1.up (K':=K+2) (L':=L+1) (H':=H) (by lia) (by lia) (by simp))).up (by simp;lia) (by simp;lia) rfl
end Ce
end
section
namespace K74L
open PySem L2 IV
noncomputable def Zcq:Sx:=(.seta [(O "Pen")] (.var 0) (O "most") (.var 1))
noncomputable def Zcp:Sx:=(.seta [(O "Pen")] (.var 0) (O "used") (.cst (.int 0)))
noncomputable def Zdh:Sxs:=(.cons Zcq (.cons Zcp .nil))
noncomputable def ZR:Fd:=⟨[(O "self"),(O "most")],[(O "self"),(O "most")],Zdh⟩
noncomputable def Zbz:Tx:=(.ex (.cmp .Eq (.att [(O "Pen")] (.var 0) (O "used")) (.att [(O "Pen")] (.var 0) (O "most"))))
noncomputable def ZcX:Sx:=.any
noncomputable def ZdN:Sxs:=(.cons ZcX .nil)
noncomputable def ZbI:Sx:=.iff Zbz ZdN .nil
noncomputable def ZbH:Sx:=(.auga [(O "Pen")] (.var 0) (O "used") (.cst (.int 1)))
noncomputable def Zco:Sxs:=(.cons ZbI (.cons ZbH .nil))
noncomputable def ZF:Fd:=⟨[(O "self")],[(O "self")],Zco⟩
noncomputable def Za8:Sx:=(.seta [(O "Decoder")] (.var 0) (O "code") (.var 1))
noncomputable def Za7:Sx:=(.seta [(O "Decoder")] (.var 0) (O "at") (.ix (.var 2) (.cst (.int 0))))
noncomputable def Za6:Sx:=(.seta [(O "Decoder"),(O "Unit")] (.var 0) (O "around") (.ix (.var 2) (.cst (.int 2))))
noncomputable def Za5:Sx:=(.seta [(O "Decoder")] (.var 0) (O "pile") (.ix (.var 2) (.cst (.int 3))))
noncomputable def Za4:Sx:=(.seta [(O "Decoder")] (.var 0) (O "pen") (.mk (O "Pen") (.cons (.glo (O "WIDEST")) .nil)))
noncomputable def Za3:Sx:=(.seta [(O "Decoder")] (.var 0) (O "done") (.lstl .nil))
noncomputable def Za2:Sx:=(.seta [(O "Decoder")] (.var 0) (O "begun") (.lstl .nil))
noncomputable def ZbN:Sxs:=(.cons Za8 (.cons Za7 (.cons Za6 (.cons Za5 (.cons Za4 (.cons Za3 (.cons Za2 .nil)))))))
noncomputable def Zx:Fd:=⟨[(O "self"),(O "code"),(O "state")],[(O "self"),(O "code"),(O "state")],ZbN⟩
noncomputable def ZbK:Sx:=(.drp (.mcl (O "Pen") (O "take_place") (.att [(O "Decoder")] (.var 0) (O "pen")) .nil))
noncomputable def ZbA:Tx:=(.ex (.cmp .Eq (.ix (.var 1) (.cst (.int 0))) (.cst (.str (O "clo")))))
noncomputable def Zc0:Sx:=(.drp (.meth .app (.att [(O "Decoder")] (.var 0) (O "begun")) (.cons (.tupl (.cons (.cst (.str (O "function"))) (.cons (.ix (.var 1) (.cst (.int 2))) (.cons (.att [(O "Decoder")] (.var 0) (O "at")) (.cons (.att [(O "Decoder"),(O "Unit")] (.var 0) (O "around")) .nil))))) .nil)))
noncomputable def ZcZ:Sx:=(.seta [(O "Decoder")] (.var 0) (O "at") (.ix (.var 1) (.cst (.int 1))))
noncomputable def ZcY:Sx:=(.seta [(O "Decoder"),(O "Unit")] (.var 0) (O "around") (.bin .Add (.blt .tup (.cons (.comp [(O "name")] [Wl] (.pl (.ix (.var 1) (.cst (.int 2)))) (.nm 0) Wl (.tupl (.cons (.cst (.str (O "name"))) (.cons (.var 0) .nil)))) .nil)) (.ix (.var 1) (.cst (.int 3)))))
noncomputable def ZaG:Sx:=(.drp (.meth .app (.att [(O "Decoder")] (.var 0) (O "done")) (.cons (.var 1) .nil)))
noncomputable def ZdO:Sxs:=(.cons Zc0 (.cons ZcZ (.cons ZcY .nil)))
noncomputable def Zby:Sxs:=(.cons ZaG .nil)
noncomputable def ZbJ:Sx:=.iff ZbA ZdO Zby
noncomputable def Zcs:Sxs:=(.cons ZbK (.cons ZbJ .nil))
noncomputable def ZG:Fd:=⟨[(O "self"),(O "thing")],[(O "self"),(O "thing")],Zcs⟩
noncomputable def ZaF:Sx:=(.drp (.mcl (O "Decoder") (O "put_on") (.var 0) (.cons (.var 1) .nil)))
noncomputable def ZaD:Tx:=(.ex (.att [(O "Decoder")] (.var 0) (O "begun")))
noncomputable def Zcr:Sx:=(.drp (.mcl (O "Decoder") (O "do_next") (.var 0) .nil))
noncomputable def ZcU:Sxs:=(.cons Zcr .nil)
noncomputable def ZaE:Sx:=.whl ZaD ZcU
noncomputable def Zbe:Sxs:=(.cons ZaF (.cons ZaE .nil))
noncomputable def Zu:Fd:=⟨[(O "self"),(O "thing")],[(O "self"),(O "thing")],Zbe⟩
noncomputable def ZbB:Tx:=(.ors (.cons (.ex (.att [(O "Decoder")] (.var 0) (O "begun"))) (.one (.ex (.cmp .NotEq (.ix (.ix (.att [(O "Decoder")] (.var 0) (O "code")) (.att [(O "Decoder")] (.var 0) (O "at"))) (.cst (.int 0))) (.cst (.str (O "end"))))))))
noncomputable def Zdi:Sx:=(.drp (.mcl (O "Decoder") (O "do_next") (.var 0) .nil))
noncomputable def ZdP:Sxs:=(.cons Zdi .nil)
noncomputable def ZbM:Sx:=.whl ZbB ZdP
noncomputable def ZbL:Sx:=(.ret (.ix (.att [(O "Decoder")] (.var 0) (O "done")) (.cst (.int 0))))
noncomputable def Zct:Sxs:=(.cons ZbM (.cons ZbL .nil))
noncomputable def ZH:Fd:=⟨[(O "self")],[(O "self")],Zct⟩
noncomputable def Zb6:Sx:=(.set (.nm 2) (.mk (O "Decoder") (.cons (.var 0) (.cons (.var 1) .nil))))
noncomputable def ZgA:Ix:=(.pl (.ix (.var 1) (.cst (.int 1))))
noncomputable def Zfm:Sx:=(.drp (.mcl (O "Decoder") (O "put_whole") (.var 2) (.cons (.var 3) .nil)))
noncomputable def Zgv:Sxs:=(.cons Zfm .nil)
noncomputable def Zb5:Sx:=.forr (.nm 3) ZgA Zgv
noncomputable def ZdK:Sx:=(.ret (.mcl (O "Decoder") (O "do_all") (.var 2) .nil))
noncomputable def Zi9:Sxs:=(.cons Zb6 (.cons Zb5 (.cons ZdK .nil)))
noncomputable def Za0:Fd:=⟨[(O "code"),(O "state")],[(O "code"),(O "state"),(O "decoder"),(O "thing")],Zi9⟩
noncomputable def ZdJ:Sx:=(.set (.nm 2) (.bin .Mod (.bin .Add (.bin .Add (.bin .Mult (.bin .Mod (.var 0) (.cst (.int 2147483647))) (.cst (.int 48271))) (.bin .Mult (.bin .Mult (.var 1) (.var 1)) (.cst (.int 7919)))) (.cst (.int 101))) (.cst (.int 2147483647))))
noncomputable def ZgB:Sx:=(.ret (.bin .Mod (.bin .Mult (.var 2) (.var 2)) (.cst (.int 2147483629))))
noncomputable def Zi1:Sxs:=(.cons ZdJ (.cons ZgB .nil))
noncomputable def ZaZ:Fd:=⟨[(O "_law_cell_here"),(O "_law_k")],[(O "_law_cell_here"),(O "_law_k"),(O "_law_number")],Zi1⟩
noncomputable def Zeg:Tx:=(.ex (.cmp .Lt (.var 1) (.blt .len (.cons (.var 0) .nil))))
noncomputable def Zfl:Sx:=(.ret (.call (O "_law_mixed") (.cons (.ix (.var 0) (.var 1)) (.cons (.var 1) .nil))))
noncomputable def Zhw:Sxs:=(.cons Zfl .nil)
noncomputable def Zh4:Sx:=.iff Zeg Zhw .nil
noncomputable def Zh3:Sx:=(.ret (.call (O "_law_mixed") (.cons (.cst (.int 7)) (.cons (.var 1) .nil))))
noncomputable def Zj2:Sxs:=(.cons Zh4 (.cons Zh3 .nil))
noncomputable def Zbx:Fd:=⟨[(O "_law_script"),(O "_law_k")],[(O "_law_script"),(O "_law_k")],Zj2⟩
noncomputable def Zh2:Sx:=(.ret (.tupl (.cons (.cst (.str (O "-"))) (.cons (.tupl (.cons (.cst (.str (O "name"))) (.cons (.var 0) .nil))) (.cons (.tupl (.cons (.cst (.str (O "num"))) (.cons (.cst (.int 1)) .nil))) .nil)))))
noncomputable def Zj1:Sxs:=(.cons Zh2 .nil)
noncomputable def Zbw:Fd:=⟨[(O "_law_x")],[(O "_law_x")],Zj1⟩
noncomputable def Zej:Sx:=(.set (.nm 4) (.tupl (.cons (.cst (.str (O "call"))) (.cons (.tupl (.cons (.cst (.str (O "name"))) (.cons (.var 2) .nil))) (.cons (.call (O "_law_less") (.cons (.var 1) .nil)) .nil)))))
noncomputable def ZhQ:Tx:=(.ex (.cmp .Eq (.var 0) (.cst (.int 0))))
noncomputable def Zfk:Sx:=(.ret (.tupl (.cons (.cst (.str (O "rec"))) (.cons (.var 2) (.cons (.var 1) (.cons (.tupl (.cons (.cst (.str (O "if"))) (.cons (.tupl (.cons (.cst (.str (O "name"))) (.cons (.var 1) .nil))) (.cons (.var 4) (.cons (.var 3) .nil))))) .nil))))))
noncomputable def Zhv:Sxs:=(.cons Zfk .nil)
noncomputable def Zh1:Sx:=.iff ZhQ Zhv .nil
noncomputable def ZhP:Tx:=(.ex (.cmp .Eq (.var 0) (.cst (.int 1))))
noncomputable def Zfj:Sx:=(.ret (.tupl (.cons (.cst (.str (O "rec"))) (.cons (.var 2) (.cons (.var 1) (.cons (.tupl (.cons (.cst (.str (O "if"))) (.cons (.tupl (.cons (.cst (.str (O "<"))) (.cons (.tupl (.cons (.cst (.str (O "name"))) (.cons (.var 1) .nil))) (.cons (.tupl (.cons (.cst (.str (O "num"))) (.cons (.cst (.int 1)) .nil))) .nil)))) (.cons (.var 3) (.cons (.var 4) .nil))))) .nil))))))
noncomputable def Zhu:Sxs:=(.cons Zfj .nil)
noncomputable def Zh0:Sx:=.iff ZhP Zhu .nil
noncomputable def ZhO:Tx:=(.ex (.cmp .Eq (.var 0) (.cst (.int 2))))
noncomputable def Zfi:Sx:=(.ret (.tupl (.cons (.cst (.str (O "rec"))) (.cons (.var 2) (.cons (.var 1) (.cons (.tupl (.cons (.cst (.str (O "if"))) (.cons (.tupl (.cons (.cst (.str (O "name"))) (.cons (.var 1) .nil))) (.cons (.tupl (.cons (.cst (.str (O "if"))) (.cons (.tupl (.cons (.cst (.str (O "num"))) (.cons (.cst (.int 5)) .nil))) (.cons (.var 4) (.cons (.tupl (.cons (.cst (.str (O "num"))) (.cons (.cst (.int 3)) .nil))) .nil))))) (.cons (.var 3) .nil))))) .nil))))))
noncomputable def Zht:Sxs:=(.cons Zfi .nil)
noncomputable def ZhZ:Sx:=.iff ZhO Zht .nil
noncomputable def Zei:Sx:=(.set (.nm 5) (.tupl (.cons (.cst (.str (O "call"))) (.cons (.tupl (.cons (.cst (.str (O "fn"))) (.cons (.cst (.str (O "h"))) (.cons (.tupl (.cons (.cst (.str (O "call"))) (.cons (.tupl (.cons (.cst (.str (O "name"))) (.cons (.cst (.str (O "h"))) .nil))) (.cons (.call (O "_law_less") (.cons (.var 1) .nil)) .nil)))) .nil)))) (.cons (.tupl (.cons (.cst (.str (O "name"))) (.cons (.var 2) .nil))) .nil)))))
noncomputable def ZhY:Sx:=(.ret (.tupl (.cons (.cst (.str (O "rec"))) (.cons (.var 2) (.cons (.var 1) (.cons (.tupl (.cons (.cst (.str (O "if"))) (.cons (.tupl (.cons (.cst (.str (O "name"))) (.cons (.var 1) .nil))) (.cons (.var 5) (.cons (.var 3) .nil))))) .nil))))))
noncomputable def Zj0:Sxs:=(.cons Zej (.cons Zh1 (.cons Zh0 (.cons ZhZ (.cons Zei (.cons ZhY .nil))))))
noncomputable def Zbv:Fd:=⟨[(O "_law_way"),(O "_law_x"),(O "_law_f"),(O "_law_end")],[(O "_law_way"),(O "_law_x"),(O "_law_f"),(O "_law_end"),(O "_law_again"),(O "_law_handed")],Zj0⟩
noncomputable def ZhN:Tx:=(.ex (.cmp .Eq (.var 0) (.cst (.int 0))))
noncomputable def Zfh:Sx:=(.ret (.bin .Add (.bin .Mult (.cst (.int 3)) (.var 1)) (.cst (.int 2))))
noncomputable def Zhs:Sxs:=(.cons Zfh .nil)
noncomputable def ZhX:Sx:=.iff ZhN Zhs .nil
noncomputable def ZhM:Tx:=(.ex (.cmp .Eq (.var 0) (.cst (.int 1))))
noncomputable def Zfg:Sx:=(.ret (.bin .Add (.bin .Mult (.cst (.int 4)) (.var 1)) (.cst (.int 3))))
noncomputable def Zhr:Sxs:=(.cons Zfg .nil)
noncomputable def ZhW:Sx:=.iff ZhM Zhr .nil
noncomputable def ZhL:Tx:=(.ex (.cmp .Eq (.var 0) (.cst (.int 2))))
noncomputable def Zff:Sx:=(.ret (.bin .Add (.bin .Mult (.cst (.int 4)) (.var 1)) (.cst (.int 2))))
noncomputable def Zhq:Sxs:=(.cons Zff .nil)
noncomputable def ZhV:Sx:=.iff ZhL Zhq .nil
noncomputable def ZhU:Sx:=(.ret (.bin .Add (.bin .Mult (.cst (.int 4)) (.var 1)) (.cst (.int 2))))
noncomputable def ZjZ:Sxs:=(.cons ZhX (.cons ZhW (.cons ZhV (.cons ZhU .nil))))
noncomputable def Zbu:Fd:=⟨[(O "_law_way"),(O "_law_many")],[(O "_law_way"),(O "_law_many")],ZjZ⟩
noncomputable def ZbG:Sx:=(.set (.nm 2) (.call (O "code_of") (.cons (.var 0) .nil)))
noncomputable def ZbF:Sx:=(.set (.nm 3) (.call (O "code_begun") (.cons (.var 2) .nil)))
noncomputable def Zdg:Sx:=(.set (.nm 4) (.cst (.int 0)))
noncomputable def Zdf:Sx:=(.set (.nm 5) (.cst (.int 0)))
noncomputable def Zf2:Ix:=(.rng (.var 1))
noncomputable def ZaN:Sx:=(.set (.nm 7) (.call (O "code_step") (.cons (.var 2) (.cons (.var 3) .nil))))
noncomputable def ZeM:Tx:=(.ex (.cmp .Eq (.ix (.var 7) (.cst (.int 0))) (.cst (.str (O "value")))))
noncomputable def Zdv:Sx:=(.ret (.lstl (.cons (.call (O "code_read") (.cons (.var 2) (.cons (.var 3) .nil))) (.cons (.var 4) (.cons (.var 5) .nil)))))
noncomputable def Zey:Sxs:=(.cons Zdv .nil)
noncomputable def ZeP:Sx:=.iff ZeM Zey .nil
noncomputable def ZeL:Tx:=(.ex (.cmp .Eq (.ix (.var 7) (.cst (.int 0))) (.cst (.str (O "stuck")))))
noncomputable def Zdu:Sx:=(.ret (.lstl (.cons (.cst (.str (O "stuck"))) (.cons (.var 4) (.cons (.var 5) .nil)))))
noncomputable def Zex:Sxs:=(.cons Zdu .nil)
noncomputable def ZeO:Sx:=.iff ZeL Zex .nil
noncomputable def ZaM:Sx:=(.set (.nm 4) (.bin .Add (.var 4) (.blt .int (.cons (.cmp .Eq (.ix (.var 7) (.cst (.int 0))) (.cst (.str (O "loud")))) .nil))))
noncomputable def Zcl:Sx:=(.set (.nm 3) (.ix (.var 7) (.cst (.int 1))))
noncomputable def Zck:Sx:=(.set (.nm 5) (.blt .mx (.cons (.var 5) (.cons (.blt .len (.cons (.ix (.var 3) (.cst (.int 3))) .nil)) .nil))))
noncomputable def Z1:Sxs:=(.cons ZaN (.cons ZeP (.cons ZeO (.cons ZaM (.cons Zcl (.cons Zck .nil))))))
noncomputable def ZbE:Sx:=.forr (.nm 6) Zf2 Z1
noncomputable def Zde:Sx:=(.ret (.lstl (.cons (.cst (.str (O "open"))) (.cons (.var 4) (.cons (.var 5) .nil)))))
noncomputable def ZhS:Sxs:=(.cons ZbG (.cons ZbF (.cons Zdg (.cons Zdf (.cons ZbE (.cons Zde .nil))))))
noncomputable def Zap:Fd:=⟨[(O "_law_told"),(O "_law_most")],[(O "_law_told"),(O "_law_most"),(O "_law_code"),(O "_law_state"),(O "_law_loud_here"),(O "_law_high"),(O "_law_step"),(O "_law_answer")],ZhS⟩
noncomputable def Zgk:Sx:=(.set (.nm 2) (.cst (.int 0)))
noncomputable def Zbs:Ix:=(.pl (.var 0))
noncomputable def Zcn:Sx:=(.set (.nm 1) (.tupl (.cons (.cst (.str (O "+"))) (.cons (.tupl (.cons (.cst (.str (O "num"))) (.cons (.bin .Mod (.var 3) (.cst (.int 1000000))) .nil))) (.cons (.var 1) .nil)))))
noncomputable def Zcm:Sx:=(.set (.nm 2) (.bin .Mod (.bin .Add (.var 2) (.var 3)) (.cst (.int 1000000))))
noncomputable def Zbr:Sxs:=(.cons Zcn (.cons Zcm .nil))
noncomputable def Zgj:Sx:=.forr (.nm 3) Zbs Zbr
noncomputable def Zgi:Sx:=(.ret (.tupl (.cons (.var 1) (.cons (.var 2) .nil))))
noncomputable def ZhT:Sxs:=(.cons Zgk (.cons Zgj (.cons Zgi .nil)))
noncomputable def Zaq:Fd:=⟨[(O "_law_cells"),(O "_law_told")],[(O "_law_cells"),(O "_law_told"),(O "_law_total"),(O "_law_cell_here")],ZhT⟩
noncomputable def Zib:Sx:=(.set (.nm 1) (.call (O "_law_cell") (.cons (.var 0) (.cons (.cst (.int 0)) .nil))))
noncomputable def Zia:Sx:=(.set (.nm 2) (.bin .Mod (.var 1) (.cst (.int 4))))
noncomputable def Zh9:Sx:=(.set (.nm 3) (.bin .Mod (.bin .FloorDiv (.var 1) (.cst (.int 4))) (.cst (.int 41))))
noncomputable def ZkI:Sx:=(.set (.nm 4) (.lstl (.cons (.cst (.str (O "x"))) (.cons (.cst (.str (O "f"))) (.cons (.cst (.str (O "h"))) (.cons (.cst (.str (O "xa"))) (.cons (.cst (.str (O "fx"))) .nil)))))))
noncomputable def Zh8:Sx:=(.set (.nm 5) (.ix (.var 4) (.bin .Mult (.bin .Mod (.bin .FloorDiv (.var 1) (.cst (.int 164))) (.cst (.int 2))) (.cst (.int 3)))))
noncomputable def Zh7:Sx:=(.set (.nm 6) (.ix (.var 4) (.bin .Add (.cst (.int 1)) (.bin .Mult (.bin .Mod (.bin .FloorDiv (.var 1) (.cst (.int 328))) (.cst (.int 2))) (.cst (.int 3))))))
noncomputable def Zh6:Sx:=(.set (.nm 7) (.bin .Mod (.call (O "_law_cell") (.cons (.var 0) (.cons (.cst (.int 1)) .nil))) (.cst (.int 1000000))))
noncomputable def Zh5:Sx:=(.set (.nm 8) (.lstl (.cons (.tupl (.cons (.tupl (.cons (.cst (.str (O "num"))) (.cons (.var 7) .nil))) (.cons (.var 7) .nil))) (.cons (.tupl (.cons (.tupl (.cons (.cst (.str (O "+"))) (.cons (.tupl (.cons (.cst (.str (O "name"))) (.cons (.var 5) .nil))) (.cons (.tupl (.cons (.cst (.str (O "num"))) (.cons (.var 7) .nil))) .nil)))) (.cons (.var 7) .nil))) (.cons (.tupl (.cons (.call (O "_law_less") (.cons (.var 5) .nil)) (.cons (.cst (.int 999999)) .nil))) .nil)))))
noncomputable def Zfr:Sx:=(.set (.two 9 10) (.ix (.var 8) (.bin .Mod (.bin .FloorDiv (.var 1) (.cst (.int 656))) (.cst (.int 3)))))
noncomputable def Zgn:Sx:=(.set (.nm 11) (.bin .Add (.call (O "_law_loud") (.cons (.var 2) (.cons (.var 3) .nil))) (.blt .int (.cons (.cmp .Gt (.bin .Mod (.bin .FloorDiv (.var 1) (.cst (.int 656))) (.cst (.int 3))) (.cst (.int 0))) .nil))))
noncomputable def Zgm:Sx:=(.set (.nm 12) (.comp [(O "_law_k"),(O "_law_cell_here")] [Wl,Wl] (.enu (.sl (.var 0) (Wj (.cst (.int 2))) (Wj (.cst (.int 32))))) (.two 0 1) Wl (.call (O "_law_mixed") (.cons (.var 1) (.cons (.bin .Add (.var 0) (.cst (.int 2))) .nil)))))
noncomputable def Zgl:Sx:=(.set (.two 13 14) (.call (O "_law_summed") (.cons (.var 12) (.cons (.tupl (.cons (.cst (.str (O "call"))) (.cons (.call (O "_law_loop") (.cons (.var 2) (.cons (.var 5) (.cons (.var 6) (.cons (.var 9) .nil))))) (.cons (.tupl (.cons (.cst (.str (O "num"))) (.cons (.var 3) .nil))) .nil)))) .nil))))
noncomputable def Zi8:Sx:=(.set (.nm 15) (.call (O "_law_walked") (.cons (.var 13) (.cons (.cst (.int 1500)) .nil))))
noncomputable def Zna:Tx:=(.ex (.cmp .NotEq (.var 15) (.lstl (.cons (.tupl (.cons (.cst (.str (O "num"))) (.cons (.bin .Mod (.bin .Add (.var 14) (.var 10)) (.cst (.int 1000000))) .nil))) (.cons (.bin .Add (.var 11) (.blt .len (.cons (.var 12) .nil))) (.cons (.cst (.int 1)) .nil))))))
noncomputable def Zi6:Sx:=(.ret (.cst (.bl Wn)))
noncomputable def ZmD:Sxs:=(.cons Zi6 .nil)
noncomputable def Zi7:Sx:=.iff Zna ZmD .nil
noncomputable def Zi5:Sx:=(.set (.nm 16) (.tupl (.cons (.cst (.str (O "+"))) (.cons (.tupl (.cons (.cst (.str (O "num"))) (.cons (.cst (.int 2)) .nil))) (.cons (.tupl (.cons (.cst (.str (O "call"))) (.cons (.tupl (.cons (.cst (.str (O "name"))) (.cons (.var 6) .nil))) (.cons (.call (O "_law_less") (.cons (.var 5) .nil)) .nil)))) .nil)))))
noncomputable def Zi4:Sx:=(.set (.nm 13) (.tupl (.cons (.cst (.str (O "call"))) (.cons (.tupl (.cons (.cst (.str (O "rec"))) (.cons (.var 6) (.cons (.var 5) (.cons (.tupl (.cons (.cst (.str (O "if"))) (.cons (.tupl (.cons (.cst (.str (O "name"))) (.cons (.var 5) .nil))) (.cons (.var 16) (.cons (.var 9) .nil))))) .nil))))) (.cons (.tupl (.cons (.cst (.str (O "num"))) (.cons (.var 3) .nil))) .nil)))))
noncomputable def Zi3:Sx:=(.set (.nm 11) (.bin .Add (.bin .Add (.bin .Mult (.cst (.int 4)) (.var 3)) (.cst (.int 2))) (.blt .int (.cons (.cmp .Gt (.bin .Mod (.bin .FloorDiv (.var 1) (.cst (.int 656))) (.cst (.int 3))) (.cst (.int 0))) .nil))))
noncomputable def Zi2:Sx:=(.ret (.cmp .Eq (.call (O "_law_walked") (.cons (.var 13) (.cons (.cst (.int 1500)) .nil))) (.lstl (.cons (.tupl (.cons (.cst (.str (O "num"))) (.cons (.bin .Mod (.bin .Add (.bin .Mult (.cst (.int 2)) (.var 3)) (.var 10)) (.cst (.int 1000000))) .nil))) (.cons (.var 11) (.cons (.bin .Add (.var 3) (.cst (.int 1))) .nil))))))
noncomputable def ZsM:Sxs:=(.cons Zib (.cons Zia (.cons Zh9 (.cons ZkI (.cons Zh8 (.cons Zh7 (.cons Zh6 (.cons Zh5 (.cons Zfr (.cons Zgn (.cons Zgm (.cons Zgl (.cons Zi8 (.cons Zi7 (.cons Zi5 (.cons Zi4 (.cons Zi3 (.cons Zi2 .nil))))))))))))))))))
noncomputable def ZgR:Fd:=⟨[(O "_law_script")],[(O "_law_script"),(O "_law_first"),(O "_law_way"),(O "_law_many"),(O "_law_names"),(O "_law_x"),(O "_law_f"),(O "_law_add"),(O "_law_ends"),(O "_law_end"),(O "_law_due"),(O "_law_loud_here"),(O "_law_cells"),(O "_law_told"),(O "_law_total"),(O "_law_found"),(O "_law_again")],ZsM⟩
structure Lw(P:Pg):Prop where
 c:Ce.Cod P
 gw:P.G (O "WIDEST")=Wj (.int 120)
 n_Pen___init__:P.tb.lookup (mnm (O "Pen") (O "__init__"))=Wl
 Pen___init__:P.ms.lookup (mnm (O "Pen") (O "__init__"))=Wj ZR
 n_Pen_take_place:P.tb.lookup (mnm (O "Pen") (O "take_place"))=Wl
 Pen_take_place:P.ms.lookup (mnm (O "Pen") (O "take_place"))=Wj ZF
 n_Decoder___init__:P.tb.lookup (mnm (O "Decoder") (O "__init__"))=Wl
 Decoder___init__:P.ms.lookup (mnm (O "Decoder") (O "__init__"))=Wj Zx
 n_Decoder_put_on:P.tb.lookup (mnm (O "Decoder") (O "put_on"))=Wl
 Decoder_put_on:P.ms.lookup (mnm (O "Decoder") (O "put_on"))=Wj ZG
 n_Decoder_put_whole:P.tb.lookup (mnm (O "Decoder") (O "put_whole"))=Wl
 Decoder_put_whole:P.ms.lookup (mnm (O "Decoder") (O "put_whole"))=Wj Zu
 n_Decoder_do_all:P.tb.lookup (mnm (O "Decoder") (O "do_all"))=Wl
 Decoder_do_all:P.ms.lookup (mnm (O "Decoder") (O "do_all"))=Wj ZH
 code_read:P.tb.lookup (O "code_read")=Wj Za0
 law_mixed:P.tb.lookup (O "_law_mixed")=Wj ZaZ
 law_cell:P.tb.lookup (O "_law_cell")=Wj Zbx
 law_less:P.tb.lookup (O "_law_less")=Wj Zbw
 law_loop:P.tb.lookup (O "_law_loop")=Wj Zbv
 law_loud:P.tb.lookup (O "_law_loud")=Wj Zbu
 law_walked:P.tb.lookup (O "_law_walked")=Wj Zap
 law_summed:P.tb.lookup (O "_law_summed")=Wj Zaq
 law:P.tb.lookup (O "law")=Wj ZgR
end K74L
end
section
namespace K74L
open PySem L2 IV Ce
variable {P:Pg}{h:Hd}
noncomputable def Zbf(u:Int):DO:=.ins (O "Pen") [(O "most",.int 120),(O "used",.int u)]
noncomputable def ZcG(k p n:Nat):DO:=.ins (O "Decoder") [(O "code",.ref k),(O "at",.int (p:Int)),(O "around",.tup []),(O "pile",.tup []),(O "pen",.ref (n+1)),(O "done",.ref (n+2)),(O "begun",.ref (n+3))]
def ZrL(H:Lw P)(n:Nat)(h:Hd):ZfP (run P (n+1)) (O "Pen") [.int 120] h=.ok (.ref h.length) (h++[Zbf 0]):=by unfold ZfP;rw[Zaa H.n_Pen___init__ H.Pen___init__ (by rfl)];simp[ZR,Zdh,Zcq,Zcp,Za,Zfa,Zhd,Zbf]
def ZrP(H:Lw P)(n:Nat){k p:Nat}{v:Int}(h:Hd):ZfP (run P (n+2)) (O "Decoder") [.ref k,Ma.d ⟨p,[Zd v],[],[]⟩] h=.ok (.ref h.length) (h++[ZcG k p h.length,Zbf 0,.lst [],.lst []]):=by unfold ZfP;rw[Zaa H.n_Decoder___init__ H.Decoder___init__ (by rfl)];have gw:=H.gw;have e:=λfs=>ZrL H n (h++[.ins (O "Decoder") fs]);generalize P.G=PG at gw;simp[Zx,ZbN,Za8,Za7,Za6,Za5,Za4,Za3,Za2,Za,Zfa,Zhd,Ma.d,gw,e,ZcG,Yz]
def ZpK(H:Lw P)(n:Nat){i:Nat}(e:h[i]? = Wj (Zbf 0)):run P (n+1) (mnm (O "Pen") (O "take_place")) [.ref i] h=.ok .non (h.set i (Zbf 1)):=by rw[Zaa H.n_Pen_take_place H.Pen_take_place (by rfl)];unfold Zbf at e;simp[ZF,Zco,ZbI,Zbz,ZbH,Za,ZaY,Zfa,Zhd,Zq,e,We,Zbf]
def ZnD(H:Lw P)(n:Nat){k p:Nat}{v:Int}(h:Hd):run P (n+3) (mnm (O "Decoder") (O "put_whole")) [.ref h.length,Zd v] (h++[ZcG k p h.length,Zbf 0,.lst [],.lst []])=.ok .non (h++[ZcG k p h.length,Zbf 1,.lst [Zd v],.lst []]):=by
 have e2:run P (n+2) (mnm (O "Decoder") (O "put_on")) [.ref h.length,Zd v] (h++[ZcG k p h.length,Zbf 0,.lst [],.lst []])=.ok .non (h++[ZcG k p h.length,Zbf 1,.lst [Zd v],.lst []]):=by rw[Zaa H.n_Decoder_put_on H.Decoder_put_on (by rfl)];have e1:=ZpK H n (h:=h++[ZcG k p h.length,Zbf 0,.lst [],.lst []]) (i:=h.length+1) (by simp);rw[ZrX]at e1;unfold Zbf ZcG at *;simp[ZG,Zcs,ZbK,ZbJ,ZbA,Zby,ZaG,Za,ZaY,Zq,We,e1,Zd,Zab,ZaX,ZcT,Zhm,Yz]
 rw[Zaa H.n_Decoder_put_whole H.Decoder_put_whole (by rfl)];obtain⟨L,hL⟩:∃L,P.L=L+1:=⟨P.L - 1,by have:=H.c.big;lia⟩
 generalize hx:Zd v=x at *;unfold Zbf ZcG at *;simp[Zu,Zbe,ZaF,ZaE,ZaD,Za,Zq,We,e2,hL,ZZ,ZaY,Zb1]
def ZpU(H:Lw P)(n:Nat){k p:Nat}{C:List Ce.Rw}{v:Int}(hk:h[k]? = Wj (.lst (C.map Ce.Rw.d)))(hc:C[p]? = Wj .fin):run P (n+1) (mnm (O "Decoder") (O "do_all")) [.ref h.length] (h++[ZcG k p h.length,Zbf 1,.lst [Zd v],.lst []])=.ok (Zd v) (h++[ZcG k p h.length,Zbf 1,.lst [Zd v],.lst []]):=by
 rw[Zaa H.n_Decoder_do_all H.Decoder_do_all (by rfl)];obtain⟨L,hL⟩:∃L,P.L=L+1:=⟨P.L - 1,by have:=H.c.big;lia⟩
 have e:=Zha (GD:=P.GD) (h:=h++[ZcG k p h.length,Zbf 1,.lst [Zd v],.lst []]) (keep hk) hc;have e0:Zcx P.GD (.ref (h.length+2)) (.int 0) (h++[ZcG k p h.length,Zbf 1,.lst [Zd v],.lst []])=.ok (Zd v) (h++[ZcG k p h.length,Zbf 1,.lst [Zd v],.lst []]):=by rw[Zd5 Zui];rfl
 generalize hx:Zd v=x at *;unfold Zbf ZcG at *;simp[ZH,Zct,ZbM,ZbL,ZbB,Za,Zq,We,hL,ZZ,ZaY,Zb1,e,e0,Ce.Rw.d]
def ZpM(H:Lw P)(n:Nat){k p:Nat}{C:List Ce.Rw}{v:Int}(hk:h[k]? = Wj (.lst (C.map Ce.Rw.d)))(hc:C[p]? = Wj .fin):∃g,run P (n+5) (O "code_read") [.ref k,Ma.d ⟨p,[Zd v],[],[]⟩] h=.ok (Zd v) (h++g):=by
 refine⟨[ZcG k p h.length,Zbf 1,.lst [Zd v],.lst []],?_⟩;rw[Zg H.code_read (by rfl)];have e1:=ZrP H (n+2) (k:=k) (p:=p) (v:=v) h;have e2:=ZnD H (n+1) (k:=k) (p:=p) (v:=v) h;have e3:=ZpU H (n+3) (k:=k) (p:=p) (v:=v) hk hc;have x1:xs1 (P.tbl (n+4)) Zb6 [Wj (.ref k),Wj (Ma.d ⟨p,[Zd v],[],[]⟩),Wl,Wl] h=.ok (.nx,[Wj (.ref k),Wj (Ma.d ⟨p,[Zd v],[],[]⟩),Wj (.ref h.length),Wl]) (h++[ZcG k p h.length,Zbf 0,.lst [],.lst []]):=ZU (by rw[ZsA,Zh rfl (Zh rfl rfl)];exact e1);have x2:xs1 (P.tbl (n+4)) Zb5 [Wj (.ref k),Wj (Ma.d ⟨p,[Zd v],[],[]⟩),Wj (.ref h.length),Wl] (h++[ZcG k p h.length,Zbf 0,.lst [],.lst []])=.ok (.nx,[Wj (.ref k),Wj (Ma.d ⟨p,[Zd v],[],[]⟩),Wj (.ref h.length),Wj (Zd v)]) (h++[ZcG k p h.length,Zbf 1,.lst [Zd v],.lst []]):=(ZjS (w:=⟨Wl,[Zd v]⟩) (ZqP rfl)).trans ((ZmO rfl (Zb (ZsI (Zpd rfl (ZoV) rfl (Zh rfl rfl) e2)))).trans rfl)
 show ZaV (xs2 (P.tbl (n+4)) (.cons Zb6 (.cons Zb5 (.cons ZdK .nil))) _ h)=_;exact congrArg ZaV ((Zb x1).trans ((Zb x2).trans (ZD (Zbo (Zpd rfl ZoV rfl rfl e3)))))
end K74L
end
section
namespace K74L
open PySem L2 IV Ce
variable {P:Pg}{h:Hd}
noncomputable def vw(tp:D)(k:Nat)(sd:D)(L H:Nat)(o6 o7:Option D):Ev:=[Wj tp,Wj (.int 1500),Wj (.ref k),Wj sd,Wj (.int (L:Int)),Wj (.int (H:Int)),o6,o7]
def Zub(s:Ma):∃ds,s.d=.tup [.int (s.p:Int),.tup s.S_,.tup s.E,.tup ds]/\ds.length=s.pl.length:=⟨_,rfl,by simp⟩
def ZpB(H:Lw P)(n:Nat){C:List Ce.Rw}{k:Nat}(hk:h[k]? = Wj (.lst (C.map Ce.Rw.d))){s s':Ma}{ld:Bool}(q:Stp C s ld s'){tp:D}{L0 H0:Nat}{o6 o7:Option D}:xs2 (P.tbl (n+5)) Z1 (vw tp k s.d L0 H0 o6 o7) h=.ok (.nx,vw tp k s'.d (L0+(if ld then 1 else 0)) (max H0 s'.pl.length) o6 (Wj (Zdw ld s').d)) h:=by
 have e:=ZrK H.c (n+1) hk q;have x1:xs1 (P.tbl (n+5)) ZaN (vw tp k s.d L0 H0 o6 o7) h=.ok (.nx,vw tp k s.d L0 H0 o6 (Wj (Zdw ld s').d)) h:=ZU (Zaw e rfl);refine(Zb x1).trans ?_;obtain⟨ds,ed,hl⟩:=Zub s';have x6:∀L,xs1 (P.tbl (n+5)) Zck (vw tp k s'.d L H0 o6 (Wj (Zdw ld s').d)) h=.ok (.nx,vw tp k s'.d L (max H0 s'.pl.length) o6 (Wj (Zdw ld s').d)) h:=λL=>by
  have el:ev (P.tbl (n+5)) (.blt .len (.cons (.ix (.var 3) (.cst (.int 3))) .nil)) (vw tp k s'.d L H0 o6 (Wj (Zdw ld s').d)) h=.ok (.int (s'.pl.length:Int)) h:=by refine ZjV (Zh ((Zge (x:=s'.d) rfl rfl).trans (by rw[ed];rfl)) rfl) ?_;rw[<- hl];rfl
  have em:(max H0 s'.pl.length:Nat)=(if (s'.pl.length:Int) > (H0:Int)then(s'.pl.length:Int)else(H0:Int)):=by split<;>lia
  refine(ZU (ZjV (Zh rfl (Zh el rfl)) rfl)).trans ?_;rw[<- em];rfl
 have x5:∀L,xs1 (P.tbl (n+5)) Zcl (vw tp k s.d L H0 o6 (Wj (Zdw ld s').d)) h=.ok (.nx,vw tp k s'.d L H0 o6 (Wj (Zdw ld s').d)) h:=λL=>ZU ((Zge (x:=(Zdw ld s').d) rfl rfl).trans (by cases ld<;>rfl));cases ld with
 |true=>
  refine(Zb ((ZaB (Zba (ZmU rfl rfl) (by decide))).trans rfl)).trans ((Zb ((ZaB (Zba (ZmU rfl rfl) (by decide))).trans rfl)).trans ?_);have x4:xs1 (P.tbl (n+5)) ZaM (vw tp k s.d L0 H0 o6 (Wj (Zdw Wm s').d)) h=.ok (.nx,vw tp k s.d (L0+1) H0 o6 (Wj (Zdw Wm s').d)) h:=by have q:ev (P.tbl (n+5)) (.cmp .Eq (.ix (.var 7) (.cst (.int 0))) (.cst (.str (O "loud")))) (vw tp k s.d L0 H0 o6 (Wj (Zdw Wm s').d)) h=.ok (.bl Wm) h:=(Za1 (x:=.str (O "loud")) rfl rfl).trans (by rw[Zhg,ZfM];rfl);exact ZU ((Zj (x:=.int (L0:Int)) (y:=.int 1) rfl (ZjV (Zh q rfl) rfl)).trans rfl)
  exact(Zb x4).trans ((Zb (x5 _)).trans ((Zb (x6 _)).trans rfl))
 |false=>
  refine(Zb ((ZaB (Zba (ZmU rfl rfl) (by decide))).trans rfl)).trans ((Zb ((ZaB (Zba (ZmU rfl rfl) (by decide))).trans rfl)).trans ?_);have x4:xs1 (P.tbl (n+5)) ZaM (vw tp k s.d L0 H0 o6 (Wj (Zdw Wn s').d)) h=.ok (.nx,vw tp k s.d (L0+0) H0 o6 (Wj (Zdw Wn s').d)) h:=by have q:ev (P.tbl (n+5)) (.cmp .Eq (.ix (.var 7) (.cst (.int 0))) (.cst (.str (O "loud")))) (vw tp k s.d L0 H0 o6 (Wj (Zdw Wn s').d)) h=.ok (.bl Wn) h:=(Za1 (x:=.str (O "quiet")) rfl rfl).trans (by rw[Zhg,ZfM];rfl);exact ZU ((Zj (x:=.int (L0:Int)) (y:=.int 0) rfl (ZjV (Zh q rfl) rfl)).trans rfl)
  exact(Zb x4).trans ((Zb (x5 _)).trans ((Zb (x6 _)).trans rfl))
def Zqy(H:Lw P)(n:Nat){C:List Ce.Rw}{k:Nat}(hk:h[k]? = Wj (.lst (C.map Ce.Rw.d))){s s':Ma}{m L hi:Nat}(g:Go C s m L hi s')(hc:C[s'.p]? = Wj .fin){r:R D}(hr:run P (n+5) (O "code_read") [.ref k,s'.d] h=r){tp:D}:∀(ds:List D) (L0 H0:Nat) (o6 o7:Option D),m<ds.length->∃ds' q6 q7,m+ds'.length=ds.length/\ZaI Wl (.nm 6) (xs2 (P.tbl (n+5)) Z1) ds (vw tp k s.d L0 H0 o6 o7) h=ZaI Wl (.nm 6) (xs2 (P.tbl (n+5)) Z1) ds' (vw tp k s'.d (L0+L) (max H0 hi) q6 q7) h:=by
 induction g with
 |refl=>exact λds L0 H0 o6 o7 hl=>⟨ds,o6,o7,by lia,by simp only[Nat.add_zero,Nat.max_zero]⟩
 |@step s s1 s2 ld m L hi q g ih=>
  intro ds L0 H0 o6 o7 hl;cases ds with
  |nil=>cases hl
  |cons d ds=>obtain⟨ds',p6,p7,e1,e2⟩:=ih hc hr ds (L0+(if ld then 1 else 0)) (max H0 s1.pl.length) (Wj d) (Wj (Zdw ld s1).d) (by rw[Os]at hl;lia);refine⟨ds',p6,p7,by rw[Os];lia,(ZmO rfl (ZpB H n hk q)).trans (e2.trans ?_)⟩;rw[Nat.add_assoc,Nat.max_assoc]
def same(h h':Hd):Prop:=h.length<=h'.length/\∀i,i<h.length->h'[i]? = h[i]?
def Ziq(H:Lw P)(n:Nat){t:T}(ct:Gn.Cl [] t)(hz:t.size<=1000){K L G:Nat}{v:Int}(hK:K<=1400)(nt:Nt (code t) [] [] t K L G (·=Zd v))(h:Hd):∃h' j,run P (n+7) (O "_law_walked") [t.d,.int 1500] h=.ok (.ref j) h'/\h'[j]? = Wj (.lst [Zd v,.int (L:Int),.int (G:Int)])/\same h h':=by
 obtain⟨h1,k,e1,hk,hl,hl2,old⟩:=ZpR H.c n t ct hz h;obtain⟨cd,hf⟩:=ZoJ t ct;obtain⟨_,m,rfl,hm,g⟩:=nt 0 (cnt t) [] [] cd (by simp;lia) (by simp;lia);obtain⟨gg,er⟩:=ZpM H (n+1) (v:=v) hk hf;obtain⟨ds,o6,o7,e2,e3⟩:=Zqy H (n+1) hk g hf er (tp:=t.d) (ZaH 0 1500) 0 0 Wl Wl (by rw[ZaH,Ys,List.length_range];lia);rw[ZaH,Ys,List.length_range]at e2;rw[show 0+L=L by lia,show max 0 (([]:List (Nat×List D)).length+G)=G by simp]at e3;have es:=Zjk H.c (n+5) ⟨cnt t,[]++[Zd v],[],[]⟩ hk hf;cases ds with
 |nil=>rw[List.length_nil]at e2;lia
 |cons d ds=>
  refine⟨h1++gg++[.lst [Zd v,.int (L:Int),.int (G:Int)]],(h1++gg).length,?_,by simp,by simp;lia,λi hi=>by rw[Oz,Oe (by lia)];exact old i hi⟩;have xr:xs2 (P.tbl (n+6)) Z1 (vw t.d k (Ma.d ⟨cnt t,[]++[Zd v],[],[]⟩) L G (Wj d) o7) h1=.ok (.rt (.ref (h1++gg).length),vw t.d k (Ma.d ⟨cnt t,[]++[Zd v],[],[]⟩) L G (Wj d) (Wj Ans.value.d)) (h1++gg++[.lst [Zd v,.int (L:Int),.int (G:Int)]]):=by have x1:xs1 (P.tbl (n+6)) ZaN (vw t.d k (Ma.d ⟨cnt t,[]++[Zd v],[],[]⟩) L G (Wj d) o7) h1=.ok (.nx,vw t.d k (Ma.d ⟨cnt t,[]++[Zd v],[],[]⟩) L G (Wj d) (Wj Ans.value.d)) h1:=ZU (Zaw es rfl);exact(Zb x1).trans (ZD ((Ze0 (Zba (ZmU rfl rfl) (by decide))).trans (ZD (Zbo (ZoB (Zh (Zaw er rfl) (Zh rfl (Zh rfl rfl))) (by simp))))))
  rw[Zg H.law_walked (by rfl)];have x1:xs1 (P.tbl (n+6)) ZbG [Wj t.d,Wj (.int 1500),Wl,Wl,Wl,Wl,Wl,Wl] h=.ok (.nx,[Wj t.d,Wj (.int 1500),Wj (.ref k),Wl,Wl,Wl,Wl,Wl]) h1:=ZU (Zaw e1 rfl);have eb:run P (n+6) (O "code_begun") [.ref k] h1=.ok (Ma.d ⟨0,[],[],[]⟩) h1:=by rw[Zg H.c.code_begun (by rfl)];exact rfl
  have x2:xs1 (P.tbl (n+6)) ZbF [Wj t.d,Wj (.int 1500),Wj (.ref k),Wl,Wl,Wl,Wl,Wl] h1=.ok (.nx,[Wj t.d,Wj (.int 1500),Wj (.ref k),Wj (Ma.d ⟨0,[],[],[]⟩),Wl,Wl,Wl,Wl]) h1:=ZU (Zaw eb rfl);have x5:xs1 (P.tbl (n+6)) ZbE (vw t.d k (Ma.d ⟨0,[],[],[]⟩) 0 0 Wl Wl) h1=_:=(ZjS (w:=⟨Wl,ZaH 0 1500⟩) rfl).trans (e3.trans (ZqM rfl xr));show ZaV (xs2 (P.tbl (n+6)) (.cons ZbG (.cons ZbF (.cons Zdg (.cons Zdf (.cons ZbE (.cons Zde .nil)))))) _ h)=_;exact congrArg ZaV ((Zb x1).trans ((Zb x2).trans ((Zb rfl).trans ((Zb rfl).trans (ZD x5)))))
end K74L
end
section
namespace K74L
open PySem L2 IV Ce
variable {P:Pg}{h:Hd}
def ZgK{U:Tb}{ss:Sxs}{S ρ':Ev}{d:D}{h h1:Hd}(e:xs2 U ss S h=.ok (.rt d,ρ') h1):ZaV (xs2 U ss S h)=.ok d h1:=by rw[e];rfl
def Zhc(H:Lw P)(n:Nat)(c:Int)(k:Int)(hk:0<=k/\k<=100)(h:Hd):∃v:Int,run P (n+1) (O "_law_mixed") [.int c,.int k] h=.ok (.int v) h/\0<=v:=by
 rw[Zg H.law_mixed (by rfl)];have h1:0<=c % 2147483647/\c % 2147483647<2147483647:=⟨Int.emod_nonneg _ (by decide),Int.emod_lt_of_pos _ (by decide)⟩
 have hkk:0<=k * k/\k * k<=10000:=⟨Int.mul_nonneg hk.1 hk.1,Int.mul_le_mul hk.2 hk.2 hk.1 (by decide)⟩
 have b1:opB .Mod (.int c) (.int 2147483647) h=.ok (.int (c % 2147483647)) h:=Zao (by decide);have b2:opB .Mult (.int (c % 2147483647)) (.int 48271) h=.ok (.int (c % 2147483647 * 48271)) h:=ZaQ ⟨Gn.Zz (by lia) (by lia),by decide⟩;have b3:opB .Mult (.int k) (.int k) h=.ok (.int (k * k)) h:=ZaQ ⟨Gn.Zz (by lia) (by lia),Gn.Zz (by lia) (by lia)⟩;have b4:opB .Mult (.int (k * k)) (.int 7919) h=.ok (.int (k * k * 7919)) h:=ZaQ ⟨Gn.Zz (by lia) (by lia),by decide⟩;generalize hw:(c % 2147483647 * 48271+k * k * 7919+101) % 2147483647=w;have h2:0<=w/\w<2147483647:=by subst hw;exact⟨Int.emod_nonneg _ (by decide),Int.emod_lt_of_pos _ (by decide)⟩
 have b5:opB .Mod (.int (c % 2147483647 * 48271+k * k * 7919+101)) (.int 2147483647) h=.ok (.int w) h:=(Zao (by decide)).trans (by rw[hw]);have b6:opB .Mult (.int w) (.int w) h=.ok (.int (w * w)) h:=ZaQ ⟨Gn.Zz (by lia) (by lia),Gn.Zz (by lia) (by lia)⟩;have b7:opB .Mod (.int (w * w)) (.int 2147483629) h=.ok (.int (w * w % 2147483629)) h:=Zao (by decide);refine⟨w * w % 2147483629,?_,Int.emod_nonneg _ (by decide)⟩;have x1:xs1 (P.tbl n) ZdJ [Wj (.int c),Wj (.int k),Wl] h=.ok (.nx,[Wj (.int c),Wj (.int k),Wj (.int w)]) h:=ZU ((Zj ((Zj ((Zj ((Zj ((Zj rfl rfl).trans b1) rfl).trans b2) ((Zj ((Zj rfl rfl).trans b3) rfl).trans b4)).trans rfl) rfl).trans rfl) rfl).trans b5);exact congrArg ZaV ((Zb x1).trans (ZD (Zbo ((Zj ((Zj rfl rfl).trans b6) rfl).trans b7))))
def Zl7(H:Lw P)(n:Nat)(zs:List Int)(k:Nat)(hk:k<=100)(h:Hd):∃v:Int,run P (n+2) (O "_law_cell") [.ro (zs.map .int),.int (k:Int)] h=.ok (.int v) h/\0<=v:=by
 rw[Zg H.law_cell (by rfl)];have t1:tst (P.tbl (n+1)) Zeg [Wj (.ro (zs.map .int)),Wj (.int (k:Int))] h=.ok (Wo ((k:Int)<zs.length)) h:=ZtU rfl (ZjV (xs:=[.ro (zs.map .int)]) rfl (by show R.ok (D.int ((zs.map D.int).length:Int)) h=_;rw[Ys]));by_cases q:(k:Int)<zs.length
 . obtain⟨v,e,hv⟩:=Zhc H n (zs[k]?.getD 0) k (by lia) h;refine⟨v,?_,hv⟩;have e2:ev (P.tbl (n+1)) (.ix (.var 0) (.var 1)) [Wj (.ro (zs.map .int)),Wj (.int (k:Int))] h=.ok (.int (zs[k]?.getD 0)) h:=by
    refine(Zge (x:=.ro (zs.map .int)) rfl rfl).trans ?_;rw[Zoc,IV.ZcL,On];obtain⟨z,hz⟩:∃z,zs[k]? = Wj z:=⟨zs[k],Og (by lia)⟩
    rw[hz];rfl
   exact congrArg ZaV (ZD ((Ze0 (Zba t1 (decide_eq_true q))).trans (ZD (Zbo (Zaw e (Zh e2 rfl))))))
 . obtain⟨v,e,hv⟩:=Zhc H n 7 k (by lia) h;exact⟨v,congrArg ZaV ((Zb ((ZaB (Zba t1 (decide_eq_false q))).trans rfl)).trans (ZD (Zbo (Zaw e rfl)))),hv⟩
def Zjl(H:Lw P)(n:Nat)(x:Str)(h:Hd):run P (n+1) (O "_law_less") [.str x] h=.ok (less x).d h:=by rw[Zg H.law_less (by rfl)];exact rfl
noncomputable def bdw(w:Nat)(f x:Str)(e:T):T:=match w with
 |0=>bd0 f x e
 |1=>bd1 f x e
 |2=>bd2 f x e
 |_=>bd3 (O "h") f x e
def ZpO(H:Lw P)(n:Nat)(w:Nat)(hw:w<4)(f x:Str)(e:T)(h:Hd):run P (n+2) (O "_law_loop") [.int (w:Int),.str x,.str f,e.d] h=.ok (T.rcc f x (bdw w f x e)).d h:=by
 rw[Zg H.law_loop (by rfl)];have e1:=Zjl H n x h;have x1:xs1 (P.tbl (n+1)) Zej [Wj (.int (w:Int)),Wj (.str x),Wj (.str f),Wj e.d,Wl,Wl] h=.ok (.nx,[Wj (.int (w:Int)),Wj (.str x),Wj (.str f),Wj e.d,Wj (T.call (.name f) (less x)).d,Wl]) h:=ZU (ZeI (Zh rfl (Zh rfl (Zh (Zaw e1 rfl) rfl))) (by simp));refine ZgK (ρ':=[Wj (.int (w:Int)),Wj (.str x),Wj (.str f),Wj e.d,Wj (T.call (.name f) (less x)).d,if w=3 then Wj (T.call (.fn (O "h") (hx (O "h") x)) (.name f)).d else Wl]) ((Zb x1).trans ?_);have q:w=0\/w=1\/w=2\/w=3:=by lia
 rcases q with rfl|rfl|rfl|rfl
 . exact(ZD ((Ze0 (Zba (ZcV rfl rfl) (by decide))).trans (ZD (Zbo rfl))))
 . exact(Zb ((ZaB (Zba (ZcV rfl rfl) (by decide))).trans rfl)).trans (ZD ((Ze0 (Zba (ZcV rfl rfl) (by decide))).trans (ZD (Zbo rfl))))
 . exact(Zb ((ZaB (Zba (ZcV rfl rfl) (by decide))).trans rfl)).trans ((Zb ((ZaB (Zba (ZcV rfl rfl) (by decide))).trans rfl)).trans (ZD ((Ze0 (Zba (ZcV rfl rfl) (by decide))).trans (ZD (Zbo rfl)))))
 . refine(Zb ((ZaB (Zba (ZcV rfl rfl) (by decide))).trans rfl)).trans ((Zb ((ZaB (Zba (ZcV rfl rfl) (by decide))).trans rfl)).trans ((Zb ((ZaB (Zba (ZcV rfl rfl) (by decide))).trans rfl)).trans ?_));have x5:xs1 (P.tbl (n+1)) Zei [Wj (.int (3:Nat)),Wj (.str x),Wj (.str f),Wj e.d,Wj (T.call (.name f) (less x)).d,Wl] h=.ok (.nx,[Wj (.int (3:Nat)),Wj (.str x),Wj (.str f),Wj e.d,Wj (T.call (.name f) (less x)).d,Wj (T.call (.fn (O "h") (hx (O "h") x)) (.name f)).d]) h:=ZU (ZeI (Zh rfl (Zh (ZeI (Zh rfl (Zh rfl (Zh (ZeI (Zh rfl (Zh rfl (Zh (Zaw e1 rfl) rfl))) (by simp)) rfl))) (by simp)) (Zh rfl rfl))) (by simp));exact(Zb x5).trans (ZD (Zbo rfl))
noncomputable def lw(w:Nat):Nat:=if w=0 then 3 else 4
noncomputable def Lw0(w:Nat):Nat:=if w=1 then 2 else 1
def ZpN(H:Lw P)(n:Nat)(w m:Nat)(hw:w<4)(hm:m<=40)(h:Hd):run P (n+1) (O "_law_loud") [.int (w:Int),.int (m:Int)] h=.ok (.int ((1+(lw w * m+Lw0 w):Nat):Int)) h:=by
 rw[Zg H.law_loud (by rfl)];have b:∀(a c:Int) (S:Ev) (U:Tb),0<=a->a<=4->(S[1]?).join=Wj (.int (m:Int))->ev U (.bin .Add (.bin .Mult (.cst (.int a)) (.var 1)) (.cst (.int c))) S h=.ok (.int (a * m+c)) h:=λa c S U h1 h2 hr=>(Zj ((Zj rfl (by rw[ZjU,hr];rfl)).trans (ZaQ ⟨Gn.Zz (by lia) (by lia),Gn.Zz (by lia) (by lia)⟩)) rfl).trans rfl;have q:w=0\/w=1\/w=2\/w=3:=by lia
 rcases q with rfl|rfl|rfl|rfl
 . rw[show((1+(lw 0 * m+Lw0 0):Nat):Int)=3 * (m:Int)+2 by simp[lw,Lw0];lia];exact ZgK (ZD ((Ze0 (Zba (ZcV rfl rfl) (by decide))).trans (ZD (Zbo (b 3 2 _ _ (by decide) (by decide) rfl)))))
 . rw[show((1+(lw 1 * m+Lw0 1):Nat):Int)=4 * (m:Int)+3 by simp[lw,Lw0];lia];exact ZgK ((Zb ((ZaB (Zba (ZcV rfl rfl) (by decide))).trans rfl)).trans (ZD ((Ze0 (Zba (ZcV rfl rfl) (by decide))).trans (ZD (Zbo (b 4 3 _ _ (by decide) (by decide) rfl))))))
 . rw[show((1+(lw 2 * m+Lw0 2):Nat):Int)=4 * (m:Int)+2 by simp[lw,Lw0];lia];exact ZgK ((Zb ((ZaB (Zba (ZcV rfl rfl) (by decide))).trans rfl)).trans ((Zb ((ZaB (Zba (ZcV rfl rfl) (by decide))).trans rfl)).trans (ZD ((Ze0 (Zba (ZcV rfl rfl) (by decide))).trans (ZD (Zbo (b 4 2 _ _ (by decide) (by decide) rfl)))))))
 . rw[show((1+(lw 3 * m+Lw0 3):Nat):Int)=4 * (m:Int)+2 by simp[lw,Lw0];lia];exact ZgK ((Zb ((ZaB (Zba (ZcV rfl rfl) (by decide))).trans rfl)).trans ((Zb ((ZaB (Zba (ZcV rfl rfl) (by decide))).trans rfl)).trans ((Zb ((ZaB (Zba (ZcV rfl rfl) (by decide))).trans rfl)).trans (ZD (Zbo (b 4 2 _ _ (by decide) (by decide) rfl))))))
theorem Zpb{U:Tb}{i:Nat}{L:List D}(hi:h[i]? = Wj (.lst L)):∀(cs:List Int) (t:T) (a:Int) (o:Option D),∃o',ZaI (Wj (i,L)) (.nm 3) (xs2 U Zbr) (cs.map .int) [Wj (.ref i),Wj t.d,Wj (.int a),o] h=.ok (.nx,[Wj (.ref i),Wj (sm cs t).d,Wj (.int (tot a cs)),o']) h
 |[],t,a,o=>⟨o,Zf6 hi⟩
 |c::cs,t,a,o=>by obtain⟨o',e⟩:=Zpb hi cs (.op .add (.num (c % 1000000)) t) ((a+c) % 1000000) (Wj (.int c));refine⟨o',?_⟩;have x1:xs1 U Zcn [Wj (.ref i),Wj t.d,Wj (.int a),Wj (.int c)] h=.ok (.nx,[Wj (.ref i),Wj (T.op .add (.num (c % 1000000)) t).d,Wj (.int a),Wj (.int c)]) h:=ZU (ZeI (Zh rfl (Zh (ZeI (Zh rfl (Zh ((Zj rfl rfl).trans (Zao (by decide))) rfl)) (by simp)) (Zh rfl rfl))) (by simp));have x2:xs1 U Zcm [Wj (.ref i),Wj (T.op .add (.num (c % 1000000)) t).d,Wj (.int a),Wj (.int c)] h=.ok (.nx,[Wj (.ref i),Wj (T.op .add (.num (c % 1000000)) t).d,Wj (.int ((a+c) % 1000000)),Wj (.int c)]) h:=ZU ((Zj (x:=.int (a+c)) ((Zj rfl rfl).trans rfl) rfl).trans (Zao (by decide)));have w:xs2 U Zbr [Wj (.ref i),Wj t.d,Wj (.int a),Wj (.int c)] h=_:=(Zb x1).trans ((Zb x2).trans rfl);rw[Op,Zf5 hi];simp only[ZoQ,List.set];rw[w];exact e
def ZlZ(H:Lw P)(n:Nat){i:Nat}{cs:List Int}(hi:h[i]? = Wj (.lst (cs.map .int)))(t:T):run P (n+1) (O "_law_summed") [.ref i,t.d] h=.ok (.tup [(sm cs t).d,.int (tot 0 cs)]) h:=by
 rw[Zg H.law_summed (by rfl)];obtain⟨o,e⟩:=Zpb (U:=P.tbl n) hi cs t 0 Wl;have ei:evi (P.tbl n) Zbs [Wj (.ref i),Wj t.d,Wj (.int 0),Wl] h=.ok ⟨Wj (i,cs.map .int),cs.map .int⟩ h:=by rw[Zbs,ZmS];show R.ofO (Zbk (.ref i) h) h=_;rw[Zbk,hi];rfl
 exact congrArg ZaV ((Zb rfl).trans ((Zb ((ZjS ei).trans e)).trans (ZD (Zbo (ZeI (Zh rfl (Zh rfl rfl)) (by simp))))))
end K74L
end
section
namespace K74L
open PySem L2 IV Ce
variable {P:Pg}{h:Hd}{C:List Ce.Rw}{x f:Str}{e:T}{Ke Le:Nat}{due a:Int}
theorem Loop.up{b:T}{k l g K L k' K':Nat}{v:Nat->Int}(lp:Loop C f x b k l g K L v)(h1:k<=k')(h2:K<=K'):Loop C f x b k' l g K' L v:=λn q hn c=>(lp n q hn c).up (Nat.add_le_add (Nat.mul_le_mul_right _ h1) h2) rfl rfl
def lpw{w:Nat}(hw:w<4)(ne:x≠f)(n1:O "h" ≠ x)(he:Ends C x e Ke Le due):Loop C f x (bdw w f x e) 11 (lw w) 0 10 (Lw0 w+Le) (λ_=>due):=by
 have q:w=0\/w=1\/w=2\/w=3:=by lia
 rcases q with rfl|rfl|rfl|rfl
 . exact Loop.up (lp0 ne he) (by decide) (by decide)
 . exact Loop.up (lp1 ne he) (by decide) (by decide)
 . exact Loop.up (lp2 ne he) (by decide) (by decide)
 . exact Loop.up (lp3 ne n1 he) (by decide) (by decide)
def Zua(ha:0<=a/\a<1000000):Ends C x (.num a) 1 0 a:=⟨λ_ _ _ _=>Zb3,λ_ _ _=>ZqN,by decide,ha⟩
theorem Zt9(ha:0<=a/\a<1000000):Ends C x (.op .add (.name x) (.num a)) 3 1 a:=⟨fun sc E h1 h2=>by
 have:=ZfN (w:=.add) (Zcz (C:=C) h1 h2) (Zb3 (n:=a)) (by decide) ha;rw [show _root_.Rw.wk .add 0 a=a by show (0+a) % 1000000=a;lia] at this;exact this,fun _ _ _=>ZmP,by decide,ha⟩
def Zt8:Ends C x (less x) 3 1 999999:=⟨λsc E h1 h2=>ZfN (w:=.sub) (Zcz (C:=C) h1 h2) (Zb3 (n:=1)) (by decide) (by decide),λ_ _ _=>ZmP,by decide,by decide⟩
def ZoH{w:Nat}(hw:w<4)(ne:f≠x)(ce:Gn.Cl [x,f] e)(c3:Gn.Cl [O "h",x,f] (less x)){n:Nat}(hn:n<=40):Gn.Cl [] (.call (.rcc f x (bdw w f x e)) (.num n)):=by
 have cl:Gn.Cl [x,f] (less x):=⟨by simp[Gn.Cl],by simp[Gn.Cl]⟩
 have cn:Gn.Cl [] (.num (n:Int)):=⟨by lia,by lia⟩
 have cx:Gn.Cl [x,f] (.name x):=by simp[Gn.Cl]
 have cf:Gn.Cl [x,f] (.name f):=by simp[Gn.Cl]
 have q:w=0\/w=1\/w=2\/w=3:=by lia
 rcases q with rfl|rfl|rfl|rfl
 . exact⟨⟨⟨cx,⟨cf,cl⟩,ce⟩,ne⟩,cn⟩
 . exact⟨⟨⟨⟨cx,by simp[Gn.Cl]⟩,ce,⟨cf,cl⟩⟩,ne⟩,cn⟩
 . exact⟨⟨⟨cx,⟨by simp[Gn.Cl],⟨cf,cl⟩,by simp[Gn.Cl]⟩,ce⟩,ne⟩,cn⟩
 . exact⟨⟨⟨cx,⟨⟨by simp[Gn.Cl],c3⟩,cf⟩,ce⟩,ne⟩,cn⟩
def Znv(w:Nat){n:Int}(he:e.size<=3):(T.call (.rcc f x (bdw w f x e)) (.num n)).size<=20:=by unfold bdw;split<;>simp[bd0,bd1,bd2,bd3,hx,less,T.size,T.places]at *<;>lia
theorem Zph:∀(cs:List Int) {t:T},Gn.Cl [] t->Gn.Cl [] (sm cs t)
 |[],t,c=>c
 |a::cs,t,c=>Zph cs ⟨⟨Int.emod_nonneg _ (by decide),Int.emod_lt_of_pos _ (by decide)⟩,c⟩
theorem Zo5:∀(cs:List Int) (t:T),(sm cs t).size=2 * cs.length+t.size
 |[],t=>by simp[sm]
 |a::cs,t=>by
  rw[sm,Zo5 cs];simp[T.size,T.places]
  lia
end K74L
end
section
namespace K74L
open PySem L2 IV Ce
variable {P:Pg}{h:Hd}
def ZiR{n:Bool}{a b:Nat}{ds:List D}(hp:D.pures ds=Wm)(hd:D.dps ds<=1000)(e1:h[a]? = Wj (.lst ds))(e2:h[b]? = Wj (.lst ds)):IV.Zdr n (.ref a) (.ref b) h=.ok (.bl (!n)) h:=by
 obtain⟨ps,q1,q2,q3⟩:=pys_same (rd:=ZkT h 3) ds hp;have py:∀i,h[i]? = Wj (.lst ds)->ZkY h (.ref i)=Wj (.list ps):=λi e=>by
  show(match h[i]? with
   |some (.lst xs)=>(D.pys (ZkT h 3) xs).map PyData.list
   |_=>Wl)=_
  rw[e];simp only;rw[q1];rfl
 unfold IV.Zdr;rw[py a e1,py b e2];simp only;have dp:(PyData.list ps).depth<=1100:=by simp only[PyData.depth];lia
 rw[if_pos (by lia)];have:YM (.list ps) (.list ps)=Wm:=by simpa[YM]using q3
 rw[this];cases n<;>rfl
theorem Zl5(H:Lw P)(n:Nat){k:Nat}{xs0:List D}(hk:h[k]? = Wj (.lst xs0)):∀(xs:List Int) (j:Nat) (acc:List Int),acc.length+xs.length<=100->j+xs.length<=90->∃cs:List Int,cs.length=acc.length+xs.length /\
 ZaC (Wj (k,xs0)) (.two 0 1) (tsto (P.tbl (n+1)) Wl) (ev (P.tbl (n+1)) (.call (O "_law_mixed") (.cons (.var 1) (.cons (.bin .Add (.var 0) (.cst (.int 2))) .nil)))) (xs.mapIdx λq x=>D.tup [.int ((q+j:Nat):Int),.int x]) [Wl,Wl] (acc.map .int) h
  = .ok (cs.map .int) h
 |[],j,acc,_,_=>⟨acc,by simp,by simp[ZaC,Wk.stays,hk]⟩
 |x::xs,j,acc,h1,h2=>by
  simp only[Os]at h1 h2;obtain⟨v,e1,_⟩:=Zhc H n x ((j:Int)+2) ⟨by lia,by lia⟩ h;obtain⟨cs,q1,q2⟩:=Zl5 H n hk xs (j+1) (acc++[v]) (by simp;lia) (by lia);refine⟨cs,by simp at q1;simp;lia,?_⟩;have hz:acc.length<sizeLine:=by rw[Yz];lia
  have ei:(λ(q:Nat) (x:Int)=>D.tup [.int ((q+1+j:Nat):Int),.int x])=λq x=>D.tup [.int ((q+(j+1):Nat):Int),.int x]:=by funext q x;rw[show q+1+j=q+(j+1) by lia]
  have ee:ev (P.tbl (n+1)) (.call (O "_law_mixed") (.cons (.var 1) (.cons (.bin .Add (.var 0) (.cst (.int 2))) .nil))) [Wj (.int ((0+j:Nat):Int)),Wj (.int x)] h=.ok (.int v) h:=Zaw (by rw[Nat.zero_add];exact e1) rfl;rw[List.mapIdx_cons,ZdS];simp only[Wk.stays,hk,decide_true,true_and,Ys,hz,if_true,Znc,List.set_cons_zero,List.set_cons_succ,ZkP,ZbC,ee];rw[ei];have:=q2;simp only[List.map_append,Op,Oy]at this;exact this
noncomputable def gtE:Ex:=.blt .int (.cons (.cmp .Gt (.bin .Mod (.bin .FloorDiv (.var 1) (.cst (.int 656))) (.cst (.int 3))) (.cst (.int 0))) .nil)
inductive Drawn(P:Pg)(N:Nat)(ro:D):Prop
 |mk (h:Hd) (fst w n:Nat) (x f:Str) (a:Int) (e:T) (due:Int) (l ci:Nat) (Ke Le:Nat) (cs:List Int) (o4 o8:D) (o7:D)
  (run:∀r,xs2 (P.tbl N) (.cons Zib (.cons Zia (.cons Zh9 (.cons ZkI (.cons Zh8 (.cons Zh7 (.cons Zh6 (.cons Zh5 (.cons Zfr (.cons Zgn (.cons Zgm r))))))))))) [Wj ro,Wl,Wl,Wl,Wl,Wl,Wl,Wl,Wl,Wl,Wl,Wl,Wl,Wl,Wl,Wl,Wl] []=xs2 (P.tbl N) r [Wj ro,Wj (.int (fst:Int)),Wj (.int (w:Int)),Wj (.int (n:Int)),Wj o4,Wj (.str x),Wj (.str f),Wj o7,Wj o8,Wj e.d,Wj (.int due),Wj (.int ((1+(lw w * n+Lw0 w)+Le:Nat):Int)),Wj (.ref ci),Wl,Wl,Wl,Wl] h)
  (hw:w<4) (hn:n<=40) (nx:x≠f) (n1:O "h" ≠ x) (ce:Gn.Cl [x,f] e) (c3:Gn.Cl [O "h",x,f] (less x)) (se:e.size<=3) (he:∀C,Ends C x e Ke Le due) (hg:∀(U:Tb) (S:Ev) (h:Hd),(S[1]?).join=Wj (.int (fst:Int))->ev U gtE S h=.ok (.int (Le:Int)) h) (hc:h[ci]? = Wj (.lst (cs.map .int))) (hl:cs.length<=30):Drawn P N ro
noncomputable def nms:List D:=[.str (O "x"),.str (O "f"),.str (O "h"),.str (O "xa"),.str (O "fx")]
def Zuf(b:Nat)(hb:b<2):∃x,atI nms ((b:Int) * 3)=Wj (.str x)/\(x=O "x" \/ x=O "xa"):=by
 have q:b=0\/b=1:=by lia
 rcases q with rfl|rfl
 . exact⟨_,rfl,.inl rfl⟩
 . exact⟨_,rfl,.inr rfl⟩
def Zug(b:Nat)(hb:b<2):∃x,atI nms (1+(b:Int) * 3)=Wj (.str x)/\(x=O "f" \/ x=O "fx"):=by
 have q:b=0\/b=1:=by lia
 rcases q with rfl|rfl
 . exact⟨_,rfl,.inl rfl⟩
 . exact⟨_,rfl,.inr rfl⟩
noncomputable def ends(x:Str)(a:Int):List D:=[.tup [(T.num a).d,.int a],.tup [(T.op .add (.name x) (.num a)).d,.int a],.tup [(less x).d,.int 999999]]
def Zuh(x f:Str)(a:Int)(ha:0<=a/\a<1000000)(b:Nat)(hb:b<3):∃e due Ke Le,atI (ends x a) (b:Int)=Wj (.tup [T.d e,.int due])/\(∀C,Ends C x e Ke Le due)/\Gn.Cl [x,f] e/\e.size<=3/\Le=if b > 0 then 1 else 0:=by
 have q:b=0\/b=1\/b=2:=by lia
 rcases q with rfl|rfl|rfl
 . exact⟨_,_,_,_,rfl,λC=>Zua ha,ha,by simp[T.size,T.places],rfl⟩
 . exact⟨_,_,_,_,rfl,λC=>Zt9 ha,⟨by simp[Gn.Cl],ha⟩,by simp[T.size,T.places],rfl⟩
 . exact⟨_,_,_,_,rfl,λC=>Zt8,⟨by simp[Gn.Cl],by simp[Gn.Cl]⟩,by simp[less,T.size,T.places],rfl⟩
def ZkH{m k v:Nat}(hm:0<m):∃b:Nat,b<m/\(v:Int) / (k:Nat) % (m:Nat)=(b:Int):=⟨v / k % m,Nat.mod_lt _ hm,by norm_cast⟩
def ZmY{U:Tb}{S:Ev}{i:Nat}{x:Int}{k m b:Nat}(hm:0<m)(hk:0<k/\k<1073741824)(hv:(S[i]?).join=Wj (.int x))(e:x / k % m=(b:Int)):ev U (.bin .Mod (.bin .FloorDiv (.var i) (.cst (.int (k:Int)))) (.cst (.int (m:Int)))) S h=.ok (.int (b:Int)) h:=by refine(Zj ((Zj (x:=.int x) (by rw[ZjU,hv];rfl) rfl).trans (Zoi (by lia))) rfl).trans ?_;rw[Zao (by lia),e]
def drawn(H:Lw P)(n:Nat)(zs:List Int)(hz:zs.length<=63):Drawn P (n+3) (.ro (zs.map .int)):=by
 obtain⟨v,e1,hv⟩:=Zl7 H (n+1) zs 0 (by decide) [];obtain⟨v,rfl⟩:=Int.eq_ofNat_of_zero_le hv;obtain⟨w,hw,ew⟩:∃b:Nat,b<4/\(v:Int) % 4=(b:Int):=⟨v % 4,Nat.mod_lt _ (by decide),by norm_cast⟩
 obtain⟨m,hm,em⟩:=ZkH (v:=v) (k:=4) (m:=41) (by decide);obtain⟨bx,hbx,ebx⟩:=ZkH (v:=v) (k:=164) (m:=2) (by decide);obtain⟨bf,hbf,ebf⟩:=ZkH (v:=v) (k:=328) (m:=2) (by decide);obtain⟨be,hbe,ebe⟩:=ZkH (v:=v) (k:=656) (m:=3) (by decide);obtain⟨x,ax,hx⟩:=Zuf bx hbx;obtain⟨f,af,hf⟩:=Zug bf hbf;obtain⟨a0,e7,_⟩:=Zl7 H (n+1) zs 1 (by decide) [.lst nms];have ha:0<=a0 % 1000000/\a0 % 1000000<1000000:=⟨Int.emod_nonneg _ (by decide),Int.emod_lt_of_pos _ (by decide)⟩
 have nx:x≠f:=by rcases hx with rfl|rfl<;>rcases hf with rfl|rfl<;>decide
 have n1:O "h" ≠ x:=by rcases hx with rfl|rfl<;>decide
 obtain⟨e,due,Ke,Le,ae,he,ce,se,hLe⟩:=Zuh x f (a0 % 1000000) ha be hbe;generalize hA:a0 % 1000000=a at *;have e8:=Zjl H (n+2) x [.lst nms];have e10:=ZpN H (n+2) w m hw (by lia) [.lst nms,.lst (ends x a)];obtain⟨ys,hy,osl⟩:∃ys:List Int,ys.length<=30/\∀h:Hd,IV.Zk8 (.ro (zs.map D.int)) (Wj 2) (Wj 32) h=.ok (.ref h.length) (h++[.lst (ys.map .int)]):=by
  refine⟨(zs.drop (HT.sIx zs.length 0 (Wj 2))).take (HT.sIx zs.length zs.length (Wj 32) - HT.sIx zs.length 0 (Wj 2)),?_,λh=>?_⟩
  . rw[List.length_take,List.length_drop];simp only[HT.sIx];split<;>split<;>lia
  . show ZcS (.lst (cutD (zs.map D.int) (Wj 2) (Wj 32))) h=_;simp[cutD,List.map_drop,List.map_take]
 obtain⟨cs,hcl,ec⟩:=Zl5 H (n+2) (h:=[.lst nms,.lst (ends x a)]++[.lst (ys.map .int)]) (k:=2) (xs0:=ys.map .int) rfl ys 0 [] (by simp;lia) (by lia);have en:ZcQ (ys.map D.int)=ys.mapIdx λq x=>D.tup [.int ((q+0:Nat):Int),.int x]:=by unfold ZcQ;apply List.ext_getElem?;intro q;simp[List.getElem?_mapIdx];cases ys[q]?<;>rfl
 rw[<- en]at ec;have gE:∀(U:Tb) (S:Ev) (h:Hd),(S[1]?).join=Wj (.int (v:Int))->ev U gtE S h=.ok (.int (Le:Int)) h:=λU S h hr=>by
  have q:ev U (.cmp .Gt (.bin .Mod (.bin .FloorDiv (.var 1) (.cst (.int 656))) (.cst (.int 3))) (.cst (.int 0))) S h=.ok (.bl (Wo ((0:Int)<(be:Int)))) h:=(Za1 (ZmY (k:=656) (m:=3) (by decide) (by decide) hr ebe) rfl).trans rfl;refine(ZjV (Zh q rfl) rfl).trans ?_;rw[hLe];by_cases z:be > 0
  . rw[if_pos z,decide_eq_true (by lia)];rfl
  . rw[if_neg z,decide_eq_false (by lia)];rfl
 generalize D.ro (zs.map .int)=ro at *;refine⟨[.lst nms,.lst (ends x a)]++[.lst (ys.map .int)]++[.lst (cs.map .int)],v,w,m,x,f,a,e,due,0,3,Ke,Le,cs,.ref 0,.ref 1,.int a,λr=>?_,hw,by lia,nx,n1,ce,⟨by simp[Gn.Cl],by simp[Gn.Cl]⟩,se,he,gE,rfl,by simp at hcl;lia⟩;have x1:xs1 (P.tbl (n+3)) Zib [Wj ro,Wl,Wl,Wl,Wl,Wl,Wl,Wl,Wl,Wl,Wl,Wl,Wl,Wl,Wl,Wl,Wl] []=.ok (.nx,[Wj ro,Wj (.int (v:Int)),Wl,Wl,Wl,Wl,Wl,Wl,Wl,Wl,Wl,Wl,Wl,Wl,Wl,Wl,Wl]) []:=ZU (Zaw e1 rfl);have x2:xs1 (P.tbl (n+3)) Zia [Wj ro,Wj (.int (v:Int)),Wl,Wl,Wl,Wl,Wl,Wl,Wl,Wl,Wl,Wl,Wl,Wl,Wl,Wl,Wl] []=.ok (.nx,[Wj ro,Wj (.int (v:Int)),Wj (.int (w:Int)),Wl,Wl,Wl,Wl,Wl,Wl,Wl,Wl,Wl,Wl,Wl,Wl,Wl,Wl]) []:=ZU ((Zj rfl rfl).trans ((Zao (by decide)).trans (by rw[ew])));have x3:xs1 (P.tbl (n+3)) Zh9 [Wj ro,Wj (.int (v:Int)),Wj (.int (w:Int)),Wl,Wl,Wl,Wl,Wl,Wl,Wl,Wl,Wl,Wl,Wl,Wl,Wl,Wl] []=.ok (.nx,[Wj ro,Wj (.int (v:Int)),Wj (.int (w:Int)),Wj (.int (m:Int)),Wl,Wl,Wl,Wl,Wl,Wl,Wl,Wl,Wl,Wl,Wl,Wl,Wl]) []:=ZU (ZmY (k:=4) (m:=41) (by decide) (by decide) rfl em);have ix:∀(U:Tb) (S:Ev) (e:Ex) (z:Int) (d:D) (g:Hd),(S[4]?).join=Wj (.ref 0)->ev U e S ([.lst nms]++g)=.ok (.int z) ([.lst nms]++g)->atI nms z=Wj d->ev U (.ix (.var 4) e) S ([.lst nms]++g)=.ok d ([.lst nms]++g):=λU S e z d g h1 h2 h3=>by refine(Zge (x:=.ref 0) (by rw[ZjU,h1];rfl) h2).trans ?_;rw[Zd5 (xs:=nms) rfl,h3];rfl
 have x5:xs1 (P.tbl (n+3)) Zh8 [Wj ro,Wj (.int (v:Int)),Wj (.int (w:Int)),Wj (.int (m:Int)),Wj (.ref 0),Wl,Wl,Wl,Wl,Wl,Wl,Wl,Wl,Wl,Wl,Wl,Wl] [.lst nms]=.ok (.nx,[Wj ro,Wj (.int (v:Int)),Wj (.int (w:Int)),Wj (.int (m:Int)),Wj (.ref 0),Wj (.str x),Wl,Wl,Wl,Wl,Wl,Wl,Wl,Wl,Wl,Wl,Wl]) [.lst nms]:=ZU (ix _ _ _ _ _ [] rfl ((Zj (ZmY (k:=164) (m:=2) (by decide) (by decide) rfl ebx) rfl).trans (ZaQ ⟨Gn.Zz (by lia) (by lia),by decide⟩)) ax);have x6:xs1 (P.tbl (n+3)) Zh7 [Wj ro,Wj (.int (v:Int)),Wj (.int (w:Int)),Wj (.int (m:Int)),Wj (.ref 0),Wj (.str x),Wl,Wl,Wl,Wl,Wl,Wl,Wl,Wl,Wl,Wl,Wl] [.lst nms]=.ok (.nx,[Wj ro,Wj (.int (v:Int)),Wj (.int (w:Int)),Wj (.int (m:Int)),Wj (.ref 0),Wj (.str x),Wj (.str f),Wl,Wl,Wl,Wl,Wl,Wl,Wl,Wl,Wl,Wl]) [.lst nms]:=ZU (ix _ _ _ _ _ [] rfl ((Zj rfl ((Zj (ZmY (k:=328) (m:=2) (by decide) (by decide) rfl ebf) rfl).trans (ZaQ ⟨Gn.Zz (by lia) (by lia),by decide⟩))).trans rfl) af);have x7:xs1 (P.tbl (n+3)) Zh6 [Wj ro,Wj (.int (v:Int)),Wj (.int (w:Int)),Wj (.int (m:Int)),Wj (.ref 0),Wj (.str x),Wj (.str f),Wl,Wl,Wl,Wl,Wl,Wl,Wl,Wl,Wl,Wl] [.lst nms]=.ok (.nx,[Wj ro,Wj (.int (v:Int)),Wj (.int (w:Int)),Wj (.int (m:Int)),Wj (.ref 0),Wj (.str x),Wj (.str f),Wj (.int a),Wl,Wl,Wl,Wl,Wl,Wl,Wl,Wl,Wl]) [.lst nms]:=ZU ((Zj (Zaw e7 rfl) rfl).trans ((Zao (by decide)).trans (by rw[hA])));have x8:xs1 (P.tbl (n+3)) Zh5 [Wj ro,Wj (.int (v:Int)),Wj (.int (w:Int)),Wj (.int (m:Int)),Wj (.ref 0),Wj (.str x),Wj (.str f),Wj (.int a),Wl,Wl,Wl,Wl,Wl,Wl,Wl,Wl,Wl] [.lst nms]=.ok (.nx,[Wj ro,Wj (.int (v:Int)),Wj (.int (w:Int)),Wj (.int (m:Int)),Wj (.ref 0),Wj (.str x),Wj (.str f),Wj (.int a),Wj (.ref 1),Wl,Wl,Wl,Wl,Wl,Wl,Wl,Wl]) [.lst nms,.lst (ends x a)]:=ZU (ZoB (h1:=[.lst nms]) (xs:=ends x a) (Zh rfl (Zh rfl (Zh (ZeI (xs:=[(less x).d,.int 999999]) (Zh (Zaw e8 rfl) rfl) (by simp)) rfl))) (by simp[ends]));have x9:xs1 (P.tbl (n+3)) Zfr [Wj ro,Wj (.int (v:Int)),Wj (.int (w:Int)),Wj (.int (m:Int)),Wj (.ref 0),Wj (.str x),Wj (.str f),Wj (.int a),Wj (.ref 1),Wl,Wl,Wl,Wl,Wl,Wl,Wl,Wl] [.lst nms,.lst (ends x a)]=.ok (.nx,[Wj ro,Wj (.int (v:Int)),Wj (.int (w:Int)),Wj (.int (m:Int)),Wj (.ref 0),Wj (.str x),Wj (.str f),Wj (.int a),Wj (.ref 1),Wj e.d,Wj (.int due),Wl,Wl,Wl,Wl,Wl,Wl]) [.lst nms,.lst (ends x a)]:=by
  have q:ev (P.tbl (n+3)) (.ix (.var 8) (.bin .Mod (.bin .FloorDiv (.var 1) (.cst (.int 656))) (.cst (.int 3)))) [Wj ro,Wj (.int (v:Int)),Wj (.int (w:Int)),Wj (.int (m:Int)),Wj (.ref 0),Wj (.str x),Wj (.str f),Wj (.int a),Wj (.ref 1),Wl,Wl,Wl,Wl,Wl,Wl,Wl,Wl] [.lst nms,.lst (ends x a)]=.ok (.tup [e.d,.int due]) [.lst nms,.lst (ends x a)]:=by refine(Zge (x:=.ref 1) rfl (ZmY (k:=656) (m:=3) (by decide) (by decide) rfl ebe)).trans ?_;rw[Zd5 (xs:=ends x a) rfl,ae];rfl
  rw[Zfr,Zg4,q];rfl
 have x10:xs1 (P.tbl (n+3)) Zgn [Wj ro,Wj (.int (v:Int)),Wj (.int (w:Int)),Wj (.int (m:Int)),Wj (.ref 0),Wj (.str x),Wj (.str f),Wj (.int a),Wj (.ref 1),Wj e.d,Wj (.int due),Wl,Wl,Wl,Wl,Wl,Wl] [.lst nms,.lst (ends x a)]=.ok (.nx,[Wj ro,Wj (.int (v:Int)),Wj (.int (w:Int)),Wj (.int (m:Int)),Wj (.ref 0),Wj (.str x),Wj (.str f),Wj (.int a),Wj (.ref 1),Wj e.d,Wj (.int due),Wj (.int ((1+(lw w * m+Lw0 w)+Le:Nat):Int)),Wl,Wl,Wl,Wl,Wl]) [.lst nms,.lst (ends x a)]:=ZU ((Zj (Zaw e10 rfl) (gE _ _ _ rfl)).trans rfl);have ei:evi (P.tbl (n+3)) (.enu (.sl (.var 0) (Wj (.cst (.int 2))) (Wj (.cst (.int 32))))) [Wj ro,Wj (.int (v:Int)),Wj (.int (w:Int)),Wj (.int (m:Int)),Wj (.ref 0),Wj (.str x),Wj (.str f),Wj (.int a),Wj (.ref 1),Wj e.d,Wj (.int due),Wj (.int ((1+(lw w * m+Lw0 w)+Le:Nat):Int)),Wl,Wl,Wl,Wl,Wl] [.lst nms,.lst (ends x a)]=.ok ⟨Wj (2,ys.map .int),ZcQ (ys.map D.int)⟩ ([.lst nms,.lst (ends x a)]++[.lst (ys.map .int)]):=by rw[Zoy,show ev (P.tbl (n+3)) (.sl (.var 0) (Wj (.cst (.int 2))) (Wj (.cst (.int 32)))) [Wj ro,Wj (.int (v:Int)),Wj (.int (w:Int)),Wj (.int (m:Int)),Wj (.ref 0),Wj (.str x),Wj (.str f),Wj (.int a),Wj (.ref 1),Wj e.d,Wj (.int due),Wj (.int ((1+(lw w * m+Lw0 w)+Le:Nat):Int)),Wl,Wl,Wl,Wl,Wl] [.lst nms,.lst (ends x a)]=.ok (.ref 2) ([.lst nms,.lst (ends x a)]++[.lst (ys.map .int)])from osl _,ZbC];rfl
 have x11:xs1 (P.tbl (n+3)) Zgm [Wj ro,Wj (.int (v:Int)),Wj (.int (w:Int)),Wj (.int (m:Int)),Wj (.ref 0),Wj (.str x),Wj (.str f),Wj (.int a),Wj (.ref 1),Wj e.d,Wj (.int due),Wj (.int ((1+(lw w * m+Lw0 w)+Le:Nat):Int)),Wl,Wl,Wl,Wl,Wl] [.lst nms,.lst (ends x a)]=.ok (.nx,[Wj ro,Wj (.int (v:Int)),Wj (.int (w:Int)),Wj (.int (m:Int)),Wj (.ref 0),Wj (.str x),Wj (.str f),Wj (.int a),Wj (.ref 1),Wj e.d,Wj (.int due),Wj (.int ((1+(lw w * m+Lw0 w)+Le:Nat):Int)),Wj (.ref 3),Wl,Wl,Wl,Wl]) ([.lst nms,.lst (ends x a)]++[.lst (ys.map .int)]++[.lst (cs.map .int)]):=ZU (ZsD (h2:=[.lst nms,.lst (ends x a)]++[.lst (ys.map .int)]) (xs:=cs.map .int) ei ec);exact(Zb x1).trans ((Zb x2).trans ((Zb x3).trans ((Zb rfl).trans ((Zb x5).trans ((Zb x6).trans ((Zb x7).trans ((Zb x8).trans ((Zb x9).trans ((Zb x10).trans (Zb x11))))))))))
end K74L
end
section
namespace K74L
open PySem L2 IV Ce
variable {P:Pg}{h:Hd}
def ZrN(H:Lw P)(zs:List Int)(hz:zs.length<=63):∃h',run P (250+1) (O "law") [.ro (zs.map .int)] []=.ok (.bl Wm) h':=by
 cases drawn H 247 zs hz with
 |mk h fst w n x f a e due l ci Ke Le cs o4 o8 o7 er hw hn nx n1 ce c3 se he hg hc hl=>
 rw[Zg H.law (by rfl)];generalize D.ro (zs.map .int)=ro at *;have k3:=(he []).k;have dd:=(he []).d;have ct0:=ZoH (e:=e) hw (YI nx) ce c3 hn;have sz0:=Znv (f:=f) (x:=x) w (n:=(n:Int)) se;generalize ht:sm cs (.call (.rcc f x (bdw w f x e)) (.num n))=t;have ct:Gn.Cl [] t:=ht ▸ Zph cs ct0;have sz:t.size<=100:=by rw[<- ht,Zo5];lia
 have n0:Nt (code t) [] [] (.call (.rcc f x (bdw w f x e)) (.num n)) (3+(11 * n+10)) (1+(lw w * n+(Lw0 w+Le))) 1 (·=Zd ((0+due) % 1000000)):=by rw[show(0+due) % 1000000=due by lia];exact(Ziv (lpw hw nx n1 (he (code t))) hn).up (Oq _) rfl (by simp)
 have n2:=Zmu cs n0;rw[ht]at n2;obtain⟨h1,j,e2,hj,s1⟩:=Ziq H 243 ct (by lia) (by lia) n2 h;have hc1:h1[ci]? = Wj (.lst (cs.map .int)):=by rw[s1.2 ci (ZbT hc)];exact hc
 have hci:=ZbT hc;generalize hds:[Zd ((tot 0 cs+due) % 1000000),D.int ((cs.length+(1+(lw w * n+(Lw0 w+Le))):Nat):Int),D.int ((1:Nat):Int)]=ds at *;have x12:xs1 (P.tbl 250) Zgl [Wj ro,Wj (.int (fst:Int)),Wj (.int (w:Int)),Wj (.int (n:Int)),Wj o4,Wj (.str x),Wj (.str f),Wj o7,Wj o8,Wj e.d,Wj (.int due),Wj (.int ((1+(lw w * n+Lw0 w)+Le:Nat):Int)),Wj (.ref ci),Wl,Wl,Wl,Wl] h=.ok (.nx,[Wj ro,Wj (.int (fst:Int)),Wj (.int (w:Int)),Wj (.int (n:Int)),Wj o4,Wj (.str x),Wj (.str f),Wj o7,Wj o8,Wj e.d,Wj (.int due),Wj (.int ((1+(lw w * n+Lw0 w)+Le:Nat):Int)),Wj (.ref ci),Wj t.d,Wj (.int (tot 0 cs)),Wl,Wl]) h:=by
  have q:ev (P.tbl 250) (.call (O "_law_summed") (.cons (.var 12) (.cons (.tupl (.cons (.cst (.str (O "call"))) (.cons (.call (O "_law_loop") (.cons (.var 2) (.cons (.var 5) (.cons (.var 6) (.cons (.var 9) .nil))))) (.cons (.tupl (.cons (.cst (.str (O "num"))) (.cons (.var 3) .nil))) .nil)))) .nil))) [Wj ro,Wj (.int (fst:Int)),Wj (.int (w:Int)),Wj (.int (n:Int)),Wj o4,Wj (.str x),Wj (.str f),Wj o7,Wj o8,Wj e.d,Wj (.int due),Wj (.int ((1+(lw w * n+Lw0 w)+Le:Nat):Int)),Wj (.ref ci),Wl,Wl,Wl,Wl] h=.ok (.tup [t.d,.int (tot 0 cs)]) h:=by rw[<- ht];exact Zaw (ZlZ H 249 hc (.call (.rcc f x (bdw w f x e)) (.num n))) (Zh rfl (Zh (ZeI (xs:=[.str (O "call"),(T.rcc f x (bdw w f x e)).d,(T.num n).d]) (Zh rfl (Zh (Zaw (ZpO H 248 w hw f x e h) rfl) rfl)) (by simp)) rfl))
  rw[Zgl,Zg4,q];rfl
 have x13:xs1 (P.tbl 250) Zi8 [Wj ro,Wj (.int (fst:Int)),Wj (.int (w:Int)),Wj (.int (n:Int)),Wj o4,Wj (.str x),Wj (.str f),Wj o7,Wj o8,Wj e.d,Wj (.int due),Wj (.int ((1+(lw w * n+Lw0 w)+Le:Nat):Int)),Wj (.ref ci),Wj t.d,Wj (.int (tot 0 cs)),Wl,Wl] h=.ok (.nx,[Wj ro,Wj (.int (fst:Int)),Wj (.int (w:Int)),Wj (.int (n:Int)),Wj o4,Wj (.str x),Wj (.str f),Wj o7,Wj o8,Wj e.d,Wj (.int due),Wj (.int ((1+(lw w * n+Lw0 w)+Le:Nat):Int)),Wj (.ref ci),Wj t.d,Wj (.int (tot 0 cs)),Wj (.ref j),Wl]) h1:=ZU (Zaw e2 rfl);have cast1:((1+(lw w * n+Lw0 w)+Le:Nat):Int)+(cs.length:Int)=((cs.length+(1+(lw w * n+(Lw0 w+Le))):Nat):Int):=by
  generalize lw w * n=q
  lia
 have x14:xs1 (P.tbl 250) Zi7 [Wj ro,Wj (.int (fst:Int)),Wj (.int (w:Int)),Wj (.int (n:Int)),Wj o4,Wj (.str x),Wj (.str f),Wj o7,Wj o8,Wj e.d,Wj (.int due),Wj (.int ((1+(lw w * n+Lw0 w)+Le:Nat):Int)),Wj (.ref ci),Wj t.d,Wj (.int (tot 0 cs)),Wj (.ref j),Wl] h1=.ok (.nx,[Wj ro,Wj (.int (fst:Int)),Wj (.int (w:Int)),Wj (.int (n:Int)),Wj o4,Wj (.str x),Wj (.str f),Wj o7,Wj o8,Wj e.d,Wj (.int due),Wj (.int ((1+(lw w * n+Lw0 w)+Le:Nat):Int)),Wj (.ref ci),Wj t.d,Wj (.int (tot 0 cs)),Wj (.ref j),Wl]) (h1++[.lst ds]):=by
  refine(ZaB (Zox ((Za1 (x:=.ref j) (y:=.ref h1.length) rfl (ZoB (xs:=ds) ?_ (by subst hds;simp))).trans ?_))).trans rfl
  . have q1:ev (P.tbl 250) (.tupl (.cons (.cst (.str (O "num"))) (.cons (.bin .Mod (.bin .Add (.var 14) (.var 10)) (.cst (.int 1000000))) .nil))) [Wj ro,Wj (.int (fst:Int)),Wj (.int (w:Int)),Wj (.int (n:Int)),Wj o4,Wj (.str x),Wj (.str f),Wj o7,Wj o8,Wj e.d,Wj (.int due),Wj (.int ((1+(lw w * n+Lw0 w)+Le:Nat):Int)),Wj (.ref ci),Wj t.d,Wj (.int (tot 0 cs)),Wj (.ref j),Wl] h1=.ok (Zd ((tot 0 cs+due) % 1000000)) h1:=ZeI (xs:=[.str (O "num"),.int ((tot 0 cs+due) % 1000000)]) (Zh rfl (Zh ((Zj (x:=.int (tot 0 cs+due)) rfl rfl).trans (Zao (by decide))) rfl)) (by simp);have q2:ev (P.tbl 250) (.bin .Add (.var 11) (.blt .len (.cons (.var 12) .nil))) [Wj ro,Wj (.int (fst:Int)),Wj (.int (w:Int)),Wj (.int (n:Int)),Wj o4,Wj (.str x),Wj (.str f),Wj o7,Wj o8,Wj e.d,Wj (.int due),Wj (.int ((1+(lw w * n+Lw0 w)+Le:Nat):Int)),Wj (.ref ci),Wj t.d,Wj (.int (tot 0 cs)),Wj (.ref j),Wl] h1=.ok (.int ((cs.length+(1+(lw w * n+(Lw0 w+Le))):Nat):Int)) h1:=by rw[<- cast1];refine(Zj rfl (ZjV (Zh rfl rfl) (Zsp hc1))).trans ?_;rw[Ys];rfl
    rw[<- hds];exact Zh q1 (Zh q2 (Zh rfl rfl))
  . exact ZiR (n:=true) (by subst hds;rfl) (by subst hds;simp[Zd,D.dps,D.dp]) (by rw[Oe (ZbT hj)];exact hj) ZoV
 have x15:xs1 (P.tbl 250) Zi5 [Wj ro,Wj (.int (fst:Int)),Wj (.int (w:Int)),Wj (.int (n:Int)),Wj o4,Wj (.str x),Wj (.str f),Wj o7,Wj o8,Wj e.d,Wj (.int due),Wj (.int ((1+(lw w * n+Lw0 w)+Le:Nat):Int)),Wj (.ref ci),Wj t.d,Wj (.int (tot 0 cs)),Wj (.ref j),Wl] (h1++[.lst ds])=.ok (.nx,[Wj ro,Wj (.int (fst:Int)),Wj (.int (w:Int)),Wj (.int (n:Int)),Wj o4,Wj (.str x),Wj (.str f),Wj o7,Wj o8,Wj e.d,Wj (.int due),Wj (.int ((1+(lw w * n+Lw0 w)+Le:Nat):Int)),Wj (.ref ci),Wj t.d,Wj (.int (tot 0 cs)),Wj (.ref j),Wj (T.op .add (.num 2) (.call (.name f) (less x))).d]) (h1++[.lst ds]):=ZU (ZeI (xs:=[.str (O "+"),(T.num 2).d,(T.call (.name f) (less x)).d]) (Zh rfl (Zh rfl (Zh (ZeI (xs:=[.str (O "call"),(T.name f).d,(less x).d]) (Zh rfl (Zh rfl (Zh (Zaw (Zjl H 249 x _) rfl) rfl))) (by simp)) rfl))) (by simp));have x16:xs1 (P.tbl 250) Zi4 [Wj ro,Wj (.int (fst:Int)),Wj (.int (w:Int)),Wj (.int (n:Int)),Wj o4,Wj (.str x),Wj (.str f),Wj o7,Wj o8,Wj e.d,Wj (.int due),Wj (.int ((1+(lw w * n+Lw0 w)+Le:Nat):Int)),Wj (.ref ci),Wj t.d,Wj (.int (tot 0 cs)),Wj (.ref j),Wj (T.op .add (.num 2) (.call (.name f) (less x))).d] (h1++[.lst ds])=.ok (.nx,[Wj ro,Wj (.int (fst:Int)),Wj (.int (w:Int)),Wj (.int (n:Int)),Wj o4,Wj (.str x),Wj (.str f),Wj o7,Wj o8,Wj e.d,Wj (.int due),Wj (.int ((1+(lw w * n+Lw0 w)+Le:Nat):Int)),Wj (.ref ci),Wj (T.call (.rcc f x (bd4 f x e)) (.num n)).d,Wj (.int (tot 0 cs)),Wj (.ref j),Wj (T.op .add (.num 2) (.call (.name f) (less x))).d]) (h1++[.lst ds]):=rfl;have x17:xs1 (P.tbl 250) Zi3 [Wj ro,Wj (.int (fst:Int)),Wj (.int (w:Int)),Wj (.int (n:Int)),Wj o4,Wj (.str x),Wj (.str f),Wj o7,Wj o8,Wj e.d,Wj (.int due),Wj (.int ((1+(lw w * n+Lw0 w)+Le:Nat):Int)),Wj (.ref ci),Wj (T.call (.rcc f x (bd4 f x e)) (.num n)).d,Wj (.int (tot 0 cs)),Wj (.ref j),Wj (T.op .add (.num 2) (.call (.name f) (less x))).d] (h1++[.lst ds])=.ok (.nx,[Wj ro,Wj (.int (fst:Int)),Wj (.int (w:Int)),Wj (.int (n:Int)),Wj o4,Wj (.str x),Wj (.str f),Wj o7,Wj o8,Wj e.d,Wj (.int due),Wj (.int ((1+(4 * n+(1+Le)):Nat):Int)),Wj (.ref ci),Wj (T.call (.rcc f x (bd4 f x e)) (.num n)).d,Wj (.int (tot 0 cs)),Wj (.ref j),Wj (T.op .add (.num 2) (.call (.name f) (less x))).d]) (h1++[.lst ds]):=by rw[show((1+(4 * n+(1+Le)):Nat):Int)=4 * (n:Int)+2+(Le:Int) by lia];exact ZU ((Zj ((Zj ((Zj rfl rfl).trans (ZaQ ⟨by decide,Gn.Zz (by lia) (by lia)⟩)) rfl).trans rfl) (hg _ _ _ rfl)).trans rfl)
 have ct4:Gn.Cl [] (.call (.rcc f x (bd4 f x e)) (.num n)):=by
  have cl:Gn.Cl [x,f] (less x):=⟨by simp[Gn.Cl],by simp[Gn.Cl]⟩
  have cn:Gn.Cl [] (.num (n:Int)):=⟨by lia,by lia⟩
  exact⟨⟨⟨by simp[Gn.Cl],⟨by simp[Gn.Cl],⟨by simp[Gn.Cl],cl⟩⟩,ce⟩,YI nx⟩,cn⟩
 have sz4:(T.call (.rcc f x (bd4 f x e)) (.num n)).size<=100:=by
  simp[bd4,less,T.size,T.places]at *
  lia
 obtain⟨h3,j3,e3,hj3,s3⟩:=Ziq H 243 ct4 (by lia) (by lia) (Ziv (lp4 nx (he (code (.call (.rcc f x (bd4 f x e)) (.num n))))) hn) (h1++[.lst ds]);have v4:Zd ((2 * (n:Int)+due) % 1000000)=.tup [.str (O "num"),.int ((2 * (n:Int)+due) % 1000000)]:=rfl;have x18:xs1 (P.tbl 250) Zi2 [Wj ro,Wj (.int (fst:Int)),Wj (.int (w:Int)),Wj (.int (n:Int)),Wj o4,Wj (.str x),Wj (.str f),Wj o7,Wj o8,Wj e.d,Wj (.int due),Wj (.int ((1+(4 * n+(1+Le)):Nat):Int)),Wj (.ref ci),Wj (T.call (.rcc f x (bd4 f x e)) (.num n)).d,Wj (.int (tot 0 cs)),Wj (.ref j),Wj (T.op .add (.num 2) (.call (.name f) (less x))).d] (h1++[.lst ds])=.ok (.rt (.bl Wm),[Wj ro,Wj (.int (fst:Int)),Wj (.int (w:Int)),Wj (.int (n:Int)),Wj o4,Wj (.str x),Wj (.str f),Wj o7,Wj o8,Wj e.d,Wj (.int due),Wj (.int ((1+(4 * n+(1+Le)):Nat):Int)),Wj (.ref ci),Wj (T.call (.rcc f x (bd4 f x e)) (.num n)).d,Wj (.int (tot 0 cs)),Wj (.ref j),Wj (T.op .add (.num 2) (.call (.name f) (less x))).d]) (h3++[.lst [Zd ((2 * (n:Int)+due) % 1000000),.int ((1+(4 * n+(1+Le)):Nat):Int),.int ((1 * n+1:Nat):Int)]]):=by
  refine Zbo ((Za1 (x:=.ref j3) (y:=.ref h3.length) (Zaw e3 rfl) (ZoB (xs:=[Zd ((2 * (n:Int)+due) % 1000000),.int ((1+(4 * n+(1+Le)):Nat):Int),.int ((1 * n+1:Nat):Int)]) ?_ (by simp))).trans ?_)
  . have q1:ev (P.tbl 250) (.tupl (.cons (.cst (.str (O "num"))) (.cons (.bin .Mod (.bin .Add (.bin .Mult (.cst (.int 2)) (.var 3)) (.var 10)) (.cst (.int 1000000))) .nil))) [Wj ro,Wj (.int (fst:Int)),Wj (.int (w:Int)),Wj (.int (n:Int)),Wj o4,Wj (.str x),Wj (.str f),Wj o7,Wj o8,Wj e.d,Wj (.int due),Wj (.int ((1+(4 * n+(1+Le)):Nat):Int)),Wj (.ref ci),Wj (T.call (.rcc f x (bd4 f x e)) (.num n)).d,Wj (.int (tot 0 cs)),Wj (.ref j),Wj (T.op .add (.num 2) (.call (.name f) (less x))).d] h3=.ok (Zd ((2 * (n:Int)+due) % 1000000)) h3:=ZeI (xs:=[.str (O "num"),.int ((2 * (n:Int)+due) % 1000000)]) (Zh rfl (Zh ((Zj ((Zj ((Zj rfl rfl).trans (ZaQ ⟨by decide,Gn.Zz (by lia) (by lia)⟩)) rfl).trans rfl) rfl).trans (Zao (by decide))) rfl)) (by simp);rw[show((1 * n+1:Nat):Int)=(n:Int)+1 by lia];exact Zh q1 (Zh rfl (Zh rfl rfl))
  . exact ZiR (n:=false) (by rfl) (by simp[Zd,D.dps,D.dp]) (by rw[Oe (ZbT hj3)];exact hj3) ZoV
 refine⟨_,ZgK ((er _).trans ((Zb x12).trans ((Zb x13).trans ((Zb x14).trans ((Zb x15).trans ((Zb x16).trans ((Zb x17).trans (ZD x18))))))))⟩
end K74L
end
section
namespace K74
open PySem L2 IV PyProof.Rows
noncomputable abbrev ZQ:Fd:=Ce.ZQ
noncomputable abbrev Zah:Fd:=Ce.Zah
noncomputable def Zj3:Sxs:=(.cons (.iff (.ex (.cmp .NotIn (.ix (.var 0) (.cst (.int 0))) (.glo (O "FORMS")))) (.cons (.ret (.var 0)) .nil) .nil) (.cons (.ret (.sl (.var 0) Wl (Wj (.bin .Add (.cst (.int 1)) (.ix (.ix (.glo (O "FORMS")) (.ix (.var 0) (.cst (.int 0)))) (.cst (.int 0))))))) .nil))
noncomputable def Zgb:Fd:=⟨[(O "E")],[(O "E")],Zj3⟩
noncomputable def ZgD:Sxs:=(.cons (.iff (.ex (.cmp .NotIn (.ix (.var 0) (.cst (.int 0))) (.glo (O "FORMS")))) (.cons (.ret (.cst (.int 0))) .nil) .nil) (.cons (.ret (.ix (.ix (.glo (O "FORMS")) (.ix (.var 0) (.cst (.int 0)))) (.cst (.int 1)))) .nil))
noncomputable def ZdF:Fd:=⟨[(O "front")],[(O "front")],ZgD⟩
noncomputable def ZoS:Sxs:=(.cons (.set (.nm 1) (.lstl .nil)) (.cons (.forr (.nm 2) (.rev (.var 0)) (.cons (.set (.nm 3) (.comp [(O "k"),(O "done")] [Wl,Wj 1] (.rng (.call (O "count_parts") (.cons (.var 2) .nil))) (.nm 0) Wl (.meth .pop (.var 1) .nil))) (.cons (.drp (.meth .app (.var 1) (.cons (.bin .Add (.var 2) (.blt .tup (.cons (.var 3) .nil))) .nil))) .nil))) (.cons (.ret (.ix (.var 1) (.cst (.int 0)))) .nil)))
noncomputable def ZkD:Fd:=⟨[(O "fronts")],[(O "fronts"),(O "done"),(O "front"),(O "parts")],ZoS⟩
noncomputable def Zj4:Sxs:=(.cons (.forr (.two 2 3) (.pl (.var 1)) (.cons (.iff (.ex (.cmp .Eq (.var 2) (.var 0))) (.cons (.ret (.var 3)) .nil) .nil) .nil)) (.cons (.ret (.cst .non)) .nil))
noncomputable def Zgc:Fd:=⟨[(O "name"),(O "around")],[(O "name"),(O "around"),(O "known"),(O "thing")],Zj4⟩
noncomputable abbrev ZB:Fd:=Ce.ZB
noncomputable def Zne:Sxs:=(.cons (.iff (.ex (.cmp .Eq (.ix (.var 0) (.cst (.int 0))) (.cst (.str (O "clo"))))) (.cons (.ret (.sl (.var 0) (Wj (.cst (.int 1))) Wl)) .nil) .nil) (.cons (.ret (.tupl (.cons (.var 0) (.cons (.tupl .nil) .nil)))) .nil))
noncomputable def ZiQ:Fd:=⟨[(O "thing")],[(O "thing")],Zne⟩
noncomputable def ZjY:Sxs:=(.cons (.iff (.ex (.cmp .NotEq (.ix (.var 0) (.cst (.int 0))) (.cst (.str (O "name"))))) (.cons (.ret (.cst .non)) .nil) .nil) (.cons (.ret (.call (O "bound_to") (.cons (.ix (.var 0) (.cst (.int 1))) (.cons (.var 1) .nil)))) .nil))
noncomputable def Zga:Fd:=⟨[(O "place"),(O "around")],[(O "place"),(O "around")],ZjY⟩
noncomputable def Znd:Sxs:=(.cons (.ret (.bin .Add (.blt .tup (.cons (.comp [(O "name")] [Wl] (.pl (.call (O "bound_names") (.cons (.var 0) .nil))) (.nm 0) Wl (.tupl (.cons (.var 0) (.cons (.cst .non) .nil)))) .nil)) (.var 1))) .nil)
noncomputable def ZiP:Fd:=⟨[(O "place"),(O "around")],[(O "place"),(O "around")],Znd⟩
noncomputable abbrev Zci:Fd:=Ce.Zci
noncomputable abbrev Zbt:Fd:=Ce.Zbt
noncomputable abbrev Zar:Fd:=Ce.Zar
noncomputable abbrev Z2:Fd:=Ce.Z2
noncomputable abbrev ZP:Fd:=Ce.ZP
noncomputable abbrev ZaL:Fd:=Ce.ZaL
noncomputable abbrev Zbi:Fd:=Ce.Zbi
noncomputable abbrev ZaK:Fd:=Ce.ZaK
noncomputable abbrev ZaJ:Fd:=Ce.ZaJ
noncomputable abbrev ZE:Fd:=Ce.ZE
noncomputable abbrev ZW:Fd:=Ce.ZW
noncomputable def ZgC:Sxs:=(.cons (.iff (.ex (.cmp .Eq (.blt .len (.cons (.var 0) .nil)) (.cst (.int 1)))) (.cons (.ret (.tupl (.cons (.cst (.str (O "fn"))) (.cons (.ix (.var 0) (.cst (.int 0))) (.cons (.var 1) .nil))))) .nil) .nil) (.cons (.ret (.tupl (.cons (.cst (.str (O "rec"))) (.cons (.ix (.var 0) (.cst (.int 1))) (.cons (.ix (.var 0) (.cst (.int 0))) (.cons (.var 1) .nil)))))) .nil))
noncomputable def ZdE:Fd:=⟨[(O "names"),(O "E")],[(O "names"),(O "E")],ZgC⟩
noncomputable abbrev Za0:Fd:=K74L.Za0
noncomputable abbrev Z8:Fd:=Ce.Z8
noncomputable abbrev ZV:Fd:=Ce.ZV
noncomputable abbrev Z7:Fd:=Ce.Z7
noncomputable abbrev ZK:Fd:=Ce.ZK
noncomputable abbrev Zbh:Fd:=Ce.Zbh
noncomputable abbrev ZaZ:Fd:=K74L.ZaZ
noncomputable abbrev Zbx:Fd:=K74L.Zbx
noncomputable abbrev Zbw:Fd:=K74L.Zbw
noncomputable abbrev Zbv:Fd:=K74L.Zbv
noncomputable abbrev Zbu:Fd:=K74L.Zbu
noncomputable abbrev Zap:Fd:=K74L.Zap
noncomputable abbrev Zaq:Fd:=K74L.Zaq
noncomputable abbrev ZgR:Fd:=K74L.ZgR
noncomputable abbrev ZR:Fd:=K74L.ZR
noncomputable abbrev ZF:Fd:=K74L.ZF
noncomputable def Zid:Sxs:=(.cons (.drp (.mcl (O "Pen") (O "take_place") (.var 0) .nil)) (.cons (.ret (.bin .Add (.var 1) (.var 2))) .nil))
noncomputable def Zed:Fd:=⟨[(O "self"),(O "front"),(O "parts")],[(O "self"),(O "front"),(O "parts")],Zid⟩
noncomputable def Zie:Sxs:=(.cons (.set (.nm 3) (.lstl .nil)) (.cons (.set (.nm 4) (.lstl (.cons (.tupl (.cons (.var 1) (.cons (.var 2) .nil))) .nil))) (.cons (.whl (.ex (.var 4)) (.cons (.set (.nm 5) (.meth .pop (.var 4) .nil)) (.cons (.set (.nm 6) (.call (O "meant_by") (.cons (.ix (.var 5) (.cst (.int 0))) (.cons (.ix (.var 5) (.cst (.int 1))) .nil)))) (.cons (.iff (.ex (.cmp .Is (.var 6) (.cst .non))) (.cons (.drp (.mcl (O "Pen") (O "take_place") (.var 0) .nil)) (.cons (.drp (.meth .app (.var 3) (.cons (.call (O "front_of") (.cons (.ix (.var 5) (.cst (.int 0))) .nil)) .nil))) (.cons (.set (.nm 7) (.call (O "within") (.cons (.ix (.var 5) (.cst (.int 0))) (.cons (.ix (.var 5) (.cst (.int 1))) .nil)))) (.cons (.drp (.meth .ext (.var 4) (.cons (.comp [(O "part"),(O "inner")] [Wl,Wj 7] (.rev (.call (O "parts_of") (.cons (.ix (.var 5) (.cst (.int 0))) .nil))) (.nm 0) Wl (.tupl (.cons (.var 0) (.cons (.var 1) .nil)))) .nil))) .nil)))) (.cons (.drp (.meth .app (.var 4) (.cons (.call (O "opened") (.cons (.var 6) .nil)) .nil))) .nil)) .nil)))) (.cons (.ret (.call (O "built") (.cons (.var 3) .nil))) .nil))))
noncomputable def Zee:Fd:=⟨[(O "self"),(O "E"),(O "around")],[(O "self"),(O "E"),(O "around"),(O "fronts"),(O "waiting"),(O "pair"),(O "thing"),(O "inner")],Zie⟩
noncomputable def Zj5:Sxs:=(.cons (.set (.nm 2) (.call (O "opened") (.cons (.var 1) .nil))) (.cons (.ret (.mcl (O "Pen") (O "filled") (.var 0) (.cons (.ix (.var 2) (.cst (.int 0))) (.cons (.ix (.var 2) (.cst (.int 1))) .nil)))) .nil))
noncomputable def Zgd:Fd:=⟨[(O "self"),(O "thing")],[(O "self"),(O "thing"),(O "pair")],Zj5⟩
noncomputable abbrev Zx:Fd:=K74L.Zx
noncomputable abbrev ZG:Fd:=K74L.ZG
noncomputable def ZcI:Sxs:=(.cons (.set (.nm 3) (.blt .tup (.cons (.sl (.att [(O "Decoder")] (.var 0) (O "done")) (Wj (.neg (.var 2))) Wl) .nil))) (.cons (.seta [(O "Decoder")] (.var 0) (O "done") (.sl (.att [(O "Decoder")] (.var 0) (O "done")) Wl (Wj (.neg (.var 2))))) (.cons (.drp (.meth .app (.att [(O "Decoder")] (.var 0) (O "done")) (.cons (.mcl (O "Pen") (O "joined") (.att [(O "Decoder")] (.var 0) (O "pen")) (.cons (.tupl (.cons (.var 1) .nil)) (.cons (.var 3) .nil))) .nil))) .nil)))
noncomputable def Zas:Fd:=⟨[(O "self"),(O "word"),(O "count")],[(O "self"),(O "word"),(O "count"),(O "parts")],ZcI⟩
noncomputable def ZcJ:Sxs:=(.cons (.ret (.ands (.cons (.cmp .Gt (.blt .len (.cons (.att [(O "Decoder")] (.var 0) (O "begun")) .nil)) (.cst (.int 0))) (.cons (.cmp .Eq (.ix (.ix (.att [(O "Decoder")] (.var 0) (O "begun")) (.neg (.cst (.int 1)))) (.cst (.int 0))) (.cst (.str (O "if")))) .nil)))) .nil)
noncomputable def Zat:Fd:=⟨[(O "self")],[(O "self")],ZcJ⟩
noncomputable def ZcK:Sxs:=(.cons (.ret (.ands (.cons (.mcl (O "Decoder") (O "is_within_if") (.var 0) .nil) (.cons (.cmp .Eq (.ix (.ix (.att [(O "Decoder")] (.var 0) (O "begun")) (.neg (.cst (.int 1)))) (.cst (.int 1))) (.att [(O "Decoder")] (.var 0) (O "at"))) .nil)))) .nil)
noncomputable def Zau:Fd:=⟨[(O "self")],[(O "self")],ZcK⟩
noncomputable def Zgo:Sxs:=(.cons (.iff (.nt (.ex (.mcl (O "Decoder") (O "is_within_if") (.var 0) .nil))) (.cons (.seta [(O "Decoder")] (.var 0) (O "at") (.ix (.var 1) (.cst (.int 1)))) .nil) .nil) .nil)
noncomputable def Zdb:Fd:=⟨[(O "self"),(O "row")],[(O "self"),(O "row")],Zgo⟩
noncomputable def Zem:Sxs:=(.cons (.iff (.ex (.att [(O "Decoder")] (.var 0) (O "begun"))) (.cons (.set (.nm 1) (.meth .pop (.att [(O "Decoder")] (.var 0) (O "begun")) .nil)) (.cons (.drp (.meth .app (.att [(O "Decoder")] (.var 0) (O "done")) (.cons (.call (O "function_of") (.cons (.ix (.var 1) (.cst (.int 1))) (.cons (.meth .pop (.att [(O "Decoder")] (.var 0) (O "done")) .nil) .nil))) .nil))) (.cons (.seta [(O "Decoder")] (.var 0) (O "at") (.ix (.var 1) (.cst (.int 2)))) (.cons (.seta [(O "Decoder"),(O "Unit")] (.var 0) (O "around") (.ix (.var 1) (.cst (.int 3)))) .nil)))) (.cons (.seta [(O "Decoder")] (.var 0) (O "at") (.ix (.ix (.att [(O "Decoder")] (.var 0) (O "pile")) (.cst (.int 0))) (.cst (.int 0)))) (.cons (.seta [(O "Decoder"),(O "Unit")] (.var 0) (O "around") (.ix (.ix (.att [(O "Decoder")] (.var 0) (O "pile")) (.cst (.int 0))) (.cst (.int 1)))) (.cons (.seta [(O "Decoder")] (.var 0) (O "pile") (.sl (.att [(O "Decoder")] (.var 0) (O "pile")) (Wj (.cst (.int 1))) Wl)) .nil)))) .nil)
noncomputable def ZbU:Fd:=⟨[(O "self")],[(O "self"),(O "function")],Zem⟩
noncomputable def ZeS:Sxs:=(.cons (.iff (.ex (.cmp .In (.ix (.var 1) (.cst (.int 0))) (.glo (O "CALLS")))) (.cons (.drp (.mcl (O "Decoder") (O "put_together") (.var 0) (.cons (.cst (.str (O "call"))) (.cons (.cst (.int 2)) .nil)))) .nil) (.cons (.iff (.ex (.cmp .Eq (.ix (.var 1) (.cst (.int 0))) (.cst (.str (O "work"))))) (.cons (.drp (.mcl (O "Decoder") (O "put_together") (.var 0) (.cons (.ix (.var 1) (.cst (.int 1))) (.cons (.cst (.int 2)) .nil)))) .nil) (.cons (.iff (.ex (.cmp .Eq (.ix (.var 1) (.cst (.int 0))) (.cst (.str (O "unless"))))) (.cons (.drp (.meth .app (.att [(O "Decoder")] (.var 0) (O "begun")) (.cons (.tupl (.cons (.cst (.str (O "if"))) (.cons (.ix (.ix (.att [(O "Decoder")] (.var 0) (O "code")) (.bin .Sub (.ix (.var 1) (.cst (.int 1))) (.cst (.int 1)))) (.cst (.int 1))) .nil))) .nil))) .nil) (.cons (.iff (.ex (.cmp .Eq (.ix (.var 1) (.cst (.int 0))) (.cst (.str (O "jump"))))) (.cons (.drp (.mcl (O "Decoder") (O "jump") (.var 0) (.cons (.var 1) .nil))) .nil) (.cons (.iff (.ex (.cmp .Eq (.ix (.var 1) (.cst (.int 0))) (.cst (.str (O "back"))))) (.cons (.drp (.mcl (O "Decoder") (O "go_back") (.var 0) .nil)) .nil) (.cons (.drp (.mcl (O "Decoder") (O "put_on") (.var 0) (.cons (.call (O "thing_of") (.cons (.var 1) (.cons (.att [(O "Decoder"),(O "Unit")] (.var 0) (O "around")) .nil))) .nil))) .nil)) .nil)) .nil)) .nil)) .nil)) .nil)
noncomputable def Zcj:Fd:=⟨[(O "self"),(O "row")],[(O "self"),(O "row")],ZeS⟩
noncomputable def Zen:Sxs:=(.cons (.iff (.ex (.mcl (O "Decoder") (O "is_behind_if") (.var 0) .nil)) (.cons (.drp (.meth .pop (.att [(O "Decoder")] (.var 0) (O "begun")) .nil)) (.cons (.drp (.mcl (O "Decoder") (O "put_together") (.var 0) (.cons (.cst (.str (O "if"))) (.cons (.cst (.int 3)) .nil)))) .nil)) (.cons (.auga [(O "Decoder")] (.var 0) (O "at") (.cst (.int 1))) (.cons (.drp (.mcl (O "Decoder") (O "do_row") (.var 0) (.cons (.ix (.att [(O "Decoder")] (.var 0) (O "code")) (.bin .Sub (.att [(O "Decoder")] (.var 0) (O "at")) (.cst (.int 1)))) .nil))) .nil))) .nil)
noncomputable def ZbV:Fd:=⟨[(O "self")],[(O "self")],Zen⟩
noncomputable abbrev Zu:Fd:=K74L.Zu
noncomputable abbrev ZH:Fd:=K74L.ZH
noncomputable abbrev ZL:Fd:=Ce.ZL
noncomputable abbrev Zr:Fd:=Ce.Zr
noncomputable abbrev ZJ:Fd:=Ce.ZJ
noncomputable abbrev ZI:Fd:=Ce.ZI
noncomputable abbrev Zs:Fd:=Ce.Zs
noncomputable abbrev Zp:Fd:=Ce.Zp
noncomputable abbrev Zi:Fd:=Ce.Zi
noncomputable abbrev ZS:Fd:=Ce.ZS
noncomputable def tb:List (Str×Fd):=[((O "bound_names"),ZQ),((O "parts_of"),Zah),((O "front_of"),Zgb),((O "count_parts"),ZdF),((O "built"),ZkD),((O "bound_to"),Zgc),((O "loud_or_stuck"),ZB),((O "opened"),ZiQ),((O "meant_by"),Zga),((O "within"),ZiP),((O "chosen"),Zci),((O "worked"),Zbt),((O "code_begun"),Zar),((O "thing_of"),Z2),((O "quiet_state"),ZP),((O "entered"),ZaL),((O "applied"),Zbi),((O "gone_on"),ZaK),((O "reckoned"),ZaJ),((O "loud_state"),ZE),((O "code_step"),ZW),((O "function_of"),ZdE),((O "code_read"),Za0),((O "count_rows"),Z8),((O "pieces_of"),ZV),((O "first_rows"),Z7),((O "numbered"),ZK),((O "code_of"),Zbh),((O "_law_mixed"),ZaZ),((O "_law_cell"),Zbx),((O "_law_less"),Zbw),((O "_law_loop"),Zbv),((O "_law_loud"),Zbu),((O "_law_walked"),Zap),((O "_law_summed"),Zaq),((O "law"),ZgR)]
noncomputable def ms:List (Str×Fd):=[(mnm (O "Pen") (O "__init__"),ZR),(mnm (O "Pen") (O "take_place"),ZF),(mnm (O "Pen") (O "joined"),Zed),(mnm (O "Pen") (O "filled"),Zee),(mnm (O "Pen") (O "told"),Zgd),(mnm (O "Decoder") (O "__init__"),Zx),(mnm (O "Decoder") (O "put_on"),ZG),(mnm (O "Decoder") (O "put_together"),Zas),(mnm (O "Decoder") (O "is_within_if"),Zat),(mnm (O "Decoder") (O "is_behind_if"),Zau),(mnm (O "Decoder") (O "jump"),Zdb),(mnm (O "Decoder") (O "go_back"),ZbU),(mnm (O "Decoder") (O "do_row"),Zcj),(mnm (O "Decoder") (O "do_next"),ZbV),(mnm (O "Decoder") (O "put_whole"),Zu),(mnm (O "Decoder") (O "do_all"),ZH),(mnm (O "Unit") (O "__init__"),ZL),(mnm (O "Unit") (O "add_row"),Zr),(mnm (O "Coder") (O "__init__"),ZJ),(mnm (O "Coder") (O "wait_for"),ZI),(mnm (O "Coder") (O "begin_unit"),Zs),(mnm (O "Coder") (O "begin_function"),Zp),(mnm (O "Coder") (O "do_part"),Zi),(mnm (O "Coder") (O "do_all"),ZS)]
noncomputable def cG:List (Str×D):=[((O "WIDEST"),(.int 120)),((O "BEYOND"),(.int 1000000)),((O "CALLS"),(.tup [(.str (O "call")),(.str (O "hop"))])),((O "LOUD"),(.tup [(.str (O "call")),(.str (O "hop")),(.str (O "unless")),(.str (O "work"))])),((O "LEADING"),(.tup [(.str (O "unless")),(.str (O "jump"))])),((O "FORMS"),.kd (O "FORMS"))]
noncomputable def cD:List (Str×List (Key×D)):=[((O "FORMS"),[(.inr (O "fn"),(.tup [(.int 1),(.int 1)])),(.inr (O "rec"),(.tup [(.int 2),(.int 1)])),(.inr (O "call"),(.tup [(.int 0),(.int 2)])),(.inr (O "if"),(.tup [(.int 0),(.int 3)])),(.inr (O "+"),(.tup [(.int 0),(.int 2)])),(.inr (O "-"),(.tup [(.int 0),(.int 2)])),(.inr (O "*"),(.tup [(.int 0),(.int 2)])),(.inr (O "<"),(.tup [(.int 0),(.int 2)]))])]
noncomputable def pg:Pg:=⟨tb,λx=>cG.lookup x,λx=>cD.lookup x,1000000,ms⟩
noncomputable def kl:Kl:=⟨[(O "Pen"),(O "Decoder"),(O "Unit"),(O "Coder")],[(O "around"),(O "at"),(O "begun"),(O "code"),(O "done"),(O "most"),(O "pen"),(O "pile"),(O "rows"),(O "units"),(O "used"),(O "waiting")],[((O "Pen"),(O "take_place")),((O "Pen"),(O "joined")),((O "Pen"),(O "filled")),((O "Pen"),(O "told")),((O "Decoder"),(O "put_on")),((O "Decoder"),(O "put_together")),((O "Decoder"),(O "is_within_if")),((O "Decoder"),(O "is_behind_if")),((O "Decoder"),(O "jump")),((O "Decoder"),(O "go_back")),((O "Decoder"),(O "do_row")),((O "Decoder"),(O "do_next")),((O "Decoder"),(O "put_whole")),((O "Decoder"),(O "do_all")),((O "Unit"),(O "add_row")),((O "Coder"),(O "wait_for")),((O "Coder"),(O "begin_unit")),((O "Coder"),(O "begin_function")),((O "Coder"),(O "do_part")),((O "Coder"),(O "do_all"))],[(O "Pen"),(O "Decoder"),(O "Unit"),(O "Coder")],[]⟩
noncomputable def top(i:Nat):Stmt:=PySem.Challenge.pw_samestride_k74_whole_last_calls.main.body.getD i (.Pass ⟨0,0,0,0⟩)
noncomputable def fs:List Str:=tb.map (·.1)
local macro_rules|`(tactic| wtm_at "chk")=>`(tactic| exact⟨by constructor<;>decide +kernel,λ_ _ _ _ _ _ us hl=>by
 first
 |(have e:=Zrp (show us.length=0 from hl);subst e;rfl)
 |(obtain⟨a0,e⟩:=Zro (show us.length=1 from hl);subst e;rfl)
 |(obtain⟨a0,a1,e⟩:=Zrn (show us.length=2 from hl);subst e;rfl)
 |(obtain⟨a0,a1,a2,e⟩:=Zrm (show us.length=3 from hl);subst e;rfl)
 |(obtain⟨a0,a1,a2,a3,e⟩:=Ztg (show us.length=4 from hl);subst e;rfl)
 |(obtain⟨a0,a1,a2,a3,a4,e⟩:=us_5 (show us.length=5 from hl);subst e;rfl)
 |(obtain⟨a0,a1,a2,a3,a4,a5,e⟩:=us_6 (show us.length=6 from hl);subst e;rfl)
 |(obtain⟨a0,a1,a2,a3,a4,a5,a6,e⟩:=us_7 (show us.length=7 from hl);subst e;rfl),by decide +kernel⟩)
abbrev Ck(n:String)(f:Fd)(s:Stmt):Prop:=Chk kl fs (O n) (O n) f s
noncomputable abbrev ZdA:=top 6
def Zgz:Ck "bound_names" ZQ ZdA:=by wtm_at "chk"
noncomputable abbrev Zfz:=top 7
def ZjE:Ck "parts_of" Zah Zfz:=by wtm_at "chk"
noncomputable abbrev ZfG:=top 8
def ZjL:Ck "front_of" Zgb ZfG:=by wtm_at "chk"
noncomputable abbrev Zdz:=top 9
def Zgy:Ck "count_parts" ZdF Zdz:=by wtm_at "chk"
noncomputable abbrev Zkg:=top 10
def Zoq:Ck "built" ZkD Zkg:=by wtm_at "chk"
noncomputable abbrev ZfH:=top 12
def ZjM:Ck "bound_to" Zgc ZfH:=by wtm_at "chk"
noncomputable abbrev ZcN:=top 13
def Zfb:Ck "loud_or_stuck" ZB ZcN:=by wtm_at "chk"
noncomputable abbrev Zil:=top 14
def ZmI:Ck "opened" ZiQ Zil:=by wtm_at "chk"
noncomputable abbrev ZfB:=top 15
def ZjG:Ck "meant_by" Zga ZfB:=by wtm_at "chk"
noncomputable abbrev Zik:=top 16
def ZmH:Ck "within" ZiP Zik:=by wtm_at "chk"
noncomputable abbrev Zim:=top 20
def ZmJ:Ck "chosen" Zci Zim:=by wtm_at "chk"
noncomputable abbrev Zij:=top 21
def ZmG:Ck "worked" Zbt Zij:=by wtm_at "chk"
noncomputable abbrev Zd1:=top 25
def ZhC:Ck "code_begun" Zar Zd1:=by wtm_at "chk"
noncomputable abbrev Zfx:=top 26
def ZjC:Ck "thing_of" Z2 Zfx:=by wtm_at "chk"
noncomputable abbrev Zdx:=top 27
def Zgw:Ck "quiet_state" ZP Zdx:=by wtm_at "chk"
noncomputable abbrev ZgH:=top 28
def Zlk:Ck "entered" ZaL ZgH:=by wtm_at "chk"
noncomputable abbrev ZgJ:=top 29
def Zlm:Ck "applied" Zbi ZgJ:=by wtm_at "chk"
noncomputable abbrev ZgG:=top 30
def Zlj:Ck "gone_on" ZaK ZgG:=by wtm_at "chk"
noncomputable abbrev Zfy:=top 31
def ZjD:Ck "reckoned" ZaJ Zfy:=by wtm_at "chk"
noncomputable abbrev ZdW:=top 32
def Zhx:Ck "loud_state" ZE ZdW:=by wtm_at "chk"
noncomputable abbrev ZeV:=top 33
def ZiG:Ck "code_step" ZW ZeV:=by wtm_at "chk"
noncomputable abbrev Zdy:=top 34
def Zgx:Ck "function_of" ZdE Zdy:=by wtm_at "chk"
noncomputable abbrev ZeW:=top 36
def ZiH:Ck "code_read" Za0 ZeW:=by wtm_at "chk"
noncomputable abbrev Zd0:=top 39
def ZhB:Ck "count_rows" Z8 Zd0:=by wtm_at "chk"
noncomputable abbrev ZeT:=top 40
def ZiE:Ck "pieces_of" ZV ZeT:=by wtm_at "chk"
noncomputable abbrev ZdZ:=top 43
def ZhA:Ck "first_rows" Z7 ZdZ:=by wtm_at "chk"
noncomputable abbrev ZfA:=top 44
def ZjF:Ck "numbered" ZK ZfA:=by wtm_at "chk"
noncomputable abbrev ZgI:=top 45
def Zll:Ck "code_of" Zbh ZgI:=by wtm_at "chk"
noncomputable abbrev ZeU:=top 47
def ZiF:Ck "_law_mixed" ZaZ ZeU:=by wtm_at "chk"
noncomputable abbrev ZfF:=top 48
def ZjK:Ck "_law_cell" Zbx ZfF:=by wtm_at "chk"
noncomputable abbrev ZfE:=top 49
def ZjJ:Ck "_law_less" Zbw ZfE:=by wtm_at "chk"
noncomputable abbrev ZfD:=top 50
def ZjI:Ck "_law_loop" Zbv ZfD:=by wtm_at "chk"
noncomputable abbrev ZfC:=top 51
def ZjH:Ck "_law_loud" Zbu ZfC:=by wtm_at "chk"
noncomputable abbrev ZdX:=top 52
def Zhy:Ck "_law_walked" Zap ZdX:=by wtm_at "chk"
noncomputable abbrev ZdY:=top 53
def Zhz:Ck "_law_summed" Zaq ZdY:=by wtm_at "chk"
noncomputable abbrev Zo7:=top 54
def Zsr:Ck "law" ZgR Zo7:=by wtm_at "chk"
noncomputable abbrev Zc3:Stmt:=inClass (top 17) 0
def ZfX:Chk kl fs (O "__init__") (O "Pen.__init__") ZR Zc3:=by wtm_at "chk"
noncomputable abbrev Zcb:Stmt:=inClass (top 17) 1
def ZeA:Chk kl fs (O "take_place") (O "Pen.take_place") ZF Zcb:=by wtm_at "chk"
noncomputable abbrev Zd2:Stmt:=inClass (top 17) 2
def ZhD:Chk kl fs (O "joined") (O "Pen.joined") Zed Zd2:=by wtm_at "chk"
noncomputable abbrev Zd3:Stmt:=inClass (top 17) 3
def ZhE:Chk kl fs (O "filled") (O "Pen.filled") Zee Zd3:=by wtm_at "chk"
noncomputable abbrev ZfI:Stmt:=inClass (top 17) 4
def ZjN:Chk kl fs (O "told") (O "Pen.told") Zgd ZfI:=by wtm_at "chk"
noncomputable abbrev Zbm:Stmt:=inClass (top 35) 0
def ZdQ:Chk kl fs (O "__init__") (O "Decoder.__init__") Zx Zbm:=by wtm_at "chk"
noncomputable abbrev Zcc:Stmt:=inClass (top 35) 1
def ZeB:Chk kl fs (O "put_on") (O "Decoder.put_on") ZG Zcc:=by wtm_at "chk"
noncomputable abbrev Zaj:Stmt:=inClass (top 35) 2
def ZcB:Chk kl fs (O "put_together") (O "Decoder.put_together") Zas Zaj:=by wtm_at "chk"
noncomputable abbrev Zak:Stmt:=inClass (top 35) 3
def ZcC:Chk kl fs (O "is_within_if") (O "Decoder.is_within_if") Zat Zak:=by wtm_at "chk"
noncomputable abbrev Zal:Stmt:=inClass (top 35) 4
def ZcD:Chk kl fs (O "is_behind_if") (O "Decoder.is_behind_if") Zau Zal:=by wtm_at "chk"
noncomputable abbrev Zc4:Stmt:=inClass (top 35) 5
def ZfY:Chk kl fs (O "jump") (O "Decoder.jump") Zdb Zc4:=by wtm_at "chk"
noncomputable abbrev ZbP:Stmt:=inClass (top 35) 6
def Zea:Chk kl fs (O "go_back") (O "Decoder.go_back") ZbU ZbP:=by wtm_at "chk"
noncomputable abbrev Zcd:Stmt:=inClass (top 35) 7
def ZeC:Chk kl fs (O "do_row") (O "Decoder.do_row") Zcj Zcd:=by wtm_at "chk"
noncomputable abbrev ZbQ:Stmt:=inClass (top 35) 8
def Zeb:Chk kl fs (O "do_next") (O "Decoder.do_next") ZbV ZbQ:=by wtm_at "chk"
noncomputable abbrev Zbd:Stmt:=inClass (top 35) 9
def Zds:Chk kl fs (O "put_whole") (O "Decoder.put_whole") Zu Zbd:=by wtm_at "chk"
noncomputable abbrev Zce:Stmt:=inClass (top 35) 10
def ZeD:Chk kl fs (O "do_all") (O "Decoder.do_all") ZH Zce:=by wtm_at "chk"
noncomputable abbrev ZcO:Stmt:=inClass (top 41) 0
def Zfc:Chk kl fs (O "__init__") (O "Unit.__init__") ZL ZcO:=by wtm_at "chk"
noncomputable abbrev Zc2:Stmt:=inClass (top 41) 1
def ZfW:Chk kl fs (O "add_row") (O "Unit.add_row") Zr Zc2:=by wtm_at "chk"
noncomputable abbrev Zcg:Stmt:=inClass (top 42) 0
def ZeF:Chk kl fs (O "__init__") (O "Coder.__init__") ZJ Zcg:=by wtm_at "chk"
noncomputable abbrev Zcf:Stmt:=inClass (top 42) 1
def ZeE:Chk kl fs (O "wait_for") (O "Coder.wait_for") ZI Zcf:=by wtm_at "chk"
noncomputable abbrev Zbn:Stmt:=inClass (top 42) 2
def ZdR:Chk kl fs (O "begin_unit") (O "Coder.begin_unit") Zs Zbn:=by wtm_at "chk"
noncomputable abbrev Zam:Stmt:=inClass (top 42) 3
def ZcE:Chk kl fs (O "begin_function") (O "Coder.begin_function") Zp Zam:=by wtm_at "chk"
noncomputable abbrev ZcP:Stmt:=inClass (top 42) 4
def Zfd:Chk kl fs (O "do_part") (O "Coder.do_part") Zi ZcP:=by wtm_at "chk"
noncomputable abbrev Zc5:Stmt:=inClass (top 42) 5
def ZfZ:Chk kl fs (O "do_all") (O "Coder.do_all") ZS Zc5:=by wtm_at "chk"
end K74
end
section
namespace K74
open PySem L2 IV
def Zqx:pg.tb.lookup (O "law")=Wj ZgR:=by kernel_rfl
def cod:Ce.Cod pg:=by
 constructor
 all_goals (first|kernel_rfl|decide)
def lw:K74L.Lw pg:=by
 constructor;exact cod
 all_goals kernel_rfl
def runs:∀ns:List Int,ns.length<=63->∃h',run pg (250+1) (O "law") [.ro (ns.map .int)] []=.ok (.bl Wm) h':=λns hl=>K74L.ZrN lw ns hl
end K74
end
section
set_option maxHeartbeats 4000000
namespace K74
open PySem L2 IV PyProof.Rows
theorem md{Pr:Yh}{w:Yg}{K:Yk}{h:YD}{mg:Str->Option Yj}{ca1:Yi}{ca2:Yi}{ca3:Yi}{ca4:Yi}{t1:Tok}{t3:Tok}{q5:Yi}{r6:Option Yi}{n7:Nat}{v8:Array (Option Yj)}{t10:Tok}{t11:Tok}{q13:Yi}{r14:Option Yi}{n15:Nat}{v16:Array (Option Yj)}{t18:Tok}{t19:Tok}{t20:Tok}{t21:Tok}{q23:Yi}{r24:Option Yi}{n25:Nat}{v26:Array (Option Yj)}{t28:Tok}{t29:Tok}{q31:Yi}{e32:Nat}{j36:Int}{t37:Tok}{q38:Yi}{r39:Option Yi}{n40:Nat}{v41:Array (Option Yj)}{t43:Tok}{t44:Tok}{j45:Int}{t46:Tok}{q47:Yi}{r48:Option Yi}{n49:Nat}{v50:Array (Option Yj)}{t52:Tok}{t53:Tok}{j54:Int}{t55:Tok}{q56:Yi}{r57:Option Yi}{n58:Nat}{v59:Array (Option Yj)}{t61:Tok}{t62:Tok}{j63:Int}{t64:Tok}{q65:Yi}{r66:Option Yi}{n67:Nat}{v68:Array (Option Yj)}{t70:Tok}{t71:Tok}{j72:Int}{t73:Tok}{q74:Yi}{r75:Option Yi}{n76:Nat}{v77:Array (Option Yj)}{t79:Tok}{t80:Tok}{j81:Int}{t82:Tok}{q83:Yi}{r84:Option Yi}{n85:Nat}{v86:Array (Option Yj)}{t88:Tok}{t89:Tok}{j90:Int}{t91:Tok}{q92:Yi}{r93:Option Yi}{n94:Nat}{v95:Array (Option Yj)}{t97:Tok}{t98:Tok}{j99:Int}{t100:Tok}{q101:Yi}{r102:Option Yi}{n103:Nat}{v104:Array (Option Yj)}{t106:Tok}{t107:Tok}(X:K.In h)(G:h.Ns Yd mg)
   (tb0:Zb8 K=Wm)
   (d1:ZX K (O "bound_names") ZdA)
   (d2:ZX K (O "parts_of") Zfz)
   (d3:ZX K (O "front_of") ZfG)
   (d4:ZX K (O "count_parts") Zdz)
   (d5:ZX K (O "built") Zkg)
   (d6:ZX K (O "bound_to") ZfH)
   (d7:ZX K (O "loud_or_stuck") ZcN)
   (d8:ZX K (O "opened") Zil)
   (d9:ZX K (O "meant_by") ZfB)
   (d10:ZX K (O "within") Zik)
   (d11:ZX K (O "chosen") Zim)
   (d12:ZX K (O "worked") Zij)
   (d13:ZX K (O "code_begun") Zd1)
   (d14:ZX K (O "thing_of") Zfx)
   (d15:ZX K (O "quiet_state") Zdx)
   (d16:ZX K (O "entered") ZgH)
   (d17:ZX K (O "applied") ZgJ)
   (d18:ZX K (O "gone_on") ZgG)
   (d19:ZX K (O "reckoned") Zfy)
   (d20:ZX K (O "loud_state") ZdW)
   (d21:ZX K (O "code_step") ZeV)
   (d22:ZX K (O "function_of") Zdy)
   (d23:ZX K (O "code_read") ZeW)
   (d24:ZX K (O "count_rows") Zd0)
   (d25:ZX K (O "pieces_of") ZeT)
   (d26:ZX K (O "first_rows") ZdZ)
   (d27:ZX K (O "numbered") ZfA)
   (d28:ZX K (O "code_of") ZgI)
   (d29:ZX K (O "_law_mixed") ZeU)
   (d30:ZX K (O "_law_cell") ZfF)
   (d31:ZX K (O "_law_less") ZfE)
   (d32:ZX K (O "_law_loop") ZfD)
   (d33:ZX K (O "_law_loud") ZfC)
   (d34:ZX K (O "_law_walked") ZdX)
   (d35:ZX K (O "_law_summed") ZdY)
   (d36:ZX K (O "law") Zo7)
   (y1a:Yl K Yd (O "Pen")=Wj (Wj (.ref ca1))) (y1b:PySem.W.plainGet K ca1 Str.empty=Wm) (y1c:PySem.W.hasDictIn K ca1=Wm) (y1d:PySem.W.plainOver K ca1=Wm) (y1e:YG K (.ref ca1) "__setattr__" = Wj (Wj (.builtin "object.__setattr__")))
   (y1n1:YG K (.ref ca1) (O "around")=Wj Wl)
   (y1n2:YG K (.ref ca1) (O "at")=Wj Wl)
   (y1n3:YG K (.ref ca1) (O "begun")=Wj Wl)
   (y1n4:YG K (.ref ca1) (O "code")=Wj Wl)
   (y1n5:YG K (.ref ca1) (O "done")=Wj Wl)
   (y1n6:YG K (.ref ca1) (O "most")=Wj Wl)
   (y1n7:YG K (.ref ca1) (O "pen")=Wj Wl)
   (y1n8:YG K (.ref ca1) (O "pile")=Wj Wl)
   (y1n9:YG K (.ref ca1) (O "rows")=Wj Wl)
   (y1n10:YG K (.ref ca1) (O "units")=Wj Wl)
   (y1n11:YG K (.ref ca1) (O "used")=Wj Wl)
   (y1n12:YG K (.ref ca1) (O "waiting")=Wj Wl)
   (y1m:PySem.W.makesIn K ca1=Wm) (y1k:YZ K (.ref ca1)=Wm)
   (u1:Za9 K ca1 (O "__init__") (O "Pen.__init__") Zc3)
   (u2:Za9 K ca1 (O "take_place") (O "Pen.take_place") Zcb)
   (u3:Za9 K ca1 (O "joined") (O "Pen.joined") Zd2)
   (u4:Za9 K ca1 (O "filled") (O "Pen.filled") Zd3)
   (u5:Za9 K ca1 (O "told") (O "Pen.told") ZfI)
   (y2a:Yl K Yd (O "Decoder")=Wj (Wj (.ref ca2))) (y2b:PySem.W.plainGet K ca2 Str.empty=Wm) (y2c:PySem.W.hasDictIn K ca2=Wm) (y2d:PySem.W.plainOver K ca2=Wm) (y2e:YG K (.ref ca2) "__setattr__" = Wj (Wj (.builtin "object.__setattr__")))
   (y2n1:YG K (.ref ca2) (O "around")=Wj Wl)
   (y2n2:YG K (.ref ca2) (O "at")=Wj Wl)
   (y2n3:YG K (.ref ca2) (O "begun")=Wj Wl)
   (y2n4:YG K (.ref ca2) (O "code")=Wj Wl)
   (y2n5:YG K (.ref ca2) (O "done")=Wj Wl)
   (y2n6:YG K (.ref ca2) (O "most")=Wj Wl)
   (y2n7:YG K (.ref ca2) (O "pen")=Wj Wl)
   (y2n8:YG K (.ref ca2) (O "pile")=Wj Wl)
   (y2n9:YG K (.ref ca2) (O "rows")=Wj Wl)
   (y2n10:YG K (.ref ca2) (O "units")=Wj Wl)
   (y2n11:YG K (.ref ca2) (O "used")=Wj Wl)
   (y2n12:YG K (.ref ca2) (O "waiting")=Wj Wl)
   (y2m:PySem.W.makesIn K ca2=Wm) (y2k:YZ K (.ref ca2)=Wm)
   (u6:Za9 K ca2 (O "__init__") (O "Decoder.__init__") Zbm)
   (u7:Za9 K ca2 (O "put_on") (O "Decoder.put_on") Zcc)
   (u8:Za9 K ca2 (O "put_together") (O "Decoder.put_together") Zaj)
   (u9:Za9 K ca2 (O "is_within_if") (O "Decoder.is_within_if") Zak)
   (u10:Za9 K ca2 (O "is_behind_if") (O "Decoder.is_behind_if") Zal)
   (u11:Za9 K ca2 (O "jump") (O "Decoder.jump") Zc4)
   (u12:Za9 K ca2 (O "go_back") (O "Decoder.go_back") ZbP)
   (u13:Za9 K ca2 (O "do_row") (O "Decoder.do_row") Zcd)
   (u14:Za9 K ca2 (O "do_next") (O "Decoder.do_next") ZbQ)
   (u15:Za9 K ca2 (O "put_whole") (O "Decoder.put_whole") Zbd)
   (u16:Za9 K ca2 (O "do_all") (O "Decoder.do_all") Zce)
   (y3a:Yl K Yd (O "Unit")=Wj (Wj (.ref ca3))) (y3b:PySem.W.plainGet K ca3 Str.empty=Wm) (y3c:PySem.W.hasDictIn K ca3=Wm) (y3d:PySem.W.plainOver K ca3=Wm) (y3e:YG K (.ref ca3) "__setattr__" = Wj (Wj (.builtin "object.__setattr__")))
   (y3n1:YG K (.ref ca3) (O "around")=Wj Wl)
   (y3n2:YG K (.ref ca3) (O "at")=Wj Wl)
   (y3n3:YG K (.ref ca3) (O "begun")=Wj Wl)
   (y3n4:YG K (.ref ca3) (O "code")=Wj Wl)
   (y3n5:YG K (.ref ca3) (O "done")=Wj Wl)
   (y3n6:YG K (.ref ca3) (O "most")=Wj Wl)
   (y3n7:YG K (.ref ca3) (O "pen")=Wj Wl)
   (y3n8:YG K (.ref ca3) (O "pile")=Wj Wl)
   (y3n9:YG K (.ref ca3) (O "rows")=Wj Wl)
   (y3n10:YG K (.ref ca3) (O "units")=Wj Wl)
   (y3n11:YG K (.ref ca3) (O "used")=Wj Wl)
   (y3n12:YG K (.ref ca3) (O "waiting")=Wj Wl)
   (y3m:PySem.W.makesIn K ca3=Wm) (y3k:YZ K (.ref ca3)=Wm)
   (u17:Za9 K ca3 (O "__init__") (O "Unit.__init__") ZcO)
   (u18:Za9 K ca3 (O "add_row") (O "Unit.add_row") Zc2)
   (y4a:Yl K Yd (O "Coder")=Wj (Wj (.ref ca4))) (y4b:PySem.W.plainGet K ca4 Str.empty=Wm) (y4c:PySem.W.hasDictIn K ca4=Wm) (y4d:PySem.W.plainOver K ca4=Wm) (y4e:YG K (.ref ca4) "__setattr__" = Wj (Wj (.builtin "object.__setattr__")))
   (y4n1:YG K (.ref ca4) (O "around")=Wj Wl)
   (y4n2:YG K (.ref ca4) (O "at")=Wj Wl)
   (y4n3:YG K (.ref ca4) (O "begun")=Wj Wl)
   (y4n4:YG K (.ref ca4) (O "code")=Wj Wl)
   (y4n5:YG K (.ref ca4) (O "done")=Wj Wl)
   (y4n6:YG K (.ref ca4) (O "most")=Wj Wl)
   (y4n7:YG K (.ref ca4) (O "pen")=Wj Wl)
   (y4n8:YG K (.ref ca4) (O "pile")=Wj Wl)
   (y4n9:YG K (.ref ca4) (O "rows")=Wj Wl)
   (y4n10:YG K (.ref ca4) (O "units")=Wj Wl)
   (y4n11:YG K (.ref ca4) (O "used")=Wj Wl)
   (y4n12:YG K (.ref ca4) (O "waiting")=Wj Wl)
   (y4m:PySem.W.makesIn K ca4=Wm) (y4k:YZ K (.ref ca4)=Wm)
   (u19:Za9 K ca4 (O "__init__") (O "Coder.__init__") Zcg)
   (u20:Za9 K ca4 (O "wait_for") (O "Coder.wait_for") Zcf)
   (u21:Za9 K ca4 (O "begin_unit") (O "Coder.begin_unit") Zbn)
   (u22:Za9 K ca4 (O "begin_function") (O "Coder.begin_function") Zam)
   (u23:Za9 K ca4 (O "do_part") (O "Coder.do_part") ZcP)
   (u24:Za9 K ca4 (O "do_all") (O "Coder.do_all") Zc5)
   (z1:Yl K Yd (O "len")=Wj Wl)
   (z2:Yl K Yd (O "isinstance")=Wj Wl)
   (z3:Yl K Yd (O "int")=Wj Wl)
   (z4:Yl K Yd (O "tuple")=Wj Wl)
   (z5:Yl K Yd (O "list")=Wj Wl)
   (z6:Yl K Yd (O "sum")=Wj Wl)
   (z7:Yl K Yd (O "all")=Wj Wl)
   (z8:Yl K Yd (O "sorted")=Wj Wl)
   (z9:Yl K Yd (O "range")=Wj Wl)
   (z10:Yl K Yd (O "enumerate")=Wj Wl)
   (z11:Yl K Yd (O "reversed")=Wj Wl)
   (z12:Yl K Yd (O "str")=Wj Wl)
   (z13:Yl K Yd (O "bool")=Wj Wl)
   (z14:Yl K Yd (O "max")=Wj Wl)
   (g2:Yl K Yd (O "WIDEST")=Wj (Wj (.int 120 t1)))
   (g4:Yl K Yd (O "BEYOND")=Wj (Wj (.int 1000000 t3)))
   (h9:K.lookup q5=Wj ⟨.type "tuple",r6,.seq #[.str (O "call") t10,.str (O "hop") t11] n7,v8⟩)
   (g12:Yl K Yd (O "CALLS")=Wj (Wj (.ref q5)))
   (h17:K.lookup q13=Wj ⟨.type "tuple",r14,.seq #[.str (O "call") t18,.str (O "hop") t19,.str (O "unless") t20,.str (O "work") t21] n15,v16⟩)
   (g22:Yl K Yd (O "LOUD")=Wj (Wj (.ref q13)))
   (h27:K.lookup q23=Wj ⟨.type "tuple",r24,.seq #[.str (O "unless") t28,.str (O "jump") t29] n25,v26⟩)
   (g30:Yl K Yd (O "LEADING")=Wj (Wj (.ref q23)))
   (h42:K.lookup q38=Wj ⟨.type "tuple",r39,.seq #[.int 1 t43,.int 1 t44] n40,v41⟩)
   (h51:K.lookup q47=Wj ⟨.type "tuple",r48,.seq #[.int 2 t52,.int 1 t53] n49,v50⟩)
   (h60:K.lookup q56=Wj ⟨.type "tuple",r57,.seq #[.int 0 t61,.int 2 t62] n58,v59⟩)
   (h69:K.lookup q65=Wj ⟨.type "tuple",r66,.seq #[.int 0 t70,.int 3 t71] n67,v68⟩)
   (h78:K.lookup q74=Wj ⟨.type "tuple",r75,.seq #[.int 0 t79,.int 2 t80] n76,v77⟩)
   (h87:K.lookup q83=Wj ⟨.type "tuple",r84,.seq #[.int 0 t88,.int 2 t89] n85,v86⟩)
   (h96:K.lookup q92=Wj ⟨.type "tuple",r93,.seq #[.int 0 t97,.int 2 t98] n94,v95⟩)
   (h105:K.lookup q101=Wj ⟨.type "tuple",r102,.seq #[.int 0 t106,.int 2 t107] n103,v104⟩)
   (g33:Yl K Yd (O "FORMS")=Wj (Wj (.ref q31)))
   (h34:K.lookup q31=Wj ⟨.type "dict",Wl,.dict #[⟨j36,.str (O "fn") t37,.ref q38⟩,⟨j45,.str (O "rec") t46,.ref q47⟩,⟨j54,.str (O "call") t55,.ref q56⟩,⟨j63,.str (O "if") t64,.ref q65⟩,⟨j72,.str (O "+") t73,.ref q74⟩,⟨j81,.str (O "-") t82,.ref q83⟩,⟨j90,.str (O "*") t91,.ref q92⟩,⟨j99,.str (O "<") t100,.ref q101⟩] e32,#[]⟩)
   (x108:j36=hashStr w (O "fn"))
   (x109:j45=hashStr w (O "rec"))
   (x110:j54=hashStr w (O "call"))
   (x111:j63=hashStr w (O "if"))
   (x112:j72=hashStr w (O "+"))
   (x113:j81=hashStr w (O "-"))
   (x114:j90=hashStr w (O "*"))
   (x115:j99=hashStr w (O "<"))
   (w35:(q31==Ye)=Wn):Md Pr w K mg pg kl:=by
 have D_FORMS:∃ a kvs',mg (O "FORMS")=Wj (.ref a)/\DkK Pr w K a kvs'/\∀ H B,RKs ⟨K,mg⟩ H B (cD.lookup (O "FORMS") |>.getD []) kvs':=by
   refine ⟨q31,[(YB (O "fn"),(.ref q38)),(YB (O "rec"),(.ref q47)),(YB (O "call"),(.ref q56)),(YB (O "if"),(.ref q65)),(YB (O "+"),(.ref q74)),(YB (O "-"),(.ref q83)),(YB (O "*"),(.ref q92)),(YB (O "<"),(.ref q101))],YL X G g33,⟨_,_,_,[(YB (O "fn"),.ref q38),(YB (O "rec"),.ref q47),(YB (O "call"),.ref q56),(YB (O "if"),.ref q65),(YB (O "+"),.ref q74),(YB (O "-"),.ref q83),(YB (O "*"),.ref q92),(YB (O "<"),.ref q101)],h34,⟨rfl,rfl,rfl⟩,rfl,?_,(.cons (Zt (O "fn") t37) rfl (.cons (Zt (O "rec") t46) rfl (.cons (Zt (O "call") t55) rfl (.cons (Zt (O "if") t64) rfl (.cons (Zt (O "+") t73) rfl (.cons (Zt (O "-") t82) rfl (.cons (Zt (O "*") t91) rfl (.cons (Zt (O "<") t100) rfl .nil)))))))),(by show ([YB (O "fn"),YB (O "rec"),YB (O "call"),YB (O "if"),YB (O "+"),YB (O "-"),YB (O "*"),YB (O "<")]:List Key).Nodup;decide +kernel),(.cons ⟨rfl,Z0⟩ (.cons ⟨rfl,Z0⟩ (.cons ⟨rfl,Z0⟩ (.cons ⟨rfl,Z0⟩ (.cons ⟨rfl,Z0⟩ (.cons ⟨rfl,Z0⟩ (.cons ⟨rfl,Z0⟩ (.cons ⟨rfl,Z0⟩ .nil)))))))),(by show 8<=sizeLine;decide),w35⟩,fun _ _=>(.cons (.tup (Zc1 (vs:=[(.int 1),(.int 1)]) h42 (by show 2<=sizeLine;decide) (.cons Zw (.cons Zw .nil))) (.cons (.int _) (.cons (.int _) .nil))) (.cons (.tup (Zc1 (vs:=[(.int 2),(.int 1)]) h51 (by show 2<=sizeLine;decide) (.cons Zw (.cons Zw .nil))) (.cons (.int _) (.cons (.int _) .nil))) (.cons (.tup (Zc1 (vs:=[(.int 0),(.int 2)]) h60 (by show 2<=sizeLine;decide) (.cons Zw (.cons Zw .nil))) (.cons (.int _) (.cons (.int _) .nil))) (.cons (.tup (Zc1 (vs:=[(.int 0),(.int 3)]) h69 (by show 2<=sizeLine;decide) (.cons Zw (.cons Zw .nil))) (.cons (.int _) (.cons (.int _) .nil))) (.cons (.tup (Zc1 (vs:=[(.int 0),(.int 2)]) h78 (by show 2<=sizeLine;decide) (.cons Zw (.cons Zw .nil))) (.cons (.int _) (.cons (.int _) .nil))) (.cons (.tup (Zc1 (vs:=[(.int 0),(.int 2)]) h87 (by show 2<=sizeLine;decide) (.cons Zw (.cons Zw .nil))) (.cons (.int _) (.cons (.int _) .nil))) (.cons (.tup (Zc1 (vs:=[(.int 0),(.int 2)]) h96 (by show 2<=sizeLine;decide) (.cons Zw (.cons Zw .nil))) (.cons (.int _) (.cons (.int _) .nil))) (.cons (.tup (Zc1 (vs:=[(.int 0),(.int 2)]) h105 (by show 2<=sizeLine;decide) (.cons Zw (.cons Zw .nil))) (.cons (.int _) (.cons (.int _) .nil))) .nil))))))))⟩;exact (by
       intro e he;simp only [List.mem_toArray,O1,List.not_mem_nil,or_false] at he;rcases he with rfl|rfl|rfl|rfl|rfl|rfl|rfl|rfl
       . exact ⟨YB (O "fn"),Zt (O "fn") t37,x108⟩
       . exact ⟨YB (O "rec"),Zt (O "rec") t46,x109⟩
       . exact ⟨YB (O "call"),Zt (O "call") t55,x110⟩
       . exact ⟨YB (O "if"),Zt (O "if") t64,x111⟩
       . exact ⟨YB (O "+"),Zt (O "+") t73,x112⟩
       . exact ⟨YB (O "-"),Zt (O "-") t82,x113⟩
       . exact ⟨YB (O "*"),Zt (O "*") t91,x114⟩
       . exact ⟨YB (O "<"),Zt (O "<") t100,x115⟩
     )
 refine ⟨tb0,fun x kvs hx=>?_,fun x d hx=>?_,?_,fun x fd hx=>?_,?_,?_,?_,?_⟩
 . have hm:(x,kvs)∈cD:=lookup_mem hx;have e:(x,kvs)=((O "FORMS"),(cD.lookup (O "FORMS") |>.getD [])):=by
     simp only [cD,O1,List.not_mem_nil,or_false] at hm;exact hm
   cases e;exact D_FORMS
 . have hm:(x,d)∈cG:=lookup_mem hx;have all:All (fun p:Str×D=>∃ v u,mg p.1=Wj u/\RelV v u/\∀ H B,RD ⟨K,mg⟩ H B p.2 v) cG:=⟨⟨(.int 120),_,YL X G g2,Zw,fun _ _=>(.int _)⟩,⟨(.int 1000000),_,YL X G g4,Zw,fun _ _=>(.int _)⟩,⟨(.ref q5),_,YL X G g12,Z0,fun _ _=>(.tup (Zc1 (vs:=[(.str (O "call")),(.str (O "hop"))]) h9 (by show 2<=sizeLine;decide) (.cons ZaW (.cons ZaW .nil))) (.cons (.str _ (by decide +kernel)) (.cons (.str _ (by decide +kernel)) .nil)))⟩,⟨(.ref q13),_,YL X G g22,Z0,fun _ _=>(.tup (Zc1 (vs:=[(.str (O "call")),(.str (O "hop")),(.str (O "unless")),(.str (O "work"))]) h17 (by show 4<=sizeLine;decide) (.cons ZaW (.cons ZaW (.cons ZaW (.cons ZaW .nil))))) (.cons (.str _ (by decide +kernel)) (.cons (.str _ (by decide +kernel)) (.cons (.str _ (by decide +kernel)) (.cons (.str _ (by decide +kernel)) .nil)))))⟩,⟨(.ref q23),_,YL X G g30,Z0,fun _ _=>(.tup (Zc1 (vs:=[(.str (O "unless")),(.str (O "jump"))]) h27 (by show 2<=sizeLine;decide) (.cons ZaW (.cons ZaW .nil))) (.cons (.str _ (by decide +kernel)) (.cons (.str _ (by decide +kernel)) .nil)))⟩,⟨.ref q31,_,YL X G g33,rfl,fun _ _=>.kd (YL X G g33)⟩,trivial⟩;exact all.mem _ hm
 . have all:All (fun x:Str=>mg x=Wl) ["len", "isinstance", "int", "tuple", "list", "sum", "all", "sorted", "range", "enumerate", "reversed", "str", "bool", "max"]:=⟨Ym X G z1,Ym X G z2,Ym X G z3,Ym X G z4,Ym X G z5,Ym X G z6,Ym X G z7,Ym X G z8,Ym X G z9,Ym X G z10,Ym X G z11,Ym X G z12,Ym X G z13,Ym X G z14,trivial⟩
   exact all.mem
 . have hm:(x,fd)∈tb:=lookup_mem hx;have all:All (fun p:Str×Fd=>∃ st f fdd,DefOk K mg kl fs p.1 p.2 st f fdd) tb:=⟨Zf X G d1 Zgz,Zf X G d2 ZjE,Zf X G d3 ZjL,Zf X G d4 Zgy,Zf X G d5 Zoq,Zf X G d6 ZjM,Zf X G d7 Zfb,Zf X G d8 ZmI,Zf X G d9 ZjG,Zf X G d10 ZmH,Zf X G d11 ZmJ,Zf X G d12 ZmG,Zf X G d13 ZhC,Zf X G d14 ZjC,Zf X G d15 Zgw,Zf X G d16 Zlk,Zf X G d17 Zlm,Zf X G d18 Zlj,Zf X G d19 ZjD,Zf X G d20 Zhx,Zf X G d21 ZiG,Zf X G d22 Zgx,Zf X G d23 ZiH,Zf X G d24 ZhB,Zf X G d25 ZiE,Zf X G d26 ZhA,Zf X G d27 ZjF,Zf X G d28 Zll,Zf X G d29 ZiF,Zf X G d30 ZjK,Zf X G d31 ZjJ,Zf X G d32 ZjI,Zf X G d33 ZjH,Zf X G d34 Zhy,Zf X G d35 Zhz,Zf X G d36 Zsr,trivial⟩
   exact all.mem _ hm
 . have all:All (fun C=>∃ a,mg C=Wj (.ref a)/\Cls K a/\∀ f∈kl.ats,Z6 K a f) kl.cs:=⟨⟨ca1,YL X G y1a,⟨y1b,y1c,y1d,y1e⟩,(show All (fun f=>Z6 K ca1 f) kl.ats from ⟨y1n1,y1n2,y1n3,y1n4,y1n5,y1n6,y1n7,y1n8,y1n9,y1n10,y1n11,y1n12,trivial⟩).mem⟩,⟨ca2,YL X G y2a,⟨y2b,y2c,y2d,y2e⟩,(show All (fun f=>Z6 K ca2 f) kl.ats from ⟨y2n1,y2n2,y2n3,y2n4,y2n5,y2n6,y2n7,y2n8,y2n9,y2n10,y2n11,y2n12,trivial⟩).mem⟩,⟨ca3,YL X G y3a,⟨y3b,y3c,y3d,y3e⟩,(show All (fun f=>Z6 K ca3 f) kl.ats from ⟨y3n1,y3n2,y3n3,y3n4,y3n5,y3n6,y3n7,y3n8,y3n9,y3n10,y3n11,y3n12,trivial⟩).mem⟩,⟨ca4,YL X G y4a,⟨y4b,y4c,y4d,y4e⟩,(show All (fun f=>Z6 K ca4 f) kl.ats from ⟨y4n1,y4n2,y4n3,y4n4,y4n5,y4n6,y4n7,y4n8,y4n9,y4n10,y4n11,y4n12,trivial⟩).mem⟩,trivial⟩
   exact all.mem
 . have all:All (fun p:Str×Str=>∃ a f fdd fd st q,mg p.1=Wj (.ref a)/\Cls K a/\Meth K a p.2 f/\pg.look (mnm p.1 p.2)=Wj fd/\BodyOk K kl (pg.tb.map (·.1)) p.2 q fd st f fdd) kl.ms:=⟨ZA X G y1a ⟨y1b,y1c,y1d,y1e⟩ u2 ZeA (by kernel_rfl),ZA X G y1a ⟨y1b,y1c,y1d,y1e⟩ u3 ZhD (by kernel_rfl),ZA X G y1a ⟨y1b,y1c,y1d,y1e⟩ u4 ZhE (by kernel_rfl),ZA X G y1a ⟨y1b,y1c,y1d,y1e⟩ u5 ZjN (by kernel_rfl),ZA X G y2a ⟨y2b,y2c,y2d,y2e⟩ u7 ZeB (by kernel_rfl),ZA X G y2a ⟨y2b,y2c,y2d,y2e⟩ u8 ZcB (by kernel_rfl),ZA X G y2a ⟨y2b,y2c,y2d,y2e⟩ u9 ZcC (by kernel_rfl),ZA X G y2a ⟨y2b,y2c,y2d,y2e⟩ u10 ZcD (by kernel_rfl),ZA X G y2a ⟨y2b,y2c,y2d,y2e⟩ u11 ZfY (by kernel_rfl),ZA X G y2a ⟨y2b,y2c,y2d,y2e⟩ u12 Zea (by kernel_rfl),ZA X G y2a ⟨y2b,y2c,y2d,y2e⟩ u13 ZeC (by kernel_rfl),ZA X G y2a ⟨y2b,y2c,y2d,y2e⟩ u14 Zeb (by kernel_rfl),ZA X G y2a ⟨y2b,y2c,y2d,y2e⟩ u15 Zds (by kernel_rfl),ZA X G y2a ⟨y2b,y2c,y2d,y2e⟩ u16 ZeD (by kernel_rfl),ZA X G y3a ⟨y3b,y3c,y3d,y3e⟩ u18 ZfW (by kernel_rfl),ZA X G y4a ⟨y4b,y4c,y4d,y4e⟩ u20 ZeE (by kernel_rfl),ZA X G y4a ⟨y4b,y4c,y4d,y4e⟩ u21 ZdR (by kernel_rfl),ZA X G y4a ⟨y4b,y4c,y4d,y4e⟩ u22 ZcE (by kernel_rfl),ZA X G y4a ⟨y4b,y4c,y4d,y4e⟩ u23 Zfd (by kernel_rfl),ZA X G y4a ⟨y4b,y4c,y4d,y4e⟩ u24 ZfZ (by kernel_rfl),trivial⟩
   exact all.mem
 . have all:All (fun C:Str=>∃ a f fdd fd st q,mg C=Wj (.ref a)/\Mk K a f/\pg.look (mnm C (O "__init__"))=Wj fd/\BodyOk K kl (pg.tb.map (·.1)) (O "__init__") q fd st f fdd) kl.is:=⟨Zhk X G y1a y1m y1k u1 ZfX (by kernel_rfl),Zhk X G y2a y2m y2k u6 ZdQ (by kernel_rfl),Zhk X G y3a y3m y3k u17 Zfc (by kernel_rfl),Zhk X G y4a y4m y4k u19 ZeF (by kernel_rfl),trivial⟩
   exact all.mem
 . have all:All (fun C:Str=>∃ a,mg C=Wj (.ref a)/\XOk K a) kl.xs:=trivial;exact all.mem
end K74
end
section
set_option maxHeartbeats 4000000
open PySem PySem.W PyProof.Rows
local macro_rules|`(tactic| wtm_at "dg")=>`(tactic| (refine' ⟨_,_,?na,L2.ZmN ?l ?c ?k⟩;(case na=>k_is);(case l=>k_is);(case c=>k_is);(case k=>k_is)))
local macro_rules|`(tactic| wtm_at "mg")=>`(tactic| (refine' ⟨_,_,?na,?f,?k,L2.ZmN ?l ?c ?kk⟩;(case na=>k_is);(case f=>k_is);(case l=>k_is);(case c=>k_is);(case k=>k_is);(case kk=>k_is)))
set_option maxRecDepth 100000 in
set_option maxHeartbeats 0 in
theorem PySem.Challenge.cw_samestride_k74_whole_last_calls_holds : PySem.Challenge.rw_samestride_k74_whole_last_calls.Holds := by
 refine K74hd ?_
 k_fill
 refine IV.Zrl (l:=PySem.Challenge.rw_samestride_k74_whole_last_calls) (P:=K74.pg) 250 rfl rfl rfl ⟨rfl,by decide,by decide⟩ (kl:=K74.kl) (λw h Y=>PySem.W.kIn_of Y) K74.Zqx rfl K74.runs ?MM0
 case MM0=>
  intro w mg h KX G;refine' K74.md KX G ?tb0 ?d1 ?d2 ?d3 ?d4 ?d5 ?d6 ?d7 ?d8 ?d9 ?d10 ?d11 ?d12 ?d13 ?d14 ?d15 ?d16 ?d17 ?d18 ?d19 ?d20 ?d21 ?d22 ?d23 ?d24 ?d25 ?d26 ?d27 ?d28 ?d29 ?d30 ?d31 ?d32 ?d33 ?d34 ?d35 ?d36 ?y1a ?y1b ?y1c ?y1d ?y1e ?y1n1 ?y1n2 ?y1n3 ?y1n4 ?y1n5 ?y1n6 ?y1n7 ?y1n8 ?y1n9 ?y1n10 ?y1n11 ?y1n12 ?y1m ?y1k ?u1 ?u2 ?u3 ?u4 ?u5 ?y2a ?y2b ?y2c ?y2d ?y2e ?y2n1 ?y2n2 ?y2n3 ?y2n4 ?y2n5 ?y2n6 ?y2n7 ?y2n8 ?y2n9 ?y2n10 ?y2n11 ?y2n12 ?y2m ?y2k ?u6 ?u7 ?u8 ?u9 ?u10 ?u11 ?u12 ?u13 ?u14 ?u15 ?u16 ?y3a ?y3b ?y3c ?y3d ?y3e ?y3n1 ?y3n2 ?y3n3 ?y3n4 ?y3n5 ?y3n6 ?y3n7 ?y3n8 ?y3n9 ?y3n10 ?y3n11 ?y3n12 ?y3m ?y3k ?u17 ?u18 ?y4a ?y4b ?y4c ?y4d ?y4e ?y4n1 ?y4n2 ?y4n3 ?y4n4 ?y4n5 ?y4n6 ?y4n7 ?y4n8 ?y4n9 ?y4n10 ?y4n11 ?y4n12 ?y4m ?y4k ?u19 ?u20 ?u21 ?u22 ?u23 ?u24 ?z1 ?z2 ?z3 ?z4 ?z5 ?z6 ?z7 ?z8 ?z9 ?z10 ?z11 ?z12 ?z13 ?z14 ?g2 ?g4 ?h9 ?g12 ?h17 ?g22 ?h27 ?g30 ?h42 ?h51 ?h60 ?h69 ?h78 ?h87 ?h96 ?h105 ?g33 ?h34 ?x108 ?x109 ?x110 ?x111 ?x112 ?x113 ?x114 ?x115 ?w35
  (case tb0=>(first|k_is|kernel_rfl|decide +kernel))
  (case y1a=>k_is)
  (case y1b=>k_is)
  (case y1c=>k_is)
  (case y1d=>k_is)
  (case y1e=>k_is)
  (case y1n1=>k_is)
  (case y1n2=>k_is)
  (case y1n3=>k_is)
  (case y1n4=>k_is)
  (case y1n5=>k_is)
  (case y1n6=>k_is)
  (case y1n7=>k_is)
  (case y1n8=>k_is)
  (case y1n9=>k_is)
  (case y1n10=>k_is)
  (case y1n11=>k_is)
  (case y1n12=>k_is)
  (case y1m=>k_is)
  (case y1k=>k_is)
  (case u1=>wtm_at "mg")
  (case u2=>wtm_at "mg")
  (case u3=>wtm_at "mg")
  (case u4=>wtm_at "mg")
  (case u5=>wtm_at "mg")
  (case y2a=>k_is)
  (case y2b=>k_is)
  (case y2c=>k_is)
  (case y2d=>k_is)
  (case y2e=>k_is)
  (case y2n1=>k_is)
  (case y2n2=>k_is)
  (case y2n3=>k_is)
  (case y2n4=>k_is)
  (case y2n5=>k_is)
  (case y2n6=>k_is)
  (case y2n7=>k_is)
  (case y2n8=>k_is)
  (case y2n9=>k_is)
  (case y2n10=>k_is)
  (case y2n11=>k_is)
  (case y2n12=>k_is)
  (case y2m=>k_is)
  (case y2k=>k_is)
  (case u6=>wtm_at "mg")
  (case u7=>wtm_at "mg")
  (case u8=>wtm_at "mg")
  (case u9=>wtm_at "mg")
  (case u10=>wtm_at "mg")
  (case u11=>wtm_at "mg")
  (case u12=>wtm_at "mg")
  (case u13=>wtm_at "mg")
  (case u14=>wtm_at "mg")
  (case u15=>wtm_at "mg")
  (case u16=>wtm_at "mg")
  (case y3a=>k_is)
  (case y3b=>k_is)
  (case y3c=>k_is)
  (case y3d=>k_is)
  (case y3e=>k_is)
  (case y3n1=>k_is)
  (case y3n2=>k_is)
  (case y3n3=>k_is)
  (case y3n4=>k_is)
  (case y3n5=>k_is)
  (case y3n6=>k_is)
  (case y3n7=>k_is)
  (case y3n8=>k_is)
  (case y3n9=>k_is)
  (case y3n10=>k_is)
  (case y3n11=>k_is)
  (case y3n12=>k_is)
  (case y3m=>k_is)
  (case y3k=>k_is)
  (case u17=>wtm_at "mg")
  (case u18=>wtm_at "mg")
  (case y4a=>k_is)
  (case y4b=>k_is)
  (case y4c=>k_is)
  (case y4d=>k_is)
  (case y4e=>k_is)
  (case y4n1=>k_is)
  (case y4n2=>k_is)
  (case y4n3=>k_is)
  (case y4n4=>k_is)
  (case y4n5=>k_is)
  (case y4n6=>k_is)
  (case y4n7=>k_is)
  (case y4n8=>k_is)
  (case y4n9=>k_is)
  (case y4n10=>k_is)
  (case y4n11=>k_is)
  (case y4n12=>k_is)
  (case y4m=>k_is)
  (case y4k=>k_is)
  (case u19=>wtm_at "mg")
  (case u20=>wtm_at "mg")
  (case u21=>wtm_at "mg")
  (case u22=>wtm_at "mg")
  (case u23=>wtm_at "mg")
  (case u24=>wtm_at "mg")
  (case d1=>wtm_at "dg")
  (case d2=>wtm_at "dg")
  (case d3=>wtm_at "dg")
  (case d4=>wtm_at "dg")
  (case d5=>wtm_at "dg")
  (case d6=>wtm_at "dg")
  (case d7=>wtm_at "dg")
  (case d8=>wtm_at "dg")
  (case d9=>wtm_at "dg")
  (case d10=>wtm_at "dg")
  (case d11=>wtm_at "dg")
  (case d12=>wtm_at "dg")
  (case d13=>wtm_at "dg")
  (case d14=>wtm_at "dg")
  (case d15=>wtm_at "dg")
  (case d16=>wtm_at "dg")
  (case d17=>wtm_at "dg")
  (case d18=>wtm_at "dg")
  (case d19=>wtm_at "dg")
  (case d20=>wtm_at "dg")
  (case d21=>wtm_at "dg")
  (case d22=>wtm_at "dg")
  (case d23=>wtm_at "dg")
  (case d24=>wtm_at "dg")
  (case d25=>wtm_at "dg")
  (case d26=>wtm_at "dg")
  (case d27=>wtm_at "dg")
  (case d28=>wtm_at "dg")
  (case d29=>wtm_at "dg")
  (case d30=>wtm_at "dg")
  (case d31=>wtm_at "dg")
  (case d32=>wtm_at "dg")
  (case d33=>wtm_at "dg")
  (case d34=>wtm_at "dg")
  (case d35=>wtm_at "dg")
  (case d36=>wtm_at "dg")
  (case z1=>k_is)
  (case z2=>k_is)
  (case z3=>k_is)
  (case z4=>k_is)
  (case z5=>k_is)
  (case z6=>k_is)
  (case z7=>k_is)
  (case z8=>k_is)
  (case z9=>k_is)
  (case z10=>k_is)
  (case z11=>k_is)
  (case z12=>k_is)
  (case z13=>k_is)
  (case z14=>k_is)
  (case g2=>k_is)
  (case g4=>k_is)
  (case g12=>k_is)
  (case h9=>k_is)
  (case g22=>k_is)
  (case h17=>k_is)
  (case g30=>k_is)
  (case h27=>k_is)
  (case g33=>k_is)
  (case h34=>k_is)
  (case h42=>k_is)
  (case h51=>k_is)
  (case h60=>k_is)
  (case h69=>k_is)
  (case h78=>k_is)
  (case h87=>k_is)
  (case h96=>k_is)
  (case h105=>k_is)
  (case x108=>(first|rfl|k_is|fail))
  (case x109=>(first|rfl|k_is|fail))
  (case x110=>(first|rfl|k_is|fail))
  (case x111=>(first|rfl|k_is|fail))
  (case x112=>(first|rfl|k_is|fail))
  (case x113=>(first|rfl|k_is|fail))
  (case x114=>(first|rfl|k_is|fail))
  (case x115=>(first|rfl|k_is|fail))
  (case w35=>rfl)
end
