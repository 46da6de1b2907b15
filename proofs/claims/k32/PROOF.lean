import PyProof.Rows.All
import Wide.All
import OpenK.AllK
import Wide.FinOn
import PyProof.EqAt
import PyProof.EqKinds
import PyProof.TupleCall
import Lean
import PySem.Challenge.RW_samestride_k32_dump_quiet
set_option Elab.async false
set_option linter.all false
set_option maxRecDepth 100000
open PySem renaming wpAny_bind->Ya
open PySem renaming Shared->Yb
open PySem renaming wpAny_pure->Yc
open PySem renaming mainGlobals->Yd
open PySem renaming sysModules->Ye
open PySem renaming wpAny_mono->Yf
open PySem renaming World->Yg
open PySem renaming Program->Yh
open PySem renaming Addr->Yi
open PySem renaming Value->Yj
open PySem.W renaming Frag->Yk
open PySem.W renaming nsIn->Yl
open PySem.W renaming mg_none_of->Ym
open PySem.Heap renaming lt_size->Yn
open PySem.NameKind renaming free->Yo
open PySem.PyData renaming strOk->Yp
open PySem.StrLaws renaming sliceText->Yq
open PySem renaming wpAny_newObj_type->Yr
open List renaming mem_append_left->Ys
open List renaming append_nil->Yt
open List renaming length_map->Yu
open Option renaming map_some->Yv
open Nat renaming lt_irrefl->Yw
open Nat renaming zero_le->Yy
open Option renaming bind_some->Yz
open PySem renaming starEach->YA
open PySem renaming wpAny->YB
open PySem renaming sizeLine_eq->YC
open PySem.Value renaming ref->YD
open Sum renaming inr->YE
open Option.some renaming inj->YF
open PySem renaming Heap->YG
open PySem renaming Around->YH
open PySem renaming mem_of_lookup->YI
open PySem.W renaming findIn->YJ
open List renaming replicate->YK
open Ne renaming symm->YL
open PySem renaming compareOp->YM
open PySem.Heap renaming get?_update_other->YN
open PySem.W renaming mg_of->YO
open PySem.PyData renaming eqv->YQ
open PySem renaming wpAny_field->YR
open PySem renaming backTo->YS
open PySem.W renaming emptyDict->YT
open PySem.F renaming plain_max_loop->YU
open PySem.W renaming subIn->YV
open Nat renaming add_comm->YW
open PySem.Heap renaming get?_update_self->YX
open PySem renaming wpAny_Call_Name_kw->YY
open PySem.Obj renaming data_mapFields->YZ
open Function renaming comp_def->Wa
open PySem.W renaming hideAll->Wb
open PySem renaming wpAny_callSpecial?_slot->Wc
open List renaming any_cons->We
open PySem.W renaming keepIn->Wf
open PySem renaming wpAny_holding->Wg
open PySem renaming wpAny_call_entry->Wh
open PySem.W renaming instObj->Wi
open Nat renaming le_succ->Wj
open List renaming lookup->Wm
open PyProof.Rows renaming slot_tuple_getitem->Wo
open PySem renaming wpAny_of_eq->Wp
open PySem.Builtin.List renaming listTooLong->Wq
open List renaming foldl_cons->Wr
open List renaming find?_cons->Ws
open Bool renaming or_eq_true->Wu
open Option renaming some->Wv
open Option renaming none->Ww
open Bool renaming true->Wx
open Bool renaming false->Wy
open Decidable renaming decide->Wz
open PySem.Str renaming ofString->O
open Bool renaming and_eq_true->Oa
open List renaming getElem?_eq_some_iff->Ob
open List renaming getElem?_set_ne->Oc
open PySem.Heap renaming get?_push_of_some->O1
open List renaming getElem?_append_left->Oe
open List renaming size_toArray->Of
open List renaming getElem?_eq_getElem->Og
open List renaming mem_cons_of_mem->Oh
open List renaming mem_cons_self->Oi
open PySem.Heap renaming get?_push_size->Oj
open List renaming mem_of_getElem?->O2
open List renaming getElem?_set_self->Ol
open List renaming getElem?_append_right->Om
open List renaming getElem?_map->On
open Option renaming map_eq_some_iff->Oo
open List renaming map_cons->Op
open Nat renaming le_refl->Oq
open List renaming mem_cons->O3
open List renaming length_cons->Os
open Nat renaming lt_of_lt_of_le->O4
open Nat renaming ne_of_lt->Ou
open List renaming mem_append_right->Ov
open Bool renaming false_ne_true->Ow
open List renaming mem_singleton->Ox
open List renaming map_nil->Oy
open List renaming append_assoc->Oz
open List renaming length_append->OA
open List renaming nil_append->OB
open List renaming all_eq_true->OC
open List renaming mem_append->OD
open Nat renaming le_trans->OE
open List renaming lookup_cons->OF
open Bool renaming false_eq_true->OG
open Nat renaming lt_succ_self->OH
open List renaming sum_cons->OI
open List renaming getElem?_cons_zero->OJ
open List renaming getElem?_cons_succ->O0
section
open PySem PySem.W PyProof.Rows
set_option maxHeartbeats 0
namespace PySem.W.Fast
def tw14583751253571562528:=0
def tw4554107882411678784:=0
def tw12075435403779483712:=0
def tw12986508700564749440:=0
def tw8142427824958202048:=0
def tw4656786296918233376:=0
def tw1111257643120160032:=0
def tw13880808957954324896:=0
def tw9519884189158132512:=0
def tw2387911949116611456:=0
def tw6157281408113219649:=0
def tw5015292251689029729:=0
def tw4809367950923932769:=0
def tw12991056640964273249:=0
def tw7833798276529852609:=0
def tw14533190363785805025:=0
def tw8385227112830687489:=0
def tw4792253858506312961:=0
def tw18343518578431675681:=0
def tw5833176280618544737:=0
def tw6465836536196222593:=0
def tw856000946891223713:=0
def tw18037458105866495649:=0
def tw3090848097900660385:=0
def tw10881140116757645057:=0
def tw3196008954690213825:=0
def tw2644513629752667073:=0
def tw3774644731852894145:=0
def tw11163488700980137953:=0
def tw16311162307754696673:=0
def tw8430518473521342433:=0
def tw12222227743701488609:=0
def tw7065386708266223618:=0
def tw13238143423441175618:=0
def tw2562044431915553890:=0
def tw3771505965029917826:=0
def tw13060555399774230690:=0
def tw777978399613545698:=0
def tw1728011908694688034:=0
def tw9628302249622364674:=0
def tw8841477988670254690:=0
def tw15622193329865561730:=0
def tw3221319531015009986:=0
def tw13000630150559810274:=0
def tw1207301455266990818:=0
def tw4954531235736581922:=0
def tw10035513839877728066:=0
def tw526225529685918562:=0
def tw4095762558711059459:=0
def tw10304214586040180835:=0
def tw10226171779479371971:=0
def tw12219982637580135619:=0
def tw3291253370996109635:=0
def tw15801773335483073891:=0
def tw7035998183636816227:=0
def tw14046599528596300131:=0
def tw896822613108782915:=0
def tw7474553096255463331:=0
def tw7504630094493276131:=0
def tw16571986865700964420:=0
def tw4648006533090781252:=0
def tw16091861617353234532:=0
def tw16971074336444700004:=0
def tw18053442027818021444:=0
def tw608353242351966884:=0
def tw12575635090836471492:=0
def tw13981366787502878692:=0
def tw9513587710703688869:=0
def tw8721271197655797093:=0
def tw5496555313796469189:=0
def tw8146853348759660005:=0
def tw2222447171703941637:=0
def tw7563053102635991845:=0
def tw3883839407145032677:=0
def tw17708432451547670566:=0
def tw859898325996885126:=0
def tw13434748553539136646:=0
def tw12522231145385131366:=0
def tw9682649141000603014:=0
def tw7455242725114295718:=0
def tw1777673071424321062:=0
def tw17094483862855928390:=0
def tw6753860141143840422:=0
def tw16454315783927059142:=0
def tw6027314526740929318:=0
def tw15186143648070250374:=0
def tw8710799760982177766:=0
def tw5923628689400250407:=0
def tw15299384488140996679:=0
def tw9419117316947432551:=0
def tw16852498911652199591:=0
def tw9068283750814600359:=0
def tw636742140069098855:=0
def tw1711680539972811239:=0
def tw13578324690651533863:=0
def tw255266775747220071:=0
def tw2597768495812558535:=0
def tw12528550919032423143:=0
def tw4272200239148878631:=0
def tw12099496536284215111:=0
def tw7649832481536711591:=0
def tw16872895017171289128:=0
def tw4523514112199303272:=0
def tw16436626722595097864:=0
def tw5897999231863575816:=0
def tw5238611475497430312:=0
def tw9418999378780476872:=0
def tw17918799957534568936:=0
def tw15283726973812058664:=0
def tw13185352890032155304:=0
def tw15276646158699193256:=0
def tw15715991246499753928:=0
def tw11480567762557427721:=0
def tw7263416558058488969:=0
def tw13647276916661915849:=0
def tw1464053535850602825:=0
def tw13407188238953897321:=0
def tw14714179039685758441:=0
def tw15395098437833676425:=0
def tw15415632996286086889:=0
def tw8881014824567031529:=0
def tw10969407284251700009:=0
def tw8189203196978496297:=0
def tw3154981885671331657:=0
def tw11193745059324925769:=0
def tw18370036262179357609:=0
def tw13047659721337995241:=0
def tw10082904871532739722:=0
def tw17463716881912896842:=0
def tw1668785438071178602:=0
def tw15353875500379822602:=0
def tw5250947967752177322:=0
def tw507256748572929738:=0
def tw7341411699658651434:=0
def tw2671717757689897834:=0
def tw16144761378845201290:=0
def tw558413571173855178:=0
def tw1944145688967122059:=0
def tw6899456949792167115:=0
def tw1991577241349162283:=0
def tw3032938805552948715:=0
def tw1138194799202759147:=0
def tw2207421682211720779:=0
def tw2970423333451520012:=0
def tw3612370008229936172:=0
def tw6335504146597881932:=0
def tw15331532482659017868:=0
def tw10235158452708863180:=0
def tw12320049004565145868:=0
def tw16033653452139912556:=0
def tw4868700433728004556:=0
def tw14890007236518998508:=0
def tw16270574876683941452:=0
def tw1944223509744213676:=0
def tw3842207205479440076:=0
def tw9663149508489352940:=0
def tw15841350205266036620:=0
def tw12007137608656135116:=0
def tw3905575650991523853:=0
def tw838132584085669005:=0
def tw864011821850709133:=0
def tw12157087463465608333:=0
def tw1779264553864736973:=0
def tw2086205630760717613:=0
def tw11447538086716879149:=0
def tw2933139130038998477:=0
def tw10372375731157113421:=0
def tw8596388352579477069:=0
def tw12417347278360234573:=0
def tw4960865415371123437:=0
def tw5956947209618597677:=0
def tw14466279722641907565:=0
def tw9866810403024275373:=0
def tw11638924633230321613:=0
def tw3996767204399510477:=0
def tw7492081915868959725:=0
def tw6174017266250195214:=0
def tw77351729043989774:=0
def tw1595568152477577710:=0
def tw12648834840750759438:=0
def tw7001374193010213422:=0
def tw6348028707557291566:=0
def tw16238791567936784046:=0
def tw945886578446255790:=0
def tw10980322685038554894:=0
def tw12730333175422560174:=0
def tw1040316478290043919:=0
def tw3885452875359459535:=0
def tw13646715017558101327:=0
def tw286337689033301551:=0
def tw15414037312241391183:=0
def tw4765323051160601327:=0
def tw9758051788317938543:=0
def tw11419388881020052496:=0
def tw557865253950320912:=0
def tw13815139237182642544:=0
def tw13148157947231745488:=0
def tw17924024522321999344:=0
def tw16753749694906506768:=0
def tw11912827943817212528:=0
def tw1554821266297132720:=0
def tw5345149036350991056:=0
def tw12843654666112573264:=0
def tw9432646072881070928:=0
def tw13739635393771443056:=0
def tw3497060756574844848:=0
def tw16593707532906779697:=0
def tw3810899943838581841:=0
def tw2402491790124599441:=0
def tw11626119108124215601:=0
def tw1454006642472934929:=0
def tw6891462109600675377:=0
def tw3098905072257964593:=0
def tw2177656971210203729:=0
def tw14370039931581817585:=0
def tw868596228741194513:=0
def tw17763050160875381745:=0
def tw10336110799357851666:=0
def tw5114072414608857138:=0
def tw17589102889750424882:=0
def tw4744542160290022738:=0
def tw13134736457773534802:=0
def tw374186780482830994:=0
def tw2141177390881709042:=0
def tw17288835430470959155:=0
def tw6802099591659338803:=0
def tw1812198208518816883:=0
def tw4235060891625667763:=0
def tw16954166860099053811:=0
def tw15850196748561962323:=0
def tw15211804333161544051:=0
def tw12478252537082963379:=0
def tw1535657255608050131:=0
def tw17167242401759005203:=0
def tw13965235228610889299:=0
def tw7134891943168926323:=0
def tw15581942716642172531:=0
def tw9172507417609284307:=0
def tw1137891527310391027:=0
def tw652560733304542324:=0
def tw12724033718425619572:=0
def tw11159394748602416340:=0
def tw3729094367298329876:=0
def tw9389730423445739892:=0
def tw11264151962176460180:=0
def tw4077692013131092436:=0
def tw614729183605186068:=0
def tw17769255002006949428:=0
def tw15173862259637163796:=0
def tw5387508537276027925:=0
def tw10759955721371393333:=0
def tw16571046927322577301:=0
def tw4872006756576766357:=0
def tw16152034568245047733:=0
def tw9644285814640765397:=0
def tw10432813933001868181:=0
def tw9560493188774516661:=0
def tw15876560879225052117:=0
def tw758317575723229238:=0
def tw6140139209913637174:=0
def tw10109292995073080758:=0
def tw306122063079471574:=0
def tw13066022171010383927:=0
def tw4721750045129963607:=0
def tw1917752988336225431:=0
def tw10883875826804796663:=0
def tw790935495498550583:=0
def tw13937937933922068887:=0
def tw7561906804484946615:=0
def tw17749952571153944311:=0
def tw13158765170908827479:=0
def tw3427685068018154423:=0
def tw4448481074215956439:=0
def tw6573795239558849624:=0
def tw11469723889488540792:=0
def tw11352436294548449400:=0
def tw11764171819163948248:=0
def tw13670353269585832280:=0
def tw5382578351122119000:=0
def tw4768644200668642808:=0
def tw563691004037679640:=0
def tw17264377560287409752:=0
def tw18358439793476384536:=0
def tw9425015287018127224:=0
def tw5891580991866838968:=0
def tw12832450174724255736:=0
def tw14988158285531916473:=0
def tw12079856287436239065:=0
def tw18229100273818534169:=0
def tw2711644345263731065:=0
def tw8117971136473704857:=0
def tw14508542522084816409:=0
def tw12714682733365973561:=0
def tw3230064869433763481:=0
def tw3006362828554498937:=0
def tw7974248630597785593:=0
def tw18029948558657603577:=0
def tw9720726945268089210:=0
def tw7305930396403476890:=0
def tw14984624826414814618:=0
def tw14458332041357072922:=0
def tw7919672501383080634:=0
def tw16575311434481982138:=0
def tw9553184795320198906:=0
def tw11786502626817567578:=0
def tw16225773786159471482:=0
def tw9125935606135826362:=0
def tw2542784914441672666:=0
def tw6063797733130809435:=0
def tw6039459853376132219:=0
def tw7510856378488005755:=0
def tw7419507042717450459:=0
def tw8121251939072609563:=0
def tw7299526198792611355:=0
def tw9781971998936793723:=0
def tw2426078562651899803:=0
def tw2399834056762115067:=0
def tw4210683276916598812:=0
def tw11107886412862444572:=0
def tw7689872075330050076:=0
def tw2203934561562175804:=0
def tw15243933489007289724:=0
def tw9455067790727312892:=0
def tw10738553684267077148:=0
def tw17204477800564343356:=0
def tw1020889684207125084:=0
def tw6095024571911498332:=0
def tw17760807149708475004:=0
def tw14555926333979821724:=0
def tw15238102595446387676:=0
def tw5703089295823077437:=0
def tw6620587358534948925:=0
def tw10497965635492638877:=0
def tw7025449023290773693:=0
def tw10222811691976191293:=0
def tw4204160778273628733:=0
def tw15775424459095724765:=0
def tw1581109194295414974:=0
def tw4604614682144310558:=0
def tw14995914701423794590:=0
def tw9504618203374721502:=0
def tw6703868433322030558:=0
def tw16556121966957450782:=0
def tw15771208232152988222:=0
def tw8009586733885470462:=0
def tw1097731431138259742:=0
def tw1459192073034985246:=0
def tw10410901800119364510:=0
def tw13188925153358819262:=0
def tw16800612618555039710:=0
def tw12268809860963770463:=0
def tw5293525090533989567:=0
def tw2224685052735622335:=0
def tw15991195915550639423:=0
def tw9910033463480451551:=0
def tw3752317350461769215:=0
def tw13441388042836535807:=0
def tw2823466027351797407:=0
def tw7054042607854949055:=0
def tw6230966572577737439:=0
def tw16573061380456764223:=0
def tw14647223105383781451:=0
def tw13260721127977384275:=0
end PySem.W.Fast
open_top K32hd for PySem.Challenge.rw_samestride_k32_dump_quiet
end
section
namespace L2
open PySem PySem.Spec PyProof.Rows
noncomputable abbrev Key:=Sum Int Str
noncomputable def ZgB:Key->Yj->Bool
 |.inl k,v=>Value.isInt k v
 |.inr x,v=>Value.isStrOf x v
noncomputable def Zvy(w:Yg):Key->Int
 |.inl k=>hashInt k
 |.inr x=>hashStr w x
theorem ZI:∀{k:Key}{v:Yj},ZgB k v=Wx->(∃i t,k=Sum.inl i/\v=Value.int i t)\/(∃x t,k=YE x/\v=Value.str x t)
 |.inl i,v,h=>by obtain⟨t,e⟩:=Value.isInt_shape (k:=i) (v:=v) h;exact .inl ⟨i,t,rfl,e⟩
 |.inr x,v,h=>by obtain⟨t,e⟩:=Value.isStrOf_shape (x:=x) (v:=v) h;exact .inr ⟨x,t,rfl,e⟩
theorem ZlJ(i:Int)(t:Tok):ZgB (.inl i) (.int i t)=Wx:=by simp[ZgB,Value.isInt]
theorem Zs(x:Str)(t:Tok):ZgB (.inr x) (.str x t)=Wx:=by simp[ZgB,Value.isStrOf]
theorem Zr3(a b:Int):Wz ((Sum.inl a:Key)=Sum.inl b)=(a==b):=by
 by_cases e:a=b
 . subst e;simp
 . have h:¬ (Sum.inl a:Key)=Sum.inl b:=λq=>e (Sum.inl.inj q);rw[decide_eq_false h];exact(beq_eq_false_iff_ne.mpr e).symm
theorem Zr0(a b:Str):Wz ((YE a:Key)=YE b)=Wz (a=b):=by
 by_cases e:a=b
 . subst e;simp
 . have h:¬ (YE a:Key)=YE b:=λq=>e (Sum.inr.inj q);rw[decide_eq_false h,decide_eq_false e]
theorem Zr2(a:Int)(b:Str):Wz ((Sum.inl a:Key)=YE b)=Wy:=decide_eq_false (λq=>nomatch q)
theorem Zr1(a:Str)(b:Int):Wz ((YE a:Key)=Sum.inl b)=Wy:=decide_eq_false (λq=>nomatch q)
noncomputable def ZM(prog:Yh)(w:Yg):PySem.KeyKind prog w Key where
 is:=ZgB
 hash:=Zvy w
 inj:=λv a b ha hb=>by
  rcases ZI ha with ⟨i,t,rfl,rfl⟩|⟨x,t,rfl,rfl⟩
  . rcases ZI hb with ⟨j,u,rfl,e⟩|⟨y,u,rfl,e⟩
    . injection e with e1 _;rw[e1]
    . exact nomatch e
  . rcases ZI hb with ⟨j,u,rfl,e⟩|⟨y,u,rfl,e⟩
    . exact nomatch e
    . injection e with e1 _;rw[e1]
 byValue:=λk v h=>by rcases ZI h with ⟨i,t,rfl,rfl⟩|⟨x,t,rfl,rfl⟩<;>rfl
 pyHash:=λhv h=>by
  rcases ZI hv with ⟨i,t,rfl,rfl⟩|⟨x,t,rfl,rfl⟩
  . exact wpAny_pyHash_int h
  . exact wpAny_pyHash_str h
 eqBool:=λhu hv h=>by
  rcases ZI hu with ⟨i,t,rfl,rfl⟩|⟨x,t,rfl,rfl⟩
  . rcases ZI hv with ⟨j,u,rfl,rfl⟩|⟨y,u,rfl,rfl⟩
    . rw[Zr3]at h;exact wpAny_eqBool_int h
    . rw[Zr2]at h;exact SeqAt.EqAt.int_str i t y u _ _ _ _ h
  . rcases ZI hv with ⟨j,u,rfl,rfl⟩|⟨y,u,rfl,rfl⟩
    . rw[Zr1]at h;exact SeqAt.EqAt.str_int x t j u _ _ _ _ h
    . rw[Zr0]at h;exact wpAny_eqBool_str h
 «strs»:=λk x t v h=>by
  rcases ZI h with ⟨i,u,rfl,e⟩|⟨y,u,rfl,e⟩
  . exact nomatch e
  . injection e with e1 _;subst e1;cases v<;>rfl
theorem Zil(prog:Yh)(w:Yg)(i:Int)(t:Tok):(ZM prog w).is (.inl i) (.int i t)=Wx:=ZlJ i t
theorem Zik(prog:Yh)(w:Yg)(x:Str)(t:Tok):(ZM prog w).is (.inr x) (.str x t)=Wx:=Zs x t
inductive V where
 |non|bl (b:Bool)|int (i:Int)|str (x:Str)|byt (b:Array UInt8)|flt (b:UInt64)|ref (a:Yi)|ty (n:String)
 deriving DecidableEq
def RelV:V->Yj->Prop
 |.non,u=>u=Value.none
 |.bl b,u=>u=Value.bool b
 |.int i,u=>∃t,u=Value.int i t
 |.str x,u=>∃t,u=Value.str x t
 |.byt b,u=>∃t,u=Value.bytes b t
 |.flt b,u=>∃t,u=Value.float b t
 |.ref a,u=>u=YD a
 |.ty n,u=>u=Value.type n
abbrev Zm:List V->List Yj->Prop:=Paired RelV
theorem Zm.length{xs:List V}{us:List Yj}(r:Zm xs us):xs.length=us.length:=Paired.length r
theorem Zm.get:∀{xs:List V}{us:List Yj}{i:Nat}{x:V},Zm xs us->xs[i]? = Wv x->∃u,us[i]? = Wv u/\RelV x u
 |_,_,_,_,.nil,e=>by simp at e
 |_,_,0,_,.cons r _,e=>by simp at e;subst e;exact⟨_,rfl,r⟩
 |_,_,i+1,x,.cons _ t,e=>by obtain⟨u,h1,h2⟩:=Zm.get (i:=i) (x:=x) t (by simpa using e);exact⟨u,by simpa using h1,h2⟩
theorem Zm.set{x:V}{u:Yj}(r:RelV x u):∀{xs:List V}{us:List Yj} (i:Nat),Zm xs us->Zm (xs.set i x) (us.set i u)
 |_,_,_,.nil=>.nil
 |_,_,0,.cons _ t=>.cons r t
 |_,_,i+1,.cons q t=>.cons q (Zm.set r i t)
theorem Zm.append:∀{xs ys:List V}{us ws:List Yj},Zm xs us->Zm ys ws->Zm (xs++ys) (us++ws)
 |_,_,_,_,.nil,s=>s
 |_,_,_,_,.cons r t,s=>.cons r (Zm.append t s)
theorem Zm.take:∀{xs:List V}{us:List Yj} (n:Nat),Zm xs us->Zm (xs.take n) (us.take n)
 |_,_,0,_=>.nil
 |_,_,_+1,.nil=>.nil
 |_,_,n+1,.cons r t=>.cons r (Zm.take n t)
theorem Zm.drop:∀{xs:List V}{us:List Yj} (n:Nat),Zm xs us->Zm (xs.drop n) (us.drop n)
 |_,_,0,r=>r
 |_,_,_+1,.nil=>.nil
 |_,_,n+1,.cons _ t=>Zm.drop n t
def Zec:Option V->Option Yj->Prop
 |some v,Wv u=>RelV v u
 |none,Ww=>True
 |_,_=>False
def KV{κ:Type}:List (κ×V)->List (κ×Yj)->Prop:=Paired λ(p:κ×V) (q:κ×Yj)=>p.1=q.1/\RelV p.2 q.2
noncomputable def kV:Key->V
 |.inl i=>.int i
 |.inr x=>.str x
inductive HO where
 |lst (xs:List V)
 |tup (xs:List V)
 |dK (kvs:List (Key×V))|dT (kvs:List (List Key×V))
 |set (S_:Int->Bool) (n:Nat)
 |ins (C dx:Yi) (fs:List (Str×V))
 |own (x:Yi)
 |xd (fs:List (Str×V))
 |met (f x:Yi)
 |rng (lo hi:Int)
 |frz (o:Obj) (u:HO)
 |tbl (ps:Array Yj)
 |ext (φ:YG->Prop)
abbrev Hp:=Yi->Option HO
noncomputable def upd(H:Hp)(a:Yi)(o:HO):Hp:=λb=>if b=a then Wv o else H b
theorem Zl{H:Hp}{a:Yi}{o:HO}:upd H a o a=Wv o:=by unfold upd;rw[if_pos rfl]
theorem Ze{H:Hp}{a b:Yi}{o:HO}(h:b≠a):upd H a o b=H b:=by unfold upd;rw[if_neg h]
theorem ZJ{H:Hp}{a b:Yi}{o:HO}(h:H a=Wv o)(h':H b=Ww):a≠b:=by intro e;subst e;rw[h]at h';cases h'
section
variable (P:Yh) (w:Yg)
def ZbE(h:YG)(a:Yi)(items:Array Yj):Prop:=∃o,h.get? a=Wv o/\o.cls=.type "tuple" /\ o.dict=Ww/\∃n,o.data=.seq items n
theorem ZbE.tup{h:YG}{a:Yi}{items:Array Yj}(x:ZbE h a items):IsTup h a items:=let ⟨o,ho,hc,_,r⟩:=x;⟨o,ho,hc,r⟩
theorem ZbE.fresh(h:YG)(items:Array Yj):ZbE (h.push {cls:=.type "tuple",data:=.seq items}) h.objs.size items:=⟨_,Oj _ rfl,rfl,rfl,_,rfl⟩
def Zai(H:Hp)(h:YG)(a:Yi):HO->Prop
 |.lst xs=>xs.length<=sizeLine/\∃(its:List Yj) (n:Nat),Zm xs its/\h.get? a=Wv {cls:=.type "list",data:=.seq its.toArray n}
 |.tup xs=>xs.length<=sizeLine/\∃its:List Yj,Zm xs its/\ZbE h a its.toArray
 |.dK kvs=>kvs.length<=sizeLine/\(a==Ye)=Wy/\∃vs,KV kvs vs/\h.DictOf (ZM P w) a vs
 |.dT kvs=>kvs.length<=sizeLine/\(a==Ye)=Wy/\∃xs:List (List Key×Yi×Yj),
  Paired (λ(p:List Key×V) (q:List Key×Yi×Yj)=>p.1=q.1/\H q.2.1=Wv (.tup (p.1.map kV))/\RelV p.2 q.2.2) kvs xs /\
  ∃o es ep,h.get? a=Wv o/\o.ExactDict/\o.data=.dict es ep/\es.toList=xs.map (entryOfKey (tupleKind (ZM P w)))/\(xs.map (·.1)).Nodup
 |.set S_ n=>h.SetOf (intKind P w) a S_ n
 |.ins C dx fs=>H dx=Wv (.own a)/\fs.length<=1000/\dx≠a/\h.get? a=Wv (Wi C dx) /\
  ∃mA,h.Ns1 dx mA/\(∀f,Zec (fs.lookup f) (mA f))/\PySem.Within mA (fs.map (·.1))
 |.own _=>∃o,h.get? a=Wv o
 |.xd fs=>∃mA,h.Ns1 a mA/\∀f,Zec (fs.lookup f) (mA f)
 |.rng lo hi=>∃t u v,h.get? a=Wv {cls:=.type "range",data:=.fields #[.int lo t,.int hi u,.int 1 v]}
 |.frz o u=>h.get? a=Wv o/\Zai H h a u
 |.tbl ps=>h.get? a=Wv {cls:=.none,data:=.fields ps}
 |.met f x=>h.get? a=Wv (PySem.W.methodObj (.ref f) (.ref x))
 |.ext φ=>φ h/\(∃o,h.get? a=Wv o)/\∀h1 h2:YG,φ h1->(∀o,h1.get? a=Wv o->h2.get? a=Wv o)->φ h2
def HOk(H:Hp)(h:YG):Prop:=∀a o,H a=Wv o->Zai P w H h a o
end
section
variable {P:Yh}{w:Yg}{H H':Hp}{h h':YG}{a:Yi}{o:HO}
theorem Zai.lt(x:Zai P w H h a o):a<h.objs.size:=by
 cases o with
 |lst xs=>obtain⟨_,_,_,_,e⟩:=x;exact Yn e
 |tup xs=>obtain⟨_,_,_,p⟩:=x;exact p.tup.lt
 |dK kvs=>obtain⟨_,_,_,_,o,_,_,e,_⟩:=x;exact Yn e
 |dT kvs=>obtain⟨_,_,_,_,o,_,_,e,_⟩:=x;exact Yn e
 |set S_ n=>obtain⟨o,_,_,_,e,_⟩:=x;exact Yn e
 |ins C dx fs=>obtain⟨_,_,_,e,_⟩:=x;exact Yn e
 |own y=>obtain⟨_,e⟩:=x;exact Yn e
 |xd fs=>obtain⟨_,⟨_,_,_,e,_⟩,_⟩:=x;exact Yn e
 |rng lo hi=>obtain⟨_,_,_,e⟩:=x;exact Yn e
 |frz ob u=>obtain⟨e,_⟩:=x;exact Yn e
 |tbl ps=>exact Yn (show h.get? a=Wv _ from x)
 |met f y=>exact Yn (show h.get? a=Wv _ from x)
 |ext φ=>obtain⟨_,⟨_,e⟩,_⟩:=x;exact Yn e
theorem Paired.mapP{α β:Type}{F G:α->β->Prop}:∀{l₁:List α}{l₂:List β},Paired F l₁ l₂->(∀a b,F a b->G a b)->Paired G l₁ l₂
 |_,_,.nil,_=>.nil
 |_,_,.cons r t,f=>.cons (f _ _ r) (Paired.mapP t f)
theorem Zai.stay(x:Zai P w H h a o)(k:∀b u,(b=a\/H b=Wv (.own a))->h.get? b=Wv u->h'.get? b=Wv u)
 (ho:∀b,H b=Wv (.own a)->H' b=Wv (.own a)) (ht:∀b xs,H b=Wv (.tup xs)->H' b=Wv (.tup xs)):Zai P w H' h' a o:=by
 induction o with
 |lst xs=>obtain⟨z,its,n,r,e⟩:=x;exact⟨z,its,n,r,k _ _ (.inl rfl) e⟩
 |tup xs=>obtain⟨z,its,r,ob,e,c⟩:=x;exact⟨z,its,r,ob,k _ _ (.inl rfl) e,c⟩
 |dK kvs=>obtain⟨z,y,vs,r,ob,es,ep,e,c⟩:=x;exact⟨z,y,vs,r,ob,es,ep,k _ _ (.inl rfl) e,c⟩
 |dT kvs=>obtain⟨z,y,xs,r,ob,es,ep,e,c⟩:=x;exact⟨z,y,xs,Paired.mapP r λp q z=>⟨z.1,ht _ _ z.2.1,z.2.2⟩,ob,es,ep,k _ _ (.inl rfl) e,c⟩
 |set S_ n=>obtain⟨ob,es,ep,t,e,c⟩:=x;exact⟨ob,es,ep,t,k _ _ (.inl rfl) e,c⟩
 |ins C dx fs=>obtain⟨d,z,ne,e,mA,⟨od,es,ep,e2,c⟩,r⟩:=x;exact⟨ho _ d,z,ne,k _ _ (.inl rfl) e,mA,⟨od,es,ep,k _ _ (.inr d) e2,c⟩,r⟩
 |own y=>obtain⟨ob,e⟩:=x;exact⟨ob,k _ _ (.inl rfl) e⟩
 |xd fs=>obtain⟨mA,⟨od,es,ep,e,c⟩,r⟩:=x;exact⟨mA,⟨od,es,ep,k _ _ (.inl rfl) e,c⟩,r⟩
 |rng lo hi=>obtain⟨t,u,v,e⟩:=x;exact⟨t,u,v,k _ _ (.inl rfl) e⟩
 |frz ob u ih=>obtain⟨e,q⟩:=x;exact⟨k _ _ (.inl rfl) e,ih q⟩
 |tbl ps=>have e:h.get? a=Wv {cls:=.none,data:=.fields ps}:=x;show h'.get? a=Wv {cls:=.none,data:=.fields ps};exact k a _ (.inl rfl) e
 |met f y=>have e:h.get? a=Wv (PySem.W.methodObj (.ref f) (.ref y)):=x;show h'.get? a=Wv (PySem.W.methodObj (.ref f) (.ref y));exact k a _ (.inl rfl) e
 |ext φ=>obtain⟨p,⟨o,e⟩,st⟩:=x;exact⟨st _ _ p λo q=>k _ _ (.inl rfl) q,⟨o,k _ _ (.inl rfl) e⟩,st⟩
theorem HOk.lt(x:HOk P w H h)(e:H a=Wv o):a<h.objs.size:=(x a o e).lt
theorem HOk.fresh(x:HOk P w H h)(e:h.objs.size<=a):H a=Ww:=by
 cases q:H a with
 |none=>rfl
 |some u=>exact absurd (O4 (x.lt q) e) (Yw _)
theorem HOk.kept(x:HOk P w H h)(k:∀b u,h.get? b=Wv u->h'.get? b=Wv u):HOk P w H h':=λa o e=>(x a o e).stay (λb u _ q=>k b u q) (λ_ q=>q) λ_ _ q=>q
theorem HOk.laid(x:HOk P w H h)(k:∀b u,h.get? b=Wv u->h'.get? b=Wv u)(hp:h.objs.size<=a)(new:Zai P w (upd H a o) h' a o):HOk P w (upd H a o) h':=λb u e=>by
 have hn:=x.fresh hp;by_cases hb:b=a
 . subst hb;rw[Zl]at e;cases e;exact new
 . rw[Ze hb]at e;exact(x b u e).stay (λc v _ q=>k c v q) (λc q=>by rw[Ze (ZJ q hn)];exact q) λc xs q=>by rw[Ze (ZJ q hn)];exact q
end
def Rd(H:Hp)(a:Yi)(u:HO):Prop:=H a=Wv u\/∃o,H a=Wv (.frz o u)
theorem Rd.ok{P:Yh}{w:Yg}{H:Hp}{h:YG}{a:Yi}{u:HO}(r:Rd H a u)(x:HOk P w H h):Zai P w H h a u:=by
 rcases r with r|⟨o,r⟩
 . exact x a u r
 . obtain⟨_,q⟩:=x a _ r;exact q
def Mut:Option HO->Prop
 |some (.lst _)=>True
 |some (.dK _)=>True
 |some (.dT _)=>True
 |some (.set _ _)=>True
 |some (.ins _ _ _)=>True
 |some (.ext _)=>True
 |_=>False
section
variable {P:Yh}{w:Yg}{H:Hp}{h h':YG}{x e:Yi}{o':HO}
theorem HOk.write(ok:HOk P w H h)(mu:Mut (H x))(he:e=x\/H e=Wv (.own x))(k:∀b u,b≠e->h.get? b=Wv u->h'.get? b=Wv u)(heo:∃u,h'.get? e=Wv u)
 (new:Zai P w (upd H x o') h' x o'):HOk P w (upd H x o') h':=λb u q=>by
 have nown:∀c y,H c=Wv (.own y)->c≠x:=λc y r z=>by subst z;rw[r]at mu;exact mu
 have ntup:∀c xs,H c=Wv (.tup xs)->c≠x:=λc xs r z=>by subst z;rw[r]at mu;exact mu
 by_cases hb:b=x
 . subst hb;rw[Zl]at q;cases q;exact new
 . rw[Ze hb]at q;by_cases hbe:b=e
   . have q':H b=Wv (.own x):=by
      rcases he with z|z
      . exact absurd (hbe.trans z) hb
      . rw[hbe];exact z
     rw[q]at q';cases q';obtain⟨v,hv⟩:=heo;exact⟨v,by rw[hbe];exact hv⟩
   . refine(ok b u q).stay (λc v hc r=>k c v ?_ r) (λc r=>by rw[Ze (nown c b r)];exact r) λc xs r=>by rw[Ze (ntup c xs r)];exact r
     rcases hc with rfl|hc
     . exact hbe
     . rintro rfl;rcases he with z|z
       . exact nown c b hc z
       . rw[hc]at z;cases z;exact hb rfl
end
structure Un(fs ex:List Yi)(H H':Hp)(h h':YG):Prop where
 keep:∀b o,h.get? b=Wv o->H b=Ww->b ∉ fs->b ∉ ex->h'.get? b=Wv o
 slot:∀b o,h.get? b=Wv o->H b=Ww->b∈fs->b ∉ ex->∃sl,h'.get? b=Wv {o with slots:=sl}
 free:∀b o,h.get? b=Wv o->H b=Ww->b ∉ ex->H' b=Ww
 there:∀b o,h.get? b=Wv o->b ∉ ex->∃o',h'.get? b=Wv o'
 tups:∀b xs,H b=Wv (.tup xs)->H' b=Wv (.tup xs)
 frzs:∀b o u,H b=Wv (.frz o u)->H' b=Wv (.frz o u)
 tbls:∀b ps,H b=Wv (.tbl ps)->∃more,H' b=Wv (.tbl (ps++more))
section
variable {fs fs' ex ex':List Yi}{H H1 H2:Hp}{h h1 h2 h':YG}{a x e:Yi}{o:HO}
theorem Un.any(u:Un fs ex H H1 h h1){b:Yi}{ob:Obj}(q:h.get? b=Wv ob)(n:H b=Ww)(hx:b ∉ ex):∃sl,h1.get? b=Wv {ob with slots:=sl}:=by
 by_cases hb:b∈fs
 . exact u.slot b ob q n hb hx
 . exact⟨ob.slots,u.keep b ob q n hb hx⟩
theorem Un.trans(a:Un fs ex H H1 h h1)(b:Un fs ex H1 H2 h1 h2):Un fs ex H H2 h h2 where
 keep:=λc ob q n hc hx=>b.keep c ob (a.keep c ob q n hc hx) (a.free c ob q n hx) hc hx
 slot:=λc ob q n hc hx=>by obtain⟨sl,e1⟩:=a.slot c ob q n hc hx;obtain⟨sl',e2⟩:=b.slot c _ e1 (a.free c ob q n hx) hc hx;exact⟨sl',e2⟩
 free:=λc ob q n hx=>by obtain⟨o',e1⟩:=a.there c ob q hx;exact b.free c o' e1 (a.free c ob q n hx) hx
 there:=λc ob q hx=>by obtain⟨o',e1⟩:=a.there c ob q hx;exact b.there c o' e1 hx
 tups:=λc xs q=>b.tups c xs (a.tups c xs q)
 frzs:=λc ob xs q=>b.frzs c ob xs (a.frzs c ob xs q)
 tbls:=λc ps q=>by obtain⟨m1,e1⟩:=a.tbls c ps q;obtain⟨m2,e2⟩:=b.tbls c _ e1;exact⟨m1++m2,by rw[e2,Array.append_assoc]⟩
theorem Un.kept(k:∀b u,h.get? b=Wv u->h'.get? b=Wv u):Un fs ex H H h h':=⟨λb ob q _ _ _=>k b ob q,λb ob q _ _ _=>⟨ob.slots,k b ob q⟩,λ_ _ _ n _=>n,λb ob q _=>⟨ob,k b ob q⟩,λ_ _ q=>q,λ_ _ _ q=>q,λ_ ps q=>⟨#[],by rw[q];simp⟩⟩
theorem Un.refl:Un fs ex H H h h:=Un.kept λ_ _ q=>q
theorem Un.laid(k:∀b u,h.get? b=Wv u->h'.get? b=Wv u)(hp:h.objs.size<=a)(hn:H a=Ww):Un fs ex H (upd H a o) h h' where
 keep:=λb u q _ _ _=>k b u q
 slot:=λb u q _ _ _=>⟨u.slots,k b u q⟩
 free:=λb u q n _=>by rw[Ze (Ou (O4 (Yn q) hp))];exact n
 there:=λb u q _=>⟨u,k b u q⟩
 tups:=λb xs q=>by rw[Ze (ZJ q hn)];exact q
 frzs:=λb u xs q=>by rw[Ze (ZJ q hn)];exact q
 tbls:=λb ps q=>⟨#[],by rw[Ze (ZJ q hn),q];simp⟩
theorem Un.write(mu:Mut (H x))(he:e=x\/H e=Wv (.own x))(k:∀b u,b≠e->h.get? b=Wv u->h'.get? b=Wv u)(heo:∃u,h'.get? e=Wv u):Un fs ex H (upd H x o) h h':=by
 have hx:∀b,H b=Ww->b≠x:=λb n z=>by subst z;rw[n]at mu;exact mu
 have hb:∀b,H b=Ww->b≠e:=λb n z=>by
  subst z;rcases he with r|r
  . exact hx b n r
  . rw[n]at r;cases r
 have hm:∀b u,H b=Wv u->¬ Mut (Wv u)->b≠x:=λb u q nm z=>by subst z;rw[q]at mu;exact nm mu
 refine⟨λb u q n _ _=>k b u (hb b n) q,λb u q n _ _=>⟨u.slots,k b u (hb b n) q⟩,λb u q n _=>by rw[Ze (hx b n)];exact n,λb u q _=>?_,
  λb xs q=>by rw[Ze (hm b _ q λz=>z)];exact q,λb u xs q=>by rw[Ze (hm b _ q λz=>z)];exact q,λb ps q=>⟨#[],by rw[Ze (hm b _ q λz=>z),q];simp⟩⟩
 by_cases hbe:b=e
 . subst hbe;exact heo
 . exact⟨u,k b u hbe q⟩
end
noncomputable def trk(h:YG)(H:Hp):List Yi:=(List.range h.objs.size).filter λa=>(H a).isSome
noncomputable def Zho(h:YG)(H:Hp):YG:=Wb h (trk h H)
theorem ZlR(h:YG)(H:Hp):(Zho h H).objs.size=h.objs.size:=PySem.W.hideAll_size _ _
theorem Znx{h:YG}{H:Hp}{b:Yi}{o:Obj}(e:h.get? b=Wv o)(n:H b=Ww):(Zho h H).get? b=Wv o:=
 PySem.W.hideAll_get _ e λhm=>by have q:(H b).isSome=Wx:=(List.mem_filter.mp hm).2;rw[n]at q;simp at q
theorem Zpt{h:YG}{H:Hp}{b:Yi}{o:Obj}(e:(Zho h H).get? b=Wv o):h.get? b=Wv o/\H b=Ww:=by
 have e':h.get? b=Wv o:=PySem.W.of_hideAll (trk h H) e;refine⟨e',?_⟩;cases q:H b with
 |none=>rfl
 |some x=>have hm:b∈trk h H:=List.mem_filter.mpr ⟨List.mem_range.mpr (Yn e'),by simp[q]⟩;have z:(Zho h H).get? b=Ww:=PySem.W.hideAll_none (trk h H) hm;rw[z]at e;cases e
structure Mod(K:Yk)(mg:Str->Option Yj)(base:YG):Prop where
 kin:K.In base
 glob:base.Ns Yd mg
 blt:∃mb,base.Ns builtinsNs mb/\∀x:Str,x ≠ "__name__" -> mb x=bootBuiltins x
 nolimit:base.NoLimit
structure Cx where
 prog:Yh
 w:Yg
 K:Yk
 mg:Str->Option Yj
 base:YG
 A:YH
 N:List Str
 s₀:Yb
 H₀:Hp
 env:Env
 outer:List Env
 stack:List Env
 ex:List Yi
 fn:Str->Bool
 calm:Bool
 pn:List (Yi×Obj)
 xe:Yj->Yb->Prop
noncomputable def frs(l:List Env):List Yi:=l.filterMap (·.frame)
noncomputable abbrev Cx.fs(X:Cx):List Yi:=frs X.outer
def Vis(sc:Scope)(x:Str):Prop:=sc.names.lookup x=Wv .local\/sc.names.lookup x=Wv .cell\/sc.names.lookup x=Wv .free
def Loc(sc:Scope)(x:Str):Prop:=sc.names.lookup x=Wv .local\/sc.names.lookup x=Wv .cell
def Look(env:Env)(h:YG)(m:Str->Option Yj)(x:Str)(u:Yj):Prop:=(env.kindOf x=Wv .local/\m x=Wv u)\/((env.kindOf x=Wv .cell\/env.kindOf x=Wv .free)/\∃c,env.cells.lookup x=Wv c/\h.IsCell c (Wv u))
structure Cx.Ok(X:Cx):Prop where
 mod:Mod X.K X.mg X.base
 kind:X.env.scope.kind=.function
 glob:X.env.globals=Yd
 blt:X.env.builtins=builtinsNs
 above:X.s₀.heap.objs.size<=X.env.locals
 inj:∀x y c,X.env.cells.lookup x=Wv c->X.env.cells.lookup y=Wv c->x=y
 has:∀x,(X.env.kindOf x=Wv .cell\/X.env.kindOf x=Wv .free)->∃c,X.env.cells.lookup x=Wv c
 cab:∀x c,X.fn x=Wx->X.env.cells.lookup x=Wv c->X.s₀.heap.objs.size<=c
 hd:X.calm=Wx->X.A.handled=Ww
 frames:X.A.frames=Wv X.stack
 stk:X.stack=X.outer\/(X.stack=X.env::X.outer/\X.env.frame=Wv X.env.locals)
 exf:∀b∈X.ex,b≠X.env.locals/\∀x c,X.env.cells.lookup x=Wv c->c≠b
 bs:∀b o,X.base.get? b=Wv o->X.s₀.heap.get? b=Wv o/\X.H₀ b=Ww
 bsz:X.base.objs.size<=X.s₀.heap.objs.size
 noex:∀b o,X.base.get? b=Wv o->b ∉ X.ex
 exfs:∀b∈X.ex,b ∉ X.fs
 funs:X.s₀.heap.FunFrames X.base X.outer
 frf:∀b∈X.fs,X.H₀ b=Ww
structure Inv(X:Cx)(pins:List (Yi×Obj))(Z:List (Option V))(H:Hp)(s:Yb):Prop where
 ok:X.Ok
 os:s.os=X.s₀.os
 bare:AllBare s.gens
 base:Un X.fs X.ex X.H₀ H X.s₀.heap s.heap
 loc:∃m,s.heap.Ns X.env.locals m/\∀(i:Nat) (x:Str) (v:V),X.N[i]? = Wv x->Z[i]? = Wv (Wv v)->Vis X.env.scope x->∃u,RelV v u/\Look X.env s.heap m x u
 cell:∀x c,X.env.cells.lookup x=Wv c->∃v,s.heap.IsCell c v
 free:H X.env.locals=Ww
 freeC:∀x c,X.env.cells.lookup x=Wv c->H c=Ww
 pin:∀p∈X.pn++pins,s.heap.get? p.1=Wv p.2/\H p.1=Ww/\p.1≠X.env.locals/\p.1 ∉ X.fs/\∀v,p.2.data≠.cell v
 hok:HOk X.prog X.w H s.heap
 len:Z.length=X.N.length
section
variable {X:Cx}{pins:List (Yi×Obj)}{Z:List (Option V)}{H H':Hp}{s:Yb}{h':YG}
theorem Cx.Ok.nofr(ok:X.Ok){b:Yi}{o:Obj}(e:X.base.get? b=Wv o):b ∉ X.fs:=λhb=>by have:=(ok.funs.mem hb).1;rw[e]at this;cases this
theorem Inv.bs(I:Inv X pins Z H s):∀b o,X.base.get? b=Wv o->s.heap.get? b=Wv o/\H b=Ww:=λb o e=>⟨I.base.keep b o (I.ok.bs b o e).1 (I.ok.bs b o e).2 (I.ok.nofr e) (I.ok.noex b o e),I.base.free b o (I.ok.bs b o e).1 (I.ok.bs b o e).2 (I.ok.noex b o e)⟩
theorem Inv.bk(I:Inv X pins Z H s):∀b o,X.base.get? b=Wv o->s.heap.get? b=Wv o:=λb o e=>(I.bs b o e).1
theorem Inv.mod(I:Inv X pins Z H s):Mod X.K X.mg X.base:=I.ok.mod
theorem Inv.kIn(I:Inv X pins Z H s):X.K.In s.heap:=I.ok.mod.kin.keeps I.bk
theorem Inv.lt(I:Inv X pins Z H s):X.env.locals<s.heap.objs.size:=let ⟨_,hn,_⟩:=I.loc;hn.lt
theorem Inv.sz(I:Inv X pins Z H s):X.s₀.heap.objs.size<=s.heap.objs.size:=OE I.ok.above (Nat.le_of_lt I.lt)
theorem Inv.nofs(I:Inv X pins Z H s){a:Yi}(h:s.heap.objs.size<=a):a ∉ X.fs:=λhb=>by obtain⟨_,o,ho,_⟩:=I.ok.funs.mem hb;exact absurd (O4 (Yn ho) (OE I.sz h)) (Yw _)
theorem Inv.cne(I:Inv X pins Z H s):∀x c,X.env.cells.lookup x=Wv c->c≠X.env.locals:=λx c e z=>by obtain⟨v,o,ho,hd⟩:=I.cell x c e;obtain⟨m,⟨o',es,ep,ho',hd',_⟩,_⟩:=I.loc;rw[z,ho']at ho;cases ho;rw[hd']at hd;cases hd
theorem Inv.funs(I:Inv X pins Z H s):s.heap.FunFrames X.base X.outer:=by
 have all:∀(l:List Env),(∀b∈frs l,b∈X.fs)->X.s₀.heap.FunFrames X.base l->s.heap.FunFrames X.base l:=by
  intro l;induction l with
  |nil=>intro _ _;trivial
  |cons env r ih=>intro hs hl;obtain⟨hk,⟨L,o,hf,hn,ho,hd⟩,hr⟩:=hl;have hL:L∈X.fs:=hs L (by unfold frs;rw[List.filterMap_cons,hf];exact Oi);obtain⟨sl,e⟩:=I.base.slot L o ho (I.ok.frf L hL) hL λz=>I.ok.exfs L z hL;exact⟨hk,⟨L,_,hf,hn,e,hd⟩,ih (λb hb=>hs b (by unfold frs;rw[List.filterMap_cons,hf];exact Oh _ hb)) hr⟩
 exact all X.outer (λ_ hb=>hb) I.ok.funs
theorem Inv.stack(I:Inv X pins Z H s):s.heap.FunFrames X.base X.stack:=by
 rcases I.ok.stk with e|⟨e,hf⟩
 . rw[e];exact I.funs
 . rw[e];obtain⟨m,hn,_⟩:=I.loc;refine .cons (by rw[I.ok.kind];decide) hf hn ?_ I.funs;exact Heap.get?_none_of_le (OE I.ok.bsz I.ok.above)
theorem Inv.stkSub(I:Inv X pins Z H s):∀b∈frs X.stack,b∈X.env.locals::X.fs:=λb hb=>by
 rcases I.ok.stk with e|⟨e,hf⟩
 . rw[e]at hb;exact Oh _ hb
 . rw[e]at hb;unfold frs at hb;rw[List.filterMap_cons,hf]at hb;exact hb
theorem Inv.stkFree(I:Inv X pins Z H s):∀b∈frs X.stack,H b=Ww:=λb hb=>by
 rcases O3.mp (I.stkSub b hb)with e|hb
 . rw[e];exact I.free
 . obtain⟨_,o,ho,_⟩:=I.ok.funs.mem hb;exact I.base.free b o ho (I.ok.frf b hb) λz=>I.ok.exfs b z hb
theorem Inv.step{g':Array GenState}{t':Nat}{d':Drawn}{ch:List Yi}(I:Inv X pins Z H s)
 (hch:∀b∈ch,(b∈X.ex\/X.s₀.heap.objs.size<=b)/\b≠X.env.locals/\(∀x c,X.env.cells.lookup x=Wv c->c≠b)/\∀p∈X.pn++pins,p.1≠b)
 (keep:∀b o,b≠X.env.locals->b ∉ X.fs->b ∉ ch->s.heap.get? b=Wv o->H b=Ww->h'.get? b=Wv o)
 (slot:∀b o,b≠X.env.locals->b∈X.fs->b ∉ ch->s.heap.get? b=Wv o->H b=Ww->∃sl,h'.get? b=Wv {o with slots:=sl}) (free:∀b o,b ∉ ch->s.heap.get? b=Wv o->H b=Ww->H' b=Ww)
 (there:∀b o,b ∉ ch->s.heap.get? b=Wv o->∃o',h'.get? b=Wv o')
 (tups:∀b xs,H b=Wv (.tup xs)->H' b=Wv (.tup xs)) (frzs:∀b o u,H b=Wv (.frz o u)->H' b=Wv (.frz o u)) (tbls:∀b ps,H b=Wv (.tbl ps)->∃more,H' b=Wv (.tbl (ps++more)))
 (ns:∀m,s.heap.Ns X.env.locals m->h'.Ns X.env.locals m) (hok:HOk X.prog X.w H' h') (hg:AllBare g') :
 Inv X pins Z H' {s with heap:=h',gens:=g',drawn:=d',toks:=t'}:=by
 have neL:∀b o,X.s₀.heap.get? b=Wv o->b≠X.env.locals:=λb o e=>Ou (O4 (Yn e) I.ok.above);have neC:∀b o,X.s₀.heap.get? b=Wv o->b ∉ X.ex->b ∉ ch:=λb o e hx hb=>by
  rcases(hch b hb).1 with z|z
  . exact hx z
  . exact absurd (O4 (Yn e) z) (Yw _)
 have cellK:∀x c,X.env.cells.lookup x=Wv c->∀v,s.heap.IsCell c v->h'.IsCell c v:=λx c e v ⟨o,ho,hd⟩=>by
  have nch:c ∉ ch:=λz=>(hch c z).2.2.1 x c e rfl;by_cases hc:c∈X.fs
  . obtain⟨sl,q⟩:=slot c o (I.cne x c e) hc nch ho (I.freeC x c e);exact⟨_,q,hd⟩
  . exact⟨o,keep c o (I.cne x c e) hc nch ho (I.freeC x c e),hd⟩
 refine⟨I.ok,I.os,hg,⟨λb o e n hb hx=>?_,λb o e n hb hx=>?_,λb o e n hx=>?_,λb o e hx=>?_,λb xs e=>tups b xs (I.base.tups b xs e),λb o xs e=>frzs b o xs (I.base.frzs b o xs e),λb ps e=>?_⟩,?_,λx c e=>?_,?_,λx c e=>?_,λp hp=>?_,hok,I.len⟩
 . exact keep b o (neL b o e) hb (neC b o e hx) (I.base.keep b o e n hb hx) (I.base.free b o e n hx)
 . obtain⟨sl,e1⟩:=I.base.slot b o e n hb hx;obtain⟨sl',e2⟩:=slot b _ (neL b o e) hb (neC b o e hx) e1 (I.base.free b o e n hx);exact⟨sl',e2⟩
 . obtain⟨o',e1⟩:=I.base.there b o e hx;exact free b o' (neC b o e hx) e1 (I.base.free b o e n hx)
 . obtain⟨o',e1⟩:=I.base.there b o e hx;exact there b o' (neC b o e hx) e1
 . obtain⟨m1,e1⟩:=I.base.tbls b ps e;obtain⟨m2,e2⟩:=tbls b _ e1;exact⟨m1++m2,by rw[e2,Array.append_assoc]⟩
 . obtain⟨m,hn,hl⟩:=I.loc;refine⟨m,ns m hn,λi x v e1 e2 e3=>?_⟩;obtain⟨u,r,l⟩:=hl i x v e1 e2 e3;refine⟨u,r,?_⟩;rcases l with l|⟨k,c,e,z⟩
   . exact .inl l
   . exact .inr ⟨k,c,e,cellK x c e _ z⟩
 . obtain⟨v,z⟩:=I.cell x c e;exact⟨v,cellK x c e v z⟩
 . obtain⟨m,⟨o,_,_,ho,_⟩,_⟩:=I.loc;exact free _ o (λz=>(hch _ z).2.1 rfl) ho I.free
 . obtain⟨v,o,ho,hd⟩:=I.cell x c e;exact free c o (λz=>(hch c z).2.2.1 x c e rfl) ho (I.freeC x c e)
 . obtain⟨e,n,ne,nf,d⟩:=I.pin p hp;have nch:p.1 ∉ ch:=λz=>(hch p.1 z).2.2.2 p hp rfl;exact⟨keep p.1 p.2 ne nf nch e n,free p.1 p.2 nch e n,ne,nf,d⟩
theorem Inv.un{t':Nat}(I:Inv X pins Z H s)(u:Un X.fs [] H H' s.heap h')(hok:HOk X.prog X.w H' h'):Inv X pins Z H' {s with heap:=h',toks:=t'}:=by
 obtain ⟨m,⟨o,es,ep,ho,r⟩,_⟩:=id I.loc;obtain ⟨sl,hL⟩:=u.any ho I.free (by simp);exact I.step (g':=s.gens) (d':=s.drawn) (ch:=[]) (fun _ z=>nomatch z) (fun b o _ hb _ e n=>u.keep b o e n hb (by simp)) (fun b o _ hb _ e n=>u.slot b o e n hb (by simp)) (fun b o _ e n=>u.free b o e n (by simp)) (fun b o _ e=>u.there b o e (by simp)) u.tups u.frzs u.tbls (fun m' hm=>by
   obtain ⟨o',es',ep',ho',r'⟩:=hm;rw [ho] at ho';cases ho';exact ⟨_,es',ep',hL,r'⟩) hok I.bare
theorem Inv.call{g':Array GenState}{t':Nat}{d':Drawn}{ch:List Yi}(I:Inv X pins Z H s)(u:Un (frs X.stack) ch H H' s.heap h')(hok:HOk X.prog X.w H' h')(hg:AllBare g')
   (hch:∀ b∈ch,(b∈X.ex\/X.s₀.heap.objs.size<=b)/\b≠X.env.locals/\(∀ x c,X.env.cells.lookup x=Wv c->c≠b)/\∀ p∈X.pn++pins,p.1≠b) :
   Inv X pins Z H' {s with heap:=h',gens:=g',drawn:=d',toks:=t'}:=by
 obtain ⟨m,⟨o,es,ep,ho,r⟩,_⟩:=id I.loc;obtain ⟨sl,hL⟩:=u.any ho I.free fun z=>(hch _ z).2.1 rfl;exact I.step (ch:=ch) hch (fun b o hL hb hc e n=>u.keep b o e n (fun z=>(O3.mp (I.stkSub b z)).elim hL hb) hc) (fun b o _ _ hc e n=>u.any e n hc) (fun b o hc e n=>u.free b o e n hc) (fun b o hc e=>u.there b o e hc) u.tups u.frzs u.tbls (fun m' hm=>by
   obtain ⟨o',es',ep',ho',r'⟩:=hm;rw [ho] at ho';cases ho';exact ⟨_,es',ep',hL,r'⟩) hok hg
theorem Inv.turned{t':Nat}{it:Yi}(I:Inv X pins Z H s)(k:∀b o,b≠it->s.heap.get? b=Wv o->h'.get? b=Wv o)(hn:H it=Ww)(hL:it≠X.env.locals)
 (h1:it∈X.ex\/X.s₀.heap.objs.size<=it) (h2:∀x c,X.env.cells.lookup x=Wv c->c≠it) (h3:∀p∈X.pn++pins,p.1≠it):Inv X pins Z H {s with heap:=h',toks:=t'}:=by
 have nit:∀b u,H b=Wv u->b≠it:=λb u e z=>by rw[z,hn]at e;cases e
 refine I.step (g':=s.gens) (d':=s.drawn) (ch:=[it]) (λb hb=>?_) (λb o _ _ hc e _=>k b o (λz=>hc (by simp[z])) e) (λb o _ _ hc e _=>⟨o.slots,k b o (λz=>hc (by simp[z])) e⟩) (λ_ _ _ _ n=>n)
  (λb o hc e=>⟨o,k b o (λz=>hc (by simp[z])) e⟩) (λ_ _ e=>e) (λ_ _ _ e=>e) (λb ps e=>⟨#[],by rw[e];simp⟩) (λm hm=>?_) (λb u e=>?_) I.bare
 . have e:b=it:=by simpa using hb
   subst e;exact⟨h1,hL,h2,h3⟩
 . obtain⟨o,es,ep,ho,r⟩:=hm;exact⟨o,es,ep,k _ o (YL hL) ho,r⟩
 . refine(I.hok b u e).stay (λc v hc q=>k c v ?_ q) (λ_ q=>q) λ_ _ q=>q;rcases hc with z|z
   . rw[z];exact nit b u e
   . exact nit c _ z
theorem Inv.tok(I:Inv X pins Z H s)(t:Nat):Inv X pins Z H {s with toks:=t}:=I.un (h':=s.heap) (t':=t) Un.refl I.hok
theorem Inv.kept{t':Nat}(I:Inv X pins Z H s)(k:∀b u,s.heap.get? b=Wv u->h'.get? b=Wv u):Inv X pins Z H {s with heap:=h',toks:=t'}:=I.un (Un.kept k) (I.hok.kept k)
theorem Inv.laid{a:Yi}{o:HO}{t':Nat}(I:Inv X pins Z H s)(k:∀b u,s.heap.get? b=Wv u->h'.get? b=Wv u)(hp:s.heap.objs.size<=a)(new:Zai X.prog X.w (upd H a o) h' a o):
 Inv X pins Z (upd H a o) {s with heap:=h',toks:=t'}:=I.un (Un.laid k hp (I.hok.fresh hp)) (I.hok.laid k hp new)
theorem Inv.write{x e:Yi}{o:HO}{t':Nat}(I:Inv X pins Z H s)(mu:Mut (H x))(he:e=x\/H e=Wv (.own x))(k:∀b u,b≠e->s.heap.get? b=Wv u->h'.get? b=Wv u)(heo:∃u,h'.get? e=Wv u)
 (new:Zai X.prog X.w (upd H x o) h' x o):Inv X pins Z (upd H x o) {s with heap:=h',toks:=t'}:=I.un (Un.write mu he k heo) (I.hok.write mu he k heo new)
theorem Inv.weak{σ':List (Option V)}(I:Inv X pins Z H s)(hl:σ'.length=Z.length)(w:∀(i:Nat) v,σ'[i]? = Wv (Wv v)->Z[i]? = Wv (Wv v)):Inv X pins σ' H s:=⟨I.ok,I.os,I.bare,I.base,let ⟨m,hn,hl'⟩:=I.loc;⟨m,hn,λi x v e1 e2 e3=>hl' i x v e1 (w i v e2) e3⟩,I.cell,I.free,I.freeC,I.pin,I.hok,hl.trans I.len⟩
theorem Inv.pins_of{pins':List (Yi×Obj)}(I:Inv X pins Z H s)(h:∀p∈pins',s.heap.get? p.1=Wv p.2/\H p.1=Ww/\p.1≠X.env.locals/\p.1 ∉ X.fs/\∀v,p.2.data≠.cell v):Inv X pins' Z H s:=⟨I.ok,I.os,I.bare,I.base,I.loc,I.cell,I.free,I.freeC,λp hp=>(OD.mp hp).elim (λz=>I.pin p (Ys _ z)) (h p),I.hok,I.len⟩
theorem Zii{N:List Str}(hN:N.Nodup){i j:Nat}{x:Str}(a:N[i]? = Wv x)(b:N[j]? = Wv x):i=j:=by obtain⟨h1,e1⟩:=Ob.mp a;obtain⟨h2,e2⟩:=Ob.mp b;exact(List.getElem_inj hN).mp (e1.trans e2.symm)
theorem Zgl{M:Model}{A:YH}{E:Yj->Yb->Prop}{i:Nat}{x:Str}{v:V}{u:Yj}{Q:Unit->Yb->Prop}(I:Inv X pins Z H s)(hN:X.N.Nodup)(hi:X.N[i]? = Wv x)(hx:Loc X.env.scope x)(r:RelV v u)
 (h:∀s',Inv X pins (Z.set i (Wv v)) H s'->(∃a,Heap.SameBut a s.heap s'.heap/\(a=X.env.locals\/X.env.cells.lookup x=Wv a))->Q () s') (hf:X.fn x=Wx\/X.env.scope.names.lookup x=Wv .local:=by first|exact .inl rfl|exact .inr rfl|assumption):YB M A (storeName X.env x u) Q E s:=by
 obtain⟨m,hn,hl⟩:=id I.loc;have hcls:(X.env.scope.kind==.class || (X.env.scope.kind==.module&&X.env.locals != X.env.globals))=Wy:=by rw[I.ok.kind];rfl
 have hiσ:i<Z.length:=by rw[I.len];exact(Ob.mp hi).1
 have cne:=I.cne;have tracked:∀{a:Yi}{h':YG},(∃o,s.heap.get? a=Wv o/\H a=Ww)->Heap.SameBut a s.heap h'->HOk X.prog X.w H h':=λ{a h'} ha hs b ob e=>by
  obtain⟨_,_,hfree⟩:=ha;refine(I.hok b ob e).stay (λc w' hc q=>(hs.2 c ?_).trans q) (λ_ q=>q) λ_ _ q=>q;rintro rfl;rcases hc with rfl|hc
  . rw[hfree]at e;cases e
  . rw[hfree]at hc;cases hc
 rcases hx with hk|hk
 . refine wpAny_storeName_local hk hn (λh' hn' hs=>?_) hcls;obtain⟨oL,_,_,hoL,_⟩:=id hn;refine h _ ⟨I.ok,I.os,I.bare,⟨λb o e n hb hx=>?_,λb o e n hb hx=>?_,I.base.free,λb o e hx=>?_,I.base.tups,I.base.frzs,I.base.tbls⟩,⟨_,hn',λj y v' e1 e2 e3=>?_⟩,λy c e=>?_,I.free,I.freeC,λp hp=>?_,tracked ⟨oL,hoL,I.free⟩ hs,by simpa using I.len⟩ ⟨_,hs,.inl rfl⟩
   . exact(hs.2 b (Ou (O4 (Yn e) I.ok.above))).trans (I.base.keep b o e n hb hx)
   . obtain⟨sl,e1⟩:=I.base.slot b o e n hb hx;exact⟨sl,(hs.2 b (Ou (O4 (Yn e) I.ok.above))).trans e1⟩
   . obtain⟨o',e1⟩:=I.base.there b o e hx;exact⟨o',(hs.2 b (Ou (O4 (Yn e) I.ok.above))).trans e1⟩
   . by_cases hj:j=i
     . subst hj;rw[hi]at e1;cases e1;rw[Ol hiσ]at e2;cases e2;exact⟨u,r,.inl ⟨hk,by simp⟩⟩
     . rw[Oc (YL hj)]at e2;obtain⟨u',r',q⟩:=hl j y v' e1 e2 e3;refine⟨u',r',?_⟩;rcases q with ⟨k,e⟩|⟨k,c,e,z⟩
       . refine .inl ⟨k,?_⟩;have:y≠x:=λe=>hj (Zii hN e1 (e ▸ hi));simp[this,e]
       . exact .inr ⟨k,c,e,z.sameBut hs (cne y c e)⟩
   . obtain⟨w',z⟩:=I.cell y c e;exact⟨w',z.sameBut hs (cne y c e)⟩
   . obtain⟨e,n,ne,nf,d⟩:=I.pin p hp;exact⟨(hs.2 p.1 ne).trans e,n,ne,nf,d⟩
 . have hfn:X.fn x=Wx:=by
    rcases hf with z|z
    . exact z
    . rw[z]at hk;cases hk
   obtain⟨c,hc⟩:=I.ok.has x (.inl hk);obtain⟨w',z⟩:=I.cell x c hc;refine wpAny_storeName_cell I.ok.kind hk hc z (λh' hc' hs=>?_);obtain⟨oc,hoc,hocd⟩:=id z;refine h {s with heap:=h'} ⟨I.ok,I.os,I.bare,⟨λb o e n hb hx=>?_,λb o e n hb hx=>?_,I.base.free,λb o e hx=>?_,I.base.tups,I.base.frzs,I.base.tbls⟩,⟨m,hn.sameBut hs (YL (cne x c hc)),λj y v' e1 e2 e3=>?_⟩,λy c' e=>?_,I.free,I.freeC,λp hp=>?_,tracked ⟨oc,hoc,I.freeC x c hc⟩ hs,by simpa using I.len⟩ ⟨c,hs,.inr hc⟩
   . exact(hs.2 b (Ou (O4 (Yn e) (I.ok.cab x c hfn hc)))).trans (I.base.keep b o e n hb hx)
   . obtain⟨sl,e1⟩:=I.base.slot b o e n hb hx;exact⟨sl,(hs.2 b (Ou (O4 (Yn e) (I.ok.cab x c hfn hc)))).trans e1⟩
   . obtain⟨o',e1⟩:=I.base.there b o e hx;exact⟨o',(hs.2 b (Ou (O4 (Yn e) (I.ok.cab x c hfn hc)))).trans e1⟩
   . by_cases hj:j=i
     . subst hj;rw[hi]at e1;cases e1;rw[Ol hiσ]at e2;cases e2;exact⟨u,r,.inr ⟨.inl hk,c,hc,hc'⟩⟩
     . rw[Oc (YL hj)]at e2;obtain⟨u',r',q⟩:=hl j y v' e1 e2 e3;refine⟨u',r',?_⟩;rcases q with q|⟨k,c',e,z'⟩
       . exact .inl q
       . refine .inr ⟨k,c',e,z'.sameBut hs ?_⟩;rintro rfl;exact hj (Zii hN e1 (I.ok.inj _ _ _ e hc ▸ hi))
   . by_cases hcc:c'=c
     . subst hcc;exact⟨_,hc'⟩
     . obtain⟨w2,z2⟩:=I.cell y c' e;exact⟨w2,z2.sameBut hs hcc⟩
   . obtain⟨e,n,ne,nf,d⟩:=I.pin p hp;refine⟨(hs.2 p.1 ?_).trans e,n,ne,nf,d⟩;intro q;rw[q,hoc]at e;have q':oc=p.2:=YF e;exact d w' (by rw[<- q'];exact hocd)
theorem ZdO{M:Model}{A:YH}{E:Yj->Yb->Prop}{i:Nat}{x:Str}{v:V}{u:Yj}{Q:Unit->Yb->Prop}(I:Inv X pins Z H s)(hN:X.N.Nodup)(hi:X.N[i]? = Wv x)(hx:Loc X.env.scope x)(r:RelV v u)
 (h:∀s',Inv X pins (Z.set i (Wv v)) H s'->Q () s') (hf:X.fn x=Wx\/X.env.scope.names.lookup x=Wv .local:=by first|exact .inl rfl|exact .inr rfl|assumption):YB M A (storeName X.env x u) Q E s:=
 Zgl I hN hi hx r (λs' I' _=>h s' I') hf
theorem Inv.call'{s':Yb}{ch:List Yi}(I:Inv X pins Z H s)(ho:s'.os=s.os)(u:Un (frs X.stack) ch H H' s.heap s'.heap)(hok:HOk X.prog X.w H' s'.heap)(hg:AllBare s'.gens)
 (hch:∀b∈ch,(b∈X.ex\/X.s₀.heap.objs.size<=b)/\b≠X.env.locals/\(∀x c,X.env.cells.lookup x=Wv c->c≠b)/\∀p∈X.pn++pins,p.1≠b):Inv X pins Z H' s':=by
 obtain⟨h',g',d',t',o'⟩:=s';have e:o'=s.os:=ho;subst e;exact I.call (g':=g') (t':=t') (d':=d') u hok hg hch
end
abbrev XK:=Yj->Option Yi->Hp->Prop
noncomputable abbrev St:=List (Option V)
abbrev VK:=V->Hp->Prop
abbrev TE:=St->Hp->VK->Prop
abbrev TT:=St->Hp->(Bool->Hp->Prop)->Prop
abbrev TA:=St->Hp->(List V->Hp->Prop)->Prop
structure Ends where
 nx:St->Hp->Prop
 rt:VK
 bk:St->Hp->Prop:=λ_ _=>False
 ct:St->Hp->Prop:=λ_ _=>False
abbrev TS:=Ends->St->Hp->Prop
def EP(X:Cx)(pins:List (Yi×Obj))(Z:St)(Q:VK)(u:Yj)(s':Yb):Prop:=∃v H',Inv X pins Z H' s'/\RelV v u/\Q v H'
def TP(X:Cx)(pins:List (Yi×Obj))(Z:St)(Q:Bool->Hp->Prop)(b:Bool)(s':Yb):Prop:=∃H',Inv X pins Z H' s'/\Q b H'
def AP(X:Cx)(pins:List (Yi×Obj))(Z:St)(Q:List V->Hp->Prop)(us:List Yj)(s':Yb):Prop:=∃vs H',Inv X pins Z H' s'/\Zm vs us/\Q vs H'
def SP(X:Cx)(pins:List (Yi×Obj))(D:Ends)(f:Flow)(s':Yb):Prop:=
 match f with
 |.next=>∃σ' H',Inv X pins σ' H' s'/\D.nx σ' H'
 |.brk=>∃σ' H',Inv X pins σ' H' s'/\D.bk σ' H'
 |.cont=>∃σ' H',Inv X pins σ' H' s'/\D.ct σ' H'
 |.ret u=>∃v σ' H',Inv X pins σ' H' s'/\RelV v u/\D.rt v H'
def PE(X:Cx)(e:Expr)(t:TE):Prop:=∀(pins:List (Yi×Obj)) (s:Yb) (Z:St) (H:Hp) (Q:VK),Inv X pins Z H s->t Z H Q->YB (model X.prog X.w) X.A (eval e X.env) (EP X pins Z Q) X.xe s
def PT(X:Cx)(e:Expr)(t:TT):Prop:=∀(pins:List (Yi×Obj)) (s:Yb) (Z:St) (H:Hp) (Q:Bool->Hp->Prop),Inv X pins Z H s->t Z H Q->YB (model X.prog X.w) X.A (isTrue e X.env (eval e X.env)) (TP X pins Z Q) X.xe s
def PW(X:Cx)(e:Expr)(t:TT):Prop:=∀(whole:Sem Yj) (pins:List (Yi×Obj)) (s:Yb) (Z:St) (H:Hp) (Q:Bool->Hp->Prop),Inv X pins Z H s->t Z H Q->YB (model X.prog X.w) X.A (isTrue e X.env whole) (TP X pins Z Q) X.xe s
theorem PW.pt{X:Cx}{e:Expr}{t:TT}(h:PW X e t):PT X e t:=h _
def PA(X:Cx)(es:List Expr)(t:TA):Prop:=∀(pos:Pos) (pins:List (Yi×Obj)) (s:Yb) (Z:St) (H:Hp) (Q:List V->Hp->Prop),Inv X pins Z H s->t Z H Q->YB (model X.prog X.w) X.A (spliced (YS pos (YA es X.env))) (AP X pins Z Q) X.xe s
def PS(X:Cx)(st:Stmt)(t:TS):Prop:=∀(pins:List (Yi×Obj)) (s:Yb) (Z:St) (H:Hp) (D:Ends),Inv X pins Z H s->t D Z H->YB (model X.prog X.w) X.A (exec st X.env) (SP X pins D) X.xe s
def PSs(X:Cx)(st:List Stmt)(t:TS):Prop:=∀(pins:List (Yi×Obj)) (s:Yb) (Z:St) (H:Hp) (D:Ends),Inv X pins Z H s->t D Z H->YB (model X.prog X.w) X.A (execs st X.env) (SP X pins D) X.xe s
theorem thn{α:Type}{t:Sem α}{Q Q':α->Yb->Prop}{M:Model}{A:YH}{E:Yj->Yb->Prop}{s:Yb}(h:YB M A t Q E s)(hQ:∀a s,Q a s->Q' a s):YB M A t Q' E s:=Yf h hQ λ_ _ x=>x
section
variable {X:Cx}
noncomputable def ZuQ(i:Nat):TE:=λZ H Q=>∃v,Z[i]? = Wv (Wv v)/\Q v H
noncomputable def tC(v:V):TE:=λ_ H Q=>Q v H
theorem Zru{i:Nat}{x:Str}{pos:Pos}(hN:X.N[i]? = Wv x)(hv:Vis X.env.scope x)(hd:(x==("__debug__" : Str))=Wy:=by decide)(hcd:(x==("__classdict__" : Str))=Wy:=by decide):PE X (.Name x pos) (ZuQ i):=by
 intro pins s Z H Q I h;obtain⟨v,e,h⟩:=h;obtain⟨m,hn,hl⟩:=I.loc;obtain⟨u,r,l⟩:=hl i x v hN e hv;have fin:EP X pins Z Q u s:=⟨v,H,I,r,h⟩
 rcases l with ⟨hk,hm⟩|⟨hk,c,hc,hcell⟩
 . exact wpAny_Name (wpAny_loadName_local I.ok.kind hk hn hm fin) hd
 . rcases hk with hk|hk
   . exact wpAny_Name (wpAny_loadName_cell I.ok.kind hk hc hcell fin) hd
   . exact wpAny_Name (wpAny_loadName_free I.ok.kind hk hc hcell fin hcd) hd
theorem Zrz{i j pos}:PE X (.Constant (.int i) j pos) (tC (.int i)):=λ_ _ _ H _ I h=>wpAny_Constant_int ⟨.int i,H,I.tok _,⟨_,rfl⟩,h⟩
theorem Zty{b j pos}:PE X (.Constant (.bool b) j pos) (tC (.bl b)):=λ_ _ _ H _ I h=>Constant_bool ⟨.bl b,H,I,rfl,h⟩
theorem ZmS{j pos}:PE X (.Constant .none j pos) (tC .non):=λ_ _ _ H _ I h=>Constant_none ⟨.non,H,I,rfl,h⟩
theorem Zrw{x j pos}:PE X (.Constant (.str x) j pos) (tC (.str x)):=λ_ _ _ H _ I h=>Calls.Constant_str ⟨.str x,H,I.tok _,⟨_,rfl⟩,h⟩
def Gl(X:Cx)(x:Str):Prop:=X.env.kindOf x=Wv .globalImplicit
theorem Zcr{E:Yj->Yb->Prop}{pins:List (Yi×Obj)}{s:Yb}{Z:St}{H:Hp}{x:Str}{u:Yj}{pos:Pos}{Q:Yj->Yb->Prop}(I:Inv X pins Z H s)(hg:Gl X x)(hm:X.mg x=Wv u)(h:Q u s)
 (hd:(x==("__debug__" : Str))=Wy:=by decide):YB (model X.prog X.w) X.A (eval (.Name x pos) X.env) Q E s:=
 Calls.Name_function_global I.ok.kind hg (Calls.loadGlobal_global (by rw[I.ok.glob];exact I.mod.glob.keeps I.bk) hm h) hd
theorem ZdC{E:Yj->Yb->Prop}{pins:List (Yi×Obj)}{s:Yb}{Z:St}{H:Hp}{x:Str}{u:Yj}{pos:Pos}{Q:Yj->Yb->Prop}(I:Inv X pins Z H s)(hg:Gl X x)(hm:X.mg x=Ww)(hv:bootBuiltins x=Wv u)(h:Q u s)
 (hn:x ≠ "__name__" := by decide) (hd:(x==("__debug__" : Str))=Wy:=by decide):YB (model X.prog X.w) X.A (eval (.Name x pos) X.env) Q E s:=by
 obtain⟨mb,h1,h2⟩:=I.mod.blt;exact Calls.Name_function_global I.ok.kind hg (Calls.loadGlobal_builtin (by rw[I.ok.glob];exact I.mod.glob.keeps I.bk) hm (by rw[I.ok.blt];exact h1.keeps I.bk) ((h2 x hn).trans hv) h) hd
theorem Zo7{x:Str}{v:V}{u:Yj}{pos:Pos}(hg:Gl X x)(hm:X.mg x=Wv u)(r:RelV v u)(hd:(x==("__debug__" : Str))=Wy:=by decide):PE X (.Name x pos) (tC v):=λ_ _ _ H _ I h=>Zcr I hg hm ⟨v,H,I,r,h⟩ hd
theorem Zpb{x:Str}{v:V}{u:Yj}{pos:Pos}(hg:Gl X x)(hm:X.mg x=Ww)(hv:bootBuiltins x=Wv u)(r:RelV v u)(hn:x ≠ "__name__" := by decide)(hd:(x==("__debug__" : Str))=Wy:=by decide):PE X (.Name x pos) (tC v):=λ_ _ _ H _ I h=>ZdC I hg hm hv ⟨v,H,I,r,h⟩ hn hd
variable {a b:Expr}{ta tb:TE}{pos:Pos}
variable {tA tB':TT}{rest:List Expr}
noncomputable def Zu3(t u:TT):TT:=λZ H Q=>t Z H λc H1=>if c=Wx then u Z H1 Q else Q Wy H1
noncomputable def tOr(t u:TT):TT:=λZ H Q=>t Z H λc H1=>if c=Wx then Q Wx H1 else u Z H1 Q
noncomputable def ZuV(t:TT):TT:=λZ H Q=>t Z H λc H1=>Q (!c) H1
theorem ZoR(ha:PT X a tA):PW X (.BoolOp .And [a] pos) tA:=by
 intro wh pins s Z H Q I h;refine isTrue_and (thn (ha pins s Z H Q I h) λc s1 e=>?_);cases c with
 |true=>exact isTrue_and_nil e
 |false=>exact e
theorem Zri(ha:PT X a tA):PW X (.BoolOp .Or [a] pos) tA:=by
 intro wh pins s Z H Q I h;refine isTrue_or (thn (ha pins s Z H Q I h) λc s1 e=>?_);cases c with
 |false=>exact isTrue_or_nil e
 |true=>exact e
theorem Zrj(ha:PT X a tA)(hb:PW X (.BoolOp .And (b::rest) pos) tB'):PW X (.BoolOp .And (a::b::rest) pos) (Zu3 tA tB'):=by
 intro wh pins s Z H Q I h;refine isTrue_and (thn (ha pins s Z H _ I h) λc s1 ⟨H1,I1,q1⟩=>?_);cases c with
 |true=>exact hb wh pins s1 Z H1 Q I1 q1
 |false=>exact⟨H1,I1,q1⟩
theorem Ztq(ha:PT X a tA)(hb:PW X (.BoolOp .Or (b::rest) pos) tB'):PW X (.BoolOp .Or (a::b::rest) pos) (tOr tA tB'):=by
 intro wh pins s Z H Q I h;refine isTrue_or (thn (ha pins s Z H _ I h) λc s1 ⟨H1,I1,q1⟩=>?_);cases c with
 |true=>exact⟨H1,I1,q1⟩
 |false=>exact hb wh pins s1 Z H1 Q I1 q1
theorem Zrl(ha:PT X a tA):PT X (.UnaryOp .Not a pos) (ZuV tA):=by intro pins s Z H Q I h;exact isTrue_not (ha pins s Z H (λc H1=>Q (!c) H1) I h)
noncomputable def Zs6(ta tb:TE):TE:=λZ H Q=>ta Z H λx H1=>∃c,x=.bl c/\if c=Wx then tb Z H1 Q else Q (.bl Wy) H1
noncomputable def ZuU(ta tb:TE):TE:=λZ H Q=>ta Z H λx H1=>∃c,x=.bl c/\if c=Wx then Q (.bl Wx) H1 else tb Z H1 Q
noncomputable def ZsZ(ta:TE):TE:=λZ H Q=>ta Z H λx H1=>∃c,x=.bl c/\Q (.bl (!c)) H1
theorem ZmR{op}{t:TE}(h:PE X a t):PE X (.BoolOp op [a] pos) t:=λpins s Z H Q I hw=>BoolOp_one (h pins s Z H Q I hw)
theorem ZrD(ha:PE X a ta)(hb:PE X (.BoolOp .And (b::rest) pos) tb):PE X (.BoolOp .And (a::b::rest) pos) (Zs6 ta tb):=by
 intro pins s Z H Q I h;refine BoolOp_and (thn (ha pins s Z H _ I h) λv s1 ⟨x,H1,I1,r1,q1⟩=>?_);obtain⟨c,rfl,q1⟩:=q1;cases r1;refine wpAny_truthy_bool ?_;cases c with
 |true=>exact hb pins s1 Z H1 Q I1 q1
 |false=>exact⟨.bl Wy,H1,I1,rfl,q1⟩
theorem Ztu(ha:PE X a ta)(hb:PE X (.BoolOp .Or (b::rest) pos) tb):PE X (.BoolOp .Or (a::b::rest) pos) (ZuU ta tb):=by
 intro pins s Z H Q I h;refine BoolOp_or (thn (ha pins s Z H _ I h) λv s1 ⟨x,H1,I1,r1,q1⟩=>?_);obtain⟨c,rfl,q1⟩:=q1;cases r1;refine wpAny_truthy_bool ?_;cases c with
 |false=>exact hb pins s1 Z H1 Q I1 q1
 |true=>exact⟨.bl Wx,H1,I1,rfl,q1⟩
theorem Zrx(ha:PE X a ta):PE X (.UnaryOp .Not a pos) (ZsZ ta):=by intro pins s Z H Q I h;refine UnaryOp_ (thn (ha pins s Z H _ I h) λv s1 ⟨x,H1,I1,r1,q1⟩=>?_);obtain⟨c,rfl,q1⟩:=q1;cases r1;exact not_of (wpAny_truthy_bool ⟨.bl (!c),H1,I1,rfl,q1⟩)
noncomputable def tIf(t:TT)(ta tb:TE):TE:=λZ H Q=>t Z H λc H1=>if c=Wx then ta Z H1 Q else tb Z H1 Q
theorem ZmV{c:Expr}(hc:PT X c tA)(ha:PE X a ta)(hb:PE X b tb):PE X (.IfExp c a b pos) (tIf tA ta tb):=by
 intro pins s Z H Q I h;refine wpAny_IfExp (thn (hc pins s Z H _ I h) λd s1 ⟨H1,I1,q1⟩=>?_);cases d with
 |true=>exact ha pins s1 Z H1 Q I1 q1
 |false=>exact hb pins s1 Z H1 Q I1 q1
end
def SqL(K:Yk)(H:Hp)(a:Yi)(xs:List V):Prop:=
 Rd H a (.lst xs) \/
  ∃(o:Obj) (its:Array Yj) (n:Nat),K.lookup a=Wv o/\o.cls=.type "list" /\ o.dict=Ww/\o.data=.seq its n/\its.size<=sizeLine/\Zm xs its.toList
def SqT(K:Yk)(H:Hp)(a:Yi)(xs:List V):Prop:=
 Rd H a (.tup xs) \/
  ∃(o:Obj) (its:Array Yj) (n:Nat),K.lookup a=Wv o/\o.cls=.type "tuple" /\ o.data=.seq its n/\its.size<=sizeLine/\Zm xs its.toList
noncomputable def ZvQ:Yj->Option V
 |.none=>Wv .non
 |.bool b=>Wv (.bl b)
 |.int i _=>Wv (.int i)
 |.str x _=>Wv (.str x)
 |.bytes b _=>Wv (.byt b)
 |.float b _=>Wv (.flt b)
 |.ref a=>Wv (.ref a)
 |.type n=>Wv (.ty n)
 |_=>Ww
theorem RelV.abs{x:V}{u:Yj}(r:RelV x u):ZvQ u=Wv x:=by
 cases x with
 |non=>cases r;rfl
 |bl _=>cases r;rfl
 |int _=>obtain⟨t,rfl⟩:=r;rfl
 |str _=>obtain⟨t,rfl⟩:=r;rfl
 |byt _=>obtain⟨t,rfl⟩:=r;rfl
 |flt _=>obtain⟨t,rfl⟩:=r;rfl
 |ref _=>cases r;rfl
 |ty _=>cases r;rfl
theorem RelV.inj{x y:V}{u:Yj}(r:RelV x u)(q:RelV y u):x=y:=YF (r.abs.symm.trans q.abs)
theorem Zm.inj:∀{xs ys:List V}{us:List Yj},Zm xs us->Zm ys us->xs=ys
 |_,_,_,.nil,.nil=>rfl
 |_,_,_,.cons r t,.cons r' t'=>by rw[r.inj r',Zm.inj t t']
section
variable {X:Cx}{pins:List (Yi×Obj)}{Z:St}{H:Hp}{s:Yb}{a:Yi}{xs ys:List V}
theorem SqL.of{K:Yk}(h:H a=Wv (.lst xs)):SqL K H a xs:=.inl (.inl h)
theorem Inv.list(I:Inv X pins Z H s)(h:SqL X.K H a xs):∃its:List Yj,Zm xs its/\PlainL s.heap a its.toArray/\xs.length<=sizeLine:=by
 rcases h with h|⟨o,its,n,hk,hc,hd,hs,hz,r⟩
 . obtain⟨z,its,n,r,e⟩:=h.ok I.hok;exact⟨its,r,⟨_,n,e,rfl,rfl,rfl⟩,z⟩
 . refine⟨its.toList,r,⟨o,n,I.kIn a o hk,hc,hd,by simpa using hs⟩,?_⟩;have e:=r.length;simp only[Array.length_toList]at e;omega
theorem Inv.tuple(I:Inv X pins Z H s)(h:SqT X.K H a xs):∃its:List Yj,Zm xs its/\IsTup s.heap a its.toArray/\xs.length<=sizeLine:=by
 rcases h with h|⟨o,its,n,hk,hc,hs,hz,r⟩
 . obtain⟨z,its,r,p⟩:=h.ok I.hok;exact⟨its,r,p.tup,z⟩
 . refine⟨its.toList,r,⟨o,I.kIn a o hk,hc,n,by simpa using hs⟩,?_⟩;have e:=r.length;simp only[Array.length_toList]at e;omega
theorem Inv.list_inj(I:Inv X pins Z H s)(h:SqL X.K H a xs)(h':SqL X.K H a ys):xs=ys:=by
 obtain⟨its,r,⟨o,n,e,_,_,d⟩,_⟩:=I.list h;obtain⟨its',r',⟨o',n',e',_,_,d'⟩,_⟩:=I.list h';rw[e]at e';cases e';rw[d]at d';injection d' with d1 _;have:its=its':=by simpa using congrArg Array.toList d1
 subst this;exact r.inj r'
theorem Inv.tuple_inj(I:Inv X pins Z H s)(h:SqT X.K H a xs)(h':SqT X.K H a ys):xs=ys:=by
 obtain⟨its,r,⟨o,e,_,n,d⟩,_⟩:=I.tuple h;obtain⟨its',r',⟨o',e',_,n',d'⟩,_⟩:=I.tuple h';rw[e]at e';cases e';rw[d]at d';injection d' with d1 _;have:its=its':=by simpa using congrArg Array.toList d1
 subst this;exact r.inj r'
end
noncomputable abbrev Cx.wish(X:Cx)(E:Yj->Yb->Prop):Cx:={X with xe:=E}
noncomputable abbrev Cx.nox(X:Cx):Cx:=X.wish λ_ _=>False
theorem Cx.Ok.wish{X:Cx}(ok:X.Ok)(E:Yj->Yb->Prop):(X.wish E).Ok:=⟨ok.mod,ok.kind,ok.glob,ok.blt,ok.above,ok.inj,ok.has,ok.cab,ok.hd,ok.frames,ok.stk,ok.exf,ok.bs,ok.bsz,ok.noex,ok.exfs,ok.funs,ok.frf⟩
theorem Cx.Ok.unwish{X:Cx}{E:Yj->Yb->Prop}(ok:(X.wish E).Ok):X.Ok:=⟨ok.mod,ok.kind,ok.glob,ok.blt,ok.above,ok.inj,ok.has,ok.cab,ok.hd,ok.frames,ok.stk,ok.exf,ok.bs,ok.bsz,ok.noex,ok.exfs,ok.funs,ok.frf⟩
section
variable {X:Cx}{pins:List (Yi×Obj)}{Z:St}{H:Hp}{s:Yb}{E:Yj->Yb->Prop}
theorem Inv.wish(I:Inv X pins Z H s)(E:Yj->Yb->Prop):Inv (X.wish E) pins Z H s:=⟨I.ok.wish E,I.os,I.bare,I.base,I.loc,I.cell,I.free,I.freeC,I.pin,I.hok,I.len⟩
theorem Inv.unwish(I:Inv (X.wish E) pins Z H s):Inv X pins Z H s:=⟨I.ok.unwish,I.os,I.bare,I.base,I.loc,I.cell,I.free,I.freeC,I.pin,I.hok,I.len⟩
end
section
variable {X:Cx}{st:Stmt}{rest:List Stmt}{t u:TS}{e:Expr}{te:TE}{pos:Pos}
noncomputable def Zqf:TS:=λD Z H=>D.nx Z H
noncomputable def ZuS(t u:TS):TS:=λD Z H=>t {D with nx:=u D} Z H
theorem ZoU:PSs X [] Zqf:=λ_ _ Z H _ I h=>wpAny_execs_nil ⟨Z,H,I,h⟩
theorem ZmI(h1:PS X st t)(h2:PSs X rest u):PSs X (st::rest) (ZuS t u):=by
 intro pins s Z H D I h;refine wpAny_execs_cons (thn (h1 pins s Z H {D with nx:=u D} I h) λf s1 q=>?_);cases f with
 |next=>obtain⟨σ',H',I',q⟩:=q;exact h2 pins s1 σ' H' D I' q
 |ret v=>exact q
 |brk=>exact q
 |cont=>exact q
theorem ZoT(h1:PS X st t):PSs X [st] t:=by
 intro pins s Z H D I h;refine wpAny_execs_cons (thn (h1 pins s Z H D I h) λf s1 q=>?_);cases f with
 |next=>exact wpAny_execs_nil q
 |ret v=>exact q
 |brk=>exact q
 |cont=>exact q
noncomputable def ZqZ:TS:=λD Z H=>D.bk Z H
noncomputable def Zs3:TS:=λD Z H=>D.ct Z H
theorem ZoV:PS X (.Pass pos) Zqf:=λ_ _ Z H _ I h=>wpAny_Pass ⟨Z,H,I,h⟩
theorem ZmL:PS X (.Break pos) ZqZ:=λ_ _ Z H _ I h=>wpAny_Break ⟨Z,H,I,h⟩
theorem Zic:PS X (.Continue pos) Zs3:=λ_ _ Z H _ I h=>wpAny_Continue ⟨Z,H,I,h⟩
theorem Inv.quiet{pins:List (Yi×Obj)}{Z:St}{H:Hp}{s:Yb}(I:Inv X pins Z H s):interactive X.env=Wy:=by simp[interactive,I.ok.kind]
noncomputable def Zs1(te:TE):TS:=λD Z H=>te Z H λ_ H1=>D.nx Z H1
theorem ZoW(he:PE X e te)(hs:swapsWith e Ww pos.line X.env=pure Wy:=by rfl):PS X (.Expr e pos) (Zs1 te):=by intro pins s Z H D I h;exact wpAny_Expr_any (thn (he pins s Z H _ I h) λv s1 ⟨x,H1,I1,r1,q1⟩=>⟨Z,H1,I1,q1⟩) I.quiet hs
noncomputable def ZuT(te:TE):TS:=λD Z H=>te Z H D.rt
theorem Zrm(he:PE X e te):PS X (.Return (Wv e) pos) (ZuT te):=by intro pins s Z H D I h;exact wpAny_Return_some (thn (he pins s Z H _ I h) λv s1 ⟨x,H1,I1,r1,q1⟩=>⟨x,Z,H1,I1,r1,q1⟩)
noncomputable def ZuX(c:TT)(t u:TS):TS:=λD Z H=>c Z H λb H1=>if b=Wx then t D Z H1 else u D Z H1
theorem Zts{c:Expr}{a b:List Stmt}{tc:TT}(hc:PT X c tc)(ha:PSs X a t)(hb:PSs X b u):PS X (.If c a b pos) (ZuX tc t u):=by
 intro pins s Z H D I h;refine wpAny_If (thn (hc pins s Z H _ I h) λd s1 ⟨H1,I1,q1⟩=>?_);cases d with
 |true=>exact ha pins s1 Z H1 D I1 q1
 |false=>exact hb pins s1 Z H1 D I1 q1
end
abbrev TG:=V->St->Hp->(St->Hp->Prop)->Prop
abbrev TGs:=List V->St->Hp->(St->Hp->Prop)->Prop
def PG(X:Cx)(target:Expr)(t:TG):Prop:=
 ∀(pins:List (Yi×Obj)) (s:Yb) (Z:St) (H:Hp) (v:V) (u:Yj) (Q:St->Hp->Prop),Inv X pins Z H s->RelV v u->t v Z H Q ->
  YB (model X.prog X.w) X.A (assign target X.env u) (λ_ s'=>∃σ' H',Inv X pins σ' H' s'/\Q σ' H') X.xe s
def PGs(X:Cx)(ts:List Expr)(t:TGs):Prop:=
 ∀(pins:List (Yi×Obj)) (s:Yb) (Z:St) (H:Hp) (vs:List V) (us:List Yj) (Q:St->Hp->Prop),Inv X pins Z H s->Zm vs us->t vs Z H Q ->
  YB (model X.prog X.w) X.A (assignInOrder ((assignEach ts X.env).map (·.2)) us) (λ_ s'=>∃σ' H',Inv X pins σ' H' s'/\Q σ' H') X.xe s
abbrev Zog:=V->V->V->Hp->(Hp->Prop)->Prop
def Zqa(X:Cx)(t:Zog):Prop:=
 ∀(pins:List (Yi×Obj)) (s:Yb) (Z:St) (H:Hp) (o i v:V) (ov iv u:Yj) (Q:Hp->Prop),Inv X pins Z H s->RelV o ov->RelV i iv->RelV v u->t o i v H Q ->
  YB (model X.prog X.w) X.A (setItem ov iv u) (λ_ s'=>∃H',Inv X pins Z H' s'/\Q H') X.xe s
abbrev TIp:=V->V->Hp->VK->Prop
def PIp(X:Cx)(op:Operator)(t:TIp):Prop:=
 ∀(pins:List (Yi×Obj)) (s:Yb) (Z:St) (H:Hp) (x y:V) (v u:Yj) (Q:VK),Inv X pins Z H s->RelV x v->RelV y u->t x y H Q ->
  YB (model X.prog X.w) X.A (inplaceOp op v u) (EP X pins Z Q) X.xe s
section
variable {X:Cx}{pos:Pos}
noncomputable def ZcS(i:Nat):TG:=λv Z H Q=>Q (Z.set i (Wv v)) H
theorem Ze4{i:Nat}{x:Str}(hN:X.N.Nodup)(hi:X.N[i]? = Wv x)(hx:Loc X.env.scope x)(hf:X.fn x=Wx\/X.env.scope.names.lookup x=Wv .local:=by first|exact .inl rfl|exact .inr rfl|assumption):PG X (.Name x pos) (ZcS i):=by intro pins s Z H v u Q I r h;exact wpAny_assign_Name (ZdO I hN hi hx r (λs' I'=>⟨_,H,I',h⟩) hf)
noncomputable def ZpO:TGs:=λvs Z H Q=>vs=[]/\Q Z H
noncomputable def ZiG(t:TG)(u:TGs):TGs:=λvs Z H Q=>∃v r,vs=v::r/\t v Z H λσ' H'=>u r σ' H' Q
theorem ZkB:PGs X [] ZpO:=by intro pins s Z H vs us Q I r h;obtain⟨e,h⟩:=h;subst e;cases r;exact assignInOrder_nil ⟨Z,H,I,h⟩
theorem ZfB{e:Expr}{es:List Expr}{t:TG}{u:TGs}(h1:PG X e t)(h2:PGs X es u)
 (hs:(assignEach (e::es) X.env).map (·.2)=assign e X.env::(assignEach es X.env).map (·.2):=by rfl):PGs X (e::es) (ZiG t u):=by
 intro pins s Z H vs us Q I r h;obtain⟨v,vr,e1,h⟩:=h;subst e1;cases r with
 |cons r rr=>rw[hs];refine assignInOrder_cons (thn (h1 pins s Z H _ _ _ I r h) λ_ s1 ⟨σ1,H1,I1,q1⟩=>?_);exact h2 pins s1 σ1 H1 _ _ Q I1 rr q1
noncomputable def ZpN(K:Yk)(n:Nat)(t:TGs):TG:=λv Z H Q=>∃a xs,v=.ref a/\SqT K H a xs/\xs.length=n/\t xs Z H Q
theorem ZmP{es:List Expr}{k:Nat}{t:TGs}{n:Nat}(hc:X.calm=Wx)(h:PGs X es t)
 (hn:(assignEach es X.env).length=n:=by rfl) (hst:(assignEach es X.env).findIdx? (·.1)=Ww:=by rfl):PG X (.Tuple es k pos) (ZpN X.K n t):=by
 intro pins s Z H v u Q I r hw;obtain⟨a,xs,e1,hq,hl,hw⟩:=hw;subst e1;cases r;obtain⟨its,rv,ht,hz⟩:=I.tuple hq;refine assign_Tuple_tuple (I.ok.hd hc) ht (by simp[hn,<- hl,rv.length]) hst λh' hx=>?_;have I1:Inv X pins Z H {s with heap:=h'}:=I.kept (t':=s.toks) λb o e=>hx b o (Ou (Yn e)) e;exact h pins _ Z H xs _ Q I1 (by simpa using rv) hw
noncomputable def Zvz(to ti:TE)(t:Zog):TG:=λv Z H Q=>to Z H λo H1=>ti Z H1 λi H2=>t o i v H2 λH3=>Q Z H3
theorem Zrt{o i:Expr}{to ti:TE}{t:Zog}(ho:PE X o to)(hi:PE X i ti)(hs:Zqa X t)
 (ha:∀v,assign (.Subscript o i pos) X.env v=(do
  let ov <- holding [v] (eval o X.env);let iv <- holding [v,ov] (eval i X.env)
  standAt pos
  holding [v,ov,iv] (setItem ov iv v)
  release [v,ov,iv] []):=by intro _;rfl):PG X (.Subscript o i pos) (Zvz to ti t):=by
 intro pins s Z H v u Q I r h;rw[ha];refine Ya (Wg (thn (ho pins s Z H _ I h) λov s1 ⟨x,H1,I1,r1,q1⟩=>?_));refine Ya (Wg (thn (hi pins s1 Z H1 _ I1 q1) λiv s2 ⟨y,H2,I2,r2,q2⟩=>?_));refine Ya (wpAny_standAt (Ya (Wg (thn (hs pins s2 Z H2 x y v ov iv u _ I2 r1 r2 r q2) λ_ s3 ⟨H3,I3,q3⟩=>?_))));exact wpAny_release ⟨Z,H3,I3,q3⟩
noncomputable def Zmg(te:TE)(g:TG):TS:=λD Z H=>te Z H λx H1=>g x Z H1 D.nx
theorem Zjq{tg e:Expr}{te:TE}{g:TG}(he:PE X e te)(hg:PG X tg g)(hs:swapsWithSole [tg] e pos.line X.env=pure Wy:=by rfl)(hw:swappedStores [tg] e X.env=pure Ww:=by rfl)
 (h1:(assignEach [tg] X.env).map (·.2)=[assign tg X.env]:=by rfl):PS X (.Assign [tg] e pos) (Zmg te g):=by
 intro pins s Z H D I h;refine wpAny_Assign_stores (thn (he pins s Z H _ I h) λv s1 ⟨x,H1,I1,r1,q1⟩=>?_) hs hw;rw[h1];exact thn (hg pins s1 Z H1 x v _ I1 r1 q1) λ_ s2 q=>q
theorem Zjp{i:Nat}{x:Str}{e:Expr}{te:TE}{pos':Pos}(hN:X.N.Nodup)(hi:X.N[i]? = Wv x)(hx:Loc X.env.scope x)(he:PE X e te)(hs:swapsWith e (Wv (.Name x pos')) pos.line X.env=pure Wy:=by rfl)(hf:X.fn x=Wx\/X.env.scope.names.lookup x=Wv .local:=by first|exact .inl rfl|exact .inr rfl|assumption):
 PS X (.Assign [.Name x pos'] e pos) (Zmg te (ZcS i)):=by
 intro pins s Z H D I h;refine wpAny_Assign_Name (thn (he pins s Z H _ I h) λv s1 ⟨y,H1,I1,r1,q1⟩=>?_) hs;exact ZdO I1 hN hi hx r1 (λs2 I2=>⟨_,H1,I2,q1⟩) hf
noncomputable def Zu2(i:Nat)(te:TE)(ti:TIp):TS:=λD Z H=>∃x,Z[i]? = Wv (Wv x)/\te Z H λy H1=>ti x y H1 λz H2=>D.nx (Z.set i (Wv z)) H2
theorem Zrp{i:Nat}{x:Str}{e:Expr}{te:TE}{op:Operator}{ti:TIp}{pos':Pos}(hN:X.N.Nodup)(hi:X.N[i]? = Wv x)(hx:Loc X.env.scope x)(he:PE X e te)(ho:PIp X op ti)(hf:X.fn x=Wx\/X.env.scope.names.lookup x=Wv .local:=by first|exact .inl rfl|exact .inr rfl|assumption):
 PS X (.AugAssign (.Name x pos') op e pos) (Zu2 i te ti):=by
 intro pins s Z H D I h;obtain⟨v,e1,h⟩:=h;obtain⟨m,hn,hl⟩:=I.loc;have vis:Vis X.env.scope x:=by rcases hx with k|k;exact .inl k;exact .inr (.inl k)
 obtain⟨u,r,l⟩:=hl i x v hi e1 vis;refine wpAny_AugAssign_Name ?_;have go:YB (model X.prog X.w) X.A (eval e X.env) (λw s₂=>YB (model X.prog X.w) X.A (inplaceOp op u w) (λr s₃=>YB (model X.prog X.w) X.A (storeName X.env x r) (λ_=>SP X pins D .next) X.xe s₃) X.xe s₂) X.xe s:=by refine thn (he pins s Z H _ I h) λw s1 ⟨y,H1,I1,r1,q1⟩=>?_;refine thn (ho pins s1 Z H1 v y u w _ I1 r r1 q1) λz s2 ⟨zv,H2,I2,r2,q2⟩=>?_;exact ZdO I2 hN hi hx r2 (λs3 I3=>⟨_,H2,I3,q2⟩) hf
 rcases l with ⟨hk,hm⟩|⟨hk,c,hc,hcell⟩
 . exact wpAny_loadName_local I.ok.kind hk hn hm go
 . rcases hk with hk|hk
   . exact wpAny_loadName_cell I.ok.kind hk hc hcell go
   . rcases hx with k|k
     . have:X.env.scope.names.lookup x=Wv .free:=hk;rw[k]at this;cases this
     . have:X.env.scope.names.lookup x=Wv .free:=hk;rw[k]at this;cases this
noncomputable def ipI(f:Int->Int->Int):TIp:=λx y H Q=>∃i j,x=.int i/\y=.int j/\Q (.int (f i j)) H
theorem Zr7:PIp X .Add (ipI λi j=>i+j):=by intro pins s Z H x y v u Q I r1 r2 h;obtain⟨i,j,e1,e2,q⟩:=h;subst e1;subst e2;obtain⟨t,rfl⟩:=r1;obtain⟨t',rfl⟩:=r2;exact iadd_int ⟨.int _,H,I.tok _,⟨_,rfl⟩,q⟩
end
section
variable {X:Cx}{pos:Pos}
noncomputable def ZqV(c:TT)(tb:TS):TS:=λD Z H=>∃W:Nat->St->Hp->Prop,(∃m,W m Z H)/\∀m Z H,W m Z H ->
 c Z H λb H1=>if b=Wx then ∃N:St->Hp->Prop,(∀σ' H',N σ' H'->∃m',m'<m/\W m' σ' H')/\tb {D with nx:=N,ct:=N,bk:=D.nx} Z H1 else D.nx Z H1
theorem ZmJ{c:Expr}{body:List Stmt}{tc:TT}{tb:TS}(hp:PassesOwn (model X.prog X.w) X.A X.env X.xe)(hc:PT X c tc)(hb:PSs X body tb):PS X (.While c body [] pos) (ZqV tc tb):=by
 intro pins s Z H D I h;obtain⟨W,⟨m0,w0⟩,turn⟩:=h;refine wpAny_While (codeAny_whileLoop (λn s'=>∃σ' H',Inv X pins σ' H' s'/\W n σ' H') ?_ m0 ⟨Z,H,I,w0⟩);rintro n s1 ⟨σ1,H1,I1,w1⟩;refine wpAny_passesOwn hp (thn (hc pins s1 σ1 H1 _ I1 (turn n σ1 H1 w1)) λb s2 ⟨H2,I2,q2⟩=>?_);cases b with
 |true=>
  obtain⟨N,hN,q2⟩:=q2;rw[if_pos rfl];refine wpAny_passesOwn hp (thn (hb pins s2 σ1 H2 _ I2 q2) λf s3 q3=>?_);cases f with
  |next=>obtain⟨σ3,H3,I3,n3⟩:=q3;obtain⟨m',hm,w3⟩:=hN σ3 H3 n3;exact⟨m',hm,σ3,H3,I3,w3⟩
  |cont=>obtain⟨σ3,H3,I3,n3⟩:=q3;obtain⟨m',hm,w3⟩:=hN σ3 H3 n3;exact⟨m',hm,σ3,H3,I3,w3⟩
  |brk=>exact q3
  |ret v=>exact q3
 |false=>rw[if_neg Ow];exact wpAny_execs_nil ⟨σ1,H2,I2,q2⟩
end
structure It where
 go:Nat->Hp->Prop
 yld:Nat->Hp->V->Hp->Prop
 stop:Nat->Hp->Prop
def Zbl(X:Cx)(pins:List (Yi×Obj))(H:Hp)(b:Yi):Prop:=H b=Ww/\b≠X.env.locals/\b ∉ X.fs/\(b∈X.ex\/X.s₀.heap.objs.size<=b)/\(∀x c,X.env.cells.lookup x=Wv c->c≠b)/\∀p∈X.pn++pins,p.1≠b
theorem Inv.fpOk{X:Cx}{pins:List (Yi×Obj)}{Z:St}{H H':Hp}{s:Yb}{b:Yi}(I:Inv X pins Z H s)(hb:s.heap.objs.size<=b)(hn:H' b=Ww):Zbl X pins H' b:=by
 refine⟨hn,Nat.ne_of_gt (O4 I.lt hb),I.nofs hb,.inr (OE I.sz hb),λx c e z=>?_,λp hp z=>?_⟩
 . obtain⟨v,q⟩:=I.cell x c e;exact absurd (O4 q.lt (by rw[z];exact hb)) (Yw _)
 . exact absurd (O4 (Yn (I.pin p hp).1) (by rw[z];exact hb)) (Yw _)
structure Turn(P:Yh)(w:Yg)(K:Yk)(tg:Expr)(J:It)(fp:List Yi)(it:Yi)(tn:Nat->YG->Prop):Prop where
 mem:it∈fp
 obj:∀i h,tn i h->∀b∈fp,∃o,h.get? b=Wv o/\∀v,o.data≠.cell v
 keep:∀i h h',tn i h->(∀b∈fp,∀o,h.get? b=Wv o->h'.get? b=Wv o)->tn i h'
 item:∀(X:Cx),X.prog=P->X.w=w->X.K=K->X.calm=Wx->∀(i:Nat) (pins:List (Yi×Obj)) (s:Yb) (Z:St) (H:Hp) (E:Yj->Yb->Prop),Inv X pins Z H s->(∀b∈fp,Zbl X pins H b)->tn i s.heap->J.go i H ->
  YB (model P w) X.A (pyNext (.ref it)) (λr s1=>∃u,r=Wv u /\
   YB (model P w) X.A (letOwnedTupleGo tg (.ref it) u) (λ_ s2=>∃x H',Inv X pins Z H' s2/\RelV x u/\J.yld i H x H'/\tn (i+1) s2.heap/\∀b∈fp,H' b=Ww) E s1) E s
 done:∀(X:Cx),X.prog=P->X.w=w->X.K=K->X.calm=Wx->∀(i:Nat) (pins:List (Yi×Obj)) (s:Yb) (Z:St) (H:Hp) (E:Yj->Yb->Prop),Inv X pins Z H s->(∀b∈fp,Zbl X pins H b)->tn i s.heap->J.stop i H ->
  YB (model P w) X.A (pyNext (.ref it)) (λr s1=>r=Ww/\Inv X pins Z H s1) E s
 self:∀(A:YH) (i:Nat) (s:Yb) (Q:Yj->Yb->Prop) (E:Yj->Yb->Prop),tn i s.heap->Q (.ref it) s->YB (model P w) A (pyIter (.ref it)) Q E s
abbrev TI:=St->Hp->(It->Hp->Prop)->Prop
def PIE(X:Cx)(pins:List (Yi×Obj))(Z:St)(tg:Expr)(R:It->Hp->Prop)(itv:Yj)(s2:Yb):Prop:=∃(it:Yi) (fp:List Yi) (tn:Nat->YG->Prop) (J:It) (H':Hp),itv=.ref it/\Inv X pins Z H' s2/\Turn X.prog X.w X.K tg J fp it tn/\tn 0 s2.heap/\(∀b∈fp,Zbl X pins H' b)/\R J H'
def PI(X:Cx)(tg iter:Expr)(wi:TI):Prop:=
 ∀(pins:List (Yi×Obj)) (s:Yb) (Z:St) (H:Hp) (R:It->Hp->Prop),Inv X pins Z H s->wi Z H R ->
  YB (model X.prog X.w) X.A (eval iter X.env) (λv s1=>YB (model X.prog X.w) X.A (pyIter v) (PIE X pins Z tg R) X.xe s1) X.xe s
theorem ZiE{M:Model}{A:YH}{E:Yj->Yb->Prop}{s:Yb}{tg:Expr}{it:Yi}{u:Yj}{o:Obj}{n:String}{vs:Array Yj}{Q:Unit->Yb->Prop}(ho:s.heap.get? it=Wv o)(hc:o.cls=.type n)(hd:o.data=.fields vs)
   (hn:["enumerate", "zip", "dict_itemiterator", "dict_reverseitemiterator", "odict_iterator", "itertools.zip_longest", "itertools.pairwise"].contains n=Wy) (hQ:Q () s):YB M A (letOwnedTupleGo tg (.ref it) u) Q E s:=by
 unfold letOwnedTupleGo;cases tg<;>first
   | exact Yc hQ
   | (cases u<;>first
       | exact Yc hQ
       | (refine Ya (wpAny_load ho ?_)
          rw [hc,hd];show YB M A (if (["enumerate", "zip", "dict_itemiterator", "dict_reverseitemiterator", "odict_iterator", "itertools.zip_longest", "itertools.pairwise"].contains n&&vs[0]?==Wv (rawInt _))=Wx then _ else _) Q E s;rw [if_neg (by intro h;rw [hn,Bool.false_and] at h;cases h)];exact Yc hQ))
noncomputable def Itl(K:Yk)(a:Yi):It:=⟨λi H=>∃xs x,SqL K H a xs/\xs[i]? = Wv x,λi H x H'=>H'=H/\∀xs,SqL K H a xs->xs[i]? = Wv x,λi H=>∃xs,SqL K H a xs/\xs.length<=i⟩
noncomputable def Itt(K:Yk)(a:Yi):It:=⟨λi H=>∃xs x,SqT K H a xs/\xs[i]? = Wv x,λi H x H'=>H'=H/\∀xs,SqT K H a xs->xs[i]? = Wv x,λi H=>∃xs,SqT K H a xs/\xs.length<=i⟩
noncomputable def Itr(lo:Int)(n:Nat):It:=⟨λi _=>i<n,λi H x H'=>H'=H/\x=.int (lo+i),λi _=>n<=i⟩
theorem Zk8{P:Yh}{w:Yg}{K:Yk}{tg:Expr}(a it:Yi):Turn P w K tg (Itl K a) [it] it (λi h=>h.IsListIter it a i) where
 mem:=by simp
 obj:=λi h st b hb=>by
  have e:b=it:=by simpa using hb
  subst e;obtain⟨o,e,c,d⟩:=st;exact⟨o,e,λv z=>by rw[d]at z;cases z⟩
 keep:=λi h h' st k=>st.at λo e=>k it (by simp) o e
 item:=by intro X hP hw hK hc i pins s Z H E I hf st hg;subst hP hw hK;obtain⟨xs,x,hq,hx⟩:=hg;obtain⟨its,rv,p,hz⟩:=I.list hq;obtain⟨u,hu,ru⟩:=rv.get hx;obtain⟨f0,f1,f2,f3,f4,f5⟩:=hf it (by simp);refine wpAny_pyNext_list_item st p.isList (x:=u) (by simpa using hu) λh' st' sb=>?_;have I1:Inv X pins Z H {s with heap:=h'}:=I.turned (t':=s.toks) (λb o hb e=>(sb.2 b hb).trans e) f0 f1 f3 f4 f5;obtain⟨o,e,c,d⟩:=id st';exact⟨u,rfl,ZiE (s:={s with heap:=h'}) e c d (by decide) ⟨x,H,I1,ru,⟨rfl,λys hy=>by rw[I.list_inj hy hq];exact hx⟩,st',λb hb=>(hf b hb).1⟩⟩
 done:=by intro X hP hw hK hc i pins s Z H E I hf st hg;subst hP hw hK;obtain⟨xs,hq,hx⟩:=hg;obtain⟨its,rv,p,hz⟩:=I.list hq;obtain⟨f0,f1,f2,f3,f4,f5⟩:=hf it (by simp);have hl:=rv.length;exact wpAny_pyNext_list_end (I.ok.hd hc) st p.isList (by simp;omega) λh' eb=>⟨rfl,I.turned (t':=s.toks) (λb o hb e=>eb b o hb e) f0 f1 f3 f4 f5⟩
 self:=λ_ _ _ _ _ st h=>wpAny_pyIter_listiter st h
theorem Zjc{P:Yh}{w:Yg}{K:Yk}{tg:Expr}(a it:Yi):Turn P w K tg (Itt K a) [it] it (λi h=>h.IsTupleIter it a i) where
 mem:=by simp
 obj:=λi h st b hb=>by
  have e:b=it:=by simpa using hb
  subst e;obtain⟨o,e,c,d⟩:=st;exact⟨o,e,λv z=>by rw[d]at z;cases z⟩
 keep:=λi h h' st k=>st.at λo e=>k it (by simp) o e
 item:=by intro X hP hw hK hc i pins s Z H E I hf st hg;subst hP hw hK;obtain⟨xs,x,hq,hx⟩:=hg;obtain⟨its,rv,p,hz⟩:=I.tuple hq;obtain⟨u,hu,ru⟩:=rv.get hx;obtain⟨f0,f1,f2,f3,f4,f5⟩:=hf it (by simp);refine wpAny_pyNext_tuple_item st (show s.heap.IsTuple a its.toArray from p) (x:=u) (by simpa using hu) λh' st' sb=>?_;have I1:Inv X pins Z H {s with heap:=h'}:=I.turned (t':=s.toks) (λb o hb e=>(sb.2 b hb).trans e) f0 f1 f3 f4 f5;obtain⟨o,e,c,d⟩:=id st';exact⟨u,rfl,ZiE (s:={s with heap:=h'}) e c d (by decide) ⟨x,H,I1,ru,⟨rfl,λys hy=>by rw[I.tuple_inj hy hq];exact hx⟩,st',λb hb=>(hf b hb).1⟩⟩
 done:=by intro X hP hw hK hc i pins s Z H E I hf st hg;subst hP hw hK;obtain⟨xs,hq,hx⟩:=hg;obtain⟨its,rv,p,hz⟩:=I.tuple hq;obtain⟨f0,f1,f2,f3,f4,f5⟩:=hf it (by simp);have hl:=rv.length;exact wpAny_pyNext_tuple_end (I.ok.hd hc) st (show s.heap.IsTuple a its.toArray from p) (by simp;omega) λh' eb=>⟨rfl,I.turned (t':=s.toks) (λb o hb e=>eb b o hb e) f0 f1 f3 f4 f5⟩
 self:=λ_ _ _ _ _ st h=>wpAny_pyIter_tupleiter st h
theorem Zjd{P:Yh}{w:Yg}{K:Yk}{tg:Expr}(it:Yi)(lo:Int)(n:Nat):Turn P w K tg (Itr lo n) [it] it (fun i h=>IsRangeIter h it (lo+(i:Nat) * 1) ((n:Int) - (i:Nat)) 1) where
 mem:=by simp
 obj:=fun i h st b hb=>by
   have e:b=it:=by simpa using hb
   subst e;exact ⟨_,st,fun v z=>by
     have z':Data.fields _=Data.cell v:=z;cases z'⟩
 keep:=fun i h h' st k=>k it (by simp) _ st
 item:=by
   intro X hP hw hK hc i pins s Z H E I hf st hg;subst hP hw hK;obtain ⟨f0,f1,f2,f3,f4,f5⟩:=hf it (by simp);have W:=Walks.range (prog:=X.prog) (w:=X.w) (I.ok.hd hc) it lo 1 n;refine W.item i s _ _ hg st fun v h' tk hv st' kk=>?_;obtain ⟨t,rfl⟩:=hv;have I1:Inv X pins Z H {s with heap:=h',toks:=tk}:=I.turned (fun b o hb e=>kk b o (by simpa using hb) e) f0 f1 f3 f4 f5;refine ⟨_,rfl,ZiE (s:={s with heap:=h',toks:=tk}) (n := "range_iterator") st' rfl rfl (by decide) ⟨.int (lo+i),H,I1,⟨t,?_⟩,⟨rfl,rfl⟩,st',fun b hb=>(hf b hb).1⟩⟩;rw [Int.mul_one]
 done:=by
   intro X hP hw hK hc i pins s Z H E I hf st hg;subst hP hw hK;obtain ⟨f0,f1,f2,f3,f4,f5⟩:=hf it (by simp);exact wpAny_pyNext_range_end (I.ok.hd hc) st (by have:n<=i:=hg;omega) fun h' eb=>⟨rfl,I.turned (t':=s.toks) (fun b o hb e=>eb b o hb e) f0 f1 f3 f4 f5⟩
 self:=fun _ _ _ _ _ st h=>wpAny_pyIter_rangeiter st h
section
variable {X:Cx}{tg:Expr}
theorem Zms{pins:List (Yi×Obj)}{Z:St}{H:Hp}{s:Yb}{R:It->Hp->Prop}{E:Yj->Yb->Prop}{lo hi:Int}{t u v:Tok}{tk:Nat}(I:Inv X pins Z H s)(h1:-(2 ^ 62)<=lo)(h2:lo<2 ^ 62)(h3:-(2 ^ 62)<=hi)(h4:hi<2 ^ 62)
 (q:R (Itr lo (hi - lo).toNat) H):YB (model X.prog X.w) X.A (pyIter (.ref s.heap.objs.size)) (PIE X pins Z tg R) E {s with heap:=s.heap.push {cls:=.type "range",data:=.fields #[.int lo t,.int hi u,.int 1 v]},toks:=tk}:=by
 refine wpAny_pyIter_range (IsRange.new ..) (small_one h1 h2 h3 h4) ?_;have I1:Inv X pins Z H {s with heap:=s.heap.push {cls:=.type "range",data:=.fields #[.int lo t,.int hi u,.int 1 v]},toks:=tk}:=I.kept λb o e=>O1 _ e;refine⟨(s.heap.push {cls:=.type "range",data:=.fields #[.int lo t,.int hi u,.int 1 v]}).objs.size,[(s.heap.push {cls:=.type "range",data:=.fields #[.int lo t,.int hi u,.int 1 v]}).objs.size],_,_,H,rfl,
  I1.kept (t':=tk) λb o e=>O1 _ e,Zjd _ lo (hi - lo).toNat,?_,λb hb=>?_,q⟩
 . have e1:lo+((0:Nat):Int) * 1=lo:=by simp
   have e2:(((hi - lo).toNat:Nat):Int) - ((0:Nat):Int)=Builtin.Range.rangeSize lo hi 1:=by rw[rangeSize_one];split<;>omega
   show IsRangeIter _ _ (lo+((0:Nat):Int) * 1) ((((hi - lo).toNat:Nat):Int) - ((0:Nat):Int)) 1;rw[e1,e2];exact Oj _ rfl
 . have e:b=(s.heap.push {cls:=.type "range",data:=.fields #[.int lo t,.int hi u,.int 1 v]}).objs.size:=by simpa using hb
   subst e;exact I1.fpOk (Oq _) (I1.hok.fresh (Oq _))
noncomputable def Zt6(ta:TA):TI:=λZ H R=>ta Z H λvs H1=>∃j:Int,vs=[.int j]/\-(2 ^ 62)<=j/\j<2 ^ 62/\R (Itr 0 j.toNat) H1
theorem Zls{a:Expr}{ta:TA}{p pos:Pos}(hg:Gl X "range")(hm:X.mg "range" = Ww)(ha:PA X [a] ta)(hs:YA [a] X.env=[(Wy,eval a X.env)]:=by rfl):PI X tg (.Call (.Name "range" p) [a] [] pos) (Zt6 ta):=by
 intro pins s Z H R I h;refine Call_ (ZdC I hg hm boot_range (PyProof.Rows.callWith_type1 (thn (ha pos pins s Z H _ I h) λus s1 ⟨vs,H1,I1,r1,q1⟩=>?_) hs rfl));obtain⟨j,e,q1,q2,q⟩:=q1;subst e;cases r1 with
 |cons r rr=>cases rr;obtain⟨t,rfl⟩:=r;exact call_range_1 (Zms I1 (by omega) (by omega) q1 q2 (by simpa using q))
noncomputable def ZuY(wi:TI)(g:TG)(tb:TS):TS:=λD Z H=>wi Z H λJ H1=>∃W:Nat->Nat->St->Hp->Prop,(∃m,W 0 m Z H1)/\∀i m Z H,W i m Z H ->
 (J.stop i H/\D.nx Z H)\/(J.go i H/\∃N:St->Hp->Prop,(∀σ' H',N σ' H'->∃m',m'<m/\W (i+1) m' σ' H')/\∀x H',J.yld i H x H'->g x Z H' λσ2 H2=>tb {D with nx:=N,ct:=N,bk:=D.nx} σ2 H2)
noncomputable def ZfA(fp:List Yi)(h:YG):List (Yi×Obj):=fp.filterMap λb=>(h.get? b).map λo=>(b,o)
theorem Zcp{fp:List Yi}{h:YG}{b:Yi}{o:Obj}(hb:b∈fp)(e:h.get? b=Wv o):(b,o)∈ZfA fp h:=List.mem_filterMap.mpr ⟨b,hb,by rw[e];rfl⟩
theorem ZlB{fp:List Yi}{h:YG}{p:Yi×Obj}(hp:p∈ZfA fp h):p.1∈fp/\h.get? p.1=Wv p.2:=by
 obtain⟨b,hb,e⟩:=List.mem_filterMap.mp hp;cases q:h.get? b with
 |none=>rw[q]at e;cases e
 |some o=>rw[q]at e;have e':(b,o)=p:=YF e;subst e';exact⟨hb,q⟩
theorem Inv.pinned{pins:List (Yi×Obj)}{Z:St}{H:Hp}{s:Yb}{fp:List Yi}(I:Inv X pins Z H s)(hf:∀b∈fp,Zbl X pins H b)(ho:∀b∈fp,∃o,s.heap.get? b=Wv o/\∀v,o.data≠.cell v):Inv X (pins++ZfA fp s.heap) Z H s:=
 I.pins_of λp hp=>(OD.mp hp).elim (λz=>I.pin p (Ov _ z)) λz=>by obtain⟨hb,e⟩:=ZlB z;obtain⟨f0,f1,f2,_⟩:=hf p.1 hb;obtain⟨o,e',d⟩:=ho p.1 hb;rw[e]at e';cases e';exact⟨e,f0,f1,f2,d⟩
theorem Inv.unpinned{pins pl:List (Yi×Obj)}{Z:St}{H:Hp}{s:Yb}(I:Inv X (pins++pl) Z H s):Inv X pins Z H s:=I.pins_of λp hp=>I.pin p (Ov _ (Ys _ hp))
theorem Zrn{iter:Expr}{body:List Stmt}{wi:TI}{g:TG}{tb:TS}{pos:Pos}(hp:PassesOwn (model X.prog X.w) X.A X.env X.xe)(hc:X.calm=Wx)(hi:PI X tg iter wi)(hg:PG X tg g)(hb:PSs X body tb)
 (hs:∀x,foldedSetIterable iter X.env x=pure x:=by intro _;rfl):PS X (.For tg iter body [] pos) (ZuY wi g tb):=by
 intro pins s Z H D I h;refine wpAny_For (thn (hi pins s Z H _ I h) λv s1 h1=>thn h1 λitv s2 h2=>?_) hs;obtain⟨it,fp,tn,J,H2,e,I2,T,st2,f2,W,⟨m0,w0⟩,turn⟩:=h2;subst e;have stat:∀{H':Hp},(∀b∈fp,H' b=Ww)->∀b∈fp,Zbl X pins H' b:=λhn b hb=>⟨hn b hb,(f2 b hb).2⟩
 refine codeAny_forLoop_any (λn s'=>∃i σ' H',Inv X pins σ' H' s'/\tn i s'.heap/\(∀b∈fp,H' b=Ww)/\W i n σ' H') ?_ m0 ⟨0,Z,H2,I2,st2,λb hb=>(f2 b hb).1,w0⟩;rintro n s3 ⟨i,σ3,H3,I3,st3,fr3,w3⟩;rcases turn i n σ3 H3 w3 with ⟨stop,qn⟩|⟨go,N,hN,step⟩
 . refine wpAny_passesOwn hp (thn (T.done X rfl rfl rfl hc i pins s3 σ3 H3 X.xe I3 (stat fr3) st3 stop) λr s4 ⟨hr,I4⟩=>?_);subst hr;exact wpAny_execs_nil ⟨σ3,H3,I4,qn⟩
 . refine wpAny_passesOwn hp (thn (T.item X rfl rfl rfl hc i pins s3 σ3 H3 X.xe I3 (stat fr3) st3 go) λr s4 ⟨u,hr,h4⟩=>?_);subst hr;refine wpAny_passesOwn hp (thn h4 λ_ s5 ⟨x,H5,I5,r5,y5,st5,fr5⟩=>?_);have I5':=I5.pinned (stat fr5) (T.obj _ _ st5);refine wpAny_passesOwn hp (thn (hg _ s5 σ3 H5 x u _ I5' r5 (step x H5 y5)) λ_ s6 ⟨σ6,H6,I6,q6⟩=>?_);refine wpAny_passesOwn hp (thn (hb _ s6 σ6 H6 _ I6 q6) λf s7 q7=>?_);have again:∀{σ7:St}{H7:Hp},Inv X (pins++ZfA fp s5.heap) σ7 H7 s7->N σ7 H7->∃m,m<n/\∃i σ' H',Inv X pins σ' H' s7/\tn i s7.heap/\(∀b∈fp,H' b=Ww)/\W i m σ' H':=λ{σ7 H7} I7 n7=>by obtain⟨m',hm,w7⟩:=hN σ7 H7 n7;refine⟨m',hm,i+1,σ7,H7,I7.unpinned,T.keep _ _ _ st5 λb hb o e=>(I7.pin (b,o) (Ov _ (Ov _ (Zcp hb e)))).1,λb hb=>?_,w7⟩;obtain⟨o,e,d⟩:=T.obj _ _ st5 b hb;exact(I7.pin (b,o) (Ov _ (Ov _ (Zcp hb e)))).2.1
   cases f with
   |next=>obtain⟨σ7,H7,I7,n7⟩:=q7;exact again I7 n7
   |cont=>obtain⟨σ7,H7,I7,n7⟩:=q7;exact again I7 n7
   |brk=>obtain⟨σ7,H7,I7,q7⟩:=q7;exact⟨σ7,H7,I7.unpinned,q7⟩
   |ret v=>obtain⟨x7,σ7,H7,I7,r7,q7⟩:=q7;exact⟨x7,σ7,H7,I7.unpinned,r7,q7⟩
end
abbrev R2:=V->V->Hp->VK->Prop
def OpR(X:Cx)(f:Yj->Yj->Sem Yj)(r:R2):Prop:=
 ∀(pins:List (Yi×Obj)) (s:Yb) (Z:St) (H:Hp) (x y:V) (v u:Yj) (Q:VK),Inv X pins Z H s->RelV x v->RelV y u->r x y H Q ->
  YB (model X.prog X.w) X.A (f v u) (EP X pins Z Q) X.xe s
def UnR(X:Cx)(f:Yj->Sem Yj)(r:V->Hp->VK->Prop):Prop:=
 ∀(pins:List (Yi×Obj)) (s:Yb) (Z:St) (H:Hp) (x:V) (v:Yj) (Q:VK),Inv X pins Z H s->RelV x v->r x H Q ->
  YB (model X.prog X.w) X.A (f v) (EP X pins Z Q) X.xe s
def Zcl(X:Cx)(f:Yj)(r:List V->Hp->VK->Prop):Prop:=
 ∀(pins:List (Yi×Obj)) (s:Yb) (Z:St) (H:Hp) (xs:List V) (us:List Yj) (Q:VK),Inv X pins Z H s->Zm xs us->r xs H Q ->
  YB (model X.prog X.w) X.A (call f us) (EP X pins Z Q) X.xe s
def ZvR(X:Cx)(r:V->Hp->(Bool->Hp->Prop)->Prop):Prop:=
 ∀(pins:List (Yi×Obj)) (s:Yb) (Z:St) (H:Hp) (x:V) (v:Yj) (Q:Bool->Hp->Prop),Inv X pins Z H s->RelV x v->r x H Q ->
  YB (model X.prog X.w) X.A (truthy v) (TP X pins Z Q) X.xe s
noncomputable def tOp(r:R2)(ta tb:TE):TE:=λZ H Q=>ta Z H λx H1=>tb Z H1 λy H2=>r x y H2 Q
noncomputable def tUn(r:V->Hp->VK->Prop)(ta:TE):TE:=λZ H Q=>ta Z H λx H1=>r x H1 Q
noncomputable def rI(C:Int->Int->Prop)(g:Int->Int->V):R2:=λx y H Q=>∃i j,x=.int i/\y=.int j/\C i j/\Q (g i j) H
noncomputable def rI0(g:Int->Int->V):R2:=λx y H Q=>∃i j,x=.int i/\y=.int j/\Q (g i j) H
def rU(g:Int->V):V->Hp->VK->Prop:=λx H Q=>∃i,x=.int i/\Q (g i) H
section
variable {X:Cx}{a b c:Expr}{ta tb tc:TE}{pos:Pos}
theorem Zsq(ha:PE X a ta)(hb:PE X b tb){pins:List (Yi×Obj)}{s:Yb}{Z:St}{H:Hp}{R:V->V->Hp->Prop}(I:Inv X pins Z H s)
 (h:ta Z H λx H1=>tb Z H1 λy H2=>R x y H2) {Q:Yj->Yb->Prop}{f:Yj->Yj->Sem Yj}
 (hf:∀v u s2 x y H2,Inv X pins Z H2 s2->RelV x v->RelV y u->R x y H2->YB (model X.prog X.w) X.A (f v u) Q X.xe s2) :
 YB (model X.prog X.w) X.A (eval a X.env) (λv s₁=>YB (model X.prog X.w) X.A (eval b X.env) (λu s₂=>YB (model X.prog X.w) X.A (f v u) Q X.xe s₂) X.xe s₁) X.xe s:=by
 refine thn (ha pins s Z H _ I h) λv s1 ⟨x,H1,I1,r1,q1⟩=>?_;refine thn (hb pins s1 Z H1 _ I1 q1) λu s2 ⟨y,H2,I2,r2,q2⟩=>?_;exact hf v u s2 x y H2 I2 r1 r2 q2
theorem Ztv{op:Operator}{r:R2}(ho:OpR X (binaryOp op) r)(ha:PE X a ta)(hb:PE X b tb):PE X (.BinOp a op b pos) (tOp r ta tb):=by intro pins s Z H Q I h;exact wpAny_BinOp (Zsq ha hb I h λv u s2 x y H2 I2 rx ry q=>ho pins s2 Z H2 x y v u Q I2 rx ry q)
theorem Ztt{op:UnaryOp}{r:V->Hp->VK->Prop}(ho:UnR X (unaryOp op) r)(ha:PE X a ta):PE X (.UnaryOp op a pos) (tUn r ta):=by intro pins s Z H Q I h;exact UnaryOp_ (thn (ha pins s Z H _ I h) λv s1 ⟨x,H1,I1,r1,q1⟩=>ho pins s1 Z H1 x v Q I1 r1 q1)
theorem opI{f:Yj->Yj->Sem Yj}{C:Int->Int->Prop}{g:Int->Int->Int}
 (rule:∀(i j:Int) (t u:Tok) (s:Yb) (Q:Yj->Yb->Prop) (E:Yj->Yb->Prop),C i j->Q (.int (g i j) s.toks) {s with toks:=s.toks+1}->YB (model X.prog X.w) X.A (f (.int i t) (.int j u)) Q E s) :
 OpR X f (rI C λi j=>.int (g i j)):=by
 intro pins s Z H x y v u Q I rx ry h;obtain⟨i,j,rfl,rfl,hc,q⟩:=h;obtain⟨t,rfl⟩:=rx;obtain⟨t',rfl⟩:=ry;exact rule i j t t' s _ _ hc ⟨.int (g i j),H,I.tok _,⟨_,rfl⟩,q⟩
theorem ZtI{f:Yj->Yj->Sem Yj}{g:Int->Int->Int}
 (rule:∀(i j:Int) (t u:Tok) (s:Yb) (Q:Yj->Yb->Prop) (E:Yj->Yb->Prop),Q (.int (g i j) s.toks) {s with toks:=s.toks+1}->YB (model X.prog X.w) X.A (f (.int i t) (.int j u)) Q E s) :
 OpR X f (rI0 λi j=>.int (g i j)):=by
 intro pins s Z H x y v u Q I rx ry h;obtain⟨i,j,rfl,rfl,q⟩:=h;obtain⟨t,rfl⟩:=rx;obtain⟨t',rfl⟩:=ry;exact rule i j t t' s _ _ ⟨.int (g i j),H,I.tok _,⟨_,rfl⟩,q⟩
theorem Zpq{f:Yj->Yj->Sem Yj}{g:Int->Int->Bool}
 (rule:∀(i j:Int) (t u:Tok) (s:Yb) (Q:Yj->Yb->Prop) (E:Yj->Yb->Prop),Q (.bool (g i j)) s->YB (model X.prog X.w) X.A (f (.int i t) (.int j u)) Q E s) :
 OpR X f (rI0 λi j=>.bl (g i j)):=by
 intro pins s Z H x y v u Q I rx ry h;obtain⟨i,j,rfl,rfl,q⟩:=h;obtain⟨t,rfl⟩:=rx;obtain⟨t',rfl⟩:=ry;exact rule i j t t' s _ _ ⟨.bl (g i j),H,I,rfl,q⟩
def ZvT(i j:Int):Prop:=0<j/\j<1073741824
def ZvS(i j:Int):Prop:=0<=j/\j<=1000000/\i.natAbs<2 ^ 64
theorem ZrK:OpR X (binaryOp .Add) (rI0 λi j=>.int (i+j)):=ZtI λ_ _ _ _ _ _ _ q=>add_int q
theorem ZrE:OpR X (binaryOp .Sub) (rI0 λi j=>.int (i - j)):=ZtI λ_ _ _ _ _ _ _ q=>sub_int q
theorem Zpf:OpR X (binaryOp .FloorDiv) (rI ZvT λi j=>.int (i / j)):=opI λi j _ _ _ _ _ hc q=>by have h1:(0:Int)<j:=hc.1;have h2:j<1073741824:=hc.2;exact floordiv_int (by omega) (by rw[Int.fdiv_eq_ediv_of_nonneg i (by omega)];exact q) (.inl (PyProof.noPylong_small (by omega)))
theorem ZrG:OpR X (binaryOp .Mod) (rI (λ_ j=>0<j) λi j=>.int (i % j)):=opI λi j _ _ _ _ _ hc q=>by have h1:(0:Int)<j:=hc;exact mod_int' (by omega) (by rw[Int.fmod_eq_emod_of_nonneg i (by omega)];exact q)
theorem ZrF:OpR X (binaryOp .Pow) (rI ZvS λi j=>.int (i ^ j.toNat)):=opI λ_ _ _ _ _ _ _ hc q=>pow_int_small hc.1 hc.2.1 hc.2.2 q
theorem unI{f:Yj->Sem Yj}{g:Int->Int}
 (rule:∀(i:Int) (t:Tok) (s:Yb) (Q:Yj->Yb->Prop) (E:Yj->Yb->Prop),Q (.int (g i) s.toks) {s with toks:=s.toks+1}->YB (model X.prog X.w) X.A (f (.int i t)) Q E s) :
 UnR X f (rU λi=>.int (g i)):=by
 intro pins s Z H x v Q I rx h;obtain⟨i,rfl,q⟩:=h;obtain⟨t,rfl⟩:=rx;exact rule i t s _ _ ⟨.int (g i),H,I.tok _,⟨_,rfl⟩,q⟩
theorem ZqN:UnR X (unaryOp .USub) (rU λi=>.int (-i)):=unI λ_ _ _ _ _ q=>neg_int q
end
section
variable {X:Cx}{a b c:Expr}{ta tb tc:TE}{pos:Pos}
theorem ZnF{pins:List (Yi×Obj)}{Z:St}{H:Hp}{s:Yb}{Q:VK}{k k':Bool}(I:Inv X pins Z H s)(q:Q (.bl k) H)(e:k=k'):EP X pins Z Q (.bool k') s:=by subst e;exact⟨.bl k,H,I,rfl,q⟩
theorem ZtB:OpR X (YM .Lt) (rI0 λi j=>.bl (Wz (i<j))):=Zpq λ_ _ _ _ _ _ _ q=>lt_int q
theorem ZtC:OpR X (YM .LtE) (rI0 λi j=>.bl (Wz (i<=j))):=Zpq λ_ _ _ _ _ _ _ q=>le_int q
theorem ZtD:OpR X (YM .Gt) (rI0 λi j=>.bl (Wz (j<i))):=Zpq λ_ _ _ _ _ _ _ q=>gt_int q
theorem ZtE:OpR X (YM .GtE) (rI0 λi j=>.bl (Wz (j<=i))):=Zpq λ_ _ _ _ _ _ _ q=>ge_int q
theorem ZrH:OpR X (YM .Is) (λx y H Q=>y=.non/\Q (.bl (Wz (x=.non))) H):=by
 intro pins s Z H x y v u Q I rx ry h;obtain⟨rfl,q⟩:=h;cases ry;refine is_none_gen (ZnF I q ?_);cases x<;>first
  |(cases rx;rfl)
  |(obtain⟨t,rfl⟩:=rx;rfl)
theorem Zpd:OpR X (YM .IsNot) (λx y H Q=>y=.non/\Q (.bl (!Wz (x=.non))) H):=by
 intro pins s Z H x y v u Q I rx ry h;obtain⟨rfl,q⟩:=h;cases ry;refine isnot_none_gen (ZnF I q ?_);cases x<;>first
  |(cases rx;rfl)
  |(obtain⟨t,rfl⟩:=rx;rfl)
theorem ZkD{op:CmpOp}{r:R2}(ho:OpR X (YM op) r)(ha:PE X a ta)(hb:PE X b tb)(hm:behindInMarks op b=Wy):PE X (.Compare a [op] [b] pos) (tOp r ta tb):=by intro pins s Z H Q I h;exact wpAny_Compare1 (Zsq ha hb I h λv u s2 x y H2 I2 rx ry q=>ho pins s2 Z H2 x y v u Q I2 rx ry q) hm
noncomputable def Zqe(t:TE):TT:=λZ H Q=>t Z H λx H'=>∃k,x=.bl k/\Q k H'
theorem ZkA{op:CmpOp}{r:R2}(ho:OpR X (YM op) r)(ha:PE X a ta)(hb:PE X b tb)(hm:behindInMarks op b=Wy):PT X (.Compare a [op] [b] pos) (Zqe (tOp r ta tb)):=by
 intro pins s Z H Q I h;refine wpAny_isTrue_Compare1 (thn (ha pins s Z H _ I h) λv s1 ⟨x,H1,I1,r1,q1⟩=>thn (hb pins s1 Z H1 _ I1 q1) λu s2 ⟨y,H2,I2,r2,q2⟩=>thn (ho pins s2 Z H2 x y v u _ I2 r1 r2 q2) λc s3 ⟨z,H3,I3,r3,k,e,q3⟩=>?_) hm
 subst e;cases r3;exact wpAny_truthy_bool ⟨H3,I3,q3⟩
noncomputable def Zmf(r r':R2)(ta tb tc:TE):TE:=λZ H Q=>ta Z H λx H1=>tb Z H1 λy H2=>r x y H2 λz H3=>∃k,z=.bl k /\
 (if k=Wx then tc Z H3 λw' H4=>r' y w' H4 Q else Q (.bl Wy) H3)
theorem ZmX{op op':CmpOp}{r r':R2}(ho:OpR X (YM op) r)(ho':OpR X (YM op') r')(ha:PE X a ta)(hb:PE X b tb)(hc:PE X c tc)
 (hm:lastMarks [op,op'] [b,c]=Wy:=by with_unfolding_all rfl):PE X (.Compare a [op,op'] [b,c] pos) (Zmf r r' ta tb tc):=by
 intro pins s Z H Q I h;refine Compare_chain (thn (ha pins s Z H _ I h) λv s1 ⟨x,H1,I1,r1,q1⟩=>chain_link (thn (hb pins s1 Z H1 _ I1 q1) λu s2 ⟨y,H2,I2,r2,q2⟩=>thn (ho pins s2 Z H2 x y v u _ I2 r1 r2 q2) λd s3 ⟨z,H3,I3,r3,k,e,q3⟩=>?_)) hm
 subst e;cases r3;refine wpAny_truthy_bool ?_;cases k with
 |false=>exact ite_ff ⟨.bl Wy,H3,I3,rfl,q3⟩
 |true=>exact ite_tt (chain_last (thn (hc pins s3 Z H3 _ I3 q3) λw' s4 ⟨z',H4,I4,r4,q4⟩=>ho' pins s4 Z H4 y z' u w' Q I4 r2 r4 q4))
theorem ZmH{op op':CmpOp}{r r':R2}(ho:OpR X (YM op) r)(ho':OpR X (YM op') r')(ha:PE X a ta)(hb:PE X b tb)(hc:PE X c tc)
 (hm:lastMarks [op,op'] [b,c]=Wy:=by with_unfolding_all rfl):PT X (.Compare a [op,op'] [b,c] pos) (Zqe (Zmf r r' ta tb tc)):=by
 intro pins s Z H Q I h;refine isTrue_chain (thn (ha pins s Z H _ I h) λv s1 ⟨x,H1,I1,r1,q1⟩=>test_link (thn (hb pins s1 Z H1 _ I1 q1) λu s2 ⟨y,H2,I2,r2,q2⟩=>thn (ho pins s2 Z H2 x y v u _ I2 r1 r2 q2) λd s3 ⟨z,H3,I3,r3,k,e,q3⟩=>?_)) hm
 subst e;cases r3;refine wpAny_truthy_bool ?_;cases k with
 |false=>obtain⟨k',e',q'⟩:=q3;cases e';exact ite_ff ⟨H3,I3,q'⟩
 |true=>refine ite_tt (test_last (thn (hc pins s3 Z H3 _ I3 q3) λw' s4 ⟨z',H4,I4,r4,q4⟩=>thn (ho' pins s4 Z H4 y z' u w' _ I4 r2 r4 q4) λd' s5 ⟨z2,H5,I5,r5,k2,e2,q5⟩=>?_));subst e2;cases r5;exact wpAny_truthy_bool ⟨H5,I5,q5⟩
def Zsu(K:Yk)(x:V)(H:Hp)(k:Bool):Prop:=
 match x with
 |.non=>k=Wy
 |.bl b=>k=b
 |.int i=>k=(i != 0)
 |.str y=>y.length<=sizeLine/\k=((y.length:Int) != 0)
 |.byt y=>y.size<=sizeLine/\k=((y.size:Int) != 0)
 |.ref p=>(∃xs,SqL K H p xs/\k=!xs.isEmpty)\/(∃xs,SqT K H p xs/\k=!xs.isEmpty)\/∃kvs,H p=Wv (.dK kvs)/\k=!kvs.isEmpty
 |_=>False
theorem ZjY{κ:Type}{kvs:List (κ×V)}{vs:List (κ×Yj)}(r:KV kvs vs):(!vs.isEmpty)=!kvs.isEmpty:=by cases r<;>rfl
theorem ZfP{xs:List V}{its:List Yj}(r:Zm xs its):(!its.toArray.isEmpty)=!xs.isEmpty:=by cases r<;>simp
theorem Zcq:(sizeLine:Nat)<2 ^ 63:=by rw[YC];decide
theorem ZqR:ZvR X (λx H Q=>∃k,Zsu X.K x H k/\Q k H):=by
 intro pins s Z H x v Q I rx h;obtain⟨k,e,q⟩:=h;have hl:=Zcq;have hs:sizeLine=16777216:=YC;cases x with
 |non=>cases rx;have e':k=Wy:=e;subst e';exact truthy_none ⟨H,I,q⟩
 |bl b=>cases rx;have e':k=b:=e;subst e';exact wpAny_truthy_bool ⟨H,I,q⟩
 |int i=>obtain⟨t,rfl⟩:=rx;have e':k=(i != 0):=e;subst e';exact PySem.P.truthy_int ⟨H,I,q⟩
 |str y=>obtain⟨t,rfl⟩:=rx;obtain⟨hy,e'⟩:y.length<=sizeLine/\k=((y.length:Int) != 0):=e;subst e';exact PySem.P.truthy_str (by omega) ⟨H,I.tok _,q⟩
 |byt y=>obtain⟨t,rfl⟩:=rx;obtain⟨hy,e'⟩:y.size<=sizeLine/\k=((y.size:Int) != 0):=e;subst e';exact PySem.W.truthy_bytes (by omega) ⟨H,I.tok _,q⟩
 |ref p=>
  cases rx;have e':(∃xs,SqL X.K H p xs/\k=!xs.isEmpty)\/(∃xs,SqT X.K H p xs/\k=!xs.isEmpty)\/∃kvs,H p=Wv (.dK kvs)/\k=!kvs.isEmpty:=e;rcases e' with ⟨xs,hx,e'⟩|⟨xs,hx,e'⟩|⟨kvs,hx,e'⟩
  . subst e';obtain⟨its,r,pl,hz⟩:=I.list hx;have hlen:=r.length;exact wpAny_truthy_list pl.isList (by simp only[Of];omega) ⟨H,I.tok _,by rw[ZfP r];exact q⟩
  . subst e';obtain⟨its,r,pl,hz⟩:=I.tuple hx;have hlen:=r.length;exact truthy_tuple pl (by simp only[Of];omega) ⟨H,I.tok _,by rw[ZfP r];exact q⟩
  . subst e';obtain⟨hz,hS,vs,r,m⟩:kvs.length<=sizeLine/\(p==Ye)=Wy/\∃vs,KV kvs vs/\s.heap.DictOf (ZM X.prog X.w) p vs:=I.hok p _ hx;have hlen:kvs.length=vs.length:=Paired.length r;exact wpAny_truthy_dict hS m (by omega) ⟨H,I.tok _,by rw[ZjY r];exact q⟩
 |_=>exact(show False from e).elim
theorem ZmG(ha:PE X a ta)(he:∀whole,isTrue a X.env whole=(do let v <- whole;standAt a.pos;holding [v] (truthy v))):
 PT X a (λZ H Q=>ta Z H λx H'=>∃k,Zsu X.K x H' k/\Q k H'):=by
 intro pins s Z H Q I h;exact isTrue_plain (thn (ha pins s Z H _ I h) λv s1 ⟨x,H1,I1,r1,q1⟩=>ZqR pins s1 Z H1 x v Q I1 r1 q1) (he _)
theorem Zjv:OpR X (binaryOp .Add) (λx y H Q=>∃i j,x=.str i/\y=.str j/\i.length+j.length<=sizeLine/\Q (.str (i++j)) H):=by intro pins s Z H x y v u Q I rx ry h;obtain⟨i,j,rfl,rfl,hz,q⟩:=h;obtain⟨t,rfl⟩:=rx;obtain⟨t',rfl⟩:=ry;exact add_str (λt' tk=>⟨.str (i++j),H,I.tok _,⟨_,rfl⟩,q⟩) hz
theorem vals1{x:V}{us:List Yj}(r:Zm [x] us):∃u,us=[u]/\RelV x u:=by
 cases r with
 |cons r1 r2=>cases r2;exact⟨_,rfl,r1⟩
theorem vals2{x y:V}{us:List Yj}(r:Zm [x,y] us):∃u w',us=[u,w']/\RelV x u/\RelV y w':=by
 cases r with
 |cons r1 r2=>
  cases r2 with
  |cons r3 r4=>cases r4;exact⟨_,_,rfl,r1,r3⟩
end
structure ObjM(h:YG)(x dx C:Yi)(mA:Str->Option Yj):Prop where
 obj:h.get? x=Wv (Wi C dx)
 ns:h.Ns1 dx mA
 ne:dx≠x
theorem ZlH{h:YG}{dx:Yi}{mA:Str->Option Yj}(n:h.Ns1 dx mA):∃od,h.get? dx=Wv od/\∀name,PySem.W.lookIn name od=Wv (mA name):=by
 obtain⟨o,es,ep,ho,hd,hk,_,hm⟩:=n;refine⟨o,ho,λname=>?_⟩;have e:=hm name;unfold nsFind findBy at e;rw[<- Array.find?_toList]at e;unfold PySem.W.lookIn;rw[hd];dsimp only;split
 . rename_i y q;rw[q]at e;exact congrArg Wv e
 . rename_i q;rw[q]at e;have a:es.toList.any (·.refKey)=Wy:=by rw[List.any_eq_false];intro y hy;obtain⟨z,t,hkey⟩:=hk y (Array.mem_toList_iff.mp hy);simp[DictEntry.refKey,hkey]
   have a':¬ es.toList.any (·.refKey)=Wx:=by rw[a];exact Ow
   rw[if_neg a'];exact congrArg Wv e
theorem ObjM.look{h:YG}{x dx C:Yi}{mA:Str->Option Yj}(I:ObjM h x dx C mA):∃od,PySem.W.InstAt h x (Wi C dx) C (Wv od)/\∀name,PySem.W.lookIn name od=Wv (mA name):=
 let ⟨od,ho,hl⟩:=ZlH I.ns
 ⟨od,⟨I.obj,rfl,rfl,ho⟩,hl⟩
section
variable {prog:Yh}{w:Yg}{A:YH}{E:Yj->Yb->Prop}{s:Yb}{K:Yk}{x dx C f:Yi}{mA:Str->Option Yj}{name:Str}{v:Yj}
theorem ZpM{expr:Bool}{Q:Yj->Yb->Prop}(X:K.In s.heap)(I:ObjM s.heap x dx C mA)(hg:PySem.W.plainGet K C name=Wx)(hh:PySem.W.hasDictIn K C=Wx)
 (ha:YJ K (.ref C) name=Wv Ww) (hv:mA name=Wv v) (hv':PySem.W.handedIn v=Wx) (h:Q v {s with toks:=s.toks+1}) :
 YB (model prog w) A (getAttr (.ref x) name expr) Q E s:=by
 obtain⟨od,J,hl⟩:=I.look;exact PySem.W.get_value X J (PySem.W.plainGet_of hg).1 (PySem.W.findObj_own hh ha rfl (by rw[hl,hv])) hv' h
theorem Znz{pl:Sem Bool}{Q:Yj×List Yj->Yb->Prop}(X:K.In s.heap)(I:ObjM s.heap x dx C mA)(hg:PySem.W.plainGet K C name=Wx)
 (hf:YJ K (.ref C) name=Wv (Wv (.ref f))) (ht:PySem.W.isFn K (.ref f)=Wx) (hv:mA name=Ww) (h:Q (.ref f,[.ref x]) s) :
 YB (model prog w) A (getMethod (.ref x) name pl) Q E s:=by
 obtain⟨od,J,hl⟩:=I.look;exact PySem.W.method_fn X J (PySem.W.plainGet_of hg).1 (PySem.W.plainGet_of hg).2 hf (beq_iff_eq.mp ht) (by show(PySem.W.lookIn name od).map (·.isSome)=Wv Wy;rw[hl,hv];rfl) h
theorem ZoA{ns:List Str}{Q:Unit->Yb->Prop}(X:K.In s.heap)(I:ObjM s.heap x dx C mA)
 (hs:YJ K (.ref C) "__setattr__" = Wv (Wv (.builtin "object.__setattr__"))) (hp:PySem.W.plainOver K C=Wx) (ht:PySem.W.takerIn K C name=Wv Ww) (hh:PySem.W.hasDictIn K C=Wx)
 (hw:PySem.Within mA ns) (hsz:ns.length<=sizeLine)
 (h:∀h',ObjM h' x dx C (λy=>if y=name then Wv v else mA y)->Heap.SameBut dx s.heap h'->Q () {s with heap:=h',toks:=s.toks+2}) :
 YB (model prog w) A (setAttr (.ref x) name v) Q E s:=by
 obtain⟨od,J,hl⟩:=I.look;refine PySem.W.set_plain X J hs (PySem.W.osa_open (s:={s with toks:=s.toks+1}) (r:=Ww) X J hp ht λb=>?_);obtain⟨cd,hc,hd'⟩:=PySem.W.any_some hh;have hx:s.heap.get? x=Wv ⟨.ref C,Wv dx,.plain,#[]⟩:=I.obj;refine Ya (Yc (Ya (Ya (wpAny_loadPart hx (Ya (PySem.W.Looks.here (s:={s with toks:=s.toks+1}) (PySem.W.looks_clsIn X hc) ?_))))));rw[hd'];refine Yc (a:=Wv dx) (Ya (Yc (Ya ?_)));refine wpAny_nsSet1 (s:={s with toks:=s.toks+1}) I.ns λh' hn2 hs2=>?_;obtain⟨oD,esD,epD,hoD,hdD,hcD⟩:=hn2.count (PySem.Within.cons name v hw);refine Ya (wpAny_lookBehind hoD (by rw[hdD];exact pastItsLine_dict (OE hcD (by rw[Os];omega))) ?_);exact Yc (h _ ⟨(hs2.2 _ (YL I.ne)).trans I.obj,hn2,I.ne⟩ hs2)
theorem Zng{R:Result->Yb->Prop}{vs:List Yj}{kw:List (Str×Yj)}(X:K.In s.heap)(hm:PySem.W.makesIn K C=Wx)
 (hi:YJ K (.ref C) "__init__" = Wv (Wv (.ref f))) (hf:PySem.W.typeIn K (.ref f)=Wv (.type "function"))
 (h:codeAny (model prog w) (A.under (.builtin "type.__call__" ⟨.ref C::vs,kw⟩)) (.call (.ref f) ⟨.ref (s.heap.objs.size+1)::vs,kw⟩) (PySem.W.InitBack (s.heap.objs.size+1) R)
  {s with heap:=(s.heap.push YT).push (Wi C s.heap.objs.size)}) :
 codeAny (model prog w) A (.call (.ref C) ⟨vs,kw⟩) R s:=by
 obtain⟨hh,g,d,t,os⟩:=s;exact PySem.W.make_core (PySem.W.makes_of X hm) (PySem.W.looks_findIn X hi) (λself=>PySem.W.bind_fn X self hf) (.inl rfl) h
end
noncomputable def ZbQ(f:Str)(v:V):List (Str×V)->List (Str×V)
 |[]=>[(f,v)]
 |(g,x)::r=>if g=f then(g,v)::r else(g,x)::ZbQ f v r
theorem ZeG(f g:Str)(v:V):∀fs:List (Str×V),(ZbQ f v fs).lookup g=if g=f then Wv v else fs.lookup g
 |[]=>by
  show Wm g [(f,v)]=_;by_cases h:g=f
  . have hb:(g==f)=Wx:=beq_iff_eq.mpr h;simp only[Wm,hb,if_pos h]
  . have hb:(g==f)=Wy:=beq_eq_false_iff_ne.mpr h;simp only[Wm,hb,if_neg h]
 |(k,x)::r=>by
  have ih:=ZeG f g v r;rw[show ZbQ f v ((k,x)::r)=(if k=f then(k,v)::r else(k,x)::ZbQ f v r)from rfl];by_cases hk:k=f
  . rw[if_pos hk];by_cases h:g=k
    . have hb:(g==k)=Wx:=beq_iff_eq.mpr h;simp only[Wm,hb,if_pos (h.trans hk)]
    . have hb:(g==k)=Wy:=beq_eq_false_iff_ne.mpr h;simp only[Wm,hb,if_neg (λe:g=f=>h (e.trans hk.symm))]
  . rw[if_neg hk];by_cases h:g=k
    . have hb:(g==k)=Wx:=beq_iff_eq.mpr h;simp only[Wm,hb,if_neg (λe:g=f=>hk (h.symm.trans e))]
    . have hb:(g==k)=Wy:=beq_eq_false_iff_ne.mpr h;simp only[Wm,hb];exact ih
theorem Zel(f:Str)(v:V):∀fs:List (Str×V),f∈(ZbQ f v fs).map (·.1)/\∀g,g∈fs.map (·.1)->g∈(ZbQ f v fs).map (·.1)
 |[]=>⟨by simp[ZbQ],λg h=>by simp at h⟩
 |(k,x)::r=>by
  obtain⟨i1,i2⟩:=Zel f v r;rw[show ZbQ f v ((k,x)::r)=(if k=f then(k,v)::r else(k,x)::ZbQ f v r)from rfl];by_cases hk:k=f
  . rw[if_pos hk];subst hk;exact⟨by simp,λg h=>by simpa using h⟩
  . rw[if_neg hk];refine⟨?_,λg h=>?_⟩
    . rw[Op];exact Oh _ i1
    . rw[Op]at h ⊢;rcases O3.mp h with e|e
      . exact O3.mpr (.inl e)
      . exact Oh _ (i2 g e)
theorem ZeI(f:Str)(v:V):∀fs:List (Str×V),(ZbQ f v fs).length<=fs.length+1
 |[]=>by simp[ZbQ]
 |(k,x)::r=>by
  have ih:=ZeI f v r;rw[show ZbQ f v ((k,x)::r)=(if k=f then(k,v)::r else(k,x)::ZbQ f v r)from rfl];by_cases hk:k=f
  . rw[if_pos hk,Os,Os];omega
  . rw[if_neg hk,Os,Os];omega
theorem Zec.some_of{v:V}{o:Option Yj}(r:Zec (Wv v) o):∃u,o=Wv u/\RelV v u:=by
 cases o with
 |none=>exact(show False from r).elim
 |some u=>exact⟨u,rfl,r⟩
theorem Zec.none_of{o:Option Yj}(r:Zec Ww o):o=Ww:=by
 cases o with
 |none=>rfl
 |some u=>exact(show False from r).elim
theorem ZlS{v:V}{u:Yj}(r:RelV v u):PySem.W.handedIn u=Wx:=by
 cases v with
 |non=>cases (show u=Value.none from r);rfl
 |bl b=>cases (show u=Value.bool b from r);rfl
 |int i=>obtain⟨t,e⟩:=(show ∃t,u=Value.int i t from r);cases e;rfl
 |str x=>obtain⟨t,e⟩:=(show ∃t,u=Value.str x t from r);cases e;rfl
 |byt b=>obtain⟨t,e⟩:=(show ∃t,u=Value.bytes b t from r);cases e;rfl
 |flt b=>obtain⟨t,e⟩:=(show ∃t,u=Value.float b t from r);cases e;rfl
 |ref a=>cases (show u=YD a from r);rfl
 |ty n=>cases (show u=Value.type n from r);rfl
section
variable {P:Yh}{w:Yg}{H H':Hp}{h h':YG}{a C dx:Yi}{fs fs':List (Str×V)}
theorem Zhn(hok:HOk P w H h)(e:H a=Wv (.ins C dx fs)):∃mA,ObjM h a dx C mA/\(∀f,Zec (fs.lookup f) (mA f))/\PySem.Within mA (fs.map (·.1))/\fs.length<=1000/\H dx=Wv (.own a):=by
 obtain⟨d,z,ne,ob,mA,n,r,q⟩:=(show Zai P w H h a (.ins C dx fs)from hok a _ e)
 exact⟨mA,⟨ob,n,ne⟩,r,q,z,d⟩
end
structure Cls(K:Yk)(C:Yi):Prop where
 pg:PySem.W.plainGet K C Str.empty=Wx
 hd:PySem.W.hasDictIn K C=Wx
 po:PySem.W.plainOver K C=Wx
 sa:YJ K (.ref C) "__setattr__" = Wv (Wv (.builtin "object.__setattr__"))
theorem Cls.get{K:Yk}{C:Yi}(c:Cls K C)(f:Str):PySem.W.plainGet K C f=Wx:=c.pg
def ZaM(K:Yk)(C:Yi)(f:Str):Prop:=YJ K (.ref C) f=Wv Ww
theorem ZaM.taker{K:Yk}{C:Yi}{f:Str}(n:ZaM K C f):PySem.W.takerIn K C f=Wv Ww:=by unfold PySem.W.takerIn;rw[show YJ K (.ref C) f=Wv Ww from n];rfl
structure Meth(K:Yk)(C:Yi)(m:Str)(f:Yi):Prop where
 at_:YJ K (.ref C) m=Wv (Wv (.ref f))
 fn:PySem.W.isFn K (.ref f)=Wx
 kp:Wf K (.ref f)=Wx
section
variable {X:Cx}{pins:List (Yi×Obj)}{Z:St}{H:Hp}{s:Yb}{a C dx:Yi}{fs:List (Str×V)}{f:Str}{v:V}{A:YH}{E:Yj->Yb->Prop}
theorem ZfT{b:Bool}{Q:Yj->Yb->Prop}(I:Inv X pins Z H s)(e:H a=Wv (.ins C dx fs))(c:Cls X.K C)(n:ZaM X.K C f)(l:fs.lookup f=Wv v)
 (h:∀u s',Inv X pins Z H s'->RelV v u->Q u s'):YB (model X.prog X.w) A (getAttr (.ref a) f b) Q E s:=by
 obtain⟨mA,O_,r,_,_,_⟩:=Zhn I.hok e;obtain⟨u,hu,ru⟩:=Zec.some_of (v:=v) (o:=mA f) (by rw[<- l];exact r f);exact ZpM I.kIn O_ (c.get f) c.hd n hu (ZlS ru) (h u _ (I.tok _) ru)
theorem ZfS{m:Str}{g:Yi}{pl:Sem Bool}{Q:Yj×List Yj->Yb->Prop}(I:Inv X pins Z H s)(e:H a=Wv (.ins C dx fs))(c:Cls X.K C)(k:Meth X.K C m g)(l:fs.lookup m=Ww)
 (h:Q (.ref g,[.ref a]) s):YB (model X.prog X.w) A (getMethod (.ref a) m pl) Q E s:=by
 obtain⟨mA,O_,r,_,_,_⟩:=Zhn I.hok e;have hn:mA m=Ww:=Zec.none_of (by rw[<- l];exact r m);exact Znz I.kIn O_ (c.get m) k.at_ k.fn hn h
theorem Zfm{y:V}{u:Yj}{Q:Unit->Yb->Prop}(I:Inv X pins Z H s)(e:H a=Wv (.ins C dx fs))(c:Cls X.K C)(n:ZaM X.K C f)(hl:fs.length<1000)(ry:RelV y u)
 (h:∀s',Inv X pins Z (upd H a (.ins C dx (ZbQ f y fs))) s'->Q () s'):YB (model X.prog X.w) A (setAttr (.ref a) f u) Q E s:=by
 obtain⟨mA,O_,r,wi,_,ho⟩:=Zhn I.hok e;have hz:(fs.map (·.1)).length<=sizeLine:=by rw[Yu,YC];omega
 refine ZoA I.kIn O_ c.sa c.po n.taker c.hd wi hz λh' O' sb=>h _ ?_;have hd:∃o,h'.get? dx=Wv o:=let ⟨o,_,_,e',_⟩:=O'.ns;⟨o,e'⟩;refine I.write (x:=a) (e:=dx) (by rw[e];exact True.intro) (.inr ho) (λb q hb z=>(sb.2 b hb).trans z) hd ?_;refine⟨by rw[Ze O_.ne];exact ho,?_,O_.ne,O'.obj,_,O'.ns,λg=>?_,λg hg=>?_⟩
 . have:=ZeI f y fs;omega
 . show Zec ((ZbQ f y fs).lookup g) (if g=f then Wv u else mA g);rw[ZeG];by_cases q:g=f
   . rw[if_pos q,if_pos q];exact ry
   . rw[if_neg q,if_neg q];exact r g
 . by_cases q:g=f
   . rw[q];exact(Zel f y fs).1
   . refine(Zel f y fs).2 g (wi g λz=>hg ?_);show(if g=f then Wv u else mA g)=Ww;rw[if_neg q];exact z
theorem Inv.made(I:Inv X pins Z H s):Inv X pins Z (upd (upd H s.heap.objs.size (.own (s.heap.objs.size+1))) (s.heap.objs.size+1) (.ins C s.heap.objs.size []))
 {s with heap:=(s.heap.push YT).push (Wi C s.heap.objs.size)}:=by
 have e1:(s.heap.push YT).get? s.heap.objs.size=Wv YT:=Oj s.heap rfl;have e2:((s.heap.push YT).push (Wi C s.heap.objs.size)).get? (s.heap.objs.size+1)=Wv (Wi C s.heap.objs.size):=by
  have:=Oj (s.heap.push YT) (o:=Wi C s.heap.objs.size) rfl
  rwa [Heap.size_push]at this
 have e3:(s.heap.push YT).Ns s.heap.objs.size (λ_=>Ww):=⟨YT,#[],_,e1,rfl,(λe he=>absurd he (by simp)),λ_=>rfl⟩
 have I1:=I.laid (a:=s.heap.objs.size) (o:=.own (s.heap.objs.size+1)) (h':=s.heap.push YT) (t':=s.toks) (λb u q=>O1 _ q) (Oq _) ⟨_,e1⟩;refine I1.laid (a:=s.heap.objs.size+1) (o:=.ins C s.heap.objs.size []) (t':=s.toks) (λb u q=>O1 _ q) (Nat.le_of_eq (Heap.size_push _ _)) ?_;have ne:s.heap.objs.size≠s.heap.objs.size+1:=Ou (OH _);refine⟨by rw[Ze ne,Zl],Yy _,ne,e2,λ_=>Ww,(Heap.Ns1.of_empty e3).at λo q=>O1 _ q,λ_=>True.intro,λy hy=>absurd rfl hy⟩
theorem Zp9{prog:Yh}{w:Yg}{env:Env}{e:Expr}{f:Str}{pos:Pos}{s:Yb}{Q:Yj->Yb->Prop}(hb:attributeBase e f env (eval e env)=eval e env)
 (h:YB (model prog w) A (eval e env) (λo s₁=>YB (model prog w) A (getAttr o f Wx) Q E s₁) E s):YB (model prog w) A (eval (.Attribute e f pos) env) Q E s:=
 Attribute_any_ h (by rw[arm_eval_Attribute,hb])
end
noncomputable def ZuZ(K:Yk)(ta:TE)(f:Str):TE:=λZ H Q=>ta Z H λx H1=>∃a C dx fs v,x=.ref a/\H1 a=Wv (.ins C dx fs)/\Cls K C/\ZaM K C f/\fs.lookup f=Wv v/\Q v H1
noncomputable def Zu6(K:Yk)(ta tv:TE)(f:Str):TS:=λD Z H=>tv Z H λy H1=>ta Z H1 λx H2=>∃a C dx fs,x=.ref a/\H2 a=Wv (.ins C dx fs)/\Cls K C/\ZaM K C f/\fs.length<1000 /\
 D.nx Z (upd H2 a (.ins C dx (ZbQ f y fs)))
def Zuy(X:Cx)(op:Operator)(rd:V->V->Hp->VK->Prop):Prop:=∀(pins:List (Yi×Obj)) (s:Yb) (Z:St) (H:Hp) (x y:V) (u v:Yj) (Q:VK),Inv X pins Z H s->RelV x u->RelV y v->rd x y H Q->YB (model X.prog X.w) X.A (inplaceOp op u v) (EP X pins Z Q) X.xe s
noncomputable def ZoC(K:Yk)(ta tv:TE)(rd:V->V->Hp->VK->Prop)(f:Str):TS:=λD Z H=>ta Z H λx H1=>∃a C dx fs v,x=.ref a/\H1 a=Wv (.ins C dx fs)/\Cls K C/\ZaM K C f/\fs.lookup f=Wv v /\
 tv Z H1 λy H2=>rd v y H2 λz H3=>∃dx' fs',H3 a=Wv (.ins C dx' fs')/\fs'.length<1000/\D.nx Z (upd H3 a (.ins C dx' (ZbQ f z fs')))
section
variable {X:Cx}{o e value:Expr}{f:Str}{pos pos' tpos:Pos}{ta tv:TE}
theorem ZrA(he:PE X e ta)(hb:attributeBase e f X.env (eval e X.env)=eval e X.env):PE X (.Attribute e f pos) (ZuZ X.K ta f):=by intro pins s Z H Q I h;refine Zp9 hb (thn (he pins s Z H _ I h) λu s1 ⟨x,H1,I1,rx,a,C,dx,fs,v,ex,ea,c,n,l,q⟩=>?_);subst ex;obtain rfl:u=YD a:=rx;exact ZfT I1 ea c n l λu' s2 I2 ru=>⟨v,H1,I2,ru,q⟩
theorem Zro(ha:PE X o ta)(hv:PE X value tv)(hs:swapsWith value (Wv (.Attribute o f pos')) pos.line X.env=pure Wy):PS X (.Assign [.Attribute o f pos'] value pos) (Zu6 X.K ta tv f):=by intro pins s Z H D I h;refine plainObj_wpAny_Assign_Attribute (thn (hv pins s Z H _ I h) λu s1 ⟨y,H1,I1,ry,q⟩=>thn (ha pins s1 Z H1 _ I1 q) λov s2 ⟨x,H2,I2,rx,a,C,dx,fs,ex,ea,c,n,l,q2⟩=>?_) hs;subst ex;obtain rfl:ov=YD a:=rx;exact Zfm I2 ea c n l ry λs3 I3=>⟨Z,_,I3,q2⟩
theorem Zlo{op:Operator}{rd:V->V->Hp->VK->Prop}(ha:PE X o ta)(hv:PE X value tv)(hop:Zuy X op rd):PS X (.AugAssign (.Attribute o f tpos) op value pos) (ZoC X.K ta tv rd f):=by intro pins s Z H D I h;refine wpAny_AugAssign_AttributeAny (thn (ha pins s Z H _ I h) λov s1 ⟨x,H1,I1,rx,a,C,dx,fs,v,ex,ea,c,n,l,q⟩=>?_);subst ex;obtain rfl:ov=YD a:=rx;refine ZfT I1 ea c n l λu s2 I2 ru=>thn (hv pins s2 Z H1 _ I2 q) λw3 s3 ⟨y,H2,I3,ry,q3⟩=>thn (hop pins s3 Z H2 v y u w3 _ I3 ru ry q3) λw4 s4 ⟨z,H3,I4,rz,dx',fs',ea',l',q4⟩=>?_;exact Zfm I4 ea' c n l' rz λs5 I5=>⟨Z,_,I5,q4⟩
def Ztp:V->V->Hp->VK->Prop:=λx y H Q=>∃i j,x=.int i/\y=.int j/\Q (.int (i+j)) H
theorem Zr8:Zuy X .Add Ztp:=by
 rintro pins s Z H x y u v Q I rx ry ⟨i,j,rfl,rfl,q⟩;obtain⟨t,rfl⟩:=(show ∃t,u=Value.int i t from rx)
 obtain⟨t',rfl⟩:=(show ∃t',v=Value.int j t' from ry)
 exact PyProof.Rows.iadd_int ⟨.int (i+j),H,I.tok _,⟨_,rfl⟩,q⟩
end
structure Room(k:Nat)(A:YH):Prop where
 hd:A.handled=Ww
 dp:A.depth+k+5<recursionLimit
 un:A.units+4 * k+1300<cLine
theorem Room.mono{j k:Nat}{A:YH}(r:Room k A)(h:j<=k):Room j A:=⟨r.hd,by have:=r.dp;omega,by have:=r.un;omega⟩
theorem Room.deeper{k:Nat}{A:YH}(r:Room (k+1) A)(env:Env):Room k (A.deeper env):=⟨r.hd,by have:=r.dp;show A.depth+1+k+5<_;omega,by have:=r.un;show A.units+3+4 * k+1300<_;omega⟩
theorem ZjC{A:YH}{C:Yi}{us:List Yj}{kw:List (Str×Yj)}:(A.under (.builtin "type.__call__" ⟨.ref C::us,kw⟩)).depth=A.depth+1:=by first|rfl|simp[Around.under,Code.weight,Code.isCreation,Code.isGuard,Code.isCaller,Code.frames,Code.isFrame,guardIds]
theorem ZjB{A:YH}{C:Yi}{us:List Yj}{kw:List (Str×Yj)}:(A.under (.builtin "type.__call__" ⟨.ref C::us,kw⟩)).units=A.units+1:=by first|rfl|simp[Around.under,Code.cUnits,Code.frames,Code.isFrame]
theorem Room.make{k:Nat}{A:YH}(r:Room (k+1) A)(C:Yi)(us:List Yj)(kw:List (Str×Yj)):Room k (A.under (.builtin "type.__call__" ⟨.ref C::us,kw⟩)):=⟨r.hd,by have:=r.dp;rw[ZjC];omega,by have:=r.un;rw[ZjB];omega⟩
theorem Room.depth{k:Nat}{A:YH}(r:Room k A):A.depth<recursionLimit:=by have:=r.dp;omega
noncomputable def ZqX:TA:=λ_ H Q=>Q [] H
noncomputable def Zs4(ta:TE)(tr:TA):TA:=λZ H Q=>ta Z H λx H1=>tr Z H1 λxs H2=>Q (x::xs) H2
section
variable {X:Cx}{e:Expr}{es:List Expr}{te:TE}{t:TA}{pos:Pos}
theorem ZfD:PA X [] ZqX:=λ_ _ _ _ H Q I h=>Calls.spliced_nil ⟨[],H,I,.nil,h⟩
theorem ZdX(ha:PE X e te)(hr:PA X es t)(hs:YA (e::es) X.env=(Wy,eval e X.env)::YA es X.env:=by rfl):PA X (e::es) (Zs4 te t):=by intro pos pins s Z H Q I h;rw[hs];show YB _ _ (spliced ((Wy,eval e X.env)::YS pos (YA es X.env))) _ _ s;refine Calls.spliced_cons (thn (ha pins s Z H _ I h) λu s1 ⟨x,H1,I1,r1,q1⟩=>?_);exact thn (hr pos pins s1 Z H1 _ I1 q1) λus s2 ⟨xs,H2,I2,r2,q2⟩=>⟨x::xs,H2,I2,.cons r1 r2,q2⟩
noncomputable def ZuR(t:TA):TE:=λZ H Q=>t Z H λxs H1=>xs.length<=sizeLine/\∀p,H1 p=Ww->Q (.ref p) (upd H1 p (.tup xs))
noncomputable def ZuW(t:TA):TE:=λZ H Q=>t Z H λxs H1=>xs.length<=sizeLine/\∀p,H1 p=Ww->Q (.ref p) (upd H1 p (.lst xs))
theorem Zrv{x1}(h:PA X es t):PE X (.Tuple es x1 pos) (ZuR t):=by intro pins s Z H Q I hq;refine wpAny_Tuple_spliced (thn (h pos pins s Z H _ I hq) λus s1 ⟨xs,H1,I1,r,z,q⟩=>⟨by rw[<- r.length];exact z,?_⟩);have hf:H1 s1.heap.objs.size=Ww:=I1.hok.fresh (Oq _);refine⟨.ref s1.heap.objs.size,upd H1 s1.heap.objs.size (.tup xs),I1.laid (t':=s1.toks) (λb u e=>O1 _ e) (Oq _) ?_,rfl,q _ hf⟩;exact⟨z,us,r,⟨_,Oj _ rfl,rfl,rfl,_,rfl⟩⟩
theorem Zry(h:PA X es t):PE X (.List es pos) (ZuW t):=by intro pins s Z H Q I hq;refine wpAny_List_spliced (thn (h pos pins s Z H _ I hq) λus s1 ⟨xs,H1,I1,r,z,q⟩=>⟨by rw[<- r.length];exact z,?_⟩);have hf:H1 s1.heap.objs.size=Ww:=I1.hok.fresh (Oq _);refine⟨.ref s1.heap.objs.size,upd H1 s1.heap.objs.size (.lst xs),I1.laid (t':=s1.toks) (λb u e=>O1 _ e) (Oq _) ?_,rfl,q _ hf⟩;exact⟨z,us,0,r,Oj _ rfl⟩
end
abbrev Sp:=List V->Hp->VK->XK->Prop
abbrev CXT:=List Env->Hp->Yb->XK->Yj->Yb->Prop
structure Env0(P:Yh)(w:Yg)(K:Yk)(mg:Str->Option Yj)(base:YG)(A:YH)(outer:List Env)(s:Yb)(H:Hp):Prop where
 frames:A.frames=Wv outer
 mod:Mod K mg base
 bs:∀b o,base.get? b=Wv o->s.heap.get? b=Wv o/\H b=Ww
 bsz:base.objs.size<=s.heap.objs.size
 funs:s.heap.FunFrames base outer
 frf:∀b∈frs outer,H b=Ww
 hok:HOk P w H s.heap
 bare:AllBare s.gens
def CE(outer:List Env)(P:Yh)(w:Yg)(H:Hp)(s:Yb)(Q:VK)(u:Yj)(s':Yb):Prop:=∃v H',s'.os=s.os/\AllBare s'.gens/\Un (frs outer) [] H H' s.heap s'.heap/\HOk P w H' s'.heap/\RelV v u/\Q v H'
def CR(CX:CXT)(outer:List Env)(P:Yh)(w:Yg)(H:Hp)(s:Yb)(Q:VK)(E:XK)(r:Result)(s':Yb):Prop:=
 match r with
 |.ok (.ret u)=>CE outer P w H s Q u s'
 |.ok _=>False
 |.error e=>CX outer H s E e s'
structure FnOk(P:Yh)(w:Yg)(K:Yk)(mg:Str->Option Yj)(base:YG)(CX:CXT)(k:Nat)(f:Yi)(fd:FuncData)(ps:List Str)(sp:Sp):Prop where
 len:∀vs H Q E,sp vs H Q E->vs.length=ps.length
 run:∀(A:YH) (outer:List Env) (s:Yb) (H:Hp) (args:Args) (us:List Yj) (vs:List V) (Q:VK) (E:XK),Room k A->Env0 P w K mg base A outer s H->BindsTo s fd args (ps.zip us)->Zm vs us->sp vs H Q E ->
  codeAny (model P w) A (.call (.ref f) args) (CR CX outer P w H s Q E) s
theorem FnOk.imp{P:Yh}{w:Yg}{K:Yk}{mg:Str->Option Yj}{base:YG}{CX:CXT}{k:Nat}{f:Yi}{fd:FuncData}{ps:List Str}{sp sp':Sp}(F:FnOk P w K mg base CX k f fd ps sp)
 (h:∀vs H Q E,sp' vs H Q E->sp vs H Q E):FnOk P w K mg base CX k f fd ps sp':=
 ⟨λvs H Q E q=>F.len vs H Q E (h _ _ _ _ q),λA outer s H args us vs Q E hr he hb hv hs=>F.run A outer s H args us vs Q E hr he hb hv (h _ _ _ _ hs)⟩
theorem Env0.make{P:Yh}{w:Yg}{K:Yk}{mg:Str->Option Yj}{base:YG}{A:YH}{outer:List Env}{s:Yb}{H:Hp}(e:Env0 P w K mg base A outer s H)(C:Yi)(us:List Yj)(kw:List (Str×Yj)):
 Env0 P w K mg base (A.under (.builtin "type.__call__" ⟨.ref C::us,kw⟩)) outer s H:=⟨by first|exact e.frames|(simpa[Around.under,Code.envs,Code.isFrame,pushEnvs]using e.frames),e.mod,e.bs,e.bsz,e.funs,e.frf,e.hok,e.bare⟩
section
variable {X:Cx}{pins:List (Yi×Obj)}{Z:St}{H:Hp}{s s':Yb}
theorem Inv.env0(I:Inv X pins Z H s):Env0 X.prog X.w X.K X.mg X.base X.A X.stack s H:=⟨I.ok.frames,I.ok.mod,I.bs,OE I.ok.bsz I.sz,I.stack,I.stkFree,I.hok,I.bare⟩
theorem Inv.after{Q:VK}{u:Yj}(I:Inv X pins Z H s)(h:CE X.stack X.prog X.w H s Q u s'):EP X pins Z Q u s':=by obtain⟨v,H',os,bare,un,hok,r,q⟩:=h;obtain⟨hh,g,d,t,os'⟩:=s';obtain rfl:os'=s.os:=os;exact⟨v,H',I.call (h':=hh) (g':=g) (d':=d) (t':=t) (ch:=[]) un hok bare (λb z=>absurd z (by simp)),r,q⟩
end
noncomputable def Zs5(sp:Sp)(dvs:List V)(E:XK)(t:TA):TE:=λZ H Q=>t Z H λvs H1=>sp (vs++dvs) H1 Q E
noncomputable def Zqg(C:Yi)(m:Str)(sp:Sp)(dvs:List V)(E:XK)(ta:TE)(t:TA):TE:=λZ H Q=>ta Z H λx H1=>∃a dx fs,x=.ref a/\H1 a=Wv (.ins C dx fs)/\fs.lookup m=Ww /\
 t Z H1 λvs H2=>sp (x::(vs++dvs)) H2 Q E
noncomputable def Zqh(C:Yi)(sp:Sp)(dvs:List V)(E:XK)(t:TA):TE:=λZ H Q=>t Z H λvs H1=>∀x dx,H1 x=Ww->H1 dx=Ww->dx≠x ->
 sp (.ref x::(vs++dvs)) (upd (upd H1 dx (.own x)) x (.ins C dx [])) (λv H2=>v=.non/\Q (.ref x) H2) E
def Binds(K:Yk)(fd:FuncData)(ps:List Str)(ds:List Yj):Prop:=∀(s:Yb) (us:List Yj),K.In s.heap->(us++ds).length=ps.length->BindsTo s fd ⟨us,[]⟩ (ps.zip (us++ds))
theorem Binds.all{K:Yk}{fd:FuncData}{ps:List Str}(h:∀us:List Yj,us.length=ps.length->bindArgs fd ⟨us,[]⟩=pure (ps.zip us)):Binds K fd ps []:=λs us _ hl=>by rw[Yt]at hl ⊢;exact .of_eq (h us hl)
def ZaL(CX:CXT)(X:Cx)(E:XK):Prop:=∀(pins:List (Yi×Obj)) (Z:St) (H:Hp) (s:Yb) (e:Yj) (s':Yb),Inv X pins Z H s->CX X.stack H s E e s'->X.xe e s'
section
variable {X:Cx}{CX:CXT}{k:Nat}{f C:Yi}{fd:FuncData}{ps:List Str}{sp:Sp}{dvs:List V}{ds:List Yj}{E:XK}{x m:Str}{p pos apos:Pos}{e o:Expr}{es:List Expr}{ta:TE}{t:TA}
theorem Zjl{pins:List (Yi×Obj)}{Z:St}{H:Hp}{s:Yb}{Q:VK}{us:List Yj}{vs:List V}(F:FnOk X.prog X.w X.K X.mg X.base CX k f fd ps sp)(hr:Room k X.A)(hb:Binds X.K fd ps ds)(hd:Zm dvs ds)(hx:ZaL CX X E)
 (I:Inv X pins Z H s) (r:Zm vs us) (h:sp (vs++dvs) H Q E):YB (model X.prog X.w) X.A (call (.ref f) us) (EP X pins Z Q) X.xe s:=by
 have r2:Zm (vs++dvs) (us++ds):=r.append hd;have hl:(us++ds).length=ps.length:=by rw[<- r2.length];exact F.len _ _ _ _ h
 refine wpAny_call (codeAny_mono (F.run X.A X.stack s H ⟨us,[]⟩ (us++ds) (vs++dvs) Q E hr I.env0 (hb s us I.kIn hl) r2 h) λr s' hq=>?_);cases r with
 |error e=>exact hx pins Z H s e s' I hq
 |ok fl=>
  cases fl with
  |ret u=>exact I.after hq
  |next=>exact False.elim hq
  |brk=>exact False.elim hq
  |cont=>exact False.elim hq
theorem Zpa(F:FnOk X.prog X.w X.K X.mg X.base CX k f fd ps sp)(hr:Room k X.A)(hg:Gl X x)(hm:X.mg x=Wv (.ref f))(hk:Wf X.K (.ref f)=Wx)(hb:Binds X.K fd ps ds)(hd:Zm dvs ds)(hx:ZaL CX X E)
 (ha:PA X (e::es) t) (hdb:(x==("__debug__" : Str))=Wy:=by decide) (he:YA (e::es) X.env=(Wy,eval e X.env)::YA es X.env:=by rfl) (hpl:(YS pos (YA es X.env)).any (·.1)=Wy:=by rfl) :
 PE X (.Call (.Name x p) (e::es) [] pos) (Zs5 sp dvs E t):=by
 intro pins s Z H Q I h;refine YY (Zcr I hg hm ?_ hdb);refine PySem.W.callWith_K (h₀:=X.base) I.ok.mod.kin hk (thn (ha pos pins s Z H _ I h) λus s1 ⟨vs,H1,I1,r,q⟩=>⟨I1.kIn,?_⟩) he hpl;exact Zjl F hr hb hd hx I1 r q
theorem Zo4{pl:Sem Bool}(he:PE X o ta)(c:Cls X.K C)(hm:Meth X.K C m f)(F:FnOk X.prog X.w X.K X.mg X.base CX k f fd ps sp)(hr:Room k X.A)(hb:Binds X.K fd ps ds)(hd:Zm dvs ds)(hx:ZaL CX X E)(ha:PA X (e::es) t)
 (hst:YA (e::es) X.env=(Wy,eval e X.env)::YA es X.env:=by rfl) (hpl:(YS pos (YA es X.env)).any (·.1)=Wy:=by rfl)
 (ht:eval (.Call (.Attribute o m apos) (e::es) [] pos) X.env=(do
  let ov <- eval o X.env
  standAt apos.atName
  let (f,first) <- holding [ov] (getMethod ov m pl)
  callWith pos f first (YS pos (YA (e::es) X.env)) (backToKw pos (keywordEach [] X.env))):=by rfl) :
 PE X (.Call (.Attribute o m apos) (e::es) [] pos) (Zqg C m sp dvs E ta t):=by
 intro pins s Z H Q I h;refine PySem.W.methodCall_KW (pl:=pl) (thn (he pins s Z H _ I h) λu s1 ⟨x,H1,I1,rx,a,dx,fs,ex,ea,l,q⟩=>?_) ht;subst ex;obtain rfl:u=YD a:=rx;refine ZfS I1 ea c hm l ?_;refine PySem.W.callWith_K (first:=[.ref a]) (h₀:=X.base) I.ok.mod.kin hm.kp (thn (ha pos pins s1 Z H1 _ I1 q) λus s2 ⟨vs,H2,I2,r,q2⟩=>⟨I2.kIn,?_⟩) hst hpl;exact Zjl (us:=.ref a::us) (vs:=.ref a::vs) F hr hb hd hx I2 (.cons rfl r) q2
theorem ZmT{pl:Sem Bool}(he:PE X o ta)(c:Cls X.K C)(hm:Meth X.K C m f)(F:FnOk X.prog X.w X.K X.mg X.base CX k f fd ps sp)(hr:Room k X.A)(hb:Binds X.K fd ps ds)(hd:Zm dvs ds)(hx:ZaL CX X E)
 (ht:eval (.Call (.Attribute o m apos) [] [] pos) X.env=(do
  let ov <- eval o X.env
  standAt apos.atName
  let (f,first) <- holding [ov] (getMethod ov m pl)
  callWith pos f first (YS pos (YA [] X.env)) (backToKw pos (keywordEach [] X.env))):=by rfl) :
 PE X (.Call (.Attribute o m apos) [] [] pos) (Zqg C m sp dvs E ta ZqX):=by
 intro pins s Z H Q I h;refine PySem.W.methodCall_KW (pl:=pl) (thn (he pins s Z H _ I h) λu s1 ⟨x,H1,I1,rx,a,dx,fs,ex,ea,l,q⟩=>?_) ht;subst ex;obtain rfl:u=YD a:=rx;refine ZfS I1 ea c hm l ?_;exact PySem.W.callWith_K0 (first:=[.ref a]) I1.kIn hm.kp (Zjl (us:=[.ref a]) (vs:=[.ref a]) F hr hb hd hx I1 (.cons rfl .nil) q)
structure Mk(K:Yk)(C f:Yi):Prop where
 makes:PySem.W.makesIn K C=Wx
 init:YJ K (.ref C) "__init__" = Wv (Wv (.ref f))
 fn:PySem.W.isFn K (.ref f)=Wx
 kp:Wf K (.ref C)=Wx
theorem Zh3{pins:List (Yi×Obj)}{Z:St}{H:Hp}{s:Yb}{Q:VK}{us:List Yj}{vs:List V}(M:Mk X.K C f)(F:FnOk X.prog X.w X.K X.mg X.base CX k f fd ps sp)(hr:Room (k+1) X.A)(hb:Binds X.K fd ps ds)(hd:Zm dvs ds)
 (hx:ZaL CX X E) (I:Inv X pins Z H s) (r:Zm vs us)
 (h:∀x dx,H x=Ww->H dx=Ww->dx≠x->sp (.ref x::(vs++dvs)) (upd (upd H dx (.own x)) x (.ins C dx [])) (λv H2=>v=.non/\Q (.ref x) H2) E) :
 YB (model X.prog X.w) X.A (call (.ref C) us) (EP X pins Z Q) X.xe s:=by
 have hq:=h (s.heap.objs.size+1) s.heap.objs.size (I.hok.fresh (Wj _)) (I.hok.fresh (Oq _)) (Ou (OH _));have I2:=Inv.made (C:=C) I;have r2:Zm (V.ref (s.heap.objs.size+1)::(vs++dvs)) (YD (s.heap.objs.size+1)::(us++ds)):=.cons rfl (r.append hd);have hl:(YD (s.heap.objs.size+1)::us++ds).length=ps.length:=by have e:=r2.length;rw[F.len _ _ _ _ hq]at e;exact e.symm
 refine wpAny_call (Zng (f:=f) I.kIn M.makes M.init (beq_iff_eq.mp M.fn) (codeAny_mono (F.run _ X.stack _ _ ⟨YD (s.heap.objs.size+1)::us,[]⟩ (YD (s.heap.objs.size+1)::(us++ds)) _ _ E (hr.make C us [])
  (I2.env0.make C us []) (hb _ (YD (s.heap.objs.size+1)::us) I2.kIn hl) r2 hq) λr s' hq'=>?_))
 cases r with
 |error e=>exact hx pins Z _ _ e s' I2 hq'
 |ok fl=>
  cases fl with
  |ret u=>obtain⟨v,H',I3,rv,ev,q3⟩:=I2.after hq';subst ev;exact⟨rv,⟨V.ref (s.heap.objs.size+1),H',I3,rfl,q3⟩⟩
  |next=>exact False.elim hq'
  |brk=>exact False.elim hq'
  |cont=>exact False.elim hq'
theorem Zo6(M:Mk X.K C f)(F:FnOk X.prog X.w X.K X.mg X.base CX k f fd ps sp)(hr:Room (k+1) X.A)(hg:Gl X x)(hm:X.mg x=Wv (.ref C))(hb:Binds X.K fd ps ds)(hd:Zm dvs ds)(hx:ZaL CX X E)
 (ha:PA X (e::es) t) (hdb:(x==("__debug__" : Str))=Wy:=by decide) (he:YA (e::es) X.env=(Wy,eval e X.env)::YA es X.env:=by rfl) (hpl:(YS pos (YA es X.env)).any (·.1)=Wy:=by rfl) :
 PE X (.Call (.Name x p) (e::es) [] pos) (Zqh C sp dvs E t):=by
 intro pins s Z H Q I h;refine YY (Zcr I hg hm ?_ hdb);refine PySem.W.callWith_K (h₀:=X.base) I.ok.mod.kin M.kp (thn (ha pos pins s Z H _ I h) λus s1 ⟨vs,H1,I1,r,q⟩=>⟨I1.kIn,?_⟩) he hpl;exact Zh3 M F hr hb hd hx I1 r q
theorem ZmU(M:Mk X.K C f)(F:FnOk X.prog X.w X.K X.mg X.base CX k f fd ps sp)(hr:Room (k+1) X.A)(hg:Gl X x)(hm:X.mg x=Wv (.ref C))(hb:Binds X.K fd ps ds)(hd:Zm dvs ds)(hx:ZaL CX X E)
 (hdb:(x==("__debug__" : Str))=Wy:=by decide):PE X (.Call (.Name x p) [] [] pos) (Zqh C sp dvs E ZqX):=by
 intro pins s Z H Q I h;refine YY (Zcr I hg hm ?_ hdb);exact PySem.W.callWith_K0 I.kIn M.kp (Zh3 (us:=[]) M F hr hb hd hx I .nil h)
end
structure FnScope(N P:List Str)(sc:Scope):Prop where
 kind:sc.kind=.function
 co:sc.isCoroutine=Wy
 gen:sc.isGenerator=Wy
 nd:N.Nodup
 pre:N.take P.length=P
 par:∀x∈P,sc.names.lookup x=Wv .local\/sc.names.lookup x=Wv .cell
 nofree:∀y∈sc.names,y.2≠.free
theorem ZgG{kindOf:Str->Option NameKind}{x:Str}:∀{binds:List (Str×Yj)}{m:Str->Option Yj},(∀v,(x,v) ∉ binds)->bindL kindOf binds m x=m x
 |[],_,_=>rfl
 |(n,v)::r,m,h=>by
  unfold bindL;rw[ZgG λw hw=>h w (Oh _ hw)];split
  . have:x≠n:=by rintro rfl;exact h v Oi
    simp[this]
  . rfl
theorem ZgI{kindOf:Str->Option NameKind}{x:Str}:∀{binds:List (Str×Yj)}{m:Str->Option Yj},(∀v,(x,v) ∉ binds)->bindC kindOf binds m x=m x
 |[],_,_=>rfl
 |(n,v)::r,m,h=>by
  unfold bindC;rw[ZgI λw hw=>h w (Oh _ hw)];split
  . rfl
  . have:x≠n:=by rintro rfl;exact h v Oi
    simp[this]
theorem ZgH{kindOf:Str->Option NameKind}{x:Str}{v:Yj}:∀{P:List Str}{vs:List Yj}{i:Nat}{m:Str->Option Yj},P.Nodup->P[i]? = Wv x->vs[i]? = Wv v->kindOf x=Wv .local ->
 bindL kindOf (P.zip vs) m x=Wv v
 |[],_,_,_,_,h,_,_=>by simp at h
 |_::_,[],_,_,_,_,h,_=>by simp at h
 |p::P,w::vs,0,m,nd,h1,h2,hk=>by simp at h1 h2;subst h1;subst h2;show bindL kindOf ((p,w)::P.zip vs) m p=_;unfold bindL;rw[ZgG λv hv=>(List.nodup_cons.mp nd).1 (List.of_mem_zip hv).1,if_pos hk];simp
 |p::P,w::vs,i+1,m,nd,h1,h2,hk=>by show bindL kindOf ((p,w)::P.zip vs) m x=_;unfold bindL;exact ZgH (i:=i) (List.nodup_cons.mp nd).2 (by simpa using h1) (by simpa using h2) hk
theorem ZgJ{kindOf:Str->Option NameKind}{x:Str}{v:Yj}:∀{P:List Str}{vs:List Yj}{i:Nat}{m:Str->Option Yj},P.Nodup->P[i]? = Wv x->vs[i]? = Wv v->kindOf x≠Wv .local ->
 bindC kindOf (P.zip vs) m x=Wv v
 |[],_,_,_,_,h,_,_=>by simp at h
 |_::_,[],_,_,_,_,h,_=>by simp at h
 |p::P,w::vs,0,m,nd,h1,h2,hk=>by simp at h1 h2;subst h1;subst h2;show bindC kindOf ((p,w)::P.zip vs) m p=_;unfold bindC;rw[ZgI λv hv=>(List.nodup_cons.mp nd).1 (List.of_mem_zip hv).1,if_neg hk];simp
 |p::P,w::vs,i+1,m,nd,h1,h2,hk=>by show bindC kindOf ((p,w)::P.zip vs) m x=_;unfold bindC;exact ZgJ (i:=i) (List.nodup_cons.mp nd).2 (by simpa using h1) (by simpa using h2) hk
noncomputable def start(N:List Str)(vs:List V):St:=vs.map Wv++YK (N.length - vs.length) Ww
noncomputable def Zer(CX:CXT)(P:Yh)(w:Yg)(K:Yk)(mg:Str->Option Yj)(base:YG)(N:List Str)(qual:Str)(scope:Scope)(f:Yi)(cd:Yj)(A:YH)(outer:List Env)(s:Yb)(H:Hp)(E:XK):Cx where
 prog:=P
 w:=w
 K:=K
 mg:=mg
 base:=base
 A:=A.deeper (envOfC qual scope s.heap.objs.size f cd)
 N:=N
 s₀:=s
 H₀:=H
 env:=envOfC qual scope s.heap.objs.size f cd
 outer:=outer
 stack:=envOfC qual scope s.heap.objs.size f cd::outer
 ex:=[]
 calm:=Wx
 fn:=λ_=>Wx
 pn:=[]
 xe:=λe s'=>YB (model P w) (A.deeper (envOfC qual scope s.heap.objs.size f cd)) (leaving (envOfC qual scope s.heap.objs.size f cd) e) (λ_ s''=>CX outer H s E e s'') (λe' s''=>CX outer H s E e' s'') s'
theorem ZiW{sc:Scope}{n:Nat}{x:Str}(h:sc.names.lookup x=Wv .cell):∃c,(cellsFrom n sc.names []).lookup x=Wv c:=by have q:=PySem.W.cellsFrom_some sc.names n [] (.inl h);exact Option.isSome_iff_exists.mp q
theorem ZlQ{CX:CXT}{P:Yh}{w:Yg}{K:Yk}{mg:Str->Option Yj}{base:YG}{N ps:List Str}{qual:Str}{scope:Scope}{f:Yi}{cd:Yj}{A:YH}{outer:List Env}{s s1:Yb}{H:Hp}{E:XK}{us:List Yj}{vs:List V}
 (S_:FnScope N ps scope) (hd:A.handled=Ww) (e0:Env0 P w K mg base A outer s H) (hl:vs.length=ps.length) (r:Zm vs us)
 (x:InCallC s s.heap.objs.size (bindL (envOfC qual scope s.heap.objs.size f cd).kindOf (ps.zip us) λ_=>Ww) (cellsFrom (s.heap.objs.size+1) scope.names []) (bindC (envOfC qual scope s.heap.objs.size f cd).kindOf (ps.zip us) λ_=>Ww) s1) :
 Inv (Zer CX P w K mg base N qual scope f cd A outer s H E) [] (start N vs) H s1:=by
 have hpl:ps.length<=N.length:=by have:=congrArg List.length S_.pre;rw[List.length_take]at this;omega
 obtain⟨h1,tk,rfl,hk⟩:=x.done;have noA:∀b:Yi,b ∉ (Zer CX P w K mg base N qual scope f cd A outer s H E).ex:=λb z=>absurd (show b∈([]:List Yi)from z) (by simp);refine⟨⟨e0.mod,S_.kind,rfl,rfl,Oq _,λy z c h1 h2=>?_,λy hy=>?_,λy c _ h=>?_,λ_=>hd,Around.frames_deeper e0.frames,.inr ⟨rfl,rfl⟩,λb z=>absurd z (noA b),e0.bs,e0.bsz,λb _ _=>noA b,λb z=>absurd z (noA b),e0.funs,e0.frf⟩,
  rfl,e0.bare,Un.kept hk,⟨_,x.toInCall.ns,λi y v h1 h2 h3=>?_⟩,λy c h=>⟨_,x.cell y c h⟩,e0.hok.fresh (Oq _),λy c h=>?_,λp hp=>absurd (show p∈([]:List (Yi×Obj))from hp) (by simp),e0.hok.kept hk,?_⟩
 . exact name_of_addr x.apart (YI h1) (YI h2)
 . have hy:scope.names.lookup y=Wv .cell\/scope.names.lookup y=Wv .free:=hy;rcases hy with hy|hy
   . exact ZiW hy
   . exact absurd rfl (S_.nofree _ (YI hy))
 . exact Nat.le_of_lt (x.above y c (YI h))
 . have hi:i<vs.length:=by
    unfold start at h2;by_cases hi:i<vs.length
    . exact hi
    . rw[Om (by simpa using hi)]at h2;rw[List.getElem?_replicate]at h2;split at h2<;>cases h2
   have ha:vs[i]? = Wv v:=by
    unfold start at h2;rw[Oe (by simpa using hi),On]at h2;cases e:vs[i]? with
    |none=>rw[e]at h2;cases h2
    |some a=>rw[e]at h2;cases h2;rfl
   obtain⟨u,hu,rv⟩:=r.get ha;have hp:ps[i]? = Wv y:=by rw[<- S_.pre,List.getElem?_take_of_lt (by omega)];exact h1
   have ndP:ps.Nodup:=by rw[<- S_.pre];exact S_.nd.sublist (List.take_sublist _ _)
   refine⟨u,rv,?_⟩;rcases S_.par y (O2 hp)with k|k
   . exact .inl ⟨k,ZgH ndP hp hu k⟩
   . obtain⟨c,e⟩:=ZiW (n:=s.heap.objs.size+1) k;refine .inr ⟨.inl k,c,e,?_⟩;have q:=x.cell y c e;rw[ZgJ ndP hp hu (by show scope.names.lookup y≠_;rw[k];decide)]at q;exact q
 . exact e0.hok.fresh (Nat.le_of_lt (x.above y c (YI h)))
 . unfold start;show _=N.length;rw[OA,Yu,List.length_replicate];omega
theorem Zue{CX:CXT}{P:Yh}{w:Yg}{K:Yk}{mg:Str->Option Yj}{base:YG}{k:Nat}{f:Yi}{name qual:Str}{params:Arguments}{body:List Stmt}{scope:Scope}{dV kV doc pm cdv ct oc:Yj}{an od:Option Yi}
 {osl:Array (Option Yj)}{N ps:List Str}{sp:Sp} (lk:K.lookup f=Wv ⟨oc,od,.func (PySem.W.fnOf name qual params body scope dV kV doc pm an cdv ct),osl⟩) (hcd:PySem.W.codeIn K cdv qual=Wx) (S_:FnScope N ps scope)
 (len:∀vs H Q E,sp vs H Q E->vs.length=ps.length)
 (hbody:∀(A:YH) (outer:List Env) (s:Yb) (H:Hp) (vs:List V) (Q:VK) (E:XK),Room k (A.deeper (envOfC qual scope s.heap.objs.size f cdv))->sp vs H Q E ->
  ∃t,PSs (Zer CX P w K mg base N qual scope f cdv A outer s H E) body t/\t {nx:=λ_ H'=>Q .non H',rt:=Q} (start N vs) H) :
 FnOk P w K mg base CX (k+1) f (PySem.W.fnOf name qual params body scope dV kV doc pm an cdv ct) ps sp:=by
 refine⟨len,λA outer s H args us vs Q E hr e0 hb r hsp=>?_⟩;have hl:=len _ _ _ _ hsp;have KX:K.In s.heap:=e0.mod.kin.keeps λb o e=>(e0.bs b o e).1;have lim:s.heap.NoLimit:=e0.mod.nolimit.keeps λb o e=>(e0.bs b o e).1;have hkind:∀y∈ps.zip us,scope.names.lookup y.1=Wv .local\/(scope.names.lookup y.1=Wv .cell/\((cellsFrom (s.heap.objs.size+1) scope.names []).lookup y.1).isSome=Wx):=λ⟨n,v⟩ hy=>by
  rcases S_.par n (List.of_mem_zip hy).1 with q|q
  . exact .inl q
  . exact .inr ⟨q,PySem.W.cellsFrom_some _ _ _ (.inl q)⟩
 refine codeAny_call_function hr.depth (KX _ _ lk) rfl S_.co S_.gen rfl (PySem.W.codeRec_of KX hcd) (hb _ _ _ _ ?_);refine wpAny_newFunctionEnv_cells S_.kind hkind λenv he s1 x=>?_;subst he;refine⟨lim.keeps x.toInCall.keep,codeAny_func ?_⟩;obtain⟨t,ht,hq⟩:=hbody A outer s H vs Q E (hr.deeper _) hsp;have I:Inv (Zer CX P w K mg base N qual scope f cdv A outer s H E) [] (start N vs) H s1:=ZlQ S_ hr.hd e0 hl r x;refine Yf (ht [] s1 (start N vs) H _ I hq) (λfl s' hs=>?_) λe s' hs=>hs;have fin:∀{σ':St}{H':Hp}{v:V}{u:Yj},Inv (Zer CX P w K mg base N qual scope f cdv A outer s H E) [] σ' H' s'->RelV v u->Q v H'->CE outer P w H s Q u s':=λ{σ' H' v u} J rv q=>⟨v,H',J.os,J.bare,J.base,J.hok,rv,q⟩
 cases fl with
 |ret u=>obtain⟨v,σ',H',J,rv,q⟩:=hs;exact fin J rv q
 |next=>obtain⟨σ',H',J,q⟩:=hs;exact fin (v:=V.non) (u:=Value.none) J rfl q
 |brk=>obtain⟨_,_,_,q⟩:=hs;exact False.elim q
 |cont=>obtain⟨_,_,_,q⟩:=hs;exact False.elim q
section
variable {X:Cx}{x:Str}{p pos:Pos}{e:Expr}{es:List Expr}{t:TA}{id T:String}{r:List V->Hp->VK->Prop}
noncomputable def tCB(r:List V->Hp->VK->Prop)(t:TA):TE:=λZ H Q=>t Z H λvs H1=>r vs H1 Q
theorem ZdW(hc:Zcl X (.builtin id) r)(hg:Gl X x)(hm:X.mg x=Ww)(hv:bootBuiltins x=Wv (.builtin id))(ha:PA X (e::es) t)(hn:x ≠ "__name__" := by decide)(hdb:(x==("__debug__" : Str))=Wy:=by decide)
 (he:YA (e::es) X.env=(Wy,eval e X.env)::YA es X.env:=by rfl) (hpl:(YS pos (YA es X.env)).any (·.1)=Wy:=by rfl):PE X (.Call (.Name x p) (e::es) [] pos) (tCB r t):=by
 intro pins s Z H Q I h;refine YY (ZdC I hg hm hv ?_ hn hdb);exact PyProof.Rows.callWith_builtin1 (thn (ha pos pins s Z H _ I h) λus s1 ⟨vs,H1,I1,r1,q1⟩=>hc pins s1 Z H1 vs us Q I1 r1 q1) he hpl
theorem Zlt(hc:Zcl X (.type T) r)(hg:Gl X x)(hm:X.mg x=Ww)(hv:bootBuiltins x=Wv (.type T))(ha:PA X (e::es) t)(hn:x ≠ "__name__" := by decide)(hdb:(x==("__debug__" : Str))=Wy:=by decide)
 (he:YA (e::es) X.env=(Wy,eval e X.env)::YA es X.env:=by rfl) (hpl:(YS pos (YA es X.env)).any (·.1)=Wy:=by rfl):PE X (.Call (.Name x p) (e::es) [] pos) (tCB r t):=by
 intro pins s Z H Q I h;refine YY (ZdC I hg hm hv ?_ hn hdb);exact PyProof.Rows.callWith_type1 (thn (ha pos pins s Z H _ I h) λus s1 ⟨vs,H1,I1,r1,q1⟩=>hc pins s1 Z H1 vs us Q I1 r1 q1) he hpl
end
end L2
namespace HT
open PySem PyProof.Rows
section
variable {prog:Yh}{w:Yg}{A:YH}{E:Yj->Yb->Prop}{s:Yb}
theorem Zp2{t b:Yi}{vs ws:List Yj}{Q:Yj->Yb->Prop}(ht:IsTup s.heap t vs.toArray)(hb:IsTup s.heap b ws.toArray)(hv:vs≠[])
 (h1:ws=[]->Q (.ref t) s) (h2:ws≠[]->Q (.ref s.heap.objs.size) {s with heap:=s.heap.push {cls:=.type "tuple",data:=.seq (vs++ws).toArray}})
 (hsz:vs.length+ws.length<=sizeLine):YB (model prog w) A (binaryOp .Add (.ref t) (.ref b)) Q E s:=by
 obtain⟨⟨cls,dd,data,sl⟩,ho,hc,n,hd⟩:=id ht;obtain⟨⟨cls2,dd2,data2,sl2⟩,ho2,hc2,n2,hd2⟩:=id hb;simp only at hc hd hc2 hd2;subst hc hd hc2 hd2;have e:vs.toArray++ws.toArray=(vs++ws).toArray:=by simp
 by_cases hw:ws=[]
 . exact concat_meets ⟨_,ho,rfl⟩ ⟨_,ho2,rfl⟩ noFill_tuple_add seq_tuple_add PySem.F.slot_tuple_add PySem.F.entry_tuple_add (PySem.F.args_tuple_add_2 _ _)
    (tuple_addW1 t b vs.toArray ws.toArray n n2 dd dd2 sl sl2 (by simpa using hv) (by simp[hw])) ⟨ho,ho2,h1 hw⟩
 . refine concat_meets ⟨_,ho,rfl⟩ ⟨_,ho2,rfl⟩ noFill_tuple_add seq_tuple_add PySem.F.slot_tuple_add PySem.F.entry_tuple_add (PySem.F.args_tuple_add_2 _ _)
    (tuple_addW2 t b vs.toArray ws.toArray n n2 dd dd2 sl sl2 (by simpa using hv) (by simpa using hw) (by rw[Of,Of];exact hsz)) ⟨ho,ho2,?_⟩
   rw[e];exact h2 hw
noncomputable def sIx(n d:Nat):Option Int->Nat
 |none=>d
 |some v=>if v<0 then(v+(n:Int)).toNat else min v.toNat n
theorem Zq6(n d:Nat)(hd:d<=n)(o:Option Int):sIx n d o<=n:=by
 cases o with
 |none=>exact hd
 |some v=>
  show(if v<0 then(v+(n:Int)).toNat else min v.toNat n)<=n;by_cases hv:v<0
  . rw[if_pos hv];omega
  . rw[if_neg hv];exact Nat.min_le_right _ _
theorem ZkX(v:Int)(n d:Nat):(if v<0 then max (v+(n:Int)) 0 else min v (n:Int))=((sIx n d (Wv v):Nat):Int):=by
 show(if v<0 then max (v+(n:Int)) 0 else min v (n:Int))=(((if v<0 then(v+(n:Int)).toNat else min v.toNat n):Nat):Int)
 by_cases hv:v<0
 . simp only[if_pos hv];omega
 . simp only[if_neg hv];omega
theorem Zkg(lo hi:Option Int)(n:Nat):Builtin.Slice.sliceAdjust lo hi 1 (n:Int)=(((sIx n 0 lo:Nat):Int),((sIx n n hi:Nat):Int)):=by
 have h1:¬ ((1:Int)<0):=by omega
 unfold Builtin.Slice.sliceAdjust;simp only[h1,if_false];refine Prod.ext ?_ ?_
 . cases lo with
   |none=>rfl
   |some v=>exact ZkX v n 0
 . cases hi with
   |none=>rfl
   |some v=>exact ZkX v n n
theorem Zjt(i j:Nat):Builtin.Slice.slicePlaces (i:Int) (j:Int) 1=j - i:=by
 unfold Builtin.Slice.slicePlaces;have h1:(1:Int) > 0:=by omega
 simp only[h1,if_true,Int.ediv_one];split<;>omega
theorem Zfk{v:Yj}{o:Option Int}{Q:Option Int->Yb->Prop}(p:IsPart v o)(h:Q o s):YB (model prog w) A (Builtin.Slice.slicePartIndex v) Q E s:=by
 cases p with
 |none=>exact slicePart_none h
 |int i t=>exact slicePart_int h
theorem Zb4{sl:Yi}{vl vu:Yj}{lo hi:Option Int}{n:Nat}{Q:Int×Int×Nat->Yb->Prop}(hs:s.heap.IsSliceOf sl vl vu .none)(pl:IsPart vl lo)(pu:IsPart vu hi)
 (h:Q (((sIx n 0 lo:Nat):Int),1,sIx n n hi - sIx n 0 lo) s):YB (model prog w) A (Builtin.Slice.sliceApplied (.ref sl) (pure (n:Int))) Q E s:=by
 obtain⟨os,hos,hcs,hds⟩:=id hs;unfold Builtin.Slice.sliceApplied Builtin.Slice.sliceFields;refine Ya (Ya (YR hos hds (x:=vl) rfl (Ya (YR hos hds (x:=vu) rfl (Ya (YR hos hds (x:=.none) rfl (Yc ?_)))))));refine Ya (slicePart_none ?_);show YB _ _ (if ((1:Int)==0)=Wx then _ else _) _ _ s;rw[if_neg (by decide)];refine Ya (Zfk pl (Ya (Zfk pu (Ya (Yc ?_)))));show YB _ _ (match Builtin.Slice.sliceAdjust lo hi 1 (n:Int)with|(lo,hi)=>pure (lo,(1:Int),Builtin.Slice.slicePlaces lo hi 1)) _ _ s;rw[Zkg lo hi n];show YB _ _ (pure (((sIx n 0 lo:Nat):Int),(1:Int),Builtin.Slice.slicePlaces ((sIx n 0 lo:Nat):Int) ((sIx n n hi:Nat):Int) 1)) _ _ s;rw[Zjt];exact Yc h
theorem ZmO(xs:Array Yj)(i k:Nat):((List.range k).filterMap λ(m:Nat)=>xs[((i:Int)+(m:Int) * 1).toNat]?).toArray=((xs.toList.drop i).take k).toArray:=by
 have e:(λ(m:Nat)=>xs[((i:Int)+(m:Int) * 1).toNat]?)=λm=>xs[i+m]? := by
  funext m;have:((i:Int)+(m:Int) * 1).toNat=i+m:=by omega
  rw[this]
 rw[e];have:=pick_run xs i k;rw[List.filterMap_map]at this;have e2:((λx=>xs[x]?) ∘ λx=>i+x)=λm=>xs[i+m]? := rfl;rw[e2]at this;rw[this]
theorem Zd3{t sl:Yi}{items:Array Yj}{vl vu:Yj}{lo hi:Option Int}{Q:Yj->Yb->Prop}(ht:IsTup s.heap t items)(hs:s.heap.IsSliceOf sl vl vu .none)(pl:IsPart vl lo)(pu:IsPart vu hi)
 (hw:¬ (sIx items.size 0 lo=0/\sIx items.size items.size hi=items.size))
 (h:Q (.ref s.heap.objs.size) {s with heap:=s.heap.push {cls:=.type "tuple",data:=.seq ((items.toList.drop (sIx items.size 0 lo)).take (sIx items.size items.size hi - sIx items.size 0 lo)).toArray}})
 (hsz:items.size<=sizeLine):YB (model prog w) A (getItem (.ref t) (.ref sl)) Q E s:=by
 have htake:sizeOk (.seq ((items.toList.drop (sIx items.size 0 lo)).take (sIx items.size items.size hi - sIx items.size 0 lo)).toArray):=by show((items.toList.drop (sIx items.size 0 lo)).take (sIx items.size items.size hi - sIx items.size 0 lo)).toArray.size<=sizeLine;rw[Of,List.length_take,List.length_drop,Array.length_toList];omega
 have hj:sIx items.size items.size hi<=items.size:=Zq6 _ _ (Oq _) hi;obtain⟨os,hos,hcs,hds⟩:=id hs;have hTs:s.TypeIs (.ref sl) "slice" := ⟨os,hos,hcs⟩
 unfold getItem
 try with_reducible refine Wg ?_
 first|refine Ya (Yc ?_)|skip
 refine Ya (wpAny_sequenceKey ht.typeIs (by decide) ?_);refine Ya (Wc (name:=O "__getitem__") ht.typeIs Wo
  (Wh Wo ht.typeIs entry_tuple_getitem ?_ (args_tuple_getitem _ _)))
 show YB _ _ (Builtin.Tuple.tupleItemsOf (.ref t) >>= _) _ _ s;refine Ya (tupleItemsOf_ ht ?_);refine Ya (wpAny_typeOf hTs ?_);rw[if_pos (by decide)];refine Ya (Zb4 hs pl pu ?_);have hno:¬ ((((sIx items.size 0 lo:Nat):Int)==0&&(1:Int)==1&&(sIx items.size items.size hi - sIx items.size 0 lo)==items.size)=Wx):=by intro q;rw[Oa,Oa]at q;have q1:((sIx items.size 0 lo:Nat):Int)=0:=eq_of_beq q.1.1;have q2:sIx items.size items.size hi - sIx items.size 0 lo=items.size:=eq_of_beq q.2;exact hw ⟨by omega,by omega⟩
 show YB _ _ (if (((sIx items.size 0 lo:Nat):Int)==0&&(1:Int)==1&&(sIx items.size items.size hi - sIx items.size 0 lo)==items.size)=Wx then _ else _) _ _ s;rw[if_neg hno,ZmO]
 first
  |exact Ya (m:=Builtin.Tuple.tupleExact _) (Yr (Yc ⟨_,rfl,Yc h⟩) htake)
  |exact Ya (m:=Builtin.Tuple.tupleExact _) (Yr (Ya (Yc (Yc ⟨_,rfl,Yc h⟩))) htake)
  |exact Ya (Ya (m:=Builtin.Tuple.tupleExact _) (Yr (Yc (Yc ⟨_,rfl,Yc h⟩)) htake))
  |exact Ya (Ya (m:=Builtin.Tuple.tupleExact _) (Yr (Yc ⟨_,rfl,Yc h⟩) htake))
end
end HT
namespace L2
open PySem PySem.Spec PyProof.Rows
abbrev TO:=St->Hp->(Option Int->Hp->Prop)->Prop
def PO(X:Cx)(e:Option Expr)(t:TO):Prop:=
 ∀(pins:List (Yi×Obj)) (s:Yb) (Z:St) (H:Hp) (Q:Option Int->Hp->Prop),Inv X pins Z H s->t Z H Q ->
  YB (model X.prog X.w) X.A (evalPart e X.env) (λu s'=>∃o H',Inv X pins Z H' s'/\IsPart u o/\Q o H') X.xe s
noncomputable def Zov:TO:=λ_ H Q=>Q Ww H
noncomputable def ZsY(t:TE):TO:=λZ H Q=>t Z H λx H1=>∃i,x=.int i/\Q (Wv i) H1
section
variable {X:Cx}{e:Expr}{te:TE}{lo hi:Option Expr}{tl th:TO}{pos p2:Pos}
theorem ZoZ:PO X Ww Zov:=by intro pins s Z H Q I h;rw[evalPart_none];exact Yc ⟨Ww,H,I,.none,h⟩
theorem ZoY(h:PE X e te):PO X (Wv e) (ZsY te):=by intro pins s Z H Q I hw;rw[evalPart_some];refine thn (h pins s Z H _ I hw) λu s1 ⟨x,H1,I1,r1,q1⟩=>?_;obtain⟨i,rfl,q⟩:=q1;obtain⟨t,rfl⟩:=r1;exact⟨Wv i,H1,I1,.int i t,q⟩
def SlR(X:Cx)(r:V->Option Int->Option Int->Hp->VK->Prop):Prop:=
 ∀(pins:List (Yi×Obj)) (s:Yb) (Z:St) (H:Hp) (x:V) (v vl vu:Yj) (lo hi:Option Int) (sl:Yi) (Q:VK),Inv X pins Z H s->RelV x v->s.heap.IsSliceOf sl vl vu .none->IsPart vl lo->IsPart vu hi->r x lo hi H Q ->
  ∃T id,typeLookup (.type T) "__getitem__" = pure (Wv (.builtin id))/\s.TypeIs v T/\YB (model X.prog X.w) X.A (getItem v (.ref sl)) (EP X pins Z Q) X.xe s
noncomputable def tSl(r:V->Option Int->Option Int->Hp->VK->Prop)(te:TE)(tl th:TO):TE:=λZ H Q=>te Z H λx H1=>tl Z H1 λl H2=>th Z H2 λu H3=>r x l u H3 Q
theorem ZmQ{r:V->Option Int->Option Int->Hp->VK->Prop}(hr:SlR X r)(he:PE X e te)(hl:PO X lo tl)(hu:PO X hi th):PE X (.Subscript e (.Slice lo hi Ww p2) pos) (tSl r te tl th):=by intro pins s Z H Q I h;refine Subscript_ (thn (he pins s Z H _ I h) λv s1 ⟨x,H1,I1,r1,q1⟩=>?_);refine wpAny_Slice (thn (hl pins s1 Z H1 _ I1 q1) λvl s2 ⟨l,H2,I2,pl,q2⟩=>thn (hu pins s2 Z H2 _ I2 q2) λvu s3 ⟨u,H3,I3,pu,q3⟩=>?_);rw[evalPart_none];refine Yc ?_;have I4:Inv X pins Z H3 {s3 with heap:=s3.heap.push {cls:=.type "slice",data:=.fields #[vl,vu,.none]}}:=I3.kept (t':=s3.toks) λb ob q=>O1 _ q;obtain⟨T,id,hT,ht,hg⟩:=hr pins {s3 with heap:=s3.heap.push {cls:=.type "slice",data:=.fields #[vl,vu,.none]}} Z H3 x v vl vu l u s3.heap.objs.size Q I4 r1 (Heap.IsSliceOf.new ..) pl pu q3;show YB (model X.prog X.w) X.A (subscriptTail e (.Slice lo hi Ww p2) v (.ref s3.heap.objs.size)) (EP X pins Z Q) X.xe {s3 with heap:=s3.heap.push {cls:=.type "slice",data:=.fields #[vl,vu,.none]}};exact tail_any (ops:=[.ref s3.heap.objs.size,v]) ht hT hg (by with_unfolding_all rfl)
noncomputable def ZiP(xs:List V)(lo hi:Option Int):List V:=(xs.drop (HT.sIx xs.length 0 lo)).take (HT.sIx xs.length xs.length hi - HT.sIx xs.length 0 lo)
theorem ZeM(xs:List V)(lo hi:Option Int):(ZiP xs lo hi).length<=xs.length:=by unfold ZiP;rw[List.length_take,List.length_drop];omega
def Zvb(K:Yk):V->Option Int->Option Int->Hp->VK->Prop:=λx lo hi H Q=>∃a xs,x=.ref a/\SqT K H a xs /\
 ¬ (HT.sIx xs.length 0 lo=0/\HT.sIx xs.length xs.length hi=xs.length)/\∀p,H p=Ww->Q (.ref p) (upd H p (.tup (ZiP xs lo hi)))
theorem Zq1:SlR X (Zvb X.K):=by
 intro pins s Z H x v vl vu lo hi sl Q I rx hs pl pu h;obtain⟨a,xs,rfl,hx,hw,q⟩:=h;cases rx;obtain⟨its,r,ht,hz⟩:=I.tuple hx;have hlen:its.toArray.size=xs.length:=by rw[Of];exact r.length.symm
 refine⟨"tuple",_,PyProof.Rows.slot_tuple_getitem.lookup,ht.typeIs,?_⟩;refine HT.Zd3 ht hs pl pu (by rw[hlen];exact hw) ?_ (by rw[hlen];exact hz);rw[hlen];refine⟨.ref s.heap.objs.size,_,I.laid (t':=s.toks) (o:=.tup (ZiP xs lo hi)) (λb ob q=>O1 _ q) (Oq _) ?_,rfl,q _ (I.hok.fresh (Oq _))⟩;exact⟨OE (ZeM xs lo hi) hz,_,(r.drop (HT.sIx xs.length 0 lo)).take (HT.sIx xs.length xs.length hi - HT.sIx xs.length 0 lo),ZbE.fresh _ _⟩
noncomputable def Ztn(K:Yk):R2:=λx y H Q=>∃a b xs ys,x=.ref a/\y=.ref b/\SqT K H a xs/\SqT K H b ys/\xs≠[]/\xs.length+ys.length<=sizeLine /\
 (ys=[]->Q (.ref a) H)/\(ys≠[]->∀p,H p=Ww->Q (.ref p) (upd H p (.tup (xs++ys))))
theorem Zm.nil_iff{xs:List V}{us:List Yj}(r:Zm xs us):us=[]↔xs=[]:=by
 cases r with
 |nil=>simp
 |cons _ _=>simp
theorem Zpg:OpR X (binaryOp .Add) (Ztn X.K):=by intro pins s Z H x y v u Q I rx ry h;obtain⟨a,b,xs,ys,rfl,rfl,ha,hb,hx,hz,q1,q2⟩:=h;cases rx;cases ry;obtain⟨its,r1,p1,_⟩:=I.tuple ha;obtain⟨its2,r2,p2,_⟩:=I.tuple hb;refine HT.Zp2 p1 p2 (λz=>hx (r1.nil_iff.mp z)) (λz=>⟨.ref a,H,I,rfl,q1 (r2.nil_iff.mp z)⟩) (λz=>?_) (by rw[<- r1.length,<- r2.length];exact hz);refine⟨.ref s.heap.objs.size,_,I.laid (t':=s.toks) (o:=.tup (xs++ys)) (λb ob q=>O1 _ q) (Oq _) ?_,rfl,q2 (λw=>z (r2.nil_iff.mpr w)) _ (I.hok.fresh (Oq _))⟩;exact⟨by rw[OA];exact hz,_,r1.append r2,ZbE.fresh _ _⟩
end
noncomputable def ixN(n:Nat)(i:Int):Option Nat:=if 0<=i then(if i<n then Wv i.toNat else Ww)else if -(n:Int)<=i then Wv (i+n).toNat else Ww
noncomputable def atI{α:Type}(xs:List α)(i:Int):Option α:=(ixN xs.length i).bind λj=>xs[j]?
theorem ZkQ{n:Nat}{i:Int}{j:Nat}(h:ixN n i=Wv j):seqIndex? i n=Wv j/\j<n/\-(n:Int)<=i/\i<n:=by
 unfold ixN at h;by_cases h0:0<=i
 . rw[if_pos h0]at h;by_cases h1:i<n
   . rw[if_pos h1]at h;have e:i.toNat=j:=YF h;exact⟨by rw[seqIndex_of h0 h1,e],by omega,by omega,h1⟩
   . rw[if_neg h1]at h;cases h
 . rw[if_neg h0]at h;by_cases h1:-(n:Int)<=i
   . rw[if_pos h1]at h;have e:(i+n).toNat=j:=YF h;exact⟨by rw[seqIndex_neg (by omega) h1,e],by omega,h1,by omega⟩
   . rw[if_neg h1]at h;cases h
theorem ZhO{α:Type}{xs:List α}{i:Int}{v:α}(h:atI xs i=Wv v):∃j,seqIndex? i xs.length=Wv j/\xs[j]? = Wv v/\j<xs.length/\-(xs.length:Int)<=i/\i<xs.length:=by
 unfold atI at h;cases e:ixN xs.length i with
 |none=>rw[e]at h;cases h
 |some j=>rw[e]at h;obtain⟨h1,h2,h3,h4⟩:=ZkQ e;exact⟨j,h1,h,h2,h3,h4⟩
def Zk3(b:Expr):Prop:=∀o i,subscripted b Wy o i=operate [o,i] (getItem o i)
def IxR(X:Cx)(r:R2):Prop:=
 ∀(value slice:Expr) (pins:List (Yi×Obj)) (s:Yb) (Z:St) (H:Hp) (x y:V) (v u:Yj) (Q:VK),Inv X pins Z H s->RelV x v->RelV y u->r x y H Q ->
  subscripted slice Wy v u=operate [v,u] (getItem v u)->YB (model X.prog X.w) X.A (subscriptTail value slice v u) (EP X pins Z Q) X.xe s
def MtR(X:Cx)(id:String)(r:V->List V->Hp->VK->Prop):Prop:=
 ∀(pins:List (Yi×Obj)) (s:Yb) (Z:St) (H:Hp) (x:V) (xs:List V) (v:Yj) (us:List Yj) (Q:VK),Inv X pins Z H s->RelV x v->Zm xs us->r x xs H Q ->
  YB (model X.prog X.w) X.A (call (.builtin id) (v::us)) (EP X pins Z Q) X.xe s
section
variable {X:Cx}{a b:Expr}{ta tb:TE}{pos:Pos}
theorem Ztw{r:R2}(hr:IxR X r)(ha:PE X a ta)(hb:PE X b tb)(hs:Zk3 b):PE X (.Subscript a b pos) (tOp r ta tb):=by intro pins s Z H Q I h;exact Subscript_ (Zsq ha hb I h λv u s2 x y H2 I2 rx ry q=>hr a b pins s2 Z H2 x y v u Q I2 rx ry q (hs _ _))
noncomputable def Zvh(K:Yk):R2:=λx y H Q=>∃p xs i v,x=.ref p/\y=.int i/\SqL K H p xs/\atI xs i=Wv v/\Q v H
noncomputable def Zvf(K:Yk):R2:=λx y H Q=>∃p xs i v,x=.ref p/\y=.int i/\SqT K H p xs/\atI xs i=Wv v/\Q v H
noncomputable def Zvg:R2:=λx y H Q=>∃z i c,x=.str z/\y=.int i/\z.length<=sizeLine/\atI z.cps.toList i=Wv c/\Q (.str ⟨#[c]⟩) H
theorem ZpI:IxR X (Zvh X.K):=by
 intro value slice pins s Z H x y v u Q I rx ry h hs;obtain⟨p,xs,i,z,rfl,rfl,hq,he,q⟩:=h;cases rx;obtain⟨t,rfl⟩:=ry;obtain⟨its,r,pl,hz⟩:=I.list hq;obtain⟨j,h1,h2,h3,h4,h5⟩:=ZhO he;obtain⟨w,ew,rw'⟩:=r.get h2;have hl:=r.length;have hn:=Zcq;have fin:EP X pins Z Q w s:=⟨z,H,I,rw',q⟩
 by_cases h0:0<=i
 . have hj:i.toNat=j:=by rw[seqIndex_of h0 h5]at h1;exact YF h1
   exact item_listR pl.isList h0 (by omega) (by rw[hj];simpa using ew) fin hs
 . have hj:(i+(its.toArray.size:Int)).toNat=j:=by rw[seqIndex_neg (by omega) h4]at h1;rw[Of,<- hl];exact YF h1
   exact subscriptTail_builtinR (x:=w) pl.isList.typeIs slot_list_getitem.lookup
    (wpAny_getItem_list_neg (Q:=λr s'=>r=w/\EP X pins Z Q r s') pl.isList (by omega) (by rw[Of]<;>omega) (by omega) (by rw[hj];simpa using ew) ⟨rfl,fin⟩) hs
theorem Zr4:IxR X (Zvf X.K):=by
 intro value slice pins s Z H x y v u Q I rx ry h hs;obtain⟨p,xs,i,z,rfl,rfl,hq,he,q⟩:=h;cases rx;obtain⟨t,rfl⟩:=ry;obtain⟨its,r,pl,hz⟩:=I.tuple hq;obtain⟨j,h1,h2,h3,h4,h5⟩:=ZhO he;obtain⟨w,ew,rw'⟩:=r.get h2;have hl:=r.length;have hn:=Zcq;have fin:EP X pins Z Q w s:=⟨z,H,I,rw',q⟩
 exact subscriptTail_builtinR (x:=w) pl.typeIs slot_tuple_getitem.lookup
  (getItem_tuple (j:=j) (Q:=λr s'=>r=w/\EP X pins Z Q r s') pl (by omega) (by omega) (by rw[Of,<- hl];exact h1) (by simpa using ew) ⟨rfl,fin⟩) hs
theorem Zr5:IxR X Zvg:=by
 intro value slice pins s Z H x y v u Q I rx ry h hs;obtain ⟨z,i,c,rfl,rfl,hz,he,q⟩:=h;obtain ⟨t,rfl⟩:=rx;obtain ⟨t',rfl⟩:=ry;obtain ⟨j,h1,h2,h3,h4,h5⟩:=ZhO he;have hl:z.cps.toList.length=z.length:=by simp [Str.length]
 rw [hl] at h1 h4 h5;have hn:=Zcq;exact tail_any (typeIs_str s z t) slot_str_getitem.lookup (getItem_str (c:=c) (by
   have e1:Wz (i < -(2 ^ 63:Int))=Wy:=decide_eq_false (by omega);have e2:Wz (i ≥ 2 ^ 63)=Wy:=decide_eq_false (by omega);rw [e1,e2,Bool.or_false]) (by rw [h1];simpa using h2) ⟨.str ⟨#[c]⟩,H,I.tok _,⟨_,rfl⟩,q⟩) hs
theorem ZjA(its:List Yj)(n j:Nat)(u:Yj):Obj.mapSeq (·.setIfInBounds j u) {cls:=.type "list",data:=.seq its.toArray n}={cls:=.type "list",data:=.seq (its.set j u).toArray n}:=by simp[Obj.mapSeq]
theorem Inv.lst{pins:List (Yi×Obj)}{Z:St}{H:Hp}{s:Yb}{p:Yi}{xs:List V}(I:Inv X pins Z H s)(h:H p=Wv (.lst xs)):
 ∃(its:List Yj) (n:Nat),Zm xs its/\s.heap.get? p=Wv {cls:=.type "list",data:=.seq its.toArray n}/\xs.length<=sizeLine:=by
 obtain⟨z,its,n,r,e⟩:=I.hok p _ h;exact⟨its,n,r,e,z⟩
theorem Inv.lstUpd{pins:List (Yi×Obj)}{Z:St}{H:Hp}{s:Yb}{p:Yi}{xs ys:List V}{its its':List Yj}{n n':Nat}{f:Obj->Obj}(I:Inv X pins Z H s)(h:H p=Wv (.lst xs))
 (ho:s.heap.get? p=Wv {cls:=.type "list",data:=.seq its.toArray n}) (hf:f {cls:=.type "list",data:=.seq its.toArray n}={cls:=.type "list",data:=.seq its'.toArray n'}) (r:Zm ys its') (hz:ys.length<=sizeLine) (t:Nat) :
 Inv X pins Z (upd H p (.lst ys)) {s with heap:=s.heap.update p f,toks:=t}:=by
 have e:(s.heap.update p f).get? p=Wv {cls:=.type "list",data:=.seq its'.toArray n'}:=by rw[YX f ho (by rw[hf]<;>rfl),hf]
 refine I.write (x:=p) (e:=p) (by rw[h];trivial) (.inl rfl) (λb u hb q=>(YN _ _ (YL hb)).trans q) ⟨_,e⟩ ?_;exact⟨hz,its',n',r,e⟩
def Ztl:V->V->V->Hp->(Hp->Prop)->Prop:=λo i v H Q=>∃p xs k j,o=.ref p/\i=.int k/\H p=Wv (.lst xs)/\ixN xs.length k=Wv j/\Q (upd H p (.lst (xs.set j v)))
theorem set_list:Zqa X Ztl:=by
 intro pins s Z H o i v ov iv u Q I ro ri rv h;obtain⟨p,xs,k,j,rfl,rfl,hp,hj,q⟩:=h;cases ro;obtain⟨t,rfl⟩:=ri;obtain⟨its,n,r,ho,hz⟩:=I.lst hp;obtain⟨h1,h2,h3,h4⟩:=ZkQ hj;have hl:=r.length;have hn:=Zcq;have I':Inv X pins Z (upd H p (.lst (xs.set j v))) {s with heap:=s.heap.update p (Obj.mapSeq (·.setIfInBounds j u))}:=I.lstUpd hp ho (ZjA its n j u) (r.set rv j) (by rw[List.length_set];exact hz) s.toks
 by_cases h0:0<=k
 . have hk:k.toNat=j:=by rw[seqIndex_of h0 h4]at h1;exact YF h1
   exact PySem.W.ki_setAt ho h0 (by omega) (by rw[Of,<- hl];exact h4) (by rw[hk];exact⟨_,I',q⟩)
 . have hk:(k+(its.toArray.size:Int)).toNat=j:=by rw[seqIndex_neg (by omega) h3]at h1;rw[Of,<- hl];exact YF h1
   exact PySem.W.ki_setBack ho (by omega) (by rw[Of,<- hl];exact h3) (by omega) (by rw[hk];exact⟨_,I',q⟩)
theorem ZgW(lo hi:Option Int)(n:Nat):(sliceBounds lo hi Ww n).1=((HT.sIx n 0 lo:Nat):Int)/\(sliceBounds lo hi Ww n).2.1=((HT.sIx n n hi:Nat):Int)/\(sliceBounds lo hi Ww n).2.2=1:=by
 refine⟨?_,?_,rfl⟩
 . cases lo with
   |none=>simp[sliceBounds,HT.sIx]
   |some i=>
    simp only[sliceBounds,HT.sIx,Option.getD_none,show(1:Int) > 0 by decide,if_true];by_cases h:i<0
    . simp only[h,if_true]<;>omega
    . simp only[h,if_false]<;>omega
 . cases hi with
   |none=>simp[sliceBounds,HT.sIx]
   |some i=>
    simp only[sliceBounds,HT.sIx,Option.getD_none,show(1:Int) > 0 by decide,if_true];by_cases h:i<0
    . simp only[h,if_true]<;>omega
    . simp only[h,if_false]<;>omega
theorem Zf5(its:List Yj)(lo hi:Option Int):slicePick its.toArray lo hi Ww=((its.drop (HT.sIx its.length 0 lo)).take (HT.sIx its.length its.length hi - HT.sIx its.length 0 lo)).toArray:=by obtain⟨h1,h2,h3⟩:=ZgW lo hi its.toArray.size;unfold slicePick;rw[h1,h2,h3];simp only[sliceRange_one,pick_run,Of]<;>rfl
def Zvd(K:Yk):V->Option Int->Option Int->Hp->VK->Prop:=λx lo hi H Q=>∃a xs,x=.ref a/\SqL K H a xs/\∀p,H p=Ww->Q (.ref p) (upd H p (.lst (ZiP xs lo hi)))
theorem Zoz:SlR X (Zvd X.K):=by intro pins s Z H x v vl vu lo hi sl Q I rx hs pl pu h;obtain⟨a,xs,rfl,hx,q⟩:=h;cases rx;obtain⟨its,r,ht,hz⟩:=I.list hx;have hlen:=r.length;refine⟨"list",_,slot_list_getitem.lookup,ht.isList.typeIs,?_⟩;refine wpAny_getItem_list_slice ht.isList hs pl pu .none (by simp) ?_ (by rw[Of]<;>omega);rw[Zf5,<- hlen];refine⟨.ref s.heap.objs.size,_,I.laid (t':=s.toks) (o:=.lst (ZiP xs lo hi)) (λb ob q=>O1 _ q) (Oq _) ?_,rfl,q _ (I.hok.fresh (Oq _))⟩;exact⟨OE (ZeM xs lo hi) hz,_,0,(r.drop (HT.sIx xs.length 0 lo)).take (HT.sIx xs.length xs.length hi - HT.sIx xs.length 0 lo),Oj _ rfl⟩
noncomputable def Zdu:V->Bool
 |.non=>Wx
 |.bl _=>Wx
 |.int _=>Wx
 |.str _=>Wx
 |_=>Wy
noncomputable def eqV:V->V->Bool
 |.non,.non=>Wx
 |.bl a,.bl b=>a==b
 |.bl a,.int b=>(if a then 1 else 0)==b
 |.int a,.bl b=>a==(if b then 1 else 0)
 |.int a,.int b=>a==b
 |.str a,.str b=>a==b
 |_,_=>Wy
theorem Zsk{A:YH}{s:Yb}{y x:V}{u v:Yj}(ry:RelV y u)(rx:RelV x v)(fy:Zdu y=Wx)(fx:Zdu x=Wx):SeqAt.EqAt A s u v (eqV y x):=by
 cases y with
 |non=>
  cases ry;cases x with
  |non=>cases rx;exact SeqAt.EqAt.same _
  |bl b=>cases rx;exact SeqAt.EqAt.none_bool b
  |int b=>obtain⟨t,rfl⟩:=rx;exact SeqAt.EqAt.none_int b t
  |str b=>obtain⟨t,rfl⟩:=rx;exact SeqAt.EqAt.none_str b t
  |_=>exact absurd (show Wy=Wx from fx) Ow
 |bl a=>
  cases ry;cases x with
  |non=>cases rx;exact SeqAt.EqAt.bool_none a
  |bl b=>cases rx;exact SeqAt.EqAt.bool_bool a b
  |int b=>obtain⟨t,rfl⟩:=rx;exact SeqAt.EqAt.bool_int a b t
  |str b=>obtain⟨t,rfl⟩:=rx;exact SeqAt.EqAt.bool_str a b t
  |_=>exact absurd (show Wy=Wx from fx) Ow
 |int a=>
  obtain⟨t',rfl⟩:=ry;cases x with
  |non=>cases rx;exact SeqAt.EqAt.int_none a t'
  |bl b=>cases rx;exact SeqAt.EqAt.int_bool a t' b
  |int b=>obtain⟨t,rfl⟩:=rx;exact SeqAt.EqAt.int_int a t' b t
  |str b=>obtain⟨t,rfl⟩:=rx;exact SeqAt.EqAt.int_str a t' b t
  |_=>exact absurd (show Wy=Wx from fx) Ow
 |str a=>
  obtain⟨t',rfl⟩:=ry;cases x with
  |non=>cases rx;exact SeqAt.EqAt.str_none a t'
  |bl b=>cases rx;exact SeqAt.EqAt.str_bool a t' b
  |int b=>obtain⟨t,rfl⟩:=rx;exact SeqAt.EqAt.str_int a t' b t
  |str b=>obtain⟨t,rfl⟩:=rx;exact SeqAt.EqAt.str_str a t' b t
  |_=>exact absurd (show Wy=Wx from fx) Ow
 |_=>exact absurd (show Wy=Wx from fy) Ow
noncomputable def eqU(x:V)(u:Yj):Bool:=match u with
 |.none=>eqV .non x
 |.bool b=>eqV (.bl b) x
 |.int i _=>eqV (.int i) x
 |.str z _=>eqV (.str z) x
 |_=>Wy
theorem ZnM{x y:V}{u:Yj}(r:RelV y u)(f:Zdu y=Wx):eqU x u=eqV y x:=by
 cases y with
 |non=>cases r;rfl
 |bl b=>cases r;rfl
 |int i=>obtain⟨t,rfl⟩:=r;rfl
 |str z=>obtain⟨t,rfl⟩:=r;rfl
 |_=>exact absurd (show Wy=Wx from f) Ow
theorem Zeb{x:V}:∀{xs:List V}{us:List Yj},Zm xs us->xs.all Zdu=Wx->us.any (eqU x)=xs.any λy=>eqV y x
 |_,_,.nil,_=>rfl
 |y::xs,u::us,.cons r t,f=>by rw[List.all_cons,Oa]at f;rw[We,We,ZnM r f.1,Zeb t f.2]
theorem ZcP{A:YH}{s:Yb}{x:V}{v:Yj}(rx:RelV x v)(fx:Zdu x=Wx):∀{xs:List V}{us:List Yj},Zm xs us->xs.all Zdu=Wx->∀u∈us,SeqAt.EqAt A s u v (eqU x u)
 |_,_,.nil,_=>λu hu=>by cases hu
 |y::xs,u::us,.cons r t,f=>λu' hu=>by
  rw[List.all_cons,Oa]at f;rcases O3.mp hu with rfl|hu
  . rw[ZnM r f.1];exact Zsk r rx f.1 fx
  . exact ZcP rx fx t f.2 u' hu
noncomputable def inV(x:V)(xs:List V):Bool:=xs.any λy=>eqV y x
noncomputable def rIn(K:Yk)(neg:Bool):R2:=λx y H Q=>∃p xs,y=.ref p/\(SqL K H p xs\/SqT K H p xs)/\Zdu x=Wx/\xs.all Zdu=Wx/\Q (.bl (if neg then !inV x xs else inV x xs)) H
theorem Zly:OpR X (YM .In) (rIn X.K Wy):=by
 intro pins s Z H x y v u Q I rx ry h;obtain⟨p,xs,rfl,hq,fx,fs,q⟩:=h;cases ry;rcases hq with hq|hq
 . obtain⟨its,r,pl,hz⟩:=I.list hq;refine SeqAt.in_listAt (eqU x) pl.isList (λw hw=>ZcP rx fx r fs w (by simpa using hw)) ⟨.bl _,H,I,rfl,?_⟩;rw[show its.toArray.any (eqU x)=its.any (eqU x) by simp,Zeb r fs];exact q
 . obtain⟨its,r,pl,hz⟩:=I.tuple hq;refine SeqAt.in_tupleAt (eqU x) pl (λw hw=>ZcP rx fx r fs w (by simpa using hw)) ⟨.bl _,H,I,rfl,?_⟩;rw[show its.toArray.any (eqU x)=its.any (eqU x) by simp,Zeb r fs];exact q
theorem Zg8:OpR X (YM .NotIn) (rIn X.K Wx):=by
 intro pins s Z H x y v u Q I rx ry h;obtain⟨p,xs,rfl,hq,fx,fs,q⟩:=h;cases ry;rcases hq with hq|hq
 . obtain⟨its,r,pl,hz⟩:=I.list hq;refine SeqAt.notIn_listAt (eqU x) pl.isList (λw hw=>ZcP rx fx r fs w (by simpa using hw)) ⟨.bl _,H,I,rfl,?_⟩;rw[show its.toArray.any (eqU x)=its.any (eqU x) by simp,Zeb r fs];exact q
 . obtain⟨its,r,pl,hz⟩:=I.tuple hq;refine SeqAt.notIn_tupleAt (eqU x) pl (λw hw=>ZcP rx fx r fs w (by simpa using hw)) ⟨.bl _,H,I,rfl,?_⟩;rw[show its.toArray.any (eqU x)=its.any (eqU x) by simp,Zeb r fs];exact q
theorem ZhC:Zcl X (.builtin "len") (λxs H Q=>∃p ys,xs=[.ref p]/\(SqL X.K H p ys\/SqT X.K H p ys)/\Q (.int ys.length) H):=by
 intro pins s Z H xs us Q I r h;obtain⟨p,ys,rfl,hq,q⟩:=h;obtain⟨u,rfl,rx⟩:=vals1 r;cases rx;have hn:=Zcq;rcases hq with hq|hq
 . obtain⟨its,r',pl,hz⟩:=I.list hq;have hlen:=r'.length;exact Calls.call_len_list pl.isList (by simp only[Of]<;>omega) ⟨.int ys.length,H,I.tok _,⟨s.toks+1,by rw[Of,hlen]⟩,q⟩
 . obtain⟨its,r',pl,hz⟩:=I.tuple hq;have hlen:=r'.length;exact len_tuple pl (by simp only[Of]<;>omega) ⟨.int ys.length,H,I.tok _,⟨s.toks+1,by rw[Of,hlen]⟩,q⟩
theorem ZhB:Zcl X (.builtin "len") (λxs H Q=>∃z,xs=[.str z]/\z.length<=sizeLine/\Q (.int z.length) H):=by intro pins s Z H xs us Q I r h;obtain⟨z,rfl,hz,q⟩:=h;obtain⟨u,rfl,t,rfl⟩:=vals1 r;have hn:=Zcq;exact len_str (by omega) ⟨.int z.length,H,I.tok _,⟨_,rfl⟩,q⟩
theorem Zdw:Zcl X (.type "tuple") (λxs H Q=>∃p ys,xs=[.ref p]/\((SqL X.K H p ys/\∀l,H l=Ww->Q (.ref l) (upd H l (.tup ys)))\/(SqT X.K H p ys/\Q (.ref p) H))):=by
 intro pins s Z H xs us Q I r h;obtain⟨p,ys,rfl,h⟩:=h;obtain⟨u,rfl,rx⟩:=vals1 r;cases rx;rcases h with ⟨hq,q⟩|⟨hq,q⟩
 . obtain⟨its,r',pl,hz⟩:=I.list hq;have hlen:=r'.length;refine call_tuple_list pl.isList (λh' kp=>?_) (by simp only[Of]<;>omega);have I1:Inv X pins Z H {s with heap:=h'}:=I.kept (t':=s.toks) kp;have I2:Inv X pins Z (upd H h'.objs.size (.tup ys)) {s with heap:=h'.push {cls:=.type "tuple",data:=.seq its.toArray}}:=I1.laid (t':=s.toks) (λb o e=>O1 _ e) (Oq _) (show Zai X.prog X.w _ _ _ (.tup ys)from⟨hz,its,r',ZbE.fresh _ _⟩)
   exact⟨.ref h'.objs.size,_,I2,rfl,q _ (I1.hok.fresh (Oq _))⟩
 . obtain⟨its,r',pl,hz⟩:=I.tuple hq;exact call_tuple_same pl ⟨.ref p,H,I,rfl,q⟩
def tyV(K:Yk)(T:String)(x:V)(H:Hp):Prop:=match x with
 |.str _=>T = "str"
 |.int _=>T = "int"
 |.ref p=>(T = "list" /\ ∃xs,SqL K H p xs)\/(T = "tuple" /\ ∃o,K.lookup p=Wv o/\o.cls=.type "tuple" /\ o.dict=Ww) \/
  (T = "dict" /\ ((∃kvs,H p=Wv (.dK kvs))\/∃kvs,H p=Wv (.dT kvs)))\/(T = "set" /\ ∃S_ n,H p=Wv (.set S_ n))
 |_=>False
theorem Zmc{pins:List (Yi×Obj)}{Z:St}{H:Hp}{s:Yb}{T:String}{x:V}{v:Yj}(I:Inv X pins Z H s)(r:RelV x v)(ty:tyV X.K T x H):
 s.TypeIs v T/\∀a,v=.ref a->∃ob,s.heap.get? a=Wv ob/\ob.dict=Ww:=by
 cases x with
 |str z=>obtain⟨t,rfl⟩:=r;cases (show T = "str" from ty);exact⟨typeIs_str s z t,λ_ e=>nomatch e⟩
 |int i=>obtain⟨t,rfl⟩:=r;cases (show T = "int" from ty);exact⟨typeIs_int s i t,λ_ e=>nomatch e⟩
 |ref p=>
  cases r;rcases ty with ⟨rfl,xs,hq⟩|⟨rfl,o,hk,hc,hd⟩|⟨rfl,hk⟩|⟨rfl,S_,n,hk⟩
  . obtain⟨its,_,pl,_⟩:=I.list hq;refine⟨pl.isList.typeIs,λa e=>?_⟩;cases e;obtain⟨o,n,e,c,hd,_⟩:=pl;exact⟨o,e,hd⟩
  . refine⟨⟨o,I.kIn p o hk,hc⟩,λa e=>?_⟩;cases e;exact⟨o,I.kIn _ o hk,hd⟩
  . have z:∃o,s.heap.get? p=Wv o/\o.ExactDict:=by
     rcases hk with ⟨kvs,hk⟩|⟨kvs,hk⟩
     . obtain⟨_,_,_,_,o,_,_,e,ex,_⟩:=I.hok p _ hk;exact⟨o,e,ex⟩
     . obtain⟨_,_,_,_,o,_,_,e,ex,_⟩:=I.hok p _ hk;exact⟨o,e,ex⟩
    obtain⟨o,e,ex⟩:=z;refine⟨⟨o,e,ex.1⟩,λa e2=>?_⟩;cases e2;exact⟨o,e,ex.2.1⟩
  . obtain⟨o,_,_,_,e,ex,_⟩:=I.hok p _ hk;refine⟨⟨o,e,ex.1⟩,λa e2=>?_⟩;cases e2;exact⟨o,e,ex.2.1⟩
 |_=>exact False.elim ty
noncomputable def Zu1(K:Yk)(T:String)(r:V->List V->Hp->VK->Prop)(to:TE):TE:=λZ H Q=>to Z H λx H1=>tyV K T x H1/\r x [] H1 Q
noncomputable def tBM(K:Yk)(T:String)(r:V->List V->Hp->VK->Prop)(to:TE)(t:TA):TE:=λZ H Q=>to Z H λx H1=>tyV K T x H1/\t Z H1 λxs H2=>r x xs H2 Q
variable {o e:Expr}{es:List Expr}{to:TE}{t:TA}{name:Str}{apos cpos:Pos}{T id:String}{r:V->List V->Hp->VK->Prop}
theorem ZrC(pa:PlainAttrs T)(slot:Slot T name id)(hty:typeOf (.builtin id)=pure (.type "method_descriptor"))(hm:MtR X id r)(ho:PE X o to)
 (hbase:attributeBase o name X.env (eval o X.env)=eval o X.env:=by rfl) (hline:(apos.endLine==cpos.line)=Wx:=by rfl):PE X (.Call (.Attribute o name apos) [] [] cpos) (Zu1 X.K T r to):=by
 intro pins s Z H Q I h;refine wpAny_Call_method0_late hbase hline (thn (ho pins s Z H _ I h) λv s1 ⟨x,H1,I1,r1,ty,q1⟩=>?_);obtain⟨h1,h2⟩:=Zmc I1 r1 ty;exact⟨T,id,pa,slot,hty,h1,h2,Calls.callWith_builtin rfl (PySem.evalArgs_none (hm pins s1 Z H1 x [] v [] Q I1 r1 .nil q1))⟩
theorem Ztx(pa:PlainAttrs T)(slot:Slot T name id)(hty:typeOf (.builtin id)=pure (.type "method_descriptor"))(hm:MtR X id r)(ho:PE X o to)(ha:PA X (e::es) t)
 (hbase:attributeBase o name X.env (eval o X.env)=eval o X.env:=by rfl)
 (hfew:((YS cpos (YA (e::es) X.env)).all (λx=>!x.1)&&(backToKw cpos (keywordEach [] X.env)).all (λx=>x.1.isSome)
  && Wz ((e::es).length+([]:List Keyword).length+(if ([]:List Keyword).isEmpty then 0 else 1)<30))=Wx:=by rfl)
 (hline:(apos.endLine==cpos.line)=Wx:=by rfl) (hs:YA (e::es) X.env=(Wy,eval e X.env)::YA es X.env:=by rfl) (hplain:(YS cpos (YA es X.env)).any (·.1)=Wy:=by rfl) :
 PE X (.Call (.Attribute o name apos) (e::es) [] cpos) (tBM X.K T r to t):=by
 intro pins s Z H Q I h;refine wpAny_Call_method_late hbase hfew hline rfl (thn (ho pins s Z H _ I h) λv s1 ⟨x,H1,I1,r1,ty,q1⟩=>?_);obtain⟨h1,h2⟩:=Zmc I1 r1 ty;refine⟨T,id,pa,slot,hty,h1,h2,?_⟩;have hA:=ha cpos pins s1 Z H1 _ I1 q1;rw[hs]at hA ⊢;refine Calls.callWith_builtin (by show(Wy || (YS cpos (YA es X.env)).any (·.1))=Wy;rw[hplain]<;>rfl) (Calls.evalArgs_plain ?_);exact thn hA λus s2 ⟨vs,H2,I2,r2,q2⟩=>hm pins s2 Z H2 x vs v us Q I2 r1 r2 q2
end
def MtM(X:Cx)(id:String)(r:V->List V->Hp->VK->Prop):Prop:=
 ∀(pins:List (Yi×Obj)) (s:Yb) (Z:St) (H:Hp) (x:V) (xs:List V) (v:Yj) (us:List Yj) (Q:VK),Inv X pins Z H s->RelV x v->Zm xs us->r x xs H Q ->
  YB (model X.prog X.w) X.A (call (.builtin id) (v::us)) (EP X pins Z Q) X.xe s
theorem Zm.one:∀{x:V}{us:List Yj},Zm [x] us->∃u,us=[u]/\RelV x u
 |_,_,.cons r .nil=>⟨_,rfl,r⟩
theorem Zm.zero:∀{us:List Yj},Zm [] us->us=[]
 |_,.nil=>rfl
theorem Zm.dropLast{xs:List V}{us:List Yj}(h:Zm xs us):Zm xs.dropLast us.dropLast:=by
 induction h with
 |nil=>exact .nil
 |cons r t ih=>
  cases t with
  |nil=>exact .nil
  |cons q t'=>exact .cons r ih
theorem Zm.reverse{xs:List V}{us:List Yj}(h:Zm xs us):Zm xs.reverse us.reverse:=by
 induction h with
 |nil=>exact .nil
 |cons r t ih=>rw[List.reverse_cons,List.reverse_cons];exact Zm.append ih (.cons r .nil)
theorem Zj8{α:Type}(l:List α):l.eraseIdx (l.length - 1)=l.dropLast:=by
 induction l with
 |nil=>rfl
 |cons a r ih=>
  cases r with
  |nil=>rfl
  |cons b r=>
   have e:(a::b::r).length - 1=((b::r).length - 1)+1:=by have h1:(a::b::r).length=r.length+2:=rfl;have h2:(b::r).length=r.length+1:=rfl;omega
   rw[e,List.eraseIdx_cons_succ,ih]
   all_goals rfl
section
variable {X:Cx}{pins:List (Yi×Obj)}{Z:St}{H:Hp}{s:Yb}{l b:Yi}{xs ys zs:List V}
theorem Inv.lset{its its':List Yj}{n:Nat}{f:Array Yj->Array Yj}{t':Nat}(I:Inv X pins Z H s)(hH:H l=Wv (.lst xs))
 (e:s.heap.get? l=Wv {cls:=.type "list",data:=.seq its.toArray n}) (hf:f its.toArray=its'.toArray) (hv:Zm ys its') (hz:ys.length<=sizeLine) :
 Inv X pins Z (upd H l (.lst ys)) {s with heap:=s.heap.update l (Obj.mapSeq f),toks:=t'}:=by
 have q:=PySem.IsL.update e f;rw[hf]at q;refine I.write (x:=l) (e:=l) (by rw[hH];exact trivial) (.inl rfl) (λb' u hb hu=>(YN s.heap (Obj.mapSeq f) (YL hb)).trans hu) ⟨_,q⟩ ?_;exact⟨hz,its',_,hv,q⟩
theorem Inv.lnew{its:List Yj}{t':Nat}(I:Inv X pins Z H s)(hv:Zm ys its)(hz:ys.length<=sizeLine):
 Inv X pins Z (upd H s.heap.objs.size (.lst ys)) {s with heap:=s.heap.push {cls:=.type "list",data:=.seq its.toArray},toks:=t'}:=
 I.laid (λ_ _ q=>O1 _ q) (Oq _) ⟨hz,its,0,hv,Oj _ rfl⟩
theorem Inv.fresh(I:Inv X pins Z H s):H s.heap.objs.size=Ww:=I.hok.fresh (Oq _)
theorem Inv.lstM(I:Inv X pins Z H s)(hH:H l=Wv (.lst xs)):xs.length<=sizeLine/\∃(its:List Yj) (n:Nat),Zm xs its/\xs.length=its.length/\s.heap.get? l=Wv {cls:=.type "list",data:=.seq its.toArray n}:=by obtain⟨z,its,n,r,e⟩:=I.hok l _ hH;exact⟨z,its,n,r,r.length,e⟩
theorem Zih{n:Nat}(h:n<=sizeLine):Wq n=Wy:=by unfold Wq;exact decide_eq_false (by omega)
end
section
variable {X:Cx}
def ZoQ:V->List V->Hp->VK->Prop:=λx vs H Q=>∃l xs y,x=.ref l/\vs=[y]/\H l=Wv (.lst xs)/\xs.length<sizeLine/\Q .non (upd H l (.lst (xs++[y])))
theorem Zgz:MtM X "list.append" ZoQ:=by intro pins s Z H x vs v us Q I rx rv h;obtain⟨l,xs,y,rfl,rfl,hH,hz,q⟩:=h;cases rx;obtain⟨u,rfl,ru⟩:=rv.one;obtain⟨z,its,n,r,hl,e⟩:=I.lstM hH;refine call_meets F.slot_list_append ⟨_,e,rfl⟩ F.entry_list_append (F.args_list_append_2 _ _) (PySem.list_append l its.toArray n u (by rw[Of];omega)) ⟨e,?_⟩;refine⟨.non,_,I.lset (its':=its++[u]) hH e (by simp) (r.append (.cons ru .nil)) ?_,rfl,q⟩;rw[OA,List.length_singleton];omega
def ZoP:V->List V->Hp->VK->Prop:=λx vs H Q=>∃l b xs zs,x=.ref l/\vs=[.ref b]/\H l=Wv (.lst xs)/\H b=Wv (.lst zs)/\xs.length+zs.length<=sizeLine/\Q .non (upd H l (.lst (xs++zs)))
theorem ZlE:MtM X "list.extend" ZoP:=by
 intro pins s Z H x vs v us Q I rx rv h;obtain⟨l,b,xs,zs,rfl,rfl,hH,hB,hz,q⟩:=h;cases rx;obtain⟨u,rfl,ru⟩:=rv.one;cases ru;obtain⟨z,its,n,r,hl,e⟩:=I.lstM hH;obtain⟨z2,its2,n2,r2,hl2,e2⟩:=I.lstM hB;have hsz:its.toArray.size+its2.toArray.size<=sizeLine:=by rw[Of,Of];omega
 have hlong:¬ (!its.toArray.isEmpty&&Wq (its.toArray.size+its2.toArray.size))=Wx:=by rw[Zih hsz,Bool.and_false];exact Ow
 refine call_meets F.slot_list_extend ⟨_,e,rfl⟩ F.entry_list_extend (F.args_list_extend_2 _ _)
  (AutoSeq1.list_extend_list_list_0 l its.toArray n b its2.toArray n2 hlong (by rw[Of];omega) (by omega)) ⟨e,e2,?_⟩
 refine⟨.non,_,I.lset (its':=its++its2) hH e (by simp) (r.append r2) ?_,rfl,q⟩;rw[OA];omega
def Zve:V->List V->Hp->VK->Prop:=λx vs H Q=>∃l xs y,x=.ref l/\vs=[]/\H l=Wv (.lst xs)/\xs[xs.length - 1]? = Wv y/\Q y (upd H l (.lst xs.dropLast))
theorem ZrP:MtM X "list.pop" Zve:=by
 intro pins s Z H x vs v us Q I rx rv h;obtain⟨l,xs,y,rfl,rfl,hH,hy,q⟩:=h;cases rx;have hus:=rv.zero;subst hus;obtain⟨z,its,n,r,hl,e⟩:=I.lstM hH;obtain⟨u,hu,ru⟩:=r.get hy;have hy':its.toArray[its.toArray.size - 1]? = Wv u:=by show its.toArray[its.length - 1]? = Wv u;rw[<- Array.getElem?_toList,<- hl];exact hu
 refine call_meets F.slot_list_pop ⟨_,e,rfl⟩ F.entry_list_pop (F.args_list_pop_1 _) (MeetsSeq.list_pop_last l its.toArray n u hy' (by rw[Of];omega)) ⟨e,?_⟩;refine⟨y,_,I.lset (its':=its.dropLast) hH e ?_ r.dropLast ?_,ru,q⟩
 . show its.toArray.eraseIdxIfInBounds (its.toArray.size - 1)=its.dropLast.toArray;rw[Of,List.eraseIdxIfInBounds_toArray,Zj8]
 . rw[List.length_dropLast];omega
def ZmD:V->List V->Hp->VK->Prop:=λx vs H Q=>∃l xs,x=.ref l/\vs=[]/\H l=Wv (.lst xs)/\Q .non (upd H l (.lst xs.reverse))
theorem Zjy:MtM X "list.reverse" ZmD:=by intro pins s Z H x vs v us Q I rx rv h;obtain⟨l,xs,rfl,rfl,hH,q⟩:=h;cases rx;have hus:=rv.zero;subst hus;obtain⟨z,its,n,r,hl,e⟩:=I.lstM hH;refine call_meets F.slot_list_reverse ⟨_,e,rfl⟩ F.entry_list_reverse (F.args_list_reverse_1 _) (AutoSeq1.list_reverse_list_0 l its.toArray n (by rw[Of];omega)) ⟨e,?_⟩;refine⟨.non,_,I.lset (its':=its.reverse) hH e (by simp) r.reverse ?_,rfl,q⟩;rw[List.length_reverse];omega
def Zrg:V->List V->Hp->VK->Prop:=λx vs H Q=>∃l xs,x=.ref l/\vs=[]/\H l=Wv (.lst xs)/\Q .non (upd H l (.lst []))
theorem Zne:MtM X "list.clear" Zrg:=by intro pins s Z H x vs v us Q I rx rv h;obtain⟨l,xs,rfl,rfl,hH,q⟩:=h;cases rx;have hus:=rv.zero;subst hus;obtain⟨z,its,n,r,hl,e⟩:=I.lstM hH;refine call_meets F.slot_list_clear ⟨_,e,rfl⟩ F.entry_list_clear (F.args_list_clear_1 _) (AutoSeq1.list_clear_list_0 l its.toArray n (by rw[Of];omega)) ⟨e,?_⟩;exact⟨.non,_,I.lset (its':=[]) (ys:=[]) hH e rfl .nil (Yy _),rfl,q⟩
noncomputable def Zvj:R2:=λx y H Q=>∃l b xs zs,x=.ref l/\y=.ref b/\H l=Wv (.lst xs)/\H b=Wv (.lst zs)/\xs.length+zs.length<=sizeLine/\∀p,H p=Ww->Q (.ref p) (upd H p (.lst (xs++zs)))
theorem ZrJ:OpR X (binaryOp .Add) Zvj:=by
 intro pins s Z H x y v u Q I rx ry h;obtain⟨l,b,xs,zs,rfl,rfl,hH,hB,hz,q⟩:=h;cases rx;cases ry;obtain⟨z,its,n,r,hl,e⟩:=I.lstM hH;obtain⟨z2,its2,n2,r2,hl2,e2⟩:=I.lstM hB;refine PySem.P.add_list e e2 ?_ (by rw[Of,Of];omega);have ea:its.toArray++its2.toArray=(its++its2).toArray:=by simp
 rw[ea];exact⟨.ref _,_,I.lnew (t':=s.toks) (r.append r2) (by rw[OA];omega),rfl,q _ I.fresh⟩
end
end L2
namespace Att
open PySem PySem.W PySem.Calls PyProof.Rows
theorem ZeV{P:Params}{h:YG}:∀(ns:List Int) (vs:List Yj),WellAll P h vs (ns.map WData.int)->IntsAre vs ns:=by
 intro ns;induction ns with
 |nil=>intro vs w;rw[Oy]at w;cases w;exact .nil
 |cons n ns ih=>
  intro vs w;rw[Op]at w;cases w with
  |cons a b=>cases a;exact .cons _ _ (ih _ b)
theorem Zlh{l:OpenLaw}{n:Nat}(hn:l.most=Wv n){P:Params}{h:YG}{args:List WData}{vals:List Yj}
 (hpre:l.row.toRowW.claim.pre args=Wx) (hwl:WellAll P h vals args) :
 ∃a vs ns,vals=[YD a]/\args=[WData.list (ns.map WData.int)]/\h.get? a=Wv {cls:=.type "list",data:=.seq vs.toArray}/\IntsAre vs ns/\ns.length<=n:=by
 have hsh:WShape.hasAll [] args [.list .int]=Wx:=(pre_splitW hpre).1;have hc:l.pre.holds [] {args:=args}=Wx:=(pre_splitW hpre).2;obtain⟨d,r,rfl,h1,h2⟩:=hasAllW_cons hsh;obtain rfl:=hasAllW_nil h2;obtain⟨xs,rfl,h3⟩:=hasW_list h1;obtain⟨ns,rfl⟩:=items_int h3;have hlen:ns.length<=n:=by
  unfold OpenLaw.pre at hc;have h4:(WTm.not (.lt (.lit (.int (n:Int))) (.len (.arg 0)))).holds [] {args:=[.list (ns.map .int)]}=Wx:=by have h4:=(holds_andW hc).1;rw[hn]at h4;exact h4
  have h5:=condW_of h4 (w_not (w_lt w_lit (w_len_list (w_arg rfl))));rw[Yu]at h5;refine Nat.le_of_not_lt λq=>?_;have q':(n:Int)<((ns.length:Nat):Int):=by omega
  first
   |(rw[decide_eq_true q']at h5;exact absurd h5 (by decide))
   |(simp at h5;omega)
 cases hwl with
 |cons w1 w2=>
  cases w2;cases w1 with
  |list ho hall=>exact⟨_,_,ns,rfl,rfl,ho,ZeV ns _ hall,hlen⟩
theorem Zlp(l:OpenLaw)(args:List WData):l.row.toRowW.claim.post args (.bool Wx) args=Wx:=
 postW_of (r:=l.row.toRowW) (X:=(Wx==Wx))
  (show WShape.has [] (.bool Wx) .bool=Wx by first|rfl|decide|simp[WShape.has,WShape.arms,WShape.armsAll])
  (show(WTm.eq .res (.lit (.bool Wx))).value [] {args:=args,res:=Wv (.bool Wx),after:=args}=Wv (.bool (Wx==Wx))from w_eq_bool (w_res rfl) w_lit) rfl
theorem Zi6{l:OpenLaw}{n:Nat}{q:Yh}{loose:List Str}{XP:(Str->Option Yj)->YG->Prop}{YP:Yg->YG->Prop}{d:DefRec}
 (hn:l.most=Wv n) (hdf:d.params.defaults=[])
 (call:∀(w:Yg) (s₀ s₁:Yb) (mg mb:Str->Option Yj) (fa:Yi) (o:Obj) (pm cd doc:Yj) (a:Yi) (vs:List Yj) (ns:List Int),
  Ground q loose [] XP w s₀ mg mb s₁.heap->YP w s₁.heap ->
  s₁.heap.get? fa=Wv o->o.data=.func (docDef d.name d.params d.body d.scope pm cd doc)->s₁.heap.CodeRec cd d.name->mg d.name=Wv (.ref fa) ->
  s₁.heap.get? a=Wv {cls:=.type "list",data:=.seq vs.toArray}->IntsAre vs ns->ns.length<=n->s₁.gens=#[] ->
  codeAny (model l.prog w) callerA (.call (.ref fa) ⟨[.ref a],[]⟩) (λr s'=>r=.ok (.ret (.bool Wx))/\OldK s₁.heap s'.heap/\s'.os=s₁.os/\AllBare s'.gens) s₁) :
 WalkO q loose XP YP l.row.toRowW d [] (λf vs=>PySem.call f vs):=by
 intro w s₀ s₁ mg mb G Y fa o pm cd doc dV kV ho hd hcd hD hmg hg args vals as hpre hlay hrd hwl hlo;obtain rfl:dV=.none:=Dflts.none hD hdf;obtain rfl:kV=.none:=Dflts.noKw hD;obtain⟨a,vs,ns,rfl,rfl,hobj,hints,hlen⟩:=Zlh hn hpre hwl;refine enter_call (codeAny_mono (call w s₀ s₁ mg mb fa o pm cd doc a vs ns G Y ho (fd_plain hd) hcd hmg hobj hints hlen hg) λr s' hq=>?_);obtain⟨rfl,h2,h3,h4⟩:=hq;exact⟨.inl ⟨.bool Wx,.bool Wx,[],rfl,λ_=>rfl,.bool Wx,Zlp l _,λ_=>⟨List.Pairwise.nil,λ_ hm=>(nomatch hm)⟩⟩,h2,h3,h4⟩
end Att
namespace L2
open PySem PySem.Spec PyProof.Rows
theorem Zgj:∀{vs:List Yj}{ns:List Int},IntsAre vs ns->Zm (ns.map V.int) vs
 |_,_,.nil=>.nil
 |_,_,.cons n t h=>.cons ⟨t,rfl⟩ (Zgj h)
def Zqb(H:Hp):Prop:=∀b,H b=Ww\/∃o xs,H b=Wv (.frz o (.lst xs))
theorem Znk{P:Yh}{w:Yg}{K:Yk}{mg mb:Str->Option Yj}{CX:CXT}{k:Nat}{fa a:Yi}{fd:FuncData}{x:Str}{sp:Sp}{s₁:Yb}{vs:List Yj}{ns:List Int}
   (KX:K.In s₁.heap) (hns:s₁.heap.Ns Yd mg) (hb:s₁.heap.Ns builtinsNs mb) (hbb:∀ x:Str,x ≠ "__name__" -> mb x=bootBuiltins x) (hlim:s₁.heap.NoLimit) (hg:s₁.gens=#[])
   (ha:s₁.heap.get? a=Wv {cls:=.type "list",data:=.seq vs.toArray}) (hi:IntsAre vs ns) (hl:ns.length<=sizeLine) (hr:Room k callerA)
   (F:∀ base:YG,K.In base->base.Ns Yd mg->FnOk P w K mg base CX k fa fd [x] sp) (hbind:∀ (s:Yb) (u:Yj),BindsTo s fd ⟨[u],[]⟩ [(x,u)])
   (hsp:∀ H:Hp,Zqb H->SqL K H a (ns.map V.int)->sp [.ref a] H (fun v _=>v=.bl Wx) fun _ _ _=>False)
   (hCX:∀ H e s',CX [] H s₁ (fun _ _ _=>False) e s'->False) :
   codeAny (model P w) callerA (.call (.ref fa) ⟨[.ref a],[]⟩) (fun r s'=>r=.ok (.ret (.bool Wx))/\OldK s₁.heap s'.heap/\s'.os=s₁.os/\AllBare s'.gens) s₁:=by
 have rv:=Zgj hi;have lenV:=hi.length;have core:∀ H:Hp,Zqb H->SqL K H a (ns.map V.int)->HOk P w H s₁.heap->(∀ b,H b≠Ww->b=a)->(H a≠Ww->K.lookup a=Ww) ->
     codeAny (model P w) callerA (.call (.ref fa) ⟨[.ref a],[]⟩) (fun r s'=>r=.ok (.ret (.bool Wx))/\OldK s₁.heap s'.heap/\s'.os=s₁.os/\AllBare s'.gens) s₁:=by
   intro H hO hS hok hA hK;have base_of:∀ {b:Yi}{o:Obj},s₁.heap.get? b=Wv o->H b=Ww->(Zho s₁.heap H).get? b=Wv o:=fun e n=>Znx e n;have noA:∀ {b:Yi}{o:Obj}{es:Array DictEntry}{ep:Nat},s₁.heap.get? b=Wv o->o.data=.dict es ep->H b=Ww:=fun {b o es ep} e d=>by
     cases q:H b with
     | none=>rfl
     | some u =>
       have e':b=a:=hA b (by rw [q];simp);subst e';rw [ha] at e;cases e;have d':Data.seq vs.toArray _=Data.dict es ep:=d;cases d'
   have nsK:∀ {b:Yi}{m:Str->Option Yj},s₁.heap.Ns b m->(Zho s₁.heap H).Ns b m:=fun {b m} ⟨o,es,ep,e,d,r⟩=>⟨o,es,ep,base_of e (noA e d),d,r⟩
   have hKb:K.In (Zho s₁.heap H):=fun b o e=>base_of (KX b o e) (by
     cases q:H b with
     | none=>rfl
     | some u =>
       have e':b=a:=hA b (by rw [q];simp);subst e';rw [hK (by rw [q];simp)] at e;cases e)
   have hM:Mod K mg (Zho s₁.heap H):=⟨hKb,nsK hns,⟨mb,nsK hb,hbb⟩,let ⟨mc,h1,h2⟩:=hlim;⟨mc,nsK h1,h2⟩⟩
   have e0:Env0 P w K mg (Zho s₁.heap H) callerA [] s₁ H:=⟨rfl,hM,fun b o e=>Zpt e,Nat.le_of_eq (ZlR _ _),trivial,fun b hb=>absurd (show b∈([]:List Yi) from hb) (by simp),hok,.of_eq hg⟩
   refine codeAny_mono ((F _ hKb (nsK hns)).run callerA [] s₁ H ⟨[.ref a],[]⟩ [.ref a] [.ref a] _ _ hr e0 (hbind s₁ (.ref a)) (.cons rfl .nil) (hsp H hO hS)) fun r s' h=>?_;cases r with
   | error e=>exact (hCX H e s' h).elim
   | ok fl =>
     cases fl with
     | next=>exact False.elim h
     | brk=>exact False.elim h
     | cont=>exact False.elim h
     | ret u =>
       obtain ⟨v,H',os,bare,un,hok',r',q⟩:=h;have q':v=.bl Wx:=q;subst q';obtain rfl:u=Value.bool Wx:=r';refine ⟨rfl,OldK.of_keep fun b o e=>?_,os,bare⟩;cases q:H b with
       | none=>exact un.keep b o e q (by intro z;exact absurd (show b∈([]:List Yi) from z) (by simp)) (by simp)
       | some u =>
         rcases hO b with z|⟨ob,xs,z⟩
         . rw [q] at z;cases z
         . have z2:=un.frzs b ob _ z;obtain ⟨e1,_⟩:=hok b _ z;obtain ⟨e2,_⟩:=hok' b _ z2;rw [e] at e1;cases e1;exact e2
 cases hk:K.lookup a with
 | some o =>
   have e:=KX a o hk;rw [ha] at e;cases e;refine core (fun _=>Ww) (fun _=>.inl rfl) (.inr ⟨_,vs.toArray,_,hk,rfl,rfl,rfl,by rw [Of,lenV];exact hl,by simpa using rv⟩) (fun b u z=>by have z':(Ww:Option HO)=Wv u:=z;cases z') (fun b z=>absurd rfl z) fun z=>absurd rfl z
 | none =>
   refine core (fun b=>if b=a then Wv (.frz {cls:=.type "list",data:=.seq vs.toArray} (.lst (ns.map V.int))) else Ww) (fun b=>?_) (.inl (.inr ⟨{cls:=.type "list",data:=.seq vs.toArray},if_pos rfl⟩)) (fun b u z=>?_) (fun b z=>?_) fun _=>hk
   . by_cases hb:b=a
     . exact .inr ⟨_,_,if_pos hb⟩
     . exact .inl (if_neg hb)
   . by_cases hb:b=a
     . have z':=(if_pos hb).symm.trans z;cases z';subst hb;exact ⟨ha,by rw [Yu];exact hl,vs,_,rv,ha⟩
     . have z':=(if_neg hb).symm.trans z;cases z'
   . by_cases hb:b=a
     . exact hb
     . exact absurd (if_neg hb) z
theorem Zom{l:PySem.W.OpenLaw}{n k:Nat}{q:Yh}{loose:List Str}{XP:(Str->Option Yj)->YG->Prop}{YP:Yg->YG->Prop}{d:DefRec}{K:Params->Yk}{CX:Yg->CXT}{sp:Yg->Sp}{x:Str}
 (hn:l.most=Wv n) (hn2:n<=sizeLine) (hdf:d.params.defaults=[]) (hr:Room k callerA)
 (hY:∀(w:Yg) (h:YG),YP w h->(K w.params).In h)
 (F:∀(w:Yg) (mg:Str->Option Yj) (fa:Yi) (h:YG),(K w.params).In h->h.Ns Yd mg->mg d.name=Wv (.ref fa) ->
  ∃fd:FuncData,(∀(s:Yb) (u:Yj),BindsTo s fd ⟨[u],[]⟩ [(x,u)]) /\
   ∀base:YG,(K w.params).In base->base.Ns Yd mg->FnOk l.prog w (K w.params) mg base (CX w) k fa fd [x] (sp w))
 (hsp:∀(w:Yg) (H:Hp) (a:Yi) (ns:List Int),ns.length<=n->Zqb H->SqL (K w.params) H a (ns.map V.int)->sp w [.ref a] H (λv _=>v=.bl Wx) λ_ _ _=>False)
 (hCX:∀(w:Yg) (H:Hp) (s:Yb) (e:Yj) (s':Yb),CX w [] H s (λ_ _ _=>False) e s'->False) :
 PySem.W.WalkO q loose XP YP l.row.toRowW d [] (λf vs=>PySem.call f vs):=by
 refine Att.Zi6 hn hdf λw s₀ s₁ mg mb fa o pm cd doc a vs ns G Y ho hd hcd hmg hobj hints hlen hg=>?_;have KX:=hY w _ Y;obtain⟨fd,hb,hF⟩:=F w mg fa _ KX G.T.g hmg;exact Znk KX G.T.g G.T.b G.T.builtins G.T.nolimit hg hobj hints (OE hlen hn2) hr hF hb (λH hO hS=>hsp w H a ns hlen hO hS) λH e s'=>hCX w H s₁ e s'
noncomputable def inClass(s:Stmt)(j:Nat):Stmt:=match s with
 |.ClassDef _ _ _ body _ _ _ _ _ _ _=>body.getD j (.Pass ⟨0,0,0,0⟩)
 |_=>.Pass ⟨0,0,0,0⟩
noncomputable def Zdf(s:Stmt):Arguments:=match s with
 |.FunctionDef _ a _ _ _ _ _ _ _ _=>a
 |_=>{posonlyargs:=[],args:=[],vararg:=Ww,kwonlyargs:=[],kw_defaults:=[],kwarg:=Ww,defaults:=[]}
noncomputable def ZbK(s:Stmt):List Stmt:=match s with
 |.FunctionDef _ _ b _ _ _ _ _ _ _=>b
 |_=>[]
noncomputable def ZR(s:Stmt):Scope:=match s with
 |.FunctionDef _ _ _ _ _ _ sc _ _ _=>sc
 |_=>{kind:=.function,names:=[],isGenerator:=false,isCoroutine:=false}
noncomputable abbrev E0:XK:=λ_ _ _=>False
structure Fun(K:Yk)(x qual:Str)(st:Stmt)(f:Yi)(fd:FuncData):Prop where
 ex:∃(oc:Yj) (od:Option Yi) (kV doc pm:Yj) (an:Option Yi) (cdv ct:Yj) (osl:Array (Option Yj)),
  fd=PySem.W.fnOf x qual (Zdf st) (ZbK st) (ZR st) .none kV doc pm an cdv ct/\K.lookup f=Wv ⟨oc,od,.func fd,osl⟩/\PySem.W.codeIn K cdv qual=Wx
 kp:Wf K (.ref f)=Wx
section
variable {P:Yh}{w:Yg}{K:Yk}{mg:Str->Option Yj}{base:YG}
theorem Fun.binds{x qual:Str}{st:Stmt}{f:Yi}{fd:FuncData}{ps:List Str}(F:Fun K x qual st f fd)
 (h:∀(kV doc pm:Yj) (an:Option Yi) (cdv ct:Yj) (us:List Yj),us.length=ps.length->bindArgs (PySem.W.fnOf x qual (Zdf st) (ZbK st) (ZR st) .none kV doc pm an cdv ct) ⟨us,[]⟩=pure (ps.zip us)):Binds K fd ps []:=by
 obtain⟨oc,od,kV,doc,pm,an,cdv,ct,osl,rfl,lk,hcd⟩:=F.ex;exact .all (h kV doc pm an cdv ct)
theorem ZnB{x qual:Str}{st:Stmt}{f:Yi}{oc:Yj}{od an:Option Yi}{osl:Array (Option Yj)}{kV doc pm cdv ct:Yj}(l:K.lookup f=Wv ⟨oc,od,.func (PySem.W.fnOf x qual (Zdf st) (ZbK st) (ZR st) .none kV doc pm an cdv ct),osl⟩)
 (c:PySem.W.codeIn K cdv qual=Wx) (k:Wf K (.ref f)=Wx):Fun K x qual st f (PySem.W.fnOf x qual (Zdf st) (ZbK st) (ZR st) .none kV doc pm an cdv ct):=⟨⟨oc,od,kV,doc,pm,an,cdv,ct,osl,rfl,l,c⟩,k⟩
end
theorem Zhl{A B_:Prop}(h:B_):if Wy=Wx then A else B_:=by rw[if_neg Ow];exact h
theorem Zhk{A B_:Prop}(h:A):if Wx=Wx then A else B_:=by rw[if_pos rfl];exact h
end L2
end
section
set_option tactic.hygienic false
namespace L2
open PySem PySem.Spec PyProof.Rows
section
variable {κ:Type} [DecidableEq κ]
noncomputable def ZdN(kvs:List (κ×V))(k:κ):Option V:=(kvs.find? λkv=>Wz (kv.1=k)).map (·.2)
noncomputable def putK(kvs:List (κ×V))(k:κ)(v:V):List (κ×V):=if (kvs.any λkv=>Wz (kv.1=k))=Wx then kvs.map (λkv=>if kv.1=k then(kv.1,v)else kv)else kvs++[(k,v)]
theorem Zl7{p:κ×V}{r:List (κ×V)}{k:κ}(e:p.1=k):ZdN (p::r) k=Wv p.2:=by simp[ZdN,Ws,e]
theorem Zl8{p:κ×V}{r:List (κ×V)}{k:κ}(e:¬ p.1=k):ZdN (p::r) k=ZdN r k:=by simp[ZdN,Ws,e]
theorem ZeH(kvs:List (κ×V))(k:κ)(v:V):(putK kvs k v).length<=kvs.length+1:=by
 unfold putK;split
 . rw[Yu];omega
 . rw[OA,Os,List.length_nil];omega
theorem Zec.isSome_eq{o:Option V}{u:Option Yj}(r:Zec o u):o.isSome=u.isSome:=by
 cases o with
 |none=>cases u with
  |none=>rfl
  |some _=>exact(show False from r).elim
 |some _=>cases u with
  |none=>exact(show False from r).elim
  |some _=>rfl
theorem KV.val{kvs:List (κ×V)}{vs:List (κ×Yj)}(r:KV kvs vs)(k:κ):Zec (ZdN kvs k) (valueAt vs k):=by
 unfold KV at r;induction r with
 |nil=>exact True.intro
 |@cons p q ps qs h t ih=>
  obtain⟨h1,h2⟩:=h;by_cases e:p.1=k
  . have e':q.1=k:=h1.symm.trans e;have b:valueAt (q::qs) k=Wv q.2:=by simp[valueAt,Ws,e']
    rw[Zl7 e,b];exact h2
  . have e':¬ q.1=k:=λz=>e (h1.trans z);have b:valueAt (q::qs) k=valueAt qs k:=by simp[valueAt,Ws,e']
    rw[Zl8 e,b];exact ih
theorem KV.any{kvs:List (κ×V)}{vs:List (κ×Yj)}(r:KV kvs vs)(k:κ):(kvs.any λkv=>Wz (kv.1=k))=vs.any λkv=>Wz (kv.1=k):=by
 unfold KV at r;induction r with
 |nil=>rfl
 |cons h t ih=>rw[We,We,ih,h.1]
theorem KV.repl{kvs:List (κ×V)}{vs:List (κ×Yj)}(r:KV kvs vs)(k:κ){y:V}{u:Yj}(ry:RelV y u):
 KV (kvs.map λkv=>if kv.1=k then(kv.1,y)else kv) (vs.map λkv=>if kv.1=k then(kv.1,u)else kv):=by
 unfold KV at r ⊢;induction r with
 |nil=>exact .nil
 |@cons p q ps qs h t ih=>
  rw[Op,Op];refine .cons ?_ ih;obtain⟨h1,h2⟩:=h;by_cases e:p.1=k
  . rw[if_pos e,if_pos (h1.symm.trans e)];exact⟨h1,ry⟩
  . rw[if_neg e,if_neg (λz=>e (h1.trans z))];exact⟨h1,h2⟩
theorem KV.put{kvs:List (κ×V)}{vs:List (κ×Yj)}(r:KV kvs vs)(k:κ){y:V}{u:Yj}(ry:RelV y u):KV (putK kvs k y) (stored vs k u):=by
 unfold putK stored;rw[r.any k];by_cases e:(vs.any λkv=>Wz (kv.1=k))=Wx
 . rw[if_pos e,if_pos e];exact r.repl k ry
 . rw[if_neg e,if_neg e];exact Paired.snoc r ⟨rfl,ry⟩
theorem KV.length{kvs:List (κ×V)}{vs:List (κ×Yj)}(r:KV kvs vs):kvs.length=vs.length:=Paired.length r
end
theorem ZiA{P:Yh}{w:Yg}{k:Key}{u:Yj}(r:RelV (kV k) u):(ZM P w).is k u=Wx:=by
 cases k with
 |inl i=>obtain⟨t,e⟩:=(show ∃t,u=Value.int i t from r);subst e;exact Zil P w i t
 |inr x=>obtain⟨t,e⟩:=(show ∃t,u=Value.str x t from r);subst e;exact Zik P w x t
section
variable {P:Yh}{w:Yg}{H:Hp}{h:YG}{a:Yi}
theorem Ztc{u:HO}(ok:HOk P w H h)(e:Rd H a u):Zai P w H h a u:=e.ok ok
theorem Zqs{kvs:List (Key×V)}(ok:HOk P w H h)(e:Rd H a (.dK kvs)):kvs.length<=sizeLine/\(a==Ye)=Wy/\∃vs,KV kvs vs/\h.DictOf (ZM P w) a vs:=show Zai P w H h a (.dK kvs)from Ztc ok e
theorem Zqt{kvs:List (Key×V)}(ok:HOk P w H h)(e:H a=Wv (.dK kvs)):kvs.length<=sizeLine/\(a==Ye)=Wy/\∃vs,KV kvs vs/\h.DictOf (ZM P w) a vs:=Zqs ok (.inl e)
end
section
variable {X:Cx}{pins:List (Yi×Obj)}{Z:St}{H:Hp}{s:Yb}{a:Yi}{y v:V}{u r:Yj}{o:Option V}{A:YH}{E:Yj->Yb->Prop}
theorem Inv.big(I:Inv X pins Z H s):Ye<s.heap.objs.size:=by have h:Yd<s.heap.objs.size:=(I.mod.glob.keeps I.bk).lt;exact Nat.lt_trans (by decide) h
theorem ZkV{h':YG}{t':Nat}{ob:HO}(I:Inv X pins Z H s)(mu:Mut (H a))(hs:Heap.SameBut a s.heap h')(he:∃q,h'.get? a=Wv q)(new:Zai X.prog X.w (upd H a ob) h' a ob):
 Inv X pins Z (upd H a ob) {s with heap:=h',toks:=t'}:=
 I.write (x:=a) (e:=a) mu (.inl rfl) (λb q hb z=>(hs.2 b hb).trans z) he new
theorem ZnQ{P:Yh}{w:Yg}{H':Hp}{h':YG}{kvs:List (Key×V)}{vs:List (Key×Yj)}(z:kvs.length<=sizeLine)(hd:(a==Ye)=Wy)(rel:KV kvs vs)(dd:h'.DictOf (ZM P w) a vs):
 Zai P w H' h' a (.dK kvs):=⟨z,hd,vs,rel,dd⟩
end
theorem ZiO{P:Yh}{w:Yg}{H:Hp}(h:YG)(hb:Ye<h.objs.size):Zai P w H (h.push {cls:=.type "dict",data:=.dict #[]}) h.objs.size (.dK []):=⟨Yy _,beq_eq_false_iff_ne.mpr (YL (Ou hb)),[],.nil,Heap.DictOf.new h⟩
noncomputable def ZqY:TE:=λ_ H Q=>∀p,H p=Ww->Q (.ref p) (upd H p (.dK []))
section
variable {X:Cx}{pos:Pos}
theorem ZmW:PE X (.Dict [] [] pos) ZqY:=λpins s Z H Q I h=>wpAny_Dict_empty ⟨.ref s.heap.objs.size,_,I.laid (a:=s.heap.objs.size) (o:=.dK []) (t':=s.toks) (λ_ _ q=>O1 _ q) (Oq _) (ZiO s.heap I.big),rfl,h _ (I.hok.fresh (Oq _))⟩
end
def ZgV:List (TE×TE)->St->Hp->(List (V×V)->Hp->Prop)->Prop
 |[],_,H,Q=>Q [] H
 |(tk,tv)::r,Z,H,Q=>tk Z H λx H1=>tv Z H1 λy H2=>ZgV r Z H2 λps H3=>Q ((x,y)::ps) H3
abbrev VV:List (V×V)->List (Yj×Yj)->Prop:=Paired λp q=>RelV p.1 q.1/\RelV p.2 q.2
def PPs(X:Cx)(pos:Pos)(keys:List (Option Expr))(values:List Expr)(trs:List (TE×TE)):Prop:=
 ∀(pins:List (Yi×Obj)) (s:Yb) (Z:St) (H:Hp) (Q:List (V×V)->Hp->Prop),Inv X pins Z H s->ZgV trs Z H Q ->
  YB (model X.prog X.w) X.A (evalPairs (pairTrees keys values X.env pos)) (λvs s'=>∃ps H',Inv X pins Z H' s'/\VV ps vs/\Q ps H') X.xe s
theorem ZoX{X:Cx}{pos:Pos}:PPs X pos [] [] []:=λpins s Z H Q I h=>pairTrees_nil_walk ⟨[],H,I,.nil,h⟩
theorem ZmM{X:Cx}{pos:Pos}{k v:Expr}{ks:List (Option Expr)}{vs:List Expr}{tk tv:TE}{trs:List (TE×TE)}(hk:PE X k tk)(hv:PE X v tv)(hr:PPs X pos ks vs trs):
 PPs X pos (Wv k::ks) (v::vs) ((tk,tv)::trs):=λpins s Z H Q I h=>
 pairTrees_cons_walk (thn (hk pins s Z H _ I h) λu s1 ⟨x,H1,I1,rx,q1⟩=>thn (hv pins s1 Z H1 _ I1 q1) λw2 s2 ⟨y,H2,I2,ry,q2⟩=>thn (hr pins s2 Z H2 _ I2 q2) λws s3 ⟨ps,H3,I3,rel,q3⟩=>⟨(x,y)::ps,H3,I3,.cons ⟨rx,ry⟩ rel,q3⟩)
noncomputable def Zdz(kvs more:List (Key×V)):List (Key×V):=more.foldl (λacc kv=>putK acc kv.1 kv.2) kvs
theorem KV.merge:∀{more:List (Key×V)}{rs:List (Key×Yj)}{kvs:List (Key×V)}{vs:List (Key×Yj)},KV more rs->KV kvs vs->KV (Zdz kvs more) (merged vs rs):=by
 intro more rs kvs vs r;unfold KV at r;induction r generalizing kvs vs with
 |nil=>intro q;exact q
 |@cons p q ps qs h t ih=>
  intro r0;have e:KV (putK kvs p.1 p.2) (stored vs q.1 q.2):=by have:=r0.put p.1 h.2;rw[<- h.1];exact this
  exact ih e
theorem Zdr:∀(more kvs:List (Key×V)),(Zdz kvs more).length<=kvs.length+more.length
 |[],kvs=>by show kvs.length<=kvs.length+0;omega
 |p::r,kvs=>by have h1:=Zdr r (putK kvs p.1 p.2);have h2:=ZeH kvs p.1 p.2;show(Zdz (putK kvs p.1 p.2) r).length<=_;rw[Os];omega
theorem Zf3{P:Yh}{w:Yg}:∀{kvs:List (Key×V)}{ws:List (Yj×Yj)},VV (kvs.map λkv=>(kV kv.1,kv.2)) ws->∃rs,Carries (ZM P w) ws rs/\KV kvs rs
 |[],_,r=>by rw[Oy]at r;cases r;exact⟨[],True.intro,.nil⟩
 |p::kvs,_,r=>by
  rw[Op]at r;cases r with
  |@cons a b as bs h t=>obtain⟨rs,c,q⟩:=Zf3 (P:=P) (w:=w) t;obtain⟨b1,b2⟩:=b;exact⟨(p.1,b2)::rs,⟨ZiA h.1,rfl,c⟩,.cons ⟨rfl,h.2⟩ q⟩
noncomputable def Zs2(trs:List (TE×TE)):TE:=λZ H Q=>∀p,H p=Ww->ZgV trs Z (upd H p (.dK [])) λps H2=>H2 p=Wv (.dK [])/\∃kvs:List (Key×V),ps=kvs.map (λkv=>(kV kv.1,kv.2))/\kvs.length<=15/\Q (.ref p) (upd H2 p (.dK (Zdz [] kvs)))
theorem Zo8{X:Cx}{pos:Pos}{keys:List (Option Expr)}{values:List Expr}{trs:List (TE×TE)}(h:PPs X pos keys values trs)(hall:keys.all (·.isSome)=Wx)(hl:keys.length=values.length)(h0:keys≠[])
 (h15:keys.length<=15):PE X (.Dict keys values pos) (Zs2 trs):=by
 intro pins s Z H Q I q;have hn:=I.hok.fresh (Oq s.heap.objs.size);have I1:=I.laid (a:=s.heap.objs.size) (o:=.dK []) (h':=s.heap.push {cls:=.type "dict",data:=.dict #[]}) (t':=s.toks) (λ_ _ q=>O1 _ q) (Oq _) (ZiO s.heap I.big);refine wpAny_Dict_walk (knd:=ZM X.prog X.w) hall hl h0 h15 (thn (h pins _ Z _ _ I1 (q _ hn)) λws s2 ⟨ps,H2,I2,rel,e,kvs,ep,lk,q2⟩=>?_);subst ep;obtain⟨rs,c,rk⟩:=Zf3 (P:=X.prog) (w:=X.w) rel;obtain⟨z,hd,vs0,r0,dd⟩:=Zqt I2.hok e;cases r0;refine⟨rs,c,dd,λh' dd' hs=>⟨.ref s.heap.objs.size,_,?_,rfl,q2⟩⟩;have hz:(Zdz [] kvs).length<=sizeLine:=by have h1:=Zdr kvs [];rw[List.length_nil]at h1;rw[YC];omega
 have he:∃q,h'.get? s.heap.objs.size=Wv q:=let ⟨q,_,_,hq,_⟩:=dd';⟨q,hq⟩;exact ZkV I2 (by rw[e];exact True.intro) hs he (ZnQ hz hd (rk.merge .nil) dd')
end L2
end
section
namespace L2
open PySem PySem.Spec PyProof.Rows
noncomputable def Its(x:Str):It:=⟨λi _=>i<x.cps.size,λi H v H'=>H'=H/\∃c,x.cps[i]? = Wv c/\v=.str ⟨#[c]⟩,λi _=>i=x.cps.size⟩
theorem Zr9{M:Model}{A:YH}{E:Yj->Yb->Prop}{s:Yb}{tg:Expr}{it:Yi}{x:Str}{t:Tok}{Q:Unit->Yb->Prop}(hQ:Q () s):YB M A (letOwnedTupleGo tg (.ref it) (.str x t)) Q E s:=by unfold letOwnedTupleGo;cases tg<;>exact Yc hQ
theorem ZhS{P:Yh}{w:Yg}{K:Yk}{tg:Expr}{it:Yi}{x:Str}{t:Tok}{ty:String}
 (W:∀A':YH,A'.handled=Ww->Walks P w A' it [it] [it] x.cps.size (SignAt x) (λi h=>h.IsStrIter it ty x t i))
 (hself:∀(A:YH) (i:Nat) (s:Yb) (Q:Yj->Yb->Prop) (E:Yj->Yb->Prop),s.heap.IsStrIter it ty x t i->Q (.ref it) s->YB (model P w) A (pyIter (.ref it)) Q E s) :
 Turn P w K tg (Its x) [it] it (λi h=>h.IsStrIter it ty x t i) where
 mem:=by simp
 obj:=λi h st b hb=>by
  have e:b=it:=by simpa using hb
  subst e;obtain⟨o,e,c,d⟩:=st;exact⟨o,e,λv z=>by rw[d]at z;cases z⟩
 keep:=λi h h' st k=>by obtain⟨o,e,r⟩:=st;exact⟨o,k it (by simp) o e,r⟩
 item:=by intro X hP hw hK hc i pins s Z H E I hf st hg;subst hP hw hK;obtain⟨f0,f1,f2,f3,f4,f5⟩:=hf it (by simp);refine(W X.A (I.ok.hd hc)).item i s _ _ hg st λv h' tk hv st' kk=>?_;obtain⟨c,u,hcx,rfl⟩:=hv;have I1:Inv X pins Z H {s with heap:=h',toks:=tk}:=I.turned (λb o hb e=>kk b o (by simpa using hb) e) f0 f1 f3 f4 f5;exact⟨_,rfl,Zr9 ⟨.str ⟨#[c]⟩,H,I1,⟨u,rfl⟩,⟨rfl,c,hcx,rfl⟩,st',λb hb=>(hf b hb).1⟩⟩
 done:=by intro X hP hw hK hc i pins s Z H E I hf st hg;subst hP hw hK;obtain⟨f0,f1,f2,f3,f4,f5⟩:=hf it (by simp);have e:i=x.cps.size:=hg;subst e;exact(W X.A (I.ok.hd hc)).done s _ _ st λh' tk kk=>⟨rfl,I.turned (λb o hb e=>kk b o (by simpa using hb) e) f0 f1 f3 f4 f5⟩
 self:=hself
theorem ZcR{env:Env}:∀(names:List (Str×NameKind)) (x:Str),
 (names.map λ(n,k)=>if (k==Yo&&env.scope.kind==.function&&env.kindOf n==Wv .cell)then(n,NameKind.cell)else(n,k)).lookup x =
  (names.lookup x).map λk=>if (k==Yo&&env.scope.kind==.function&&env.kindOf x==Wv .cell)then NameKind.cell else k
 |[],_=>rfl
 |(n,k)::r,x=>by
  have ih:=@ZcR env r x;show Wm x ((if (k==Yo&&env.scope.kind==.function&&env.kindOf n==Wv .cell)=Wx then(n,NameKind.cell)else(n,k))::_)=_;cases hx:x==n with
  |true=>
   have e:x=n:=by simpa using hx
   subst e;by_cases hc:(k==Yo&&env.scope.kind==.function&&env.kindOf x==Wv .cell)=Wx
   . rw[if_pos hc];simp only[OF,hx,Yv,if_pos hc]
   . rw[if_neg hc];simp only[OF,hx,Yv,if_neg hc]
  |false=>
   by_cases hc:(k==Yo&&env.scope.kind==.function&&env.kindOf n==Wv .cell)=Wx
   . rw[if_pos hc];simp only[OF,hx];exact ih
   . rw[if_neg hc];simp only[OF,hx];exact ih
noncomputable def ZcV(env:Env):List (Str×NameKind)->List (Str×Yi)->List (Str×Yi)
 |[],cs=>cs
 |(n,k)::r,cs=>ZcV env r (if (k==.free)=Wx then(n,(env.cells.lookup n).getD 0)::cs else cs)
theorem ZiT{env:Env}:∀(l:List (Str×NameKind)) (cs:List (Str×Yi)),(∀y∈l,y.2=.free->∃c,env.cells.lookup y.1=Wv c) ->
 (∀x c,(x,c)∈cs->env.cells.lookup x=Wv c)->∀x c,(x,c)∈ZcV env l cs->env.cells.lookup x=Wv c
 |[],cs,_,h2,x,c,hm=>h2 x c hm
 |(n,k)::r,cs,h1,h2,x,c,hm=>by
  refine ZiT r _ (λy hy=>h1 y (Oh _ hy)) (λx c hm=>?_) x c hm;by_cases hk:(k==Yo)=Wx
  . rw[if_pos hk]at hm;rcases O3.mp hm with e|hm
    . cases e;have hk':k=.free:=by cases k<;>first|rfl|(exact absurd hk (by decide))
      obtain⟨c,e⟩:=h1 (n,k) Oi hk';rw[e];rfl
    . exact h2 x c hm
  . rw[if_neg hk]at hm;exact h2 x c hm
theorem ZgF{env:Env}:∀(l:List (Str×NameKind)) (cs:List (Str×Yi)) (p:Str×Yi),p∈cs->p∈ZcV env l cs
 |[],_,_,h=>h
 |(n,k)::r,cs,p,h=>by
  refine ZgF r _ p ?_;by_cases hk:(k==Yo)=Wx
  . rw[if_pos hk];exact Oh _ h
  . rw[if_neg hk];exact h
theorem ZiU{env:Env}:∀(l:List (Str×NameKind)) (cs:List (Str×Yi)) (y:Str×NameKind),y∈l->y.2=.free->∃c,(y.1,c)∈ZcV env l cs
 |(n,k)::r,cs,y,h,hf=>by
  rcases O3.mp h with e|h
  . subst e;refine⟨(env.cells.lookup n).getD 0,ZgF r _ _ ?_⟩;have hk:(k==Yo)=Wx:=by have:k=.free:=hf;subst this;rfl
    rw[if_pos hk];exact Oi
  . exact ZiU r _ y h hf
theorem Zdq{α:Type}:∀{l:List (Str×α)}{x:Str}{c:α},(x,c)∈l->∃c',l.lookup x=Wv c'/\(x,c')∈l
 |(n,d)::r,x,c,h=>by
  cases hx:x==n with
  |true=>
   have e:x=n:=by simpa using hx
   subst e;exact⟨d,by simp[OF],Oi⟩
  |false=>
   rcases O3.mp h with e|h
   . cases e;simp at hx
   . obtain⟨c',h1,h2⟩:=Zdq h;exact⟨c',by simp only[OF,hx];exact h1,Oh _ h2⟩
theorem Zdv{scope:Scope}{env:Env}(h:∀y∈scope.names,y.2=.free->∃c,env.cells.lookup y.1=Wv c):closureFor scope env=pure (ZcV env scope.names []):=by
 have all:∀(l:List (Str×NameKind)) (cs:List (Str×Yi)),(∀y∈l,y.2=.free->∃c,env.cells.lookup y.1=Wv c) ->
  (forIn l cs λ(x:Str×NameKind) r=>match x with|(name,kind)=>if (kind==Yo)=Wx then(do let a <- cellOf env name;pure (ForInStep.yield ((name,a)::r)))else pure (ForInStep.yield r):Sem (List (Str×Yi)))=pure (ZcV env l cs):=by
  intro l;induction l with
  |nil=>intro cs _;rfl
  |cons y r ih=>
   intro cs hl;obtain⟨n,k⟩:=y;rw[List.forIn_cons];have hr:=λcs=>ih cs λy hy=>hl y (Oh _ hy);by_cases hk:(k==Yo)=Wx
   . have hk':k=.free:=by cases k<;>first|rfl|(exact absurd hk (by decide))
     obtain⟨c,e⟩:=hl (n,k) Oi hk';have ec:cellOf env n=pure c:=by unfold cellOf;rw[e]
     simp only[hk,if_true,ec];show(forIn r ((n,c)::cs) _:Sem _)=_;rw[hr];show _=pure (ZcV env r (if (k==Yo)=Wx then(n,(env.cells.lookup n).getD 0)::cs else cs));rw[if_pos hk,e];rfl
   . simp only[hk];show(forIn r cs _:Sem _)=_;rw[hr];show _=pure (ZcV env r (if (k==Yo)=Wx then(n,(env.cells.lookup n).getD 0)::cs else cs));rw[if_neg hk]
 unfold closureFor;have z:=all scope.names [] h;dsimp only at z ⊢;rw[z];rfl
end L2
end
section
set_option tactic.hygienic false
namespace L2
open PySem PySem.Spec PyProof.Rows
theorem ZiR{prog:Yh}{w:Yg}{A:YH}{R:Result->Yb->Prop}{s:Yb}{elt target iter:Expr}{ifs:List Expr}{scope:Scope}{pos:Pos}{it acc:Yj}{env:Env}(I:Nat->Yb->Prop)
 (turn:∀n s,I n s->YB (model prog w) A (pyNext it) (λr s₁=>match r with
  |none=>R (.ok .next) s₁
  |some v=>YB (model prog w) A (letOwnedTupleGo target it v) (λ_ s₁'=>YB (model prog w) A (assign target env v) (λ_ s₂=>
   YB (model prog w) A (forIn ifs Wx λc r=>if r=Wx then do let ok <- isTrue c env (eval c env);pure (ForInStep.yield ok)else pure (ForInStep.yield r)) (λok s₃=>
    if ok=Wx then YB (model prog w) A (eval elt env) (λx s₄=>YB (model prog w) A (call (.builtin "list.append") [acc,x]) (λ_ s₅=>∃m,m<n/\I m s₅) (notedBy (model prog w) A env λe s'=>R (.error e) s') s₄) (notedBy (model prog w) A env λe s'=>R (.error e) s') s₃
    else ∃m,m<n/\I m s₃) (notedBy (model prog w) A env λe s'=>R (.error e) s') s₂) (notedBy (model prog w) A env λe s'=>R (.error e) s') s₁') (notedBy (model prog w) A env λe s'=>R (.error e) s') s₁) (notedBy (model prog w) A env λe s'=>R (.error e) s') s)
 (n:Nat) (h:I n s) :
 codeAny (model prog w) A (.compLoop (.ListComp elt [⟨target,iter,ifs,0⟩] scope pos) 0 it acc env) R s:=by
 refine codeAny_loop rfl I (λn s hI=>?_) n h;show YB _ A ((compTurn (.ListComp elt [⟨target,iter,ifs,0⟩] scope pos) 0 it acc env).onRaise (λx=>do noteFrame x env;theTreesLotGoes x)) _ _ s;refine wpAny_noted ?_;rw[compTurn_list];refine Ya (wpAny_standAt (Ya (Yf (turn n s hI) (λr s₁ h₁=>?_) λ_ _ h'=>h')));cases r with
 |none=>exact Yc h₁
 |some v=>
  refine Ya (Yf h₁ (λ_ s₁' h₁'=>?_) λ_ _ h'=>h');refine Ya (Yf h₁' (λ_ s₂ h₂=>Ya (Yf h₂ (λok s₃ h₃=>?_) λ_ _ h'=>h')) λ_ _ h'=>h');cases ok with
  |false=>exact Yc ⟨rfl,h₃⟩
  |true=>exact Ya (Ya (Yf h₃ (λx s₄ h₄=>Ya (Yf h₄ (λ_ s₅ h₅=>Yc (Yc ⟨rfl,h₅⟩)) λ_ _ h'=>h')) λ_ _ h'=>h'))
structure CompSc(NC N:List Str)(js:List (Option Nat))(sc scope:Scope):Prop where
 kind:scope.kind=.function
 dkind:sc.kind=.function
 nocell:∀y∈scope.names,y.2≠.cell
 locs:∀y∈scope.names,y.2=.local->scope.names.lookup y.1=Wv .local
 free:∀y∈scope.names,y.2=.free->sc.names.lookup y.1=Wv .cell
 nd:NC.Nodup
 len:js.length=NC.length
 jok:((NC.zip js).all λp=>p.2.all λj=>Wz (N[j]? = Wv p.1)&&Wz (scope.names.lookup p.1=Wv .free))=Wx
theorem CompSc.at{NC N:List Str}{js:List (Option Nat)}{sc scope:Scope}(S_:CompSc NC N js sc scope){i j:Nat}{x:Str}(h1:NC[i]? = Wv x)(h2:js[i]? = Wv (Wv j)):N[j]? = Wv x/\scope.names.lookup x=Wv .free:=by
 have h:=S_.jok;rw[OC]at h;have hm:(x,Wv j)∈NC.zip js:=by refine O2 (i:=i) ?_;rw[List.getElem?_zip_eq_some];exact⟨h1,h2⟩
 have q:=h _ hm;simp only[Option.all_some,Oa,decide_eq_true_eq]at q;exact q
noncomputable def capt(js:List (Option Nat))(Z:St):St:=js.map λo=>o.bind λj=>(Z[j]?).join
def xeC(X:Cx)(scope:Scope)(C:Yi):Yj->Yb->Prop:=notedBy (model X.prog X.w) X.A (compEnvC scope (ZcV X.env scope.names []) C X.env) λe s'=>∃m,s'.heap.Ns C m/\∀h',Heap.SameBut C s'.heap h'->∀cenv:Env,cenv.locals=C->YB (model X.prog X.w) X.A (passOn "comprehension.variables-let-go" e cenv:Sem Yj) (λ_ _=>False) X.xe {s' with heap:=h'}
noncomputable def Zv(X:Cx)(NC:List Str)(scope:Scope)(C:Yi)(s3:Yb)(H3:Hp)(fp:List Yi):Cx:={X with N:=NC,s₀:=s3,H₀:=H3,env:=compEnvC scope (ZcV X.env scope.names []) C X.env,outer:=X.stack,stack:=X.stack,ex:=fp,fn:=λ_=>Wy,calm:=true,pn:=[],xe:=xeC X scope C}
def Zl2(k:Nat)(g:TG):Prop:=∀x Z H Q,g x Z H Q->g x Z H λσ2 H2=>Q σ2 H2/\σ2.length=Z.length/\∀j,k<=j->σ2[j]? = Z[j]?
def Zi8(k:Nat)(g:TGs):Prop:=∀x Z H Q,g x Z H Q->g x Z H λσ2 H2=>Q σ2 H2/\σ2.length=Z.length/\∀j,k<=j->σ2[j]? = Z[j]?
theorem Zoq{i k:Nat}(h:i<k):Zl2 k (ZcS i):=λx Z H Q q=>⟨q,List.length_set,λj hj=>by rw[Oc (by omega)]⟩
theorem Zkr{k:Nat}:Zi8 k ZpO:=λx Z H Q q=>⟨q.1,q.2,rfl,λ_ _=>rfl⟩
theorem Zfg{i k:Nat}{u:TGs}(h:i<k)(hu:Zi8 k u):Zi8 k (ZiG (ZcS i) u):=by
 rintro xs Z H Q ⟨v,r,e,q⟩;refine⟨v,r,e,?_⟩;have z:=hu r (Z.set i (Wv v)) H Q q;have z2:=hu r (Z.set i (Wv v)) H (λσ2 H2=>Q σ2 H2/\σ2.length=(Z.set i (Wv v)).length/\∀j,k<=j->σ2[j]? = (Z.set i (Wv v))[j]?) z;show u r (Z.set i (Wv v)) H _;have e1:(Z.set i (Wv v)).length=Z.length:=List.length_set;have e2:∀j,k<=j->(Z.set i (Wv v))[j]? = Z[j]? := λj hj=>Oc (by omega);have e3:(λσ2 H2=>Q σ2 H2/\σ2.length=Z.length/\∀j,k<=j->σ2[j]? = Z[j]?)=(λσ2 H2=>Q σ2 H2/\σ2.length=(Z.set i (Wv v)).length/\∀j,k<=j->σ2[j]? = (Z.set i (Wv v))[j]?):=by funext σ2 H2;rw[e1];refine propext ⟨λ⟨a,b,c⟩=>⟨a,b,λj hj=>(c j hj).trans (e2 j hj).symm⟩,λ⟨a,b,c⟩=>⟨a,b,λj hj=>(c j hj).trans (e2 j hj)⟩⟩
 rw[e3];exact z
theorem Zme{K:Yk}{n k:Nat}{u:TGs}(hu:Zi8 k u):Zl2 k (ZpN K n u):=by rintro x Z H Q ⟨a,xs,e,h1,h2,q⟩;exact⟨a,xs,e,h1,h2,hu xs Z H Q q⟩
def PIf(X:Cx)(ifs:List Expr)(t:TT):Prop:=
 ∀(pins:List (Yi×Obj)) (s:Yb) (Z:St) (H:Hp) (Q:Bool->Hp->Prop),Inv X pins Z H s->t Z H Q ->
  YB (model X.prog X.w) X.A (forIn ifs Wx λc r=>if r=Wx then do let ok <- isTrue c X.env (eval c X.env);pure (ForInStep.yield ok)else pure (ForInStep.yield r)) (TP X pins Z Q) X.xe s
noncomputable def ZuP:TT:=λ_ H Q=>Q Wx H
theorem Zo1{X:Cx}:PIf X [] ZuP:=λ_ _ _ H _ I h=>wpAny_tests_nil ⟨H,I,h⟩
theorem Zo0{X:Cx}{c:Expr}{t:TT}(hc:PT X c t):PIf X [c] t:=λpins s Z H Q I h=>wpAny_tests_one (hc pins s Z H Q I h)
noncomputable def Zqi(wi:TI)(js:List (Option Nat))(g:TG)(tc:TT)(te:TE):TE:=λZ H Q=>wi Z H λJ H1=>∀D,H1 D=Ww->∃W:Nat->Nat->List V->Hp->Prop,(∃m,W 0 m [] (upd H1 D (.lst []))) /\
 ∀i m ys H,W i m ys H->H D=Wv (.lst ys)->(J.stop i H/\Q (.ref D) H) \/
  (J.go i H/\ys.length<sizeLine/\∀x H',J.yld i H x H'->g x (capt js Z) H' λσ2 H2=>tc σ2 H2 λb H3=>
   if b=Wx then te σ2 H3 λy H4=>H4 D=Wv (.lst ys)/\∃m',m'<m/\W (i+1) m' (ys++[y]) (upd H4 D (.lst (ys++[y])))
   else H3 D=Wv (.lst ys)/\∃m',m'<m/\W (i+1) m' ys H3)
section
variable {X:Cx}{pins:List (Yi×Obj)}{Z:St}{H:Hp}{s:Yb}
theorem ZiD{NC:List Str}{js:List (Option Nat)}{sc scope:Scope}{C:Yi}{h4:YG}{tk:Nat}{fp:List Yi}{m:Str->Option Yj}(S_:CompSc NC X.N js sc scope)(hsc:X.env.scope=sc)(hc:X.calm=Wx)
 (I:Inv X pins Z H s) (f:∀b∈fp,Zbl X pins H b) (fo:∀b∈fp,∃o,s.heap.get? b=Wv o) (hC:C=s.heap.objs.size) (hns:h4.Ns C m) (hk:∀b o,s.heap.get? b=Wv o->h4.get? b=Wv o) :
 Inv (Zv X NC scope C s H fp) [] (capt js Z) H {s with heap:=h4,toks:=tk}:=by
 have hcells:∀y∈scope.names,y.2=.free->∃c,X.env.cells.lookup y.1=Wv c:=λy hy hf=>I.ok.has y.1 (.inl (show X.env.scope.names.lookup y.1=Wv .cell by rw[hsc];exact S_.free y hy hf));have cl1:∀x c,(ZcV X.env scope.names []).lookup x=Wv c->X.env.cells.lookup x=Wv c:=λx c e=>ZiT scope.names [] hcells (λ_ _ z=>by cases z) x c (YI e);have cl2:∀y∈scope.names,y.2=.free->∃c,(ZcV X.env scope.names []).lookup y.1=Wv c:=λy hy hf=>by obtain⟨c,hm⟩:=ZiU (env:=X.env) scope.names [] y hy hf;obtain⟨c',e,_⟩:=Zdq hm;exact⟨c',e⟩
 have kinds:∀x,(Zv X NC scope C s H fp).env.kindOf x=(scope.names.lookup x).map λk=>if (k==Yo&&X.env.scope.kind==.function&&X.env.kindOf x==Wv .cell)then NameKind.cell else k:=λx=>ZcR scope.names x;have fcell:∀x,scope.names.lookup x=Wv .free->(Zv X NC scope C s H fp).env.kindOf x=Wv .cell:=λx e=>by
  rw[kinds,e];have h1:X.env.kindOf x=Wv .cell:=show X.env.scope.names.lookup x=Wv .cell by rw[hsc];exact S_.free (x,.free) (YI e) rfl
  have h2:X.env.scope.kind=.function:=I.ok.kind;simp only[Yv,h1,h2];rfl
 have flt:∀b∈fp,b<s.heap.objs.size:=λb hb=>let ⟨o,e⟩:=fo b hb;Yn e;refine⟨⟨I.ok.mod,S_.kind,I.ok.glob,I.ok.blt,Nat.le_of_eq hC.symm,λx y c h1 h2=>I.ok.inj x y c (cl1 x c h1) (cl1 y c h2),λx hx=>?_,λx c hf _=>absurd (show Wy=Wx from hf) Ow,λ_=>I.ok.hd hc,I.ok.frames,.inl rfl,λb hb=>⟨?_,λx c e=>(f b hb).2.2.2.2.1 x c (cl1 x c e)⟩,
  I.bs,OE I.ok.bsz I.sz,λb o e hb=>?_,λb hb hm=>?_,I.stack,I.stkFree⟩,
  rfl,I.bare,Un.kept hk,⟨m,hns,λi x v h1 h2 h3=>?_⟩,λx c e=>?_,?_,λx c e=>I.freeC x c (cl1 x c e),λp hp=>absurd (show p∈([]:List (Yi×Obj))from hp) (by simp),I.hok.kept hk,?_⟩
 . rw[kinds]at hx;cases e:scope.names.lookup x with
   |none=>rw[e]at hx;rcases hx with hx|hx<;>cases hx
   |some k=>
    rw[e]at hx;have hm:=YI e;have hk:k=.free:=by
     by_cases hf:(k==Yo)=Wx
     . cases k<;>first|rfl|(exact absurd hf (by decide))
     . have hf':(k==Yo)=Wy:=Bool.eq_false_iff.mpr hf;simp only[Yv,hf',Bool.false_and,OG,if_false]at hx;rcases hx with hx|hx
       . exact absurd (YF hx) (S_.nocell _ hm)
       . exact YF hx
    exact cl2 (x,k) hm hk
 . show b≠C;rw[hC];exact Ou (flt b hb)
 . obtain⟨_,_,_,f3,_⟩:=f b hb;rcases f3 with z|z
   . exact I.ok.noex b o e z
   . exact absurd (O4 (Yn e) (OE I.ok.bsz z)) (Yw _)
 . obtain⟨_,f1,f2,_⟩:=f b hb;exact(O3.mp (I.stkSub b hm)).elim f1 f2
 . have hj:∃j,js[i]? = Wv (Wv j)/\Z[j]? = Wv (Wv v):=by
    unfold capt at h2;rw[On]at h2;cases e:js[i]? with
    |none=>rw[e]at h2;cases h2
    |some o=>
     rw[e]at h2;have h2':(o.bind λj=>(Z[j]?).join)=Wv v:=YF h2;cases o with
     |none=>cases h2'
     |some j=>
      refine⟨j,rfl,?_⟩;have h3':(Z[j]?).join=Wv v:=h2';cases q:Z[j]? with
      |none=>rw[q]at h3';cases h3'
      |some r=>rw[q]at h3';rw[show r=Wv v from h3']
   obtain⟨j,hj,hσ⟩:=hj;obtain⟨hN,hfr⟩:=S_.at (show NC[i]? = Wv x from h1) hj;have hcell:X.env.scope.names.lookup x=Wv .cell:=by rw[hsc];exact S_.free (x,.free) (YI hfr) rfl
   obtain⟨m0,_,hl⟩:=I.loc;obtain⟨u,r,l⟩:=hl j x v hN hσ (.inr (.inl hcell));refine⟨u,r,?_⟩;rcases l with ⟨k,_⟩|⟨_,c,e,z⟩
   . rw[show X.env.kindOf x=Wv .cell from hcell]at k;cases k
   . obtain⟨c',e'⟩:=cl2 (x,.free) (YI hfr) rfl;have ec:=cl1 x c' e';rw[e]at ec;cases ec;obtain⟨o,ho,hd⟩:=z;exact .inr ⟨.inl (fcell x hfr),c,e',o,hk _ _ ho,hd⟩
 . obtain⟨v,o,ho,hd⟩:=I.cell x c (cl1 x c e);exact⟨v,o,hk _ _ ho,hd⟩
 . show H C=Ww;rw[hC];exact I.hok.fresh (Oq _)
 . unfold capt;rw[Yu];exact S_.len
end
section
variable {X:Cx}{elt tg iter:Expr}{ifs:List Expr}{scope sc:Scope}{pos:Pos}{NC:List Str}{js:List (Option Nat)}{k:Nat}{wi:TI}{g:TG}{tc:TT}{te:TE}
theorem Inv.comp_out{pins:List (Yi×Obj)}{Z σ':St}{H3 H':Hp}{s3 s1:Yb}{C:Yi}{fp:List Yi}{h'':YG}(I3:Inv X pins Z H3 s3)(f:∀b∈fp,Zbl X pins H3 b)(hC:C=s3.heap.objs.size)
 (I':Inv (Zv X NC scope C s3 H3 fp) [] σ' H' s1) (hs:Heap.SameBut C s1.heap h''):Inv X pins Z H' {s1 with heap:=h''}:=by
 have ne:∀b o,s3.heap.get? b=Wv o->b≠C:=λb o e=>by rw[hC];exact Ou (Yn e)
 have u:=I'.base;refine I3.call' (s':={s1 with heap:=h''}) (ch:=fp) I'.os ⟨λb o e n hb hx=>(hs.2 b (ne b o e)).trans (u.keep b o e n hb hx),λb o e n hb hx=>?_,u.free,λb o e hx=>?_,u.tups,u.frzs,u.tbls⟩ ?_ I'.bare λb hb=>?_
 . obtain⟨sl,q⟩:=u.slot b o e n hb hx;exact⟨sl,(hs.2 b (ne b o e)).trans q⟩
 . obtain⟨o',q⟩:=u.there b o e hx;exact⟨o',(hs.2 b (ne b o e)).trans q⟩
 . have hfree:H' C=Ww:=I'.free;intro b ob e;refine(I'.hok b ob e).stay (λc w' hc q=>(hs.2 c ?_).trans q) (λ_ q=>q) λ_ _ q=>q;rintro rfl;rcases hc with rfl|hc
   . rw[hfree]at e;cases e
   . rw[hfree]at hc;cases hc
 . obtain⟨_,f1,_,f3,f4,f5⟩:=f b hb;exact⟨f3,f1,f4,f5⟩
theorem ZgE{pins:List (Yi×Obj)}{Z:St}{H3:Hp}{s3 s4:Yb}{C Dd it:Yi}{fp:List Yi}{tn:Nat->YG->Prop}{J:It}{W:Nat->Nat->List V->Hp->Prop}{Q:VK}{m0:Nat}{post:Result->Yb->Prop}
 (hb:∀(pins:List (Yi×Obj)) (Z:St) (C:Yi) (s3:Yb) (H3:Hp) (fp:List Yi),Inv X pins Z H3 s3->(∀b∈fp,Zbl X pins H3 b)->C=s3.heap.objs.size->PG (Zv X NC scope C s3 H3 fp) tg g/\PIf (Zv X NC scope C s3 H3 fp) ifs tc/\PE (Zv X NC scope C s3 H3 fp) elt te)
 (hk:Zl2 k g) (hjk:∀j,j<k->js[j]? = Wv Ww) (hC:C=s3.heap.objs.size) (I3:Inv X pins Z H3 s3) (f3:∀b∈fp,Zbl X pins H3 b) (fpl:∀b∈fp,∃o,s3.heap.get? b=Wv o) (I4:Inv (Zv X NC scope C s3 H3 fp) [] (capt js Z) H3 s4) (T:Turn X.prog X.w X.K tg J fp it tn) (st4:tn 0 s4.heap) (hD0:H3 Dd=Wv (.lst [])) (w0:W 0 m0 [] H3)
 (turn:∀i m ys H,W i m ys H->H Dd=Wv (.lst ys)->(J.stop i H/\Q (.ref Dd) H)\/(J.go i H/\ys.length<sizeLine/\∀x H',J.yld i H x H'->g x (capt js Z) H' λσ2 H2=>tc σ2 H2 λb H3=>if b=Wx then te σ2 H3 λy H4=>H4 Dd=Wv (.lst ys)/\∃m',m'<m/\W (i+1) m' (ys++[y]) (upd H4 Dd (.lst (ys++[y])))else H3 Dd=Wv (.lst ys)/\∃m',m'<m/\W (i+1) m' ys H3))
 (stp:∀s6 H5,Inv (Zv X NC scope C s3 H3 fp) [] (capt js Z) H5 s6->Q (.ref Dd) H5->post (.ok .next) s6) (er:∀e s',(∃m,s'.heap.Ns C m/\∀h',Heap.SameBut C s'.heap h'->∀cenv:Env,cenv.locals=C->YB (model X.prog X.w) X.A (passOn "comprehension.variables-let-go" e cenv:Sem Yj) (λ_ _=>False) X.xe {s' with heap:=h'})->post (.error e) s') :
 codeAny (model X.prog X.w) X.A (.compLoop (.ListComp elt [⟨tg,iter,ifs,0⟩] scope pos) 0 (.ref it) (.ref Dd) (compEnvC scope (ZcV X.env scope.names []) C X.env)) post s4:=by
 have stat:∀{H':Hp},(∀b∈fp,H' b=Ww)->∀b∈fp,Zbl (Zv X NC scope C s3 H3 fp) [] H' b:=λhn b hb=>⟨hn b hb,(by rw[hC];exact Ou (let ⟨o,e⟩:=fpl b hb;Yn e)),λhm=>I4.ok.exfs b hb hm,.inl hb,λx c e=>(I4.ok.exf b hb).2 x c e,λp hp=>absurd (show p∈([]:List (Yi×Obj))from hp) (by simp)⟩
 have er':∀e s',xeC X scope C e s'->notedBy (model X.prog X.w) X.A (compEnvC scope (ZcV X.env scope.names []) C X.env) (λe s'=>post (.error e) s') e s':=λe s' z=>Yf z (λ_ s'' q=>er e s'' q) λe' s'' q=>er e' s'' q;refine ZiR (λn s'=>∃i ys H',Inv (Zv X NC scope C s3 H3 fp) [] (capt js Z) H' s'/\tn i s'.heap/\(∀b∈fp,H' b=Ww)/\H' Dd=Wv (.lst ys)/\W i n ys H') ?_ m0
  ⟨0,[],_,I4,st4,λb hb=>(f3 b hb).1,hD0,w0⟩
 rintro n s5 ⟨i,ys,H5,I5,st5,fr5,hD5,w5⟩;rcases turn i n ys H5 w5 hD5 with ⟨stop,qn⟩|⟨go,hlen,step⟩
 . refine Yf (T.done (Zv X NC scope C s3 H3 fp) rfl rfl rfl rfl i [] s5 (capt js Z) H5 (λ_ _=>False) I5 (stat fr5) st5 stop) (λr s6 ⟨hr,I6⟩=>?_) λ_ _ z=>z.elim;subst hr;exact stp s6 H5 I6 qn
 . refine Yf (T.item (Zv X NC scope C s3 H3 fp) rfl rfl rfl rfl i [] s5 (capt js Z) H5 (λ_ _=>False) I5 (stat fr5) st5 go) (λr s6 ⟨u,hr,h6⟩=>?_) λ_ _ z=>z.elim;subst hr;refine Yf h6 (λ_ s7 ⟨x,H7,I7,r7,y7,st7,fr7⟩=>?_) λ_ _ z=>z.elim;have I7':=I7.pinned (stat fr7) (T.obj _ _ st7);obtain⟨pg,pif,pe⟩:=hb pins Z C s3 H3 fp I3 f3 hC;refine Yf (pg _ s7 (capt js Z) H7 x u _ I7' r7 (hk _ _ _ _ (step x H7 y7))) (λ_ s8 ⟨σ8,H8,I8,q8,l8,k8⟩=>?_) er';have back:∀{H9:Hp}{s9:Yb},Inv (Zv X NC scope C s3 H3 fp) ([]++ZfA fp s7.heap) σ8 H9 s9 ->
    Inv (Zv X NC scope C s3 H3 fp) [] (capt js Z) H9 s9/\tn (i+1) s9.heap/\∀b∈fp,H9 b=Ww:=λ{H9 s9} I9=>by
    refine⟨(I9.unpinned).weak l8.symm λj v e=>?_,T.keep _ _ _ st7 λb hb o e=>(I9.pin (b,o) (Ov _ (Ov _ (Zcp hb e)))).1,λb hb=>?_⟩
    . by_cases hj:j<k
      . unfold capt at e;rw[On,hjk j hj]at e;cases e
      . rw[k8 j (Nat.le_of_not_lt hj)];exact e
    . obtain⟨o,e,d⟩:=T.obj _ _ st7 b hb;exact(I9.pin (b,o) (Ov _ (Ov _ (Zcp hb e)))).2.1
   refine Yf (pif _ s8 σ8 H8 _ I8 q8) (λok s9 ⟨H9,I9,q9⟩=>?_) er';cases ok with
   |false=>rw[if_neg Ow]at q9 ⊢;obtain⟨hD9,m',hm,w9⟩:=q9;obtain⟨b1,b2,b3⟩:=back I9;exact⟨m',hm,i+1,ys,H9,b1,b2,b3,hD9,w9⟩
   |true=>
    rw[if_pos rfl]at q9 ⊢;refine Yf (pe _ s9 σ8 H9 _ I9 q9) (λy s10 ⟨v,H10,I10,r10,hD10,m',hm,w10⟩=>?_) er';refine Yf (Zgz (X:=Zv X NC scope C s3 H3 fp) _ s10 σ8 H10 (.ref Dd) [v] (.ref Dd) [y]
     (λ_ H11=>H11=upd H10 Dd (.lst (ys++[v]))) I10 rfl (.cons r10 .nil) ⟨_,ys,v,rfl,rfl,hD10,hlen,rfl⟩) (λ_ s11 ⟨_,H11,I11,_,e11⟩=>?_) er'
    subst e11;obtain⟨b1,b2,b3⟩:=back I11;exact⟨m',hm,i+1,ys++[v],_,b1,b2,b3,Zl,w10⟩
theorem Zo9(S_:CompSc NC X.N js sc scope)(hsc:X.env.scope=sc)(hc:X.calm=Wx)(hi:PI X tg iter wi)
   (hb:∀ (pins:List (Yi×Obj)) (Z:St) (C:Yi) (s3:Yb) (H3:Hp) (fp:List Yi),Inv X pins Z H3 s3->(∀ b∈fp,Zbl X pins H3 b)->C=s3.heap.objs.size->PG (Zv X NC scope C s3 H3 fp) tg g/\PIf (Zv X NC scope C s3 H3 fp) ifs tc/\PE (Zv X NC scope C s3 H3 fp) elt te)
   (hk:Zl2 k g) (hjk:∀ j,j<k->js[j]? = Wv Ww) (hs:∀ x,foldedSetIterable iter X.env x=pure x:=by intro _;rfl) :
   PE X (.ListComp elt [⟨tg,iter,ifs,0⟩] scope pos) (Zqi wi js g tc te):=by
 intro pins s Z H Q I h;have hcells:∀ y∈scope.names,y.2=.free->∃ c,X.env.cells.lookup y.1=Wv c:=fun y hy hf=>I.ok.has y.1 (.inl (show X.env.scope.names.lookup y.1=Wv .cell by rw [hsc];exact S_.free y hy hf));rw [eval_ListComp];refine wpAny_comprehension_free (use:=Ww) rfl hs (Zdv hcells) S_.kind S_.locs (thn (hi pins s Z H _ I h) fun xv s1 h1=>thn h1 fun itv s2 h2=>?_);obtain ⟨it,fp,tn,J,H2,e,I2,T,st2,f2,rest⟩:=h2;subst e;have hD:H2 s2.heap.objs.size=Ww:=I2.hok.fresh (Oq _);obtain ⟨W,⟨m0,w0⟩,turn⟩:=rest s2.heap.objs.size hD;refine Yr (wpAny_newFunctionEnv S_.nocell (by intro y hy;simp at hy) (fun h4 hns hsb=>?_) S_.kind);have I3:Inv X pins Z (upd H2 s2.heap.objs.size (.lst [])) {s2 with heap:=s2.heap.push {cls:=.type "list",dict:=Ww,data:=.seq ([]:List Yj).toArray}}:=I2.lnew (t':=s2.toks) (ys:=[]) (its:=[]) .nil (Yy _);dsimp only at hns hsb ⊢;generalize hs3:({s2 with heap:=s2.heap.push {cls:=.type "list",dict:=Ww,data:=.seq ([]:List Yj).toArray}}:Yb)=s3 at I3;have eh:s2.heap.push {cls:=.type "list",dict:=Ww,data:=.seq ([]:List Yj).toArray}=s3.heap:=by rw [<- hs3]
 have eD:s2.heap.objs.size<s3.heap.objs.size:=by rw [<- eh,Heap.size_push];exact OH _
 rw [eh] at hns hsb;have keep:∀ b o,s3.heap.get? b=Wv o->h4.get? b=Wv o:=fun b o e=>(hsb.2 b (Ou (Yn e))).trans (O1 _ e);have fpl:∀ b∈fp,∃ o,s3.heap.get? b=Wv o:=fun b hb=>by
   obtain ⟨o,e,_⟩:=T.obj 0 _ st2 b hb;exact ⟨o,by rw [<- eh];exact O1 _ e⟩
 have neD:∀ b∈fp,b≠s2.heap.objs.size:=fun b hb=>by
   obtain ⟨o,e,_⟩:=T.obj 0 _ st2 b hb;exact Ou (Yn e)
 have f3:∀ b∈fp,Zbl X pins (upd H2 s2.heap.objs.size (.lst [])) b:=fun b hb=>⟨by rw [Ze (neD b hb)];exact (f2 b hb).1,(f2 b hb).2⟩
 have I4:=ZiD (tk:=s2.toks+([]:List (Str×Yj)).length) S_ hsc hc I3 f3 fpl rfl hns keep;have st4:tn 0 h4:=T.keep 0 _ _ st2 fun b hb o e=>keep b o (by rw [<- eh];exact O1 _ e);have eC:(s2.heap.push {cls:=.type "list",dict:=Ww,data:=.seq ([]:List Yj).toArray}).objs.size=s3.heap.objs.size:=by rw [eh]
 have loop:∀ s4:Yb,s4={s3 with heap:=h4,toks:=s2.toks+([]:List (Str×Yj)).length} ->
     codeAny (model X.prog X.w) X.A (.compLoop (.ListComp elt [⟨tg,iter,ifs,0⟩] scope pos) 0 (.ref it) (.ref s2.heap.objs.size) (compEnvC scope (ZcV X.env scope.names []) s3.heap.objs.size X.env))
       (compPost (model X.prog X.w) X.A X.xe Ww (EP X pins Z Q) (.ref s2.heap.objs.size) s3.heap.objs.size) s4:=by
   rintro s4 rfl;exact ZgE hb hk hjk rfl I3 f3 fpl I4 T st4 Zl w0 turn (fun s6 H5 I6 qn=>by
     obtain ⟨m,hm,_⟩:=I6.loc;exact ⟨m,hm,fun h' hs'=>⟨.ref s2.heap.objs.size,H5,I3.comp_out f3 rfl I6 hs',rfl,qn⟩⟩) (fun _ _ z=>z)
 have e4:({s2 with heap:=h4,toks:=s2.toks+([]:List (Str×Yj)).length}:Yb)={s3 with heap:=h4,toks:=s2.toks+([]:List (Str×Yj)).length}:=by rw [<- hs3]
 rw [eC];exact codeAny_compStart_list (loop _ e4) (T.self X.A 0 _ _ _ st4 (loop _ e4))
end
end L2
end
section
namespace L2
open PySem PySem.Spec PyProof.Rows
section
variable {X:Cx}
def TyN(K:Yk)(x:V)(H:Hp)(t:String):Prop:=match x with
 |.int _=>t = "int"
 |.str _=>t = "str"
 |.bl _=>t = "bool"
 |.non=>t = "NoneType"
 |.ref p=>(t = "list" /\ ∃xs,SqL K H p xs)\/(t = "tuple" /\ ∃xs,SqT K H p xs)
 |_=>False
theorem Zn0:Zcl X (.builtin "isinstance") (λxs H Q=>∃x t T b,xs=[x,.ty T]/\TyN X.K x H t/\PySem.W.kitOne X.K (.type t) (.type T)=Wv b/\Q (.bl b) H):=by
 intro pins s Z H xs us Q I r h;obtain⟨x,t,T,b,rfl,ty,e,q⟩:=h;obtain⟨u,w',rfl,rx,rT⟩:=vals2 r;obtain rfl:w'=Value.type T:=rT;have fin:∀tk,EP X pins Z Q (.bool b) {s with toks:=tk}:=λtk=>⟨.bl b,H,I.tok tk,rfl,q⟩
 cases x with
 |int i=>obtain⟨tk,rfl⟩:=rx;obtain rfl:t = "int" := ty;exact PySem.W.kia_one PySem.W.kitx_int I.kIn trivial e (by intro z;cases z) fin
 |str i=>obtain⟨tk,rfl⟩:=rx;obtain rfl:t = "str" := ty;exact PySem.W.kia_one PySem.W.kitx_str I.kIn trivial e (by intro z;cases z) fin
 |bl i=>obtain rfl:u=Value.bool i:=rx;obtain rfl:t = "bool" := ty;exact PySem.W.kia_one PySem.W.kitx_bool I.kIn trivial e (by intro z;cases z) fin
 |non=>obtain rfl:u=Value.none:=rx;obtain rfl:t = "NoneType" := ty;exact PySem.W.kia_one PySem.W.kitx_none I.kIn trivial e (by intro z;cases z) fin
 |ref p=>
  obtain rfl:u=YD p:=rx;rcases ty with ⟨rfl,xs,hx⟩|⟨rfl,xs,hx⟩
  . obtain⟨its,_,pl,_⟩:=I.list hx;exact PySem.W.kia_one PySem.W.kitx_list I.kIn pl.isList.typeIs e (by intro z;cases z) fin
  . obtain⟨its,_,pl,_⟩:=I.tuple hx;exact PySem.W.kia_one PySem.W.kitx_tuple I.kIn pl.typeIs e (by intro z;cases z) fin
 |_=>exact(show False from ty).elim
theorem ZlI{K:Yk}{t T:String}{b:Bool}(h:PySem.W.kitOne [] (.type t) (.type T)=Wv b):PySem.W.kitOne K (.type t) (.type T)=Wv b:=h
def Zvc:V->Option Int->Option Int->Hp->VK->Prop:=λx lo hi H Q=>∃y,x=.str y/\y.length<=sizeLine/\Q (.str (Yq y lo hi)) H
theorem Zq3:SlR X Zvc:=by
 intro pins s Z H x v vl vu lo hi sl Q I rx hs pl pu h;obtain⟨y,rfl,hz,q⟩:=h;obtain⟨t,rfl⟩:=rx;refine⟨"str",_,F.slot_str_getitem.lookup,typeIs_str _ _ _,?_⟩;have go:∀(l u:Option (Int×Tok)),vl=partValue l->vu=partValue u->lo=l.map (·.1)->hi=u.map (·.1)->YB (model X.prog X.w) X.A (getItem (.str y t) (.ref sl)) (EP X pins Z Q) X.xe s:=by rintro l u rfl rfl rfl rfl;refine wpAny_getItem_str_slice (l:=l) (u:=u) (st:=Ww) hs rfl ?_;refine post_val_or_str ⟨OE (Txt.slice_le y _ _) hz,λt' k=>⟨.str _,H,I.tok k,⟨t',rfl⟩,q⟩⟩
 cases pl with
 |none=>
  cases pu with
  |none=>exact go Ww Ww rfl rfl rfl rfl
  |int j tj=>exact go Ww (Wv (j,tj)) rfl rfl rfl rfl
 |int i ti=>
  cases pu with
  |none=>exact go (Wv (i,ti)) Ww rfl rfl rfl rfl
  |int j tj=>exact go (Wv (i,ti)) (Wv (j,tj)) rfl rfl rfl rfl
end
end L2
end
section
namespace L2
open PySem PySem.Spec PyProof.Rows
theorem Zai.there{P:Yh}{w:Yg}{H:Hp}{h:YG}{a:Yi}{o:HO}(x:Zai P w H h a o):∃ob,h.get? a=Wv ob:=by
 cases o with
 |lst xs=>obtain⟨_,_,_,_,e⟩:=x;exact⟨_,e⟩
 |tup xs=>obtain⟨_,_,_,ob,e,_⟩:=x;exact⟨_,e⟩
 |dK kvs=>obtain⟨_,_,_,_,o,_,_,e,_⟩:=x;exact⟨_,e⟩
 |dT kvs=>obtain⟨_,_,_,_,o,_,_,e,_⟩:=x;exact⟨_,e⟩
 |set S_ n=>obtain⟨o,_,_,_,e,_⟩:=x;exact⟨_,e⟩
 |ins C dx fs=>obtain⟨_,_,_,e,_⟩:=x;exact⟨_,e⟩
 |own y=>obtain⟨_,e⟩:=x;exact⟨_,e⟩
 |xd fs=>obtain⟨_,⟨_,_,_,e,_⟩,_⟩:=x;exact⟨_,e⟩
 |rng lo hi=>obtain⟨_,_,_,e⟩:=x;exact⟨_,e⟩
 |frz ob u=>obtain⟨e,_⟩:=x;exact⟨_,e⟩
 |tbl ps=>exact⟨_,(show h.get? a=Wv _ from x)⟩
 |met f y=>exact⟨_,(show h.get? a=Wv _ from x)⟩
 |ext φ=>obtain⟨_,⟨_,e⟩,_⟩:=x;exact⟨_,e⟩
def Kept(fs:List Yi)(H':Hp)(h h1 B_:YG):Prop:=∀b o,h1.get? b=Wv o->(H' b≠Ww\/((∃o',h.get? b=Wv o')/\b ∉ fs))->B_.get? b=Wv o
noncomputable def CXF(P:Yh)(w:Yg):CXT:=λouter H s E e s'=>
 ∃(a:Yi) (cls a0:Yj) (H':Hp) (B_:YG),e=.ref a/\s'.os=s.os/\AllBare s'.gens/\Un (frs outer) [] H H' s.heap s'.heap/\HOk P w H' s'.heap /\
  Heap.FlyingW B_ outer a cls a0 s'.heap/\Kept (frs outer) H' s.heap s'.heap B_/\H' a=Ww/\E cls Ww H'
theorem ZdD{P:Yh}{w:Yg}{fs:List Yi}{H H':Hp}{h h1 h2 B_:YG}(un:Un fs [] H H' h h1)(hok:HOk P w H' h1)(kb:Kept fs H' h h1 B_)(stay:B_.StaysIn h2)(up:h1.UpToSlots h2)
 (hf:∀b∈fs,∃o,h1.get? b=Wv o/\∀vs,o.data≠.fields vs):Un fs [] H H' h h2/\HOk P w H' h2/\Kept fs H' h h2 B_:=by
 have tr:∀b u,H' b=Wv u->∃o,h1.get? b=Wv o/\h2.get? b=Wv o/\B_.get? b=Wv o:=λb u e=>by obtain⟨o,q⟩:=(hok b u e).there;have z:=kb b o q (.inl (by rw[e];simp));exact⟨o,q,stay _ _ z,z⟩
 have old:∀b o,h.get? b=Wv o->b ∉ fs->∃o1,h1.get? b=Wv o1/\h2.get? b=Wv o1/\B_.get? b=Wv o1:=λb o e hb=>by obtain⟨o1,q⟩:=un.there b o e (by simp);have z:=kb b o1 q (.inr ⟨⟨o,e⟩,hb⟩);exact⟨o1,q,stay _ _ z,z⟩
 refine⟨⟨λb o e n hb _=>?_,λb o e n hb _=>?_,λb o e n _=>un.free b o e n (by simp),λb o e _=>?_,un.tups,un.frzs,un.tbls⟩,λb u e=>?_,λb o e hb=>?_⟩
 . obtain⟨o1,q1,q2,_⟩:=old b o e hb;have z:=un.keep b o e n hb (by simp);rw[q1]at z;cases z;exact q2
 . obtain⟨sl,z⟩:=un.slot b o e n hb (by simp);obtain⟨o',z',nf⟩:=hf b hb;rw[z]at z';cases z';obtain⟨sl',q⟩:=up b _ z nf;exact⟨sl',q⟩
 . by_cases hb:b∈fs
   . obtain⟨o',z',nf⟩:=hf b hb;obtain⟨sl',q⟩:=up b _ z' nf;exact⟨_,q⟩
   . obtain⟨o1,_,q2,_⟩:=old b o e hb;exact⟨_,q2⟩
 . refine(hok b u e).stay (λc v hc q=>?_) (λ_ q=>q) λ_ _ q=>q;have hc':∃u',H' c=Wv u':=by
    rcases hc with rfl|hc
    . exact⟨u,e⟩
    . exact⟨_,hc⟩
   obtain⟨u',e'⟩:=hc';obtain⟨o,q1,q2,_⟩:=tr c u' e';rw[q]at q1;cases q1;exact q2
 . rcases hb with hb|⟨⟨o',e'⟩,hb⟩
   . cases q:H' b with
     |none=>exact absurd q hb
     |some u=>obtain⟨o1,q1,q2,q3⟩:=tr b u q;rw[e]at q2;cases q2;exact q3
   . obtain⟨o1,q1,q2,q3⟩:=old b o' e' hb;rw[e]at q2;cases q2;exact q3
def ZhP(X:Cx)(E:XK):Prop:=∀(pins:List (Yi×Obj)) (Z:St) (H:Hp) (s:Yb) (h':YG) (e:Yi) (cls:Yj) (vs:List Yj),Inv X pins Z H s->Heap.MadeExcOf s.heap h' e cls vs->E cls Ww H->X.xe (.ref e) {s with heap:=h'}
section
variable {P:Yh}{w:Yg}{K:Yk}{mg:Str->Option Yj}{base:YG}{N:List Str}{qual:Str}{scope:Scope}{f:Yi}{cd:Yj}{A:YH}{outer:List Env}{s0:Yb}{H0:Hp}{E:XK}
theorem Zmt:ZhP (Zer (CXF P w) P w K mg base N qual scope f cd A outer s0 H0 E) E:=by
 intro pins Z H s h' e cls vs I hx hE;have hfr:(A.deeper (envOfC qual scope s0.heap.objs.size f cd)).frames=Wv (envOfC qual scope s0.heap.objs.size f cd::outer):=I.ok.frames;have hin:∀env∈(envOfC qual scope s0.heap.objs.size f cd::outer),∀b,env.frame=Wv b->b∈(envOfC qual scope s0.heap.objs.size f cd::outer).filterMap (·.frame):=λenv he b hb=>List.mem_filterMap.mpr ⟨env,he,hb⟩;have hst:s.heap.FunFrames base (envOfC qual scope s0.heap.objs.size f cd::outer):=I.stack;show YB (model P w) (A.deeper (envOfC qual scope s0.heap.objs.size f cd)) (leaving (envOfC qual scope s0.heap.objs.size f cd) (.ref e)) _ _ {s with heap:=h'};refine wpAny_leaves_madeW (s:={s with heap:=h'}) (base:=Wb s.heap (frs (envOfC qual scope s0.heap.objs.size f cd::outer))) hfr rfl (λb o q=>PySem.W.of_hideAll _ q) (PySem.W.funFrames_hide hst hin) hx λh'' t x1 x2 x3 x4=>?_;have un:Un (frs outer) [] H0 H s0.heap h':=(I.base:Un (frs outer) [] H0 H s0.heap s.heap).trans (Un.kept hx.keeps);have hok:HOk P w H h':=I.hok.kept hx.keeps;have kb:Kept (frs outer) H s0.heap h' (Wb s.heap (frs (envOfC qual scope s0.heap.objs.size f cd::outer))):=λb o e1 hb=>by
  rcases hb with hb|⟨⟨o',e'⟩,hb⟩
  . cases q:H b with
    |none=>exact absurd q hb
    |some u=>
     obtain⟨o1,q1⟩:=(I.hok b u q).there;have q2:=hx.keeps b o1 q1;rw[e1]at q2;cases q2;exact PySem.W.hideAll_get _ q1 λhm=>by have z:H b=Ww:=I.stkFree b hm;rw[q]at z;cases z
  . obtain⟨o1,q1⟩:=(I.base:Un (frs outer) [] H0 H s0.heap s.heap).there b o' e' (show b ∉ ([]:List Yi)from List.not_mem_nil);have q2:=hx.keeps b o1 q1;rw[e1]at q2;cases q2;refine PySem.W.hideAll_get _ q1 λhm=>?_;have hm':b∈s0.heap.objs.size::frs outer:=I.stkSub b hm;rcases O3.mp hm' with z|z
    . rw[z]at e';exact absurd (Yn e') (Yw _)
    . exact hb z
 have hfo:∀b∈frs outer,∃o,h'.get? b=Wv o/\∀vs,o.data≠.fields vs:=λb hb=>by obtain⟨_,o,q,nf⟩:=I.funs.mem hb;exact⟨o,hx.keeps _ _ q,nf⟩
 obtain⟨r1,r2,r3⟩:=ZdD un hok kb x1.1 x4 hfo;refine⟨e,cls,_,H,_,rfl,I.os,I.bare,r1,r2,x1,r3,?_,hE⟩;cases q:H e with
 |none=>rfl
 |some u=>obtain⟨o1,q1⟩:=(I.hok e u q).there;rw[hx.new]at q1;cases q1
theorem Zpc{E1:XK}(h:∀cls H',E1 cls Ww H'->E cls Ww H'):ZaL (CXF P w) (Zer (CXF P w) P w K mg base N qual scope f cd A outer s0 H0 E) E1:=by
 intro pins Z H s e s' I hx;obtain⟨a,cls,a0,H',B_,rfl,os,bare,un,hok,fl,kb,ha,hE⟩:=hx;have I':=I.call' (ch:=[]) os un hok bare (λb z=>absurd z (by simp));have hfr:(A.deeper (envOfC qual scope s0.heap.objs.size f cd)).frames=Wv (envOfC qual scope s0.heap.objs.size f cd::outer):=I.ok.frames;show YB (model P w) (A.deeper (envOfC qual scope s0.heap.objs.size f cd)) (leaving (envOfC qual scope s0.heap.objs.size f cd) (.ref a)) _ _ s';refine wpAny_leaves_onW hfr rfl fl λh'' x1 x4=>?_;have kb':Kept (frs outer) H' s0.heap s'.heap B_:=λb o e1 hb=>by
  refine kb b o e1 ?_;rcases hb with hb|⟨⟨o',e'⟩,hb⟩
  . exact .inl hb
  . obtain⟨o1,q1⟩:=(I.base:Un (frs outer) [] H0 H s0.heap s.heap).there b o' e' (show b ∉ ([]:List Yi)from List.not_mem_nil);refine .inr ⟨⟨o1,q1⟩,λhm=>?_⟩;have hm':b∈s0.heap.objs.size::frs outer:=I.stkSub b hm;rcases O3.mp hm' with z|z
    . rw[z]at e';exact absurd (Yn e') (Yw _)
    . exact hb z
 have hfo:∀b∈frs outer,∃o,s'.heap.get? b=Wv o/\∀vs,o.data≠.fields vs:=λb hb=>by obtain⟨_,o,q,nf⟩:=I'.funs.mem hb;exact⟨o,q,nf⟩
 obtain⟨r1,r2,r3⟩:=ZdD (I'.base:Un (frs outer) [] H0 H' s0.heap s'.heap) hok kb' x1.1 x4 hfo;exact⟨a,cls,a0,H',B_,rfl,I'.os,bare,r1,r2,x1,r3,ha,h _ _ hE⟩
end
theorem Zgw{P:Yh}{w:Yg}{X:Cx}:ZaL (CXF P w) X E0:=λ_ _ _ _ _ _ _ h=>by obtain⟨_,_,_,_,_,_,_,_,_,_,_,_,_,z⟩:=h;exact z.elim
end L2
end
section
namespace L2
open PySem PySem.Spec PyProof.Rows
theorem ZpS{K:Yk}{h:YG}{C:Yi}{bmB:List Yj}{newId:String}(X:K.In h)(q:PySem.W.excIn K C bmB newId=Wx):
 ∃bm N nm qn bs hdct sn sub ab col dd k0 k1 k2 k3 k5 mN,h.get? C=Wv (excClassObj nm qn C N bs bm hdct sn sub ab col dd k0 k1 k2 k3 k5 newId)/\h.Ns N mN/\mN "__init__" = Ww/\OwnTail h bmB bm:=by
 unfold PySem.W.excIn at q;split at q
 . rename_i dd cd sl ho;split at q
   . rename_i C' bm k0 k1 k2 k3 n k5 hm hs;simp only[Oa,beq_iff_eq,Bool.not_eq_true']at q;obtain⟨⟨⟨⟨⟨rfl,rfl⟩,hdel⟩,ht⟩,hok⟩,hni⟩:=q;obtain⟨nm,bs,mro,ns,qn,hd,sn,sub,ab,col,del⟩:=cd;dsimp only at hm hdel hok hni;subst hm hdel;have hsl:sl=#[k0,k1,k2,k3,Wv (.builtin n),k5]:=by obtain⟨l⟩:=sl;simp only at hs;rw[hs]
     subst hsl;exact⟨bm,ns,nm,qn,bs,hd,sn,sub,ab,col,dd,k0,k1,k2,k3,k5,_,X _ _ ho,.of_isNs (PySem.W.isNs_of_in X hok),PySem.W.nsMap_none_of_in X hok hni,PySem.W.tail_of_in X ht⟩
   . cases q
 . cases q
section
variable {X:Cx}{x:Str}{C:Yi}{bmB:List Yj}{B_ newId initId:String}{np cpos pos:Pos}{e:Expr}{es:List Expr}{t:TA}{E:XK}
noncomputable def ZqW(C:Yi)(E:XK)(t:TA):TS:=λ_ Z H=>t Z H λvs H1=>vs.length<=sizeLine/\E (.ref C) Ww H1
theorem ZmK(hR:ZhP X E)(hc:X.calm=Wx)(FB:ExcBaseFacts B_ newId initId bmB)(hg:Gl X x)(hm:X.mg x=Wv (.ref C))(hq:PySem.W.excIn X.K C bmB newId=Wx)(ha:PA X (e::es) t)
 (hdb:(x==("__debug__" : Str))=Wy:=by decide) (he:YA (e::es) X.env=(Wy,eval e X.env)::YA es X.env:=by rfl) (hpl:(YS cpos (YA es X.env)).any (·.1)=Wy:=by rfl) :
 PS X (.Raise (Wv (.Call (.Name x np) (e::es) [] cpos)) Ww pos) (ZqW C E t):=by
 intro pins s Z H D I h;obtain⟨tl,N,nm,q,bs,hdct,sn,sub,ab,col,dd,k0,k1,k2,k3,k5,mN,hC,hN,hni,T⟩:=ZpS I.mod.kin hq;refine wpAny_Raise_call_subT (C:=C) (nm:=nm) (q:=q) (N:=N) (bs:=bs) (bm:=tl) (hdct:=hdct) (sn:=sn) (sub:=sub) (ab:=ab) (col:=col) (dd:=dd) (k0:=k0) (k1:=k1) (k2:=k2) (k3:=k3) (k5:=k5)
  FB (mN:=mN) (T.hasType FB.hasBase) (I.ok.hd hc) (by rw[he];show(Wy || (YS cpos (YA es X.env)).any (·.1))=Wy;rw[hpl];rfl) hni (Zcr I hg hm ⟨rfl,?_⟩ hdb)
 have h1:=ha cpos pins s Z H _ I h;rw[he]at h1 ⊢;refine Calls.evalArgs_plain (thn h1 λus s2 ⟨vs,H2,I2,r2,hl,hE⟩=>?_);exact⟨rfl,by rw[<- r2.length];exact hl,I2.bk _ _ hC,hN.keeps I2.bk,T.keeps I2.bk,λh' a hmade=>hR pins Z H2 s2 h' a _ us I2 hmade hE⟩
end
noncomputable def cxH(X:Cx)(a:Yi)(oe:Obj):Cx:={X with A:=X.A.mark (Wv (.ref a)),calm:=false,pn:=X.pn++[(a,oe)],xe:=λ_ _=>False}
noncomputable abbrev cxM(X:Cx)(a:Yi):Cx:={X with A:=X.A.mark (Wv (.ref a)),calm:=false,xe:=λ_ _=>False}
section
variable {X:Cx}{pins:List (Yi×Obj)}{Z:St}{H:Hp}{s:Yb}{a:Yi}{oe:Obj}
theorem Inv.toM(I:Inv X pins Z H s)(a:Yi):Inv (cxM X a) pins Z H s:=⟨⟨I.ok.mod,I.ok.kind,I.ok.glob,I.ok.blt,I.ok.above,I.ok.inj,I.ok.has,I.ok.cab,λz=>absurd z Ow,I.ok.frames,I.ok.stk,I.ok.exf,I.ok.bs,I.ok.bsz,I.ok.noex,I.ok.exfs,I.ok.funs,I.ok.frf⟩,I.os,I.bare,I.base,I.loc,I.cell,I.free,I.freeC,I.pin,I.hok,I.len⟩
theorem Inv.toH(I:Inv X pins Z H s)(h1:s.heap.get? a=Wv oe)(h2:H a=Ww)(h3:a≠X.env.locals)(h4:a ∉ X.fs)(h5:∀v,oe.data≠.cell v):Inv (cxH X a oe) pins Z H s:=
 ⟨⟨I.ok.mod,I.ok.kind,I.ok.glob,I.ok.blt,I.ok.above,I.ok.inj,I.ok.has,I.ok.cab,λz=>absurd z Ow,I.ok.frames,I.ok.stk,I.ok.exf,I.ok.bs,I.ok.bsz,I.ok.noex,I.ok.exfs,I.ok.funs,I.ok.frf⟩,I.os,I.bare,I.base,I.loc,I.cell,I.free,I.freeC,
  λp hp=>by
   rcases OD.mp (show p∈(X.pn++[(a,oe)])++pins from hp)with z|z
   . rcases OD.mp z with z|z
     . exact I.pin p (Ys _ z)
     . have e:p=(a,oe):=by simpa using z
       subst e;exact⟨h1,h2,h3,h4,h5⟩
   . exact I.pin p (Ov _ z),I.hok,I.len⟩
theorem Inv.ofH(I:Inv (cxH X a oe) pins Z H s)(hd:X.calm=Wx->X.A.handled=Ww):Inv X pins Z H s :=
 ⟨⟨I.ok.mod,I.ok.kind,I.ok.glob,I.ok.blt,I.ok.above,I.ok.inj,I.ok.has,I.ok.cab,hd,I.ok.frames,I.ok.stk,I.ok.exf,I.ok.bs,I.ok.bsz,I.ok.noex,I.ok.exfs,I.ok.funs,I.ok.frf⟩,I.os,I.bare,I.base,I.loc,I.cell,I.free,I.freeC,
   fun p hp=>I.pin p (by
     rcases OD.mp hp with z|z
     . exact Ys _ (Ys _ z)
     . exact Ov _ z),I.hok,I.len⟩
end
theorem ZiI{K:Yk}{M:Model}{A:YH}{E:Yj->Yb->Prop}{s:Yb}{C C2 a:Yi}{oe:Obj}{Q:Bool->Yb->Prop}(X:K.In s.heap)(h1:PySem.W.typeIn K (.ref C2)=Wv (.type "type"))(h0:(PySem.W.clsIn K C2).isSome=Wx)
 (h2:YV K (.ref C2) (.type "BaseException")=Wv Wx) (h3:YV K (.ref C) (.ref C2)=Wv Wx) (he:s.heap.get? a=Wv oe) (hc:oe.cls=.ref C) (q:Q Wx s):YB M A (excMatches (.ref a) (.ref C2)) Q E s:=by
 have i1:PySem.W.instIn K (.ref C2) (.type "tuple")=Wv Wy:=by unfold PySem.W.instIn;rw[h1];show YV K (.type "type") (.type "tuple")=Wv Wy;show YV [] (.type "type") (.type "tuple")=Wv Wy;decide +kernel
 have L1:=PySem.W.looks_instIn (M:=M) X i1;have L2:=PySem.W.looks_subIn (M:=M) X h2;have L3:=PySem.W.looks_subIn (M:=M) X h3;have L0:PySem.W.Looks M s.heap (isType (.ref C2)) Wx:=by
  unfold PySem.W.clsIn at h0;split at h0
  . rename_i c' d' cd' sl' ho;intro A' Q' E' s' k q;unfold isType loadHead;exact Ya (wpAny_loadPart (k _ _ (X _ _ ho)) (Yc q))
  . cases h0
 have LT:PySem.W.Looks M s.heap (typeOf (.ref a)) (.ref C):=by rw[<- hc];exact(PySem.W.Looks.ld he).andThen .now
 unfold excMatches isExcClass
 repeat (any_goals (first|assumption|lk|wp_step))
structure ExcN(K:Yk)(C2:Yi):Prop where
 ty:PySem.W.typeIn K (.ref C2)=Wv (.type "type")
 cls:(PySem.W.clsIn K C2).isSome=Wx
 exc:YV K (.ref C2) (.type "BaseException")=Wv Wx
end L2
end
section
namespace L2
open PySem PySem.Spec PyProof.Rows
def Def(P:Yh)(w:Yg)(K:Yk)(mg:Str->Option Yj)(base:YG)(k:Nat)(x:Str)(ps:List Str)(sp:Sp):Prop:=∃f fd,mg x=Wv (.ref f)/\Wf K (.ref f)=Wx/\Binds K fd ps []/\FnOk P w K mg base (CXF P w) k f fd ps sp
section
variable {X:Cx}{k:Nat}{x:Str}{ps:List Str}{sp:Sp}{E:XK}{e:Expr}{es:List Expr}{t:TA}{p pos:Pos}
noncomputable def Zu0(sp:Sp)(E:XK)(t:TA):TE:=λZ H Q=>t Z H λvs H1=>sp vs H1 Q E
theorem ZrB(D:Def X.prog X.w X.K X.mg X.base k x ps sp)(hr:Room k X.A)(hg:Gl X x)(hx:ZaL (CXF X.prog X.w) X E)(ha:PA X (e::es) t)
 (hdb:(x==("__debug__" : Str))=Wy:=by decide) (he:YA (e::es) X.env=(Wy,eval e X.env)::YA es X.env:=by rfl) (hpl:(YS pos (YA es X.env)).any (·.1)=Wy:=by rfl) :
 PE X (.Call (.Name x p) (e::es) [] pos) (Zu0 sp E t):=by
 obtain⟨f,fd,h1,h2,h3,h4⟩:=D;intro pins s Z H Q I h;refine Zpa h4 hr hg h1 h2 h3 .nil hx ha hdb he hpl pins s Z H Q I ?_;have z:t Z H λvs H1=>sp vs H1 Q E:=h;show t Z H λvs H1=>sp (vs++[]) H1 Q E;simpa only[Yt]using z
end
end L2
end
section
namespace L2
open PySem PySem.Spec PyProof.Rows
section
variable {X:Cx}{pins:List (Yi×Obj)}{Z:St}{H:Hp}{s:Yb}{h':YG}
theorem ZkS{ch:List Yi}(hf:∀b∈ch,Zbl X pins H b):∀b∈ch,(b∈X.ex\/X.s₀.heap.objs.size<=b)/\b≠X.env.locals/\(∀x c,X.env.cells.lookup x=Wv c->c≠b)/\∀p∈X.pn++pins,p.1≠b:=λb hb=>by obtain⟨_,f1,_,f3,f4,f5⟩:=hf b hb;exact⟨f3,f1,f4,f5⟩
theorem Inv.turnL{t':Nat}{ch:List Yi}(I:Inv X pins Z H s)(hf:∀b∈ch,Zbl X pins H b)(k:∀b o,b ∉ ch->s.heap.get? b=Wv o->h'.get? b=Wv o):Inv X pins Z H {s with heap:=h',toks:=t'}:=by
 have nit:∀b u,H b=Wv u->b ∉ ch:=λb u e z=>by rw[(hf b z).1]at e;cases e
 refine I.step (g':=s.gens) (d':=s.drawn) (ch:=ch) (ZkS hf) (λb o _ _ hc e _=>k b o hc e) (λb o _ _ hc e _=>⟨o.slots,k b o hc e⟩) (λ_ _ _ _ n=>n)
  (λb o hc e=>⟨o,k b o hc e⟩) (λ_ _ e=>e) (λ_ _ _ e=>e) (λb ps e=>⟨#[],by rw[e];simp⟩) (λm hm=>?_) (λb u e=>?_) I.bare
 . obtain⟨o,es,ep,ho,r⟩:=hm;exact⟨o,es,ep,k _ o (λz=>(hf _ z).2.1 rfl) ho,r⟩
 . refine(I.hok b u e).stay (λc v hc q=>k c v ?_ q) (λ_ q=>q) λ_ _ q=>q;rcases hc with z|z
   . rw[z];exact nit b u e
   . exact nit c _ z
theorem Inv.turnT{t':Nat}{ch:List Yi}{T:Yi}{vs:List V}{us:List Yj}(I:Inv X pins Z H s)(hf:∀b∈ch,Zbl X pins H b)(k:∀b o,b ∉ ch->s.heap.get? b=Wv o->h'.get? b=Wv o)
 (hT:s.heap.objs.size<=T) (tup:ZbE h' T us.toArray) (rv:Zm vs us) (hz:vs.length<=sizeLine):Inv X pins Z (upd H T (.tup vs)) {s with heap:=h',toks:=t'}:=by
 have nit:∀b u,H b=Wv u->b ∉ ch:=λb u e z=>by rw[(hf b z).1]at e;cases e
 have neT:∀b o,s.heap.get? b=Wv o->b≠T:=λb o e=>Ou (O4 (Yn e) hT);have hTn:H T=Ww:=I.hok.fresh hT;refine I.step (g':=s.gens) (d':=s.drawn) (ch:=ch) (ZkS hf) (λb o _ _ hc e _=>k b o hc e) (λb o _ _ hc e _=>⟨o.slots,k b o hc e⟩) (λb o _ e n=>by rw[Ze (neT b o e)];exact n)
  (λb o hc e=>⟨o,k b o hc e⟩) (λb xs e=>by rw[Ze (ZJ e hTn)];exact e) (λb o u e=>by rw[Ze (ZJ e hTn)];exact e) (λb ps e=>⟨#[],by rw[Ze (ZJ e hTn),e];simp⟩) (λm hm=>?_) (λb u e=>?_) I.bare
 . obtain⟨o,es,ep,ho,r⟩:=hm;exact⟨o,es,ep,k _ o (λz=>(hf _ z).2.1 rfl) ho,r⟩
 . by_cases hb:b=T
   . subst hb;rw[Zl]at e;cases e;exact⟨hz,us,rv,tup⟩
   . rw[Ze hb]at e;refine(I.hok b u e).stay (λc v hc q=>k c v ?_ q) (λc q=>by rw[Ze (ZJ q hTn)];exact q) λc xs q=>by rw[Ze (ZJ q hTn)];exact q
     rcases hc with z|z
     . rw[z];exact nit b u e
     . exact nit c _ z
end
noncomputable def Ite(K:Yk)(a:Yi):It:=⟨λi H=>∃xs x,SqL K H a xs/\xs[i]? = Wv x,λi H v H'=>∃p,v=.ref p/\H p=Ww/\∃x,(∀xs,SqL K H a xs->xs[i]? = Wv x)/\H'=upd H p (.tup [.int i,x]),λi H=>∃xs,SqL K H a xs/\xs.length=i⟩
theorem Zk9{P:Yh}{w:Yg}{K:Yk}{es:List Expr}{kk:Nat}{tp:Pos}(a it e:Yi)(hei:e≠it)(hae:a≠e)(hai:a≠it):
 Turn P w K (.Tuple es kk tp) (Ite K a) [e,it] e (λi h=>(∃old,IsEnum h e it i old)/\h.IsListIter it a i) where
 mem:=by simp
 obj:=λi h st b hb=>by
  obtain⟨⟨old,he⟩,o,e1,c,d⟩:=st;rcases O3.mp hb with rfl|hb
  . exact⟨_,he,λv z=>by cases z⟩
  . have e2:b=it:=by simpa using hb
    subst e2;exact⟨o,e1,λv z=>by rw[d]at z;cases z⟩
 keep:=λi h h' st k=>by obtain⟨⟨old,he⟩,st⟩:=st;exact⟨⟨old,k e (by simp) _ he⟩,st.at λo z=>k it (by simp) o z⟩
 item:=by
  intro X hP hw hK hc i pins s Z H E I hf st hg;subst hP hw hK;obtain⟨xs,x,hq,hx⟩:=hg;obtain⟨its,rv,p,hz⟩:=I.list hq;have hl:=rv.length;have hi:i<xs.length:=(Ob.mp hx).1;have W:=WalksT.enumerate (prog:=X.prog) (w:=X.w) (I.ok.hd hc) e it a hei hae hai its.toArray;have itm:∀(Q':Option Yj->Yb->Prop) (E':Yj->Yb->Prop),(∀T vals h' tk,(∃t x,its.toArray[i]? = Wv x/\vals=#[.int i t,x])->s.heap.objs.size<=T->ZbE h' T vals ->
   ((∃x,IsEnumOut h' e it ((i:Int)+1) x T)/\h'.IsListIter it a (i+1)/\h'.IsList a its.toArray/\T≠e/\T≠it)->(∀b o,b ∉ [e,it]->s.heap.get? b=Wv o->h'.get? b=Wv o)->Q' (Wv (.ref T)) {s with heap:=h',toks:=tk}) ->
   YB (model X.prog X.w) X.A (pyNext (.ref e)) Q' E' s:=by
   intro Q' E' hQ;obtain⟨⟨old,he⟩,hit⟩:=st;have hx2:its.toArray[i]? = Wv (its.toArray[i]'(by simp;omega)):=Array.getElem?_eq_getElem (by simp;omega);refine wpAny_pyNext_enum_item he hit p.isList hx2 hei λh' ho hit' hT hsz hk=>?_;have e1:e<s.heap.objs.size:=Yn he;have e2:it<s.heap.objs.size:=by obtain⟨_,z,_⟩:=hit;exact Yn z
   exact hQ s.heap.objs.size _ h' (s.toks+1) ⟨_,_,hx2,rfl⟩ (Oq _) ⟨_,hT,rfl,rfl,_,rfl⟩ ⟨⟨_,ho⟩,hit',p.isList.at λo z=>hk a o hae hai z,Nat.ne_of_gt e1,Nat.ne_of_gt e2⟩
    λb o hb z=>hk b o (λe'=>hb (by simp[e'])) (λe'=>hb (by simp[e'])) z
  refine itm _ _ λT vals h1 tk hP hT tup mid kk=>?_;refine⟨_,rfl,W.go _ _ _ i T {s with heap:=h1,toks:=tk} _ _ mid λh2 st2 kk2=>?_⟩;obtain⟨t,y,hy,rfl⟩:=hP;have hy':its[i]? = Wv y:=by simpa using hy
  obtain⟨u,hu,ru⟩:=rv.get hx;rw[hy']at hu;cases hu;have hTw:T ∉ [e,it]:=W.apart i T h1 mid;have tup2:ZbE h2 T #[.int i t,y]:=by obtain⟨o,q,r⟩:=tup;exact⟨o,kk2 T o hTw q,r⟩
  have I2:Inv X pins Z (upd H T (.tup [.int i,x])) {s with heap:=h2,toks:=tk}:=I.turnT hf (λb o hb q=>kk2 b o hb (kk b o hb q)) hT (us:=[.int i t,y]) tup2 (.cons ⟨t,rfl⟩ (.cons ru .nil)) (by show 2<=sizeLine;decide);refine⟨.ref T,_,I2,rfl,⟨T,rfl,I.hok.fresh hT,x,λys hy=>by rw[I.list_inj hy hq];exact hx,rfl⟩,⟨st2.1,st2.2.1⟩,λb hb=>?_⟩;have neb:b≠T:=λz=>hTw (by rw[<- z];exact hb);rw[Ze neb];exact(hf b hb).1
 done:=by
  intro X hP hw hK hc i pins s Z H E I hf st hg;subst hP hw hK;obtain⟨xs,hq,hx⟩:=hg;obtain⟨its,rv,p,hz⟩:=I.list hq;have hl:=rv.length;have W:=WalksT.enumerate (prog:=X.prog) (w:=X.w) (I.ok.hd hc) e it a hei hae hai its.toArray;have e1:its.toArray.size=i:=by simp;omega
  refine W.done s _ _ ?_ λh1 tk kk=>⟨rfl,I.turnL hf kk⟩
  rw[e1];exact⟨st.1,st.2,p.isList⟩
 self:=λA i s Q E st h=>by obtain⟨⟨old,he⟩,_⟩:=st;exact wpAny_pyIter_enum he h
noncomputable def Zt8(K:Yk)(ta:TA):TI:=λZ H R=>ta Z H λvs H1=>∃a,vs=[.ref a]/\(∃xs,SqL K H1 a xs)/\R (Ite K a) H1
theorem Zo3{X:Cx}{es:List Expr}{kk:Nat}{tp:Pos}{l:Expr}{ta:TA}{p pos:Pos}(hg:Gl X "enumerate")(hm:X.mg "enumerate" = Ww)(ha:PA X [l] ta)(hs:YA [l] X.env=[(Wy,eval l X.env)]:=by rfl):
 PI X (.Tuple es kk tp) (.Call (.Name "enumerate" p) [l] [] pos) (Zt8 X.K ta):=by
 intro pins s Z H R I h;refine Call_ (ZdC I hg hm boot_enumerate (PyProof.Rows.callWith_type1 (thn (ha pos pins s Z H _ I h) λus s1 ⟨vs,H1,I1,r1,q1⟩=>?_) hs rfl));obtain⟨a,rfl,⟨xs,hq⟩,q⟩:=q1;obtain⟨u,rfl,ru⟩:=vals1 r1;obtain rfl:u=YD a:=ru;obtain⟨its,rv,pl,hz⟩:=I1.list hq;have hlt:a<s1.heap.objs.size:=by obtain⟨_,_,e,_⟩:=pl;exact Yn e
 refine call_enumerate_list pl.isList λh' he hi hsz kk=>?_;refine wpAny_pyIter_enum he ?_;refine⟨s1.heap.objs.size+1,[s1.heap.objs.size+1,s1.heap.objs.size],_,_,H1,rfl,I1.kept (t':=s1.toks) kk,Zk9 a s1.heap.objs.size (s1.heap.objs.size+1) (Nat.succ_ne_self _) (Ou (Nat.lt_succ_of_lt hlt)) (Ou hlt),⟨⟨_,he⟩,hi⟩,λb hb=>?_,q⟩;rcases O3.mp hb with rfl|hb
 . exact I1.fpOk (Wj _) (I1.hok.fresh (Wj _))
 . have e:b=s1.heap.objs.size:=by simpa using hb
   subst e;exact I1.fpOk (Oq _) (I1.hok.fresh (Oq _))
end L2
end
section
namespace L2
open PySem PySem.Spec PyProof.Rows
theorem body_of{X:Cx}{b:List Stmt}{t:TS}{D:Ends}{Z:St}{H:Hp}(h:PSs X b t)(r:t D Z H):∃t,PSs X b t/\t D Z H:=⟨t,h,r⟩
theorem Zbn{x:Str}{t:Tok}:RelV (.str x) (.str x t):=⟨t,rfl⟩
theorem Zu{x:Int}{t:Tok}:RelV (.int x) (.int x t):=⟨t,rfl⟩
theorem Z7{a:Yi}:RelV (.ref a) (.ref a):=rfl
end L2
end
section
namespace L2
open PySem PySem.Spec PyProof.Rows
theorem isSome_of{K:Yk}{C:Yi}(h:PySem.W.isClsIn K C=Wx):(PySem.W.clsIn K C).isSome=Wx:=h
end L2
end
section
namespace L2
open PySem PySem.Spec PyProof.Rows
def DkK(P:Yh)(w:Yg)(K:Yk)(a:Yi)(kvs:List (Key×V)):Prop:=∃(o:Obj) (es:Array DictEntry) (ep:Nat) (vs:List (Key×Yj)),K.lookup a=Wv o/\o.ExactDict/\o.data=.dict es ep/\KeysOf (ZM P w) es/\Pairs (ZM P w) es.toList vs/\(vs.map (·.1)).Nodup/\KV kvs vs/\kvs.length<=sizeLine/\(a==Ye)=Wy
def Dk(P:Yh)(w:Yg)(K:Yk)(H:Hp)(a:Yi)(kvs:List (Key×V)):Prop:=Rd H a (.dK kvs)\/DkK P w K a kvs
section
variable {X:Cx}{pins:List (Yi×Obj)}{Z:St}{H:Hp}{s:Yb}{a:Yi}
theorem Inv.dk{kvs:List (Key×V)}(I:Inv X pins Z H s)(h:Dk X.prog X.w X.K H a kvs):kvs.length<=sizeLine/\(a==Ye)=Wy/\∃vs,KV kvs vs/\s.heap.DictOf (ZM X.prog X.w) a vs:=by
 rcases h with h|⟨o,es,ep,vs,lk,ex,da,ks,ps,nd,kv,z,hm⟩
 . exact Zqs I.hok h
 . exact⟨z,hm,vs,kv,o,es,ep,I.kIn a o lk,ex,da,ks,ps,nd⟩
noncomputable def Ztm(P:Yh)(w:Yg)(K:Yk)(neg:Bool):R2:=λx y H Q=>∃a kvs k,y=.ref a/\x=kV k/\Dk P w K H a kvs/\Q (.bl (if neg then !(ZdN kvs k).isSome else(ZdN kvs k).isSome)) H
theorem ZrI:OpR X (YM .In) (Ztm X.prog X.w X.K Wy):=by intro pins s Z H x y v u Q I rx ry h;obtain⟨a,kvs,k,rfl,rfl,hd,q⟩:=h;cases ry;obtain⟨z,hm,vs,rel,dd⟩:=I.dk hd;refine wpAny_in_of (ZiA rx) hm dd.mapOf ?_;rw[<- (rel.val k).isSome_eq];exact⟨.bl _,H,I.tok _,rfl,q⟩
theorem Zlw:OpR X (YM .NotIn) (Ztm X.prog X.w X.K Wx):=by intro pins s Z H x y v u Q I rx ry h;obtain⟨a,kvs,k,rfl,rfl,hd,q⟩:=h;cases ry;obtain⟨z,hm,vs,rel,dd⟩:=I.dk hd;refine wpAny_notIn_of (ZiA rx) hm dd.mapOf ?_;rw[<- (rel.val k).isSome_eq];exact⟨.bl _,H,I.tok _,rfl,q⟩
noncomputable def Zvi(P:Yh)(w:Yg)(K:Yk):R2:=λx y H Q=>∃a kvs k v,x=.ref a/\y=kV k/\Dk P w K H a kvs/\ZdN kvs k=Wv v/\Q v H
theorem ZpJ:IxR X (Zvi X.prog X.w X.K):=by intro value slice pins s Z H x y v u Q I rx ry h hs;obtain⟨a,kvs,k,z,rfl,rfl,hd,hv,q⟩:=h;cases rx;obtain⟨_,hm,vs,rel,dd⟩:=I.dk hd;obtain⟨w',hw,rw'⟩:=Zec.some_of (v:=z) (o:=valueAt vs k) (by rw[<- hv];exact rel.val k);exact subscriptTail_builtinR (x:=w') dd.typeIs PySem.F.slot_dict_getitem.lookup (wpAny_getItem_of (ZiA ry) dd.mapOf hw ⟨rfl,z,H,I.tok _,rw',q⟩) hs
theorem Zuo{A:YH}{E:Yj->Yb->Prop}{kvs:List (Key×V)}{k:Key}{v:V}{u r:Yj}{Q:Unit->Yb->Prop}(I:Inv X pins Z H s)(e:H a=Wv (.dK kvs))(l:kvs.length<sizeLine)(ry:RelV (kV k) u)(rv:RelV v r)
 (h:∀s',Inv X pins Z (upd H a (.dK (putK kvs k v))) s'->Q () s'):YB (model X.prog X.w) A (setItem (.ref a) u r) Q E s:=by
 obtain⟨z,hd,vs,rel,dd⟩:=Zqt I.hok e;have hz:vs.length<=sizeLine:=by rw[<- rel.length];exact z
 have hl:(putK kvs k v).length<=sizeLine:=by have:=ZeH kvs k v;omega
 refine wpAny_setItem_pairs (hsz:=hz) (ZiA ry) dd λh' dd' hs=>h _ ?_;have he:∃q,h'.get? a=Wv q:=let ⟨q,_,_,hq,_⟩:=dd';⟨q,hq⟩;exact ZkV I (by rw[e];exact True.intro) hs he (ZnQ hl hd (rel.put k rv) dd')
noncomputable def Ztb:Zog:=λo i v H Q=>∃a kvs k,o=.ref a/\i=kV k/\H a=Wv (.dK kvs)/\kvs.length<sizeLine/\Q (upd H a (.dK (putK kvs k v)))
theorem set_dict:Zqa X Ztb:=by intro pins s Z H o i v ov iv u Q I ro ri rv h;obtain⟨a,kvs,k,rfl,rfl,e,l,q⟩:=h;cases ro;exact Zuo I e l ri rv λs' I'=>⟨_,I',q⟩
end
end L2
end
section
set_option tactic.hygienic false
namespace L2
open PySem PySem.Spec PyProof.Rows
section
variable {X:Cx}{elt tg iter:Expr}{ifs:List Expr}{scope sc:Scope}{pos:Pos}{NC:List Str}{js:List (Option Nat)}{k:Nat}{wi:TI}{g:TG}{tc:TT}{te:TE}
theorem Zjo{y:Str}{py spos:Pos}{i0:Nat}(hN:X.N.Nodup)(hy:X.N[i0]? = Wv y)(hx:Loc X.env.scope y)(hf:X.fn y=Wx\/X.env.scope.names.lookup y=Wv .local)(S_:CompSc NC X.N js sc scope)(hsc:X.env.scope=sc)(hc:X.calm=Wx)(hi:PI X tg iter wi)
 (hb:∀(pins:List (Yi×Obj)) (Z:St) (C:Yi) (s3:Yb) (H3:Hp) (fp:List Yi),Inv X pins Z H3 s3->(∀b∈fp,Zbl X pins H3 b)->C=s3.heap.objs.size->PG (Zv X NC scope C s3 H3 fp) tg g/\PIf (Zv X NC scope C s3 H3 fp) ifs tc/\PE (Zv X NC scope C s3 H3 fp) elt te)
 (hk:Zl2 k g) (hjk:∀j,j<k->js[j]? = Wv Ww) (hs:∀x,foldedSetIterable iter X.env x=pure x:=by intro _;rfl) (hsw:swapsWith (.ListComp elt [⟨tg,iter,ifs,0⟩] scope pos) (Wv (.Name y py)) spos.line X.env=pure Wx:=by rfl) :
 PS X (.Assign [.Name y py] (.ListComp elt [⟨tg,iter,ifs,0⟩] scope pos) spos) (Zmg (Zqi wi js g tc te) (ZcS i0)):=by
 intro pins s Z H D0 I h;have hcells:∀y∈scope.names,y.2=.free->∃c,X.env.cells.lookup y.1=Wv c:=λy hy hf=>I.ok.has y.1 (.inl (show X.env.scope.names.lookup y.1=Wv .cell by rw[hsc];exact S_.free y hy hf));rw[exec_Assign_Name_used _ _ _ _ hsw];refine Ya (wpAny_standAt (Ya ?_));show YB _ X.A (do let _ <- comprehension (.ListComp elt [⟨tg,iter,ifs,0⟩] scope pos) scope X.env _ (newList []) Wy (eval iter X.env) (Wv (assign (.Name y py) X.env))) _ _ s;refine Ya (Yf (wpAny_comprehension_free (use:=Wv (assign (.Name y py) X.env)) (Q:=λ_ s'=>SP X pins D0 .next s') rfl hs (Zdv hcells) S_.kind S_.locs (thn (hi pins s Z H _ I h) λxv s1 h1=>thn h1 λitv s2 h2=>?_)) (λ_ s' hq=>Yc (Yc hq)) λ_ _ e=>e);obtain⟨it,fp,tn,J,H2,e,I2,T,st2,f2,rest⟩:=h2;subst e;have hD:H2 s2.heap.objs.size=Ww:=I2.hok.fresh (Oq _);obtain⟨W,⟨m0,w0⟩,turn⟩:=rest s2.heap.objs.size hD;refine Yr (wpAny_newFunctionEnv S_.nocell (by intro y hy;simp at hy) (λh4 hns hsb=>?_) S_.kind);have I3:Inv X pins Z (upd H2 s2.heap.objs.size (.lst [])) {s2 with heap:=s2.heap.push {cls:=.type "list",dict:=Ww,data:=.seq ([]:List Yj).toArray}}:=I2.lnew (t':=s2.toks) (ys:=[]) (its:=[]) .nil (Yy _);dsimp only at hns hsb ⊢;generalize hs3:({s2 with heap:=s2.heap.push {cls:=.type "list",dict:=Ww,data:=.seq ([]:List Yj).toArray}}:Yb)=s3 at I3;have eh:s2.heap.push {cls:=.type "list",dict:=Ww,data:=.seq ([]:List Yj).toArray}=s3.heap:=by rw[<- hs3]
 have eD:s2.heap.objs.size<s3.heap.objs.size:=by rw[<- eh,Heap.size_push];exact OH _
 rw[eh]at hns hsb;have keep:∀b o,s3.heap.get? b=Wv o->h4.get? b=Wv o:=λb o e=>(hsb.2 b (Ou (Yn e))).trans (O1 _ e);have fpl:∀b∈fp,∃o,s3.heap.get? b=Wv o:=λb hb=>by obtain⟨o,e,_⟩:=T.obj 0 _ st2 b hb;exact⟨o,by rw[<- eh];exact O1 _ e⟩
 have neD:∀b∈fp,b≠s2.heap.objs.size:=λb hb=>by obtain⟨o,e,_⟩:=T.obj 0 _ st2 b hb;exact Ou (Yn e)
 have f3:∀b∈fp,Zbl X pins (upd H2 s2.heap.objs.size (.lst [])) b:=λb hb=>⟨by rw[Ze (neD b hb)];exact(f2 b hb).1,(f2 b hb).2⟩
 have I4:=ZiD (tk:=s2.toks+([]:List (Str×Yj)).length) S_ hsc hc I3 f3 fpl rfl hns keep;have st4:tn 0 h4:=T.keep 0 _ _ st2 λb hb o e=>keep b o (by rw[<- eh];exact O1 _ e);have eC:(s2.heap.push {cls:=.type "list",dict:=Ww,data:=.seq ([]:List Yj).toArray}).objs.size=s3.heap.objs.size:=by rw[eh]
 have loop:∀s4:Yb,s4={s3 with heap:=h4,toks:=s2.toks+([]:List (Str×Yj)).length} ->
  codeAny (model X.prog X.w) X.A (.compLoop (.ListComp elt [⟨tg,iter,ifs,0⟩] scope pos) 0 (.ref it) (.ref s2.heap.objs.size) (compEnvC scope (ZcV X.env scope.names []) s3.heap.objs.size X.env))
   (compPost (model X.prog X.w) X.A X.xe (Wv (assign (.Name y py) X.env)) (λ_ s'=>SP X pins D0 .next s') (.ref s2.heap.objs.size) s3.heap.objs.size) s4:=by
  rintro s4 rfl;refine ZgE (Q:=λx H1=>ZcS i0 x Z H1 D0.nx) hb hk hjk rfl I3 f3 fpl I4 T st4 Zl w0 turn (λs6 H5 I6 qn=>?_) (λ_ _ z=>z);obtain⟨m,hm,_⟩:=I6.loc;have Io:Inv X pins Z H5 s6:=I3.comp_out (h'':=s6.heap) f3 rfl I6 ⟨rfl,λ_ _=>rfl⟩;have fC:Zbl X pins H5 s3.heap.objs.size:=I3.fpOk (Oq _) I6.free;show YB _ X.A (assign (.Name y py) X.env (.ref s2.heap.objs.size)) _ _ _;refine wpAny_assign_Name (Zgl Io hN hy hx (v:=.ref s2.heap.objs.size) rfl (λs8 I8 ⟨a8,sb8,ha8⟩=>?_) hf);have ne8:s3.heap.objs.size≠a8:=λz=>by
   rcases ha8 with e|e
   . exact fC.2.1 (z.trans e)
   . exact fC.2.2.2.2.1 _ _ e z.symm
  refine⟨m,hm.sameBut sb8 ne8,λh' hs'=>?_⟩;exact⟨_,H5,I8.turnL (t':=s8.toks) (ch:=[s3.heap.objs.size]) (λb hb=>by rw[Ox.mp hb];exact fC) (λb o hb e=>(hs'.2 b (λz=>hb (by rw[z];exact List.mem_singleton_self _))).trans e),qn⟩
 have e4:({s2 with heap:=h4,toks:=s2.toks+([]:List (Str×Yj)).length}:Yb)={s3 with heap:=h4,toks:=s2.toks+([]:List (Str×Yj)).length}:=by rw[<- hs3]
 rw[eC];exact codeAny_compStart_list (loop _ e4) (T.self X.A 0 _ _ _ st4 (loop _ e4))
end
end L2
end
section
namespace L2
open PySem PySem.Spec PyProof.Rows
mutual
inductive Dp(K:Yk)(H:Hp):V->PyData->Prop
 |non:Dp K H .non .none
 |bl (b:Bool):Dp K H (.bl b) (.bool b)
 |int (i:Int):Dp K H (.int i) (.int i)
 |str (x:Str) (ok:Yp x=Wx):Dp K H (.str x) (.str x)
 |lst {a:Yi}{xs:List V}{ds:List PyData}:SqL K H a xs->Dps K H xs ds->Dp K H (.ref a) (.list ds)
 |tup {a:Yi}{xs:List V}{ds:List PyData}:SqT K H a xs->Dps K H xs ds->Dp K H (.ref a) (.tuple ds)
inductive Dps(K:Yk)(H:Hp):List V->List PyData->Prop
 |nil:Dps K H [] []
 |cons {v:V}{vs:List V}{d:PyData}{ds:List PyData}:Dp K H v d->Dps K H vs ds->Dps K H (v::vs) (d::ds)
end
section
variable {K:Yk}{H H':Hp}
mutual
theorem Dp.lay:∀{v:V}{d:PyData},Dp K H v d->d.canLay0=Wx
 |_,_,.non=>rfl
 |_,_,.bl b=>rfl
 |_,_,.int i=>rfl
 |_,_,.str x ok=>ok
 |_,_,.lst h r=>Dps.lay r
 |_,_,.tup h r=>Dps.lay r
theorem Dps.lay:∀{v:List V}{d:List PyData},Dps K H v d->PyData.canLayAll0 d=Wx
 |_,_,.nil=>rfl
 |_,_,.cons h r=>by rw[PyData.canLayAll0,Dp.lay h,Dps.lay r];rfl
end
end
section
variable {X:Cx}{pins:List (Yi×Obj)}{Z:St}{H:Hp}{s:Yb}
mutual
theorem Inv.reads(I:Inv X pins Z H s):∀{v:V}{d:PyData}{u:Yj},Dp X.K H v d->RelV v u->∃as,Reads s.heap u d as
 |_,_,_,.non,r=>by cases r;exact⟨_,.none⟩
 |_,_,_,.bl b,r=>by cases r;exact⟨_,.bool b⟩
 |_,_,_,.int i,r=>by obtain⟨t,rfl⟩:=r;exact⟨_,.int i t⟩
 |_,_,_,.str x ok,r=>by obtain⟨t,rfl⟩:=r;exact⟨_,.str x t⟩
 |_,_,_,.lst h rs,r=>by cases r;obtain⟨its,rv,⟨o,n,e,c,_,dd⟩,_⟩:=I.list h;obtain⟨as,q⟩:=Inv.readsAll I rs rv;exact⟨_,.list e c dd (by simpa using q)⟩
 |_,_,_,.tup h rs,r=>by cases r;obtain⟨its,rv,⟨o,e,c,n,dd⟩,_⟩:=I.tuple h;obtain⟨as,q⟩:=Inv.readsAll I rs rv;exact⟨_,.tuple e c dd (by simpa using q)⟩
theorem Inv.readsAll(I:Inv X pins Z H s):∀{v:List V}{d:List PyData}{u:List Yj},Dps X.K H v d->Zm v u->∃as,ReadsAll s.heap u d as
 |_,_,_,.nil,r=>by cases r;exact⟨_,.nil⟩
 |_,_,_,.cons h rs,r=>by
  cases r with
  |cons r1 r2=>obtain⟨as,q⟩:=Inv.reads I h r1;obtain⟨bs,q2⟩:=Inv.readsAll I rs r2;exact⟨_,.cons q q2⟩
end
end
end L2
end
section
set_option tactic.hygienic false
namespace L2
open PySem PySem.Spec PyProof.Rows
namespace Rv
theorem own:Manifest.owners.lookup (String.ofList ['d','e','s','r','e','v','e','r'].reverse)=Wv Manifest.sig_reversed:=by kernel_rfl
theorem next:Slot "reversed" "__next__" "reversed.__next__" :=
 .of (owner := "reversed") (n := "__next__") (by rw[typeLookup_type,builtinLookup_eq_fast]<;>kernel_rfl) (by decide +kernel) (by decide +kernel) (by decide +kernel) (by first|exact .inl (by decide +kernel)|exact .inr (by decide +kernel)) (by rw[isSubtype_type]<;>kernel_rfl)
theorem Zqq:entryFor table "reversed.__next__" = Wv Builtin.«reversed.__next__»:=entryFor_of_tree (by kernel_rfl)
theorem ZqH(a:Yj):argsOk "reversed.__next__" ⟨[a],[]⟩:=by unfold argsOk;rw[signature?_of (id := "reversed.__next__") (n:=['_','_','t','x','e','n','_','_']) (o:=['d','e','s','r','e','v','e','r']) (by kernel_rfl) own];kernel_rfl
theorem iter:Slot "reversed" "__iter__" "reversed.__iter__" :=
 .of (owner := "reversed") (n := "__iter__") (by rw[typeLookup_type,builtinLookup_eq_fast]<;>kernel_rfl) (by decide +kernel) (by decide +kernel) (by decide +kernel) (by first|exact .inl (by decide +kernel)|exact .inr (by decide +kernel)) (by rw[isSubtype_type]<;>kernel_rfl)
theorem Zux(a:Yj):argsOk "reversed.__iter__" ⟨[a],[]⟩:=by unfold argsOk;rw[signature?_of (id := "reversed.__iter__") (n:=['_','_','r','e','t','i','_','_']) (o:=['d','e','s','r','e','v','e','r']) (by kernel_rfl) own];kernel_rfl
theorem Zun:entryFor table "reversed.__iter__" = Wv Builtin.«dict_keyiterator.__iter__» :=entryFor_alias (id' := "dict_keyiterator.__iter__") (by kernel_rfl) (by first|rfl|decide +kernel|(unfold String.splitOn;simp +decide [String.splitOnAux])) (by decide +kernel) (by kernel_rfl)
theorem ZtK:typeLookup (.type "tuple") "__reversed__" = pure Ww:=by rw[typeLookup_type,builtinLookup_eq_fast]<;>kernel_rfl
theorem Zoy:isSubtype (.type "reversed") (.type "reversed")=pure Wx:=by rw[isSubtype_type]<;>kernel_rfl
theorem init:Slot "reversed" "__init__" "object.__init__" :=
 .of (owner := "object") (n := "__init__") (by rw[typeLookup_type,builtinLookup_eq_fast]<;>kernel_rfl) (by decide +kernel) (by decide +kernel) (by decide +kernel) (by first|exact .inl (by decide +kernel)|exact .inr (by decide +kernel)) (by rw[isSubtype_type]<;>kernel_rfl)
theorem called:TypeCalled "reversed" "reversed.__new__" "object.__init__" := ⟨by decide +kernel,F.create_reversed,⟨_,_,F.mro_reversed⟩,F.made_reversed,by decide +kernel,Zoy,init⟩
noncomputable def obj(l:Yi)(i:Int):Obj:={cls:=.type "reversed",data:=.fields #[.ref l,rawInt i]}
def Is(h:YG)(a l:Yi)(i:Int):Prop:=∃o,h.get? a=Wv o/\o.cls=.type "reversed" /\ o.data=.fields #[.ref l,rawInt i]
section
variable {prog:Yh}{w:Yg}{A:YH}{E:Yj->Yb->Prop}{s:Yb}
theorem Is.typeIs{a l:Yi}{i:Int}(x:Is s.heap a l i):s.TypeIs (.ref a) "reversed" := let ⟨o,ho,hc,_⟩:=x;⟨o,ho,hc⟩
theorem Is.at{h h':YG}{a l:Yi}{i:Int}(x:Is h a l i)(e:∀o,h.get? a=Wv o->h'.get? a=Wv o):Is h' a l i:=let ⟨o,ho,r⟩:=x;⟨o,e _ ho,r⟩
theorem new{l:Yi}{items:Array Yj}{Q:Yj->Yb->Prop}(hl:IsTup s.heap l items)(hz:items.size<=sizeLine)
 (h:Q (.ref s.heap.objs.size) {s with heap:=s.heap.push (obj l ((items.size:Int) - 1)),toks:=s.toks+1+1}) :
 codeAny (model prog w) A (.call (.builtin "reversed.__new__") ⟨[.type "reversed",.ref l],[]⟩) (wants Q E) s:=by
 have hfit:(items.size:Int)<2 ^ 63:=by have:=Zcq;omega
 refine codeAny_of_tree ?_;show YB _ A.in1 (do checkBuiltinCall "reversed.__new__" ⟨[.type "reversed",.ref l],[]⟩;again (.builtin "reversed.__new__" ⟨[.type "reversed",.ref l],[]⟩)) _ _ s;refine Ya (Wp (F.newCall_reversed_1 _) (Yc ⟨plainId_quiet F.plain_reversed_new _,codeAny_builtin F.entry_reversed_new ?_⟩));rw[Around.under_plainId F.plain_reversed_new _];unfold Builtin.«reversed.__new__»;refine Ya (Wp (newClass_reversed _) ?_)
 try dsimp only
 refine Ya (Wp (a:=()) (by first|rfl|kernel_rfl) (Ya (Wp (a:=()) (by first|rfl|kernel_rfl) ?_)))
 try dsimp only
 refine Ya (wpAny_specialOf hl.typeIs ZtK ?_)
 try dsimp only
 refine Ya ?_;show YB _ _ (isInstance (.ref l) (.type "dict") >>= λb=>_) _ _ s;refine Ya (wpAny_isInstance hl.typeIs F.sub_tuple_dict ?_);show YB _ _ (specialOf (.ref l) "__getitem__" >>= λb=>_) _ _ s;refine Ya (wpAny_specialOf hl.typeIs slot_tuple_getitem.lookup ?_);refine Wp (a:=true) (by rfl) ?_;show YB _ _ (call (.builtin "len") [.ref l] >>= λb=>_) _ _ s;refine Ya (len_tuple hl hfit ?_);show YB _ _ (asInt? (.int _ _) >>= λb=>_) _ _ _;refine Ya (Yc ?_);show YB _ _ (newObj (.type "reversed") (.fields #[.ref l,rawInt ((items.size:Int) - 1)]) >>= λb=>_) _ _ _;exact Ya (Yr (Yc h))
theorem call{l:Yi}{items:Array Yj}{Q:Yj->Yb->Prop}(hl:IsTup s.heap l items)(hz:items.size<=sizeLine)
 (h:Q (.ref s.heap.objs.size) {s with heap:=s.heap.push (obj l ((items.size:Int) - 1)),toks:=s.toks+1+1}):YB (model prog w) A (PySem.call (.type "reversed") [.ref l]) Q E s:=by
 refine callType_codes called (F.typeCall_reversed_1 _) F.entry_object_init (new (Q:=λo s1=>o=.ref s.heap.objs.size/\s1={s with heap:=s.heap.push (obj l ((items.size:Int) - 1)),toks:=s.toks+1+1}) hl hz ⟨rfl,rfl⟩) ?_;rintro _ _ ⟨rfl,rfl⟩;have hT:Shared.TypeIs {s with heap:=s.heap.push (obj l ((items.size:Int) - 1)),toks:=s.toks+1+1} (.ref s.heap.objs.size) "reversed" := ⟨_,Oj _ rfl,rfl⟩
 refine⟨hT,F.args_object_init_2 _ _,?_⟩;exact object_init_meets init.lookup F.made_reversed (by decide) prog w _ _ _ ⟨hT,rfl,h⟩
theorem next_item{it l:Yi}{i:Nat}{items:Array Yj}{x:Yj}{Q:Option Yj->Yb->Prop}(hit:Is s.heap it l (i:Int))(hl:IsTup s.heap l items)(hz:items.size<=sizeLine)(hx:items[i]? = Wv x)
 (hQ:∀h' t',Is h' it l ((i:Int) - 1)->Heap.SameBut it s.heap h'->Q (Wv x) {s with heap:=h',toks:=t'}):YB (model prog w) A (pyNext (.ref it)) Q E s:=by
 obtain⟨o,ho,hc,hd⟩:=id hit;have hi:i<items.size:=by have:=(Array.getElem?_eq_some_iff.mp hx).1;exact this
 have l63:=Zcq;unfold pyNext;refine Ya (wpAny_attempt (Wc (name:=O "__next__") hit.typeIs next (Wh next hit.typeIs Zqq ?_ (ZqH _))));unfold Builtin.«reversed.__next__»;refine Ya (Wp (a:=(YD it,[])) rfl ?_)
 try dsimp only
 refine Ya (YR ho hd (x:=.ref l) rfl (Ya (YR ho hd (x:=rawInt (i:Int)) rfl ?_)));show YB _ _ (if (i:Int)<0 then _ else _) _ _ s;rw[if_neg (by omega)];show YB _ _ (specialOf (.ref l) "__getitem__" >>= λb=>_) _ _ s;refine Ya (wpAny_specialOf hl.typeIs slot_tuple_getitem.lookup ?_);show YB _ _ (mkInt (i:Int) >>= λb=>_) _ _ s;refine Ya (wpAny_mkInt ?_);refine Ya (wpAny_attempt (getItem_tuple (s:={s with toks:=s.toks+1}) (j:=i) (x:=x) hl (by omega) (by omega) (seqIndex_of (by omega) (by omega)) hx ?_));show YB _ _ (field (.ref it) 1 >>= λb=>_) _ _ _;refine Ya (YR ho hd (x:=rawInt (i:Int)) rfl ?_);show YB _ _ (setField (.ref it) 1 (rawInt ((i:Int) - 1)) >>= λb=>_) _ _ _;refine Ya (wpAny_setField ho hd (by simp) ?_);refine Yc ⟨x,rfl,Yc (hQ _ _ ?_ (Heap.SameBut.update ..))⟩;exact⟨_,YX _ ho (Obj.isFreed_of_fields (YZ hd _)),(Obj.cls_mapFields ..).trans hc,by rw[YZ hd]<;>simp⟩
theorem next_end{it l:Yi}{Q:Option Yj->Yb->Prop}(hh:A.handled=Ww)(hit:Is s.heap it l (-1))(hQ:∀h',Heap.ExtBut it s.heap h'->Q Ww {s with heap:=h'}):YB (model prog w) A (pyNext (.ref it)) Q E s:=by
 obtain⟨o,ho,hc,hd⟩:=id hit;unfold pyNext;refine Ya (wpAny_attempt (Wc (name:=O "__next__") hit.typeIs next (Wh next hit.typeIs Zqq ?_ (ZqH _))));unfold Builtin.«reversed.__next__»;refine Ya (Wp (a:=(YD it,[])) rfl ?_)
 try dsimp only
 refine Ya (YR ho hd (x:=.ref l) rfl (Ya (YR ho hd (x:=rawInt (-1)) rfl ?_)));show YB _ _ (if (-1:Int)<0 then _ else _) _ _ s;rw[if_pos (by decide)];refine Ya (wpAny_rule ?_);show YB _ _ ((setField (.ref it) 1 (rawInt (-1)) >>= λ_=>setField (.ref it) 0 .none) >>= λb=>_) _ _ _;have e1:=YX (Obj.mapFields (·.setIfInBounds 1 (rawInt (-1)))) ho (Obj.isFreed_of_fields (YZ hd _));refine Ya (Ya (wpAny_setField ho hd (by simp) (wpAny_setField e1 (YZ hd _) (by simp) ?_)));refine Ya ?_;show YB _ _ (newExc (.type "StopIteration") [] >>= λb=>_) _ _ _;refine Ya ?_;simp only[newExc,newTuple];refine Ya (Yr ?_ (by size_fits));refine Ya (m:=firstArgMember _ _) (Wp (a:=Value.none) (by first|rfl|(simp only[firstArgMember]<;>rfl)) (Yr ?_ (by size_fits)));simp only[raiseNew];refine Ya (wpAny_handled ?_);rw[show A.in1.handled=Ww from hh];refine Ya (Yc (wpAny_throw ?_));refine Ya (wpAny_isInstance (T := "StopIteration") (b:=true) ⟨_,Oj _ rfl,rfl⟩ isSubtype_stop (Yc (hQ _ ?_)));exact((((Heap.ExtBut.refl _ _).trans (Heap.SameBut.update ..).extBut).trans (Heap.SameBut.update ..).extBut).push _).push _
theorem ZgC{it l:Yi}{i:Int}{Q:Yj->Yb->Prop}(hit:Is s.heap it l i)(h:Q (.ref it) s):YB (model prog w) A (pyIter (.ref it)) Q E s:=by refine wpAny_pyIter_slot hit.typeIs iter (Wh iter hit.typeIs Zun ?_ (Zux _));exact Yc ⟨_,rfl, "reversed",_,hit.typeIs,next.lookup,h⟩
end
end Rv
noncomputable def Itv(K:Yk)(a:Yi)(n:Nat):It:=⟨λi H=>∃xs x,SqT K H a xs/\xs.length=n/\xs.reverse[i]? = Wv x,λi H x H'=>H'=H/\∀xs,SqT K H a xs->xs.reverse[i]? = Wv x,λi H=>∃xs,SqT K H a xs/\xs.length=n/\n=i⟩
theorem Zmd{P:Yh}{w:Yg}{K:Yk}{tg:Expr}(a it:Yi)(n:Nat):Turn P w K tg (Itv K a n) [it] it (λi h=>i<=n/\Rv.Is h it a ((n:Int) - 1 - i)) where
 mem:=by simp
 obj:=λi h st b hb=>by
  have e:b=it:=by simpa using hb
  subst e;obtain⟨_,o,e,c,d⟩:=st;exact⟨o,e,λv z=>by rw[d]at z;cases z⟩
 keep:=λi h h' st k=>⟨st.1,st.2.at λo e=>k it (by simp) o e⟩
 item:=by
  intro X hP hw hK hc i pins s Z H E I hf st hg;subst hP hw hK;obtain⟨hin,st⟩:=st;obtain⟨xs,x,hq,hxn,hx⟩:=hg;obtain⟨its,rv,p,hz⟩:=I.tuple hq;have hl:=rv.length;have hi:i<xs.length:=by have:=(Ob.mp hx).1;simpa using this
  have hx':xs[n - 1 - i]? = Wv x:=by rw[List.getElem?_reverse hi]at hx;rw[<- hxn];exact hx
  obtain⟨u,hu,ru⟩:=rv.get hx';obtain⟨f0,f1,f2,f3,f4,f5⟩:=hf it (by simp);have e1:(n:Int) - 1 - (i:Nat)=((n - 1 - i:Nat):Int):=by omega
  rw[e1]at st;refine Rv.next_item st p (by simp;omega) (x:=u) (by simpa using hu) λh' t' st' sb=>?_;have I1:Inv X pins Z H {s with heap:=h',toks:=t'}:=I.turned (t':=t') (λb o hb e=>(sb.2 b hb).trans e) f0 f1 f3 f4 f5;obtain⟨o,e,c,d⟩:=id st';have e2:((n - 1 - i:Nat):Int) - 1=(n:Int) - 1 - ((i+1:Nat):Int):=by omega
  refine⟨u,rfl,ZiE (s:={s with heap:=h',toks:=t'}) e c d (by decide) ⟨x,H,I1,ru,⟨rfl,λys hy=>by rw[I.tuple_inj hy hq];exact hx⟩,⟨by omega,by rw[<- e2];exact st'⟩,λb hb=>(hf b hb).1⟩⟩
 done:=by intro X hP hw hK hc i pins s Z H E I hf st hg;subst hP hw hK;obtain⟨xs,hq,hxn,hx⟩:=hg;obtain⟨f0,f1,f2,f3,f4,f5⟩:=hf it (by simp);have st1:=st.2;rw[show(n:Int) - 1 - (i:Nat)=-1 by omega]at st1;exact Rv.next_end (I.ok.hd hc) st1 λh' eb=>⟨rfl,I.turned (t':=s.toks) (λb o hb e=>eb b o hb e) f0 f1 f3 f4 f5⟩
 self:=λ_ _ _ _ _ st h=>Rv.ZgC st.2 h
end L2
end
section
set_option tactic.hygienic false
namespace L2
open PySem PySem.Spec PyProof.Rows
theorem Zee:∀{vs:List Yj}{ss:List Str},StrsAre vs ss->Zm (ss.map V.str) vs
 |_,_,.nil=>.nil
 |_,_,.cons y t h=>.cons ⟨t,rfl⟩ (Zee h)
section
variable {prog:Yh}{w:Yg}{A:YH}{E:Yj->Yb->Prop}{s:Yb}
theorem Zjg{r:Yi}{ss:List Str}{Q:Yj->Yb->Prop}
 (hcol:∀R:List Yj->Yb->Prop,(∀(h':YG) (tk:Nat) (vs:List Yj),s.heap.objs.size<=h'.objs.size->(∀b o,s.heap.get? b=Wv o->h'.get? b=Wv o)->StrsAre vs ss->R vs {s with heap:=h',toks:=tk})->YB (model prog w) A.in1 (collect (.ref r)) R E s)
 (h64:ss.length<64)
 (h:∀(D:Yi) (h':YG) (tk:Nat) (out:List Yj) (ss':List Str) (n:Nat),(∀b o,s.heap.get? b=Wv o->h'.get? b=Wv o)->s.heap.objs.size<=D->h'.get? D=Wv {cls:=.type "list",data:=.seq out.toArray n}->StrsAre out ss'->ss'.Perm ss->sortedS ss'=Wx ->
  Q (.ref D) {s with heap:=h',toks:=tk}):YB (model prog w) A (call (.builtin "sorted") [.ref r]) Q E s:=by
 refine Calls.call_function_entry kind_sorted plain_sorted entry_sorted (args_sorted1 _) ?_;unfold Builtin.«sorted»;refine Ya (m:=checkCount "sorted" 1 1 _) (Yc (Ya (hcol _ λh' tk vs hsz hk hS=>?_)));have hlen:vs.length=ss.length:=by have:=(Zee hS).length;simpa using this.symm
 have hz:vs.length<=sizeLine:=by rw[YC];omega
 refine Ya (wpAny_newList ?_ hz);have hoL:(h'.push (seqObj "list" vs.toArray 0)).get? h'.objs.size=Wv (seqObj "list" vs.toArray 0):=Oj _ rfl;refine Ya (Wg (Wh slot_list_sort ⟨_,hoL,rfl⟩ entry_list_sort (list_sort_treeK strKind_oneLt hoL hS.keysOf (λv₁ v₂ rest e=>keyKind_strs (by rw[<- e];exact hS)) (by omega) λst' a1 a2=>⟨_,rfl,?_⟩) (args_list_sort _)));refine Yc ⟨_,rfl,?_⟩;obtain⟨ss',h1,h2,h3⟩:=sorted_out_str hS a1 a2;obtain⟨e,he⟩:=sortedHeap_at (out:=(arrOf st').map (·.2)) hoL;have e2:((arrOf st').map (·.2))=((arrOf st').map (·.2)).toList.toArray:=Array.toArray_toList.symm;refine h h'.objs.size _ tk ((arrOf st').map (·.2)).toList ss' e (λb o q=>?_) hsz (by rw[<- e2];exact he) h1 h2 h3;have q':=hk b o q;have hlt:=Yn q';rw[sortedHeap_old (Ou hlt) (by rw[size_push'];exact Nat.lt_succ_of_lt hlt)];exact O1 _ q'
theorem ZiS{R:List Yj->Yb->Prop}{T:String}{r d:Yi}{n:Nat}{P:Nat->Yj->Prop}{OK:YG->Prop}(K:PySem.W.KdlSrc prog w T r d n P OK)(hh:A.handled=Ww)(hok:OK s.heap)(hn:n<=sizeLine)
 (h:∀(h':YG) (tk:Nat) (acc:Array Yj),s.heap.objs.size<=h'.objs.size->(∀b o,s.heap.get? b=Wv o->h'.get? b=Wv o)->ItemsOf P acc n->R acc.toList {s with heap:=h',toks:=tk}) :
 YB (model prog w) A (collect (.ref r)) R E s:=by
 have lt:=K.there _ hok;unfold collect;refine Ya (wpAny_runValue (codeAny_builtin entry_proto_collect' ?_));rw[Around.under_plainId PySem.F.plain_proto_collect _];show YB _ A.in1 (newList [] >>= λx=>again (.builtin "list.__iadd__" ⟨[x,.ref r],[]⟩)) _ _ s;refine Ya (Yr (Yc ⟨plainId_quiet PySem.F.plain_list_iadd _,codeAny_builtin entry_list_iadd' ?_⟩));rw[Around.under_plainId PySem.F.plain_list_iadd _];have e0:(s.heap.push {cls:=.type "list",data:=.seq ([]:List Yj).toArray}).get? s.heap.objs.size=Wv {cls:=.type "list",data:=.seq #[]}:=Oj _ rfl;show YB _ A.in1 (Builtin.List.listExtendWith (.ref s.heap.objs.size) (.ref r) (.ref s.heap.objs.size)) _ _ _;have key:=PySem.W.kdl_extend (A:=A) (s:={s with heap:=s.heap.push {cls:=.type "list",data:=.seq ([]:List Yj).toArray}})
  (R:=λ(q:Result) (s':Yb)=>∃(h':YG) (tk:Nat) (acc:Array Yj) (c:Nat),q=.ok (.ret (.ref s.heap.objs.size))/\s'={s with heap:=h',toks:=tk}/\(∀b o,s.heap.get? b=Wv o->h'.get? b=Wv o)/\h'.get? s.heap.objs.size=Wv {cls:=.type "list",dict:=Ww,data:=.seq acc c,slots:=#[]}/\ItemsOf P acc n)
  K hh (K.keep _ _ hok λb _ o e=>O1 _ e) s.heap.objs.size (Nat.ne_of_gt lt.1) (Nat.ne_of_gt lt.2) (.ref s.heap.objs.size) 0 e0 (λh' tk acc c hk hS hacc=>⟨h',tk,acc,c,rfl,rfl,λb o e=>hk b o (Ou (Yn e)) (O1 _ e),hS,hacc⟩) hn
 refine Yf key (λfin s' x=>?_) λe s' x=>?_
 . cases fin with
   |done f=>obtain⟨h',tk,acc,c,e,rfl,hk,hS,hacc⟩:=x;cases e;exact Ya (wpAny_load hS (Yc (h h' tk acc (Nat.le_of_lt (Yn hS)) hk hacc)))
   |again c₁=>refine⟨x.1,codeAny_mono x.2 λq s₂ y=>?_⟩;obtain⟨h',tk,acc,c,rfl,rfl,hk,hS,hacc⟩:=y;exact Ya (wpAny_load hS (Yc (h h' tk acc (Nat.le_of_lt (Yn hS)) hk hacc)))
 . obtain⟨_,_,_,_,z,_⟩:=x;cases z
end
theorem ZfC{α β:Type}{R:α->β->Prop}:∀{xs:List α}{ys:List β},Paired R xs ys->∀{i:Nat}{x:α},xs[i]? = Wv x->∃y,ys[i]? = Wv y/\R x y
 |_,_,.nil,i,x,e=>by simp at e
 |_,_,.cons h r,0,x,e=>by cases e;exact⟨_,rfl,h⟩
 |_,_,.cons h r,i+1,x,e=>by obtain⟨y,h1,h2⟩:=ZfC r (i:=i) (x:=x) (by simpa using e);exact⟨y,by simpa using h1,h2⟩
theorem Zfh{P:Yh}{w:Yg}:∀(ss:List Str) (vs:List Yj),vs.length=ss.length->(∀(j:Nat) (v:Yj),vs[j]? = Wv v->∃x,ss[j]? = Wv x/\(ZM P w).is (YE x) v=Wx)->StrsAre vs ss
 |[],[],_,_=>.nil
 |s::ss,v::vs,hl,h=>by obtain⟨x,e,hx⟩:=h 0 v rfl;cases e;obtain⟨t,rfl⟩:=Value.isStrOf_shape (x:=s) (v:=v) hx;exact .cons s t (Zfh ss vs (by simpa using hl) λj u hu=>h (j+1) u (by simpa using hu))
section
variable {X:Cx}
def ZmC(P:Yh)(w:Yg)(K:Yk):List V->Hp->VK->Prop:=λxs H Q=>∃a kvs ss,xs=[.ref a]/\Dk P w K H a kvs/\kvs.map (·.1)=ss.map YE/\ss.length<64/\∀p ss',H p=Ww->ss'.Perm ss->sortedS ss'=Wx->Q (.ref p) (upd H p (.lst (ss'.map V.str)))
theorem ZhA(hc:X.A.handled=Ww):Zcl X (.builtin "sorted") (ZmC X.prog X.w X.K):=by
 intro pins s Z H xs us Q I r h;obtain⟨a,kvs,ss,rfl,hd,hks,h64,q⟩:=h;obtain⟨u,rfl,ru⟩:=vals1 r;cases ru;obtain⟨z,hm,vs,rel,dd⟩:=I.dk hd;obtain⟨ep,hat⟩:=dd.dictAt;have hl:vs.length=kvs.length:=(Paired.length rel).symm;have hl2:kvs.length=ss.length:=by have:=congrArg List.length hks;simpa using this
 have hkey:∀(j:Nat) k x,vs[j]? = Wv (k,x)->∃y,ss[j]? = Wv y/\k=YE y:=λj k x e=>by
  have hj:j<vs.length:=(Ob.mp e).1;have h1:kvs[j]? = Wv kvs[j]:=Og (by omega);obtain⟨u,hu,hu2⟩:=ZfC rel h1;rw[e]at hu;cases hu;have h3:(kvs.map (·.1))[j]? = Wv kvs[j].1:=by rw[On,h1];rfl
  rw[hks,On]at h3;obtain⟨y,hy,e3⟩:=Oo.mp h3;exact⟨y,hy,hu2.1.symm.trans e3.symm⟩
 refine Zjg (ss:=ss) (λR hR=>ZiS (PySem.W.kdl_dict (knd:=ZM X.prog X.w) (kvs:=vs) (ep:=ep) hm) hc hat (by omega) λh' tk acc hsz hk hacc=>?_) h64 λD h' tk out ss' n hk hD ho hS hp hs=>?_
 . refine hR h' tk acc.toList hsz hk (Zfh (P:=X.prog) (w:=X.w) ss acc.toList (by rw[Array.length_toList,hacc.1];omega) λj v hv=>?_);obtain⟨k,x,e,hk2⟩:=hacc.2 j v (by rw[<- Array.getElem?_toList];exact hv);obtain⟨y,hy,rfl⟩:=hkey j k x e;exact⟨y,hy,hk2⟩
 . have hlen:ss'.length<=sizeLine:=by rw[hp.length_eq];omega
   refine⟨.ref D,_,I.laid (a:=D) (o:=.lst (ss'.map V.str)) (t':=tk) hk hD ⟨by simpa using hlen,out,n,Zee hS,ho⟩,rfl,q D ss' (I.hok.fresh hD) hp hs⟩
end
end L2
end
section
namespace L2
open PySem PySem.Spec PyProof.Rows
theorem Zdi:∀{ns:List Int}{vs:List Yj},Zm (ns.map V.int) vs->IntsAre vs ns
 |[],vs,h=>by cases h;exact .nil
 |s::ss,vs,h=>by
  rw[Op]at h;cases h with
  |cons h1 h2=>obtain⟨t,rfl⟩:=h1;exact .cons s t (Zdi h2)
noncomputable def Zeh(z:Str)(n:Nat):Str:=⟨(YK n z.cps).foldl (·++·) #[]⟩
theorem ZfU(a:Array Nat):∀(n:Nat) (i:Array Nat),((YK n a).foldl (·++·) i).size=i.size+n * a.size
 |0,i=>by simp
 |n+1,i=>by rw[List.replicate_succ,Wr,ZfU a n (i++a),Array.size_append,Nat.succ_mul];omega
theorem ZdV(z:Str)(n:Nat):(Zeh z n).length=n * z.length:=by show((YK n z.cps).foldl (·++·) #[]).size=_;rw[ZfU];simp;rfl
section
variable {X:Cx}
theorem ZlX(hc:X.A.handled=Ww):Zcl X (.builtin "sum") (λxs H Q=>∃(a:Yi) (ns:List Int),xs=[.ref a]/\SqL X.K H a (ns.map V.int)/\Q (.int ns.sum) H):=by
 intro pins s Z H xs us Q I r h;obtain⟨a,ns,rfl,hq,q⟩:=h;obtain⟨u,rfl,ru⟩:=vals1 r;cases ru;obtain⟨its,rv,pl,hz⟩:=I.list hq;have hi:=Zdi rv;obtain⟨ys,e⟩:=hi.allInts.items;refine sum_intListG (xs:=ys) hc (by rw[<- e];exact pl.isList) λh' tk t' hk=>?_;refine⟨.int ns.sum,H,I.kept (t':=tk) hk,⟨t',?_⟩,q⟩;have e2:=hi.numsOf;have e3:numsOf (intItems ys).toList=ns:=by rw[<- e];exact e2
 rw[nums_intItems]at e3;rw[preSum_eq,List.take_of_length_le (by simp),e3]
theorem Zpe:OpR X (binaryOp .Mult) (λx y H Q=>∃z n,x=.str z/\y=.int n/\0<=n/\n<=1000/\z.length<=1000/\Q (.str (Zeh z n.toNat)) H):=by
 intro pins s Z H x y v u Q I rx ry h;obtain⟨z,n,rfl,rfl,h0,h1,h2,q⟩:=h;obtain⟨t,rfl⟩:=rx;obtain⟨t2,rfl⟩:=ry;have hl:z.length * n.toNat<=1000000:=Nat.mul_le_mul h2 (by omega:n.toNat<=1000);have hs:(1000000:Nat)<=sizeLine:=by decide
 refine PySem.P.mul_str (by rw[decide_eq_false (by omega:¬ n < -(2 ^ 63:Int)),decide_eq_false (by omega:¬ n ≥ 2 ^ 63)]<;>rfl) (λ_ _=>?_) (λ_ _=>?_) ?_
 . have h3:1<=n:=by omega
   have h4:(9223372036854775807:Int) / n ≥ 1000:=by have:1000<=9223372036854775807 / n:=(Int.le_ediv_iff_mul_le (by omega)).mpr (by omega);exact this
   show ¬ ((z.length:Int) > (2 ^ 63 - 1) / n);rw[show(2 ^ 63 - 1:Int)=9223372036854775807 by decide];omega
 . unfold Builtin.Str.tooLong;exact decide_eq_false (by omega)
 . by_cases hn:n<1
   . rw[if_pos hn];refine⟨by decide,.str _,H,I.tok _,⟨_,rfl⟩,?_⟩;rw[show n.toNat=0 by omega]at q;exact q
   . rw[if_neg hn];by_cases h5:(n==1 || z.length==0)=Wx
     . rw[if_pos h5];refine⟨.str _,H,I,⟨_,rfl⟩,?_⟩;have e:Zeh z n.toNat=z:=by
        rw[Wu]at h5;rcases h5 with h5|h5
        . have e1:n.toNat=1:=by have:=eq_of_beq h5;omega
          rw[e1];unfold Zeh;simp
        . have e1:z.length=0:=eq_of_beq h5;have e2:(Zeh z n.toNat).length=0:=by rw[ZdV,e1];simp
          have f:∀y:Str,y.length=0->y=⟨#[]⟩:=λy hy=>by cases y with|mk c=>rw[show c=#[]from Array.eq_empty_of_size_eq_zero hy]
          exact(f _ e2).trans (f z e1).symm
       rw[e]at q;exact q
     . rw[if_neg h5];refine⟨?_,.str _,H,I.tok _,⟨_,rfl⟩,q⟩;show(Zeh z n.toNat).length<=sizeLine;rw[ZdV,Nat.mul_comm];omega
end
end L2
end
section
namespace L2
open PySem PySem.Spec PyProof.Rows
section
variable {X:Cx}
theorem Zhc{i j:Int}(hi:i.natAbs<2 ^ 2000)(hj:j.natAbs<2 ^ 2000):IntMulOk i j:=by
 have bits:∀k:Int,k.natAbs<2 ^ 2000->Builtin.Int.intBits k<=2000:=λk hk=>by
  unfold Builtin.Int.intBits;split
  . omega
  . rename_i h;have h0:k.natAbs≠0:=by simpa using h
    have:=(Nat.log2_lt h0).mpr hk;omega
 unfold IntMulOk;have h1:=bits i hi;have h2:=bits j hj;have h3:Builtin.Int.intTooBig (Builtin.Int.intBits i+Builtin.Int.intBits j:Nat)=Wy:=by
  unfold Builtin.Int.intTooBig;rw[decide_eq_false_iff_not];have:(bitsLine:Nat)=134217728:=by decide
  rw[this];omega
 intro q;simp only[Oa]at q;have q2:=q.2;rw[show((Builtin.Int.intBits i:Int)+(Builtin.Int.intBits j:Int))=((Builtin.Int.intBits i+Builtin.Int.intBits j:Nat):Int) by simp]at q2;rw[h3]at q2;cases q2
theorem Zlx:OpR X (binaryOp .Mult) (rI (λi j=>i.natAbs<2 ^ 2000/\j.natAbs<2 ^ 2000) λi j=>.int (i * j)):=opI λ_ _ _ _ _ _ _ hc q=>mul_int q (Zhc hc.1 hc.2)
noncomputable def Zto(K:Yk):R2:=λx y H Q=>∃a b ys,x=.ref a/\y=.ref b/\SqT K H a []/\SqT K H b ys/\Q (.ref b) H
theorem Zph:OpR X (binaryOp .Add) (Zto X.K):=by
 intro pins s Z H x y v u Q I rx ry h;obtain⟨a,b,ys,rfl,rfl,ha,hb,q⟩:=h;cases rx;cases ry;obtain⟨its,r1,ht,_⟩:=I.tuple ha;obtain⟨its2,r2,hb,_⟩:=I.tuple hb;cases r1;obtain⟨⟨cls,dd,data,sl⟩,ho,hc,n,hd⟩:=id ht;obtain⟨⟨cls2,dd2,data2,sl2⟩,ho2,hc2,n2,hd2⟩:=id hb;simp only at hc hd hc2 hd2;subst hc hd hc2 hd2;exact concat_meets ⟨_,ho,rfl⟩ ⟨_,ho2,rfl⟩ noFill_tuple_add seq_tuple_add PySem.F.slot_tuple_add PySem.F.entry_tuple_add (PySem.F.args_tuple_add_2 _ _)
  (tuple_addW0 a b _ _ n n2 dd dd2 sl sl2 (by simp)) ⟨ho,ho2,⟨.ref b,H,I,rfl,q⟩⟩
end
end L2
namespace HT
open PySem PyProof.Rows
section
variable {prog:Yh}{w:Yg}{A:YH}{E:Yj->Yb->Prop}{s:Yb}
theorem Zdg{t sl:Yi}{items:Array Yj}{vl vu:Yj}{lo hi:Option Int}{Q:Yj->Yb->Prop}(ht:IsTup s.heap t items)(hs:s.heap.IsSliceOf sl vl vu .none)(pl:IsPart vl lo)(pu:IsPart vu hi)
 (hw:sIx items.size 0 lo=0/\sIx items.size items.size hi=items.size) (h:Q (.ref t) s):YB (model prog w) A (getItem (.ref t) (.ref sl)) Q E s:=by
 obtain⟨os,hos,hcs,hds⟩:=id hs;have hTs:s.TypeIs (.ref sl) "slice" := ⟨os,hos,hcs⟩
 unfold getItem
 try with_reducible refine Wg ?_
 first|refine Ya (Yc ?_)|skip
 refine Ya (wpAny_sequenceKey ht.typeIs (by decide) ?_);refine Ya (Wc (name:=O "__getitem__") ht.typeIs Wo
  (Wh Wo ht.typeIs entry_tuple_getitem ?_ (args_tuple_getitem _ _)))
 show YB _ _ (Builtin.Tuple.tupleItemsOf (.ref t) >>= _) _ _ s;refine Ya (tupleItemsOf_ ht ?_);refine Ya (wpAny_typeOf hTs ?_);rw[if_pos (by decide)];refine Ya (Zb4 hs pl pu ?_);have hyes:(((sIx items.size 0 lo:Nat):Int)==0&&(1:Int)==1&&(sIx items.size items.size hi - sIx items.size 0 lo)==items.size)=Wx:=by rw[hw.1,hw.2];simp
 show YB _ _ (if (((sIx items.size 0 lo:Nat):Int)==0&&(1:Int)==1&&(sIx items.size items.size hi - sIx items.size 0 lo)==items.size)=Wx then _ else _) _ _ s;rw[if_pos hyes];unfold Builtin.Tuple.tupleIsExact;refine Ya (Ya (wpAny_typeOf ht.typeIs (Yc ?_)));rw[if_pos (by decide)];exact Ya (wpAny_rule (Yc ⟨_,rfl,Yc h⟩))
end
end HT
namespace L2
open PySem PySem.Spec PyProof.Rows
section
variable {X:Cx}
def Zva(K:Yk):V->Option Int->Option Int->Hp->VK->Prop:=λx lo hi H Q=>∃a xs,x=.ref a/\SqT K H a xs /\
 (HT.sIx xs.length 0 lo=0/\HT.sIx xs.length xs.length hi=xs.length)/\Q (.ref a) H
theorem Zml:SlR X (Zva X.K):=by
 intro pins s Z H x v vl vu lo hi sl Q I rx hs pl pu h;obtain⟨a,xs,rfl,hx,hw,q⟩:=h;cases rx;obtain⟨its,r,ht,hz⟩:=I.tuple hx;have hlen:its.toArray.size=xs.length:=by rw[Of];exact r.length.symm
 refine⟨"tuple",_,PyProof.Rows.slot_tuple_getitem.lookup,ht.typeIs,?_⟩;exact HT.Zdg ht hs pl pu (by rw[hlen];exact hw) ⟨.ref a,H,I,rfl,q⟩
end
end L2
end
section
set_option tactic.hygienic false
namespace L2
namespace Mx
open PySem PyProof.Rows
theorem nm:(toString "max" ++ toString ".loop" : String) = "max.loop" := by decide
section
variable {prog:Yh}{w:Yg}{A:YH}{Z_:Result->Yb->Prop}{J:Yi}{fo wo:List Yi}{m:Nat}{P:Nat->Yj->Prop}{S_:Nat->YG->Prop}
theorem loop(W:Walks prog w A.in1 J fo wo m P S_)(bt:Nat->Nat->Bool)(hb:CmpOf prog w A.in1 .Gt P bt)(C:Yi)(hC:C ∉ fo)(kw:List (Str×Yj)):∀(d j:Nat) (s:Yb) (u:Yj) (c:Nat),
 m - (j+1)=d->j+1<=m->S_ (j+1) s.heap->P (argBest bt j) u->s.heap.get? C=Wv {cls:=.type "list",dict:=Ww,data:=.seq #[u,u] c,slots:=#[]} ->
 (∀v hp tk,P (argBest bt (m - 1)) v->(∀b o,b ∉ wo->b≠C->s.heap.get? b=Wv o->hp.get? b=Wv o)->Z_ (.ok (.ret v)) {s with heap:=hp,toks:=tk}) ->
 codeAny (model prog w) A (.builtin "max.loop" ⟨[.ref J,.none,.ref C],kw⟩) Z_ s:=by
 have hCw:C ∉ wo:=λz=>hC (W.sub _ z);intro d;induction d with
 |zero=>
  intro j s u c e1 e2 st pu hc hz;have em:j+1=m:=by omega
  refine codeAny_builtin PySem.F.entry_max_loop ?_;rw[Around.under_plainId YU _];show YB (model prog w) A.in1 (seqItems? (YD C) >>= _) _ _ s;refine Ya (wpAny_seqItems hc rfl ?_);show YB (model prog w) A.in1 (tryCatch (pyNext (YD J)) _ >>= _) _ _ s;refine Ya (wpAny_tryCatch (W.done s _ _ (em ▸ st) λhp tk kp=>?_));have hc1:=kp C _ hCw hc;show YB (model prog w) A.in1 (updateSeq C (λ_=>#[]) >>= _) _ _ _;exact Ya (wpAny_updateSeq hc1 rfl (Ya (wpAny_letGo (Yc (hz u _ tk (by rw[<- em];exact pu) λb o b1 b2 e=>(YN _ _ (YL b2)).trans (kp b o b1 e))))))
 |succ d ih=>
  intro j s u c e1 e2 st pu hc hz;have lt:j+1<m:=by omega
  refine codeAny_builtin PySem.F.entry_max_loop ?_;rw[Around.under_plainId YU _];show YB (model prog w) A.in1 (seqItems? (YD C) >>= _) _ _ s;refine Ya (wpAny_seqItems hc rfl ?_);show YB (model prog w) A.in1 (tryCatch (pyNext (YD J)) _ >>= _) _ _ s;refine Ya (wpAny_tryCatch (W.item (j+1) s _ _ lt st λv hp tk pv st1 kp=>?_));have hc1:=kp C _ hCw hc;show YB (model prog w) A.in1 (tryCatch (holding [v,v] (richCompare CmpOp.Gt v u >>= _)) _ >>= _) _ _ _;refine Ya (wpAny_tryCatch (Wg (Ya (hb (j+1) (argBest bt j) v u _ _ _ pv pu (Ya (Wg (wpAny_truthy_bool (Ya (wpAny_letGo (Yc ?_))))))))));cases q:bt (j+1) (argBest bt j)with
  |true=>
   simp only[if_true];refine Ya (wpAny_updateSeq hc1 rfl (Ya (wpAny_letGo ?_)));rw[nm];refine Yc ⟨plainId_quiet YU _,ih (j+1) _ v _ (by omega) lt (W.frame _ _ _ st1 λb b1 o e=>?_) (by simp only[argBest,q,if_true];exact pv) (YX _ hc1 rfl) λv2 hp2 tk2 pv2 kp2=>?_⟩
   . exact(YN _ _ (λz:C=b=>hC (by rw[z];exact b1))).trans e
   . exact hz v2 hp2 tk2 pv2 λb o b1 b2 e=>kp2 b o b1 b2 ((YN _ _ (YL b2)).trans (kp b o b1 e))
  |false=>simp only[OG,if_false];refine Ya (wpAny_letGo ?_);rw[nm];exact Yc ⟨plainId_quiet YU _,ih (j+1) _ u c (by omega) lt st1 (by simp only[argBest,q,OG,if_false];exact pu) hc1 λv2 hp2 tk2 pv2 kp2=>hz v2 hp2 tk2 pv2 λb o b1 b2 e=>kp2 b o b1 b2 (kp b o b1 e)⟩
theorem first(W:Walks prog w A.in1 J fo wo m P S_)(bt:Nat->Nat->Bool)(hb:CmpOf prog w A.in1 .Gt P bt)(C:Yi)(hC:C ∉ fo)(dn:Str)(dv:Yj){s:Yb}{c:Nat}(st:S_ 0 s.heap)
 (hc:s.heap.get? C=Wv {cls:=.type "list",dict:=Ww,data:=.seq #[] c,slots:=#[]})
 (hz:∀v hp tk,(m=0->v=dv)->(0<m->P (argBest bt (m - 1)) v)->(∀b o,b ∉ wo->b≠C->s.heap.get? b=Wv o->hp.get? b=Wv o)->Z_ (.ok (.ret v)) {s with heap:=hp,toks:=tk}) :
 codeAny (model prog w) A (.builtin "max.loop" ⟨[.ref J,.none,.ref C],[(dn,dv)]⟩) Z_ s:=by
 have hCw:C ∉ wo:=λz=>hC (W.sub _ z);refine codeAny_builtin PySem.F.entry_max_loop ?_;rw[Around.under_plainId YU _];show YB (model prog w) A.in1 (seqItems? (YD C) >>= _) _ _ s;refine Ya (wpAny_seqItems hc rfl ?_);show YB (model prog w) A.in1 (tryCatch (pyNext (YD J)) _ >>= _) _ _ s;by_cases hm:0<m
 . refine Ya (wpAny_tryCatch (W.item 0 s _ _ hm st λv hp tk pv st1 kp=>?_));have hc1:=kp C _ hCw hc;show YB (model prog w) A.in1 (updateSeq C (λ_=>#[v,v]) >>= _) _ _ _;refine Ya (wpAny_updateSeq hc1 rfl ?_);rw[nm];refine Yc ⟨plainId_quiet YU _,loop W bt hb C hC _ _ 0 _ v _ rfl hm (W.frame _ _ _ st1 λb b1 o e=>?_) pv (YX _ hc1 rfl) λv2 hp2 tk2 pv2 kp2=>?_⟩
   . exact(YN _ _ (λz:C=b=>hC (by rw[z];exact b1))).trans e
   . exact hz v2 hp2 tk2 (λz=>by omega) (λ_=>pv2) λb o b1 b2 e=>kp2 b o b1 b2 ((YN _ _ (YL b2)).trans (kp b o b1 e))
 . have h0:m=0:=by omega
   refine Ya (wpAny_tryCatch (W.done s _ _ (h0 ▸ st) λhp tk kp=>?_));exact Ya (wpAny_rule (Yc (hz dv hp tk (λ_=>rfl) (λz=>absurd z hm) λb o b1 _ e=>kp b o b1 e)))
end
section
variable {prog:Yh}{w:Yg}{A:YH}{E:Yj->Yb->Prop}{s:Yb}
theorem args(a d:Yj):argsOk "max" ⟨[a],[("default",d)]⟩:=by unfold argsOk;kernel_rfl
theorem call{x dv:Yj}{Q:Yj->Yb->Prop}
 (h:YB (model prog w) A.in1 (pyIter x) (λit s2=>∃J fo wo m P S_ bt,it=.ref J/\Walks prog w A.in1 J fo wo m P S_/\S_ 0 s2.heap/\(∀b∈fo,b<s2.heap.objs.size)/\CmpOf prog w A.in1 .Gt P bt /\
  ∀v hp tk,(m=0->v=dv)->(0<m->P (argBest bt (m - 1)) v)->(∀b o,b ∉ wo->s2.heap.get? b=Wv o->hp.get? b=Wv o)->Q v {s2 with heap:=hp,toks:=tk}) E s) :
 YB (model prog w) A (PySem.call (.builtin "max") [x] [("default",dv)]) Q E s:=by
 refine wpAny_call (codeAny_call_builtin PySem.F.plain_max PySem.F.entry_max ?_);simp only[checkBuiltinCall,PySem.F.kind_max];have go:YB (model prog w) A.in1 (Builtin.«max» ⟨[x],[("default",dv)]⟩) (λfin s'=>match fin with
  |.done f=>(match (Except.ok f:Result)with|.ok (.ret v)=>Q v s'|.ok _=>False|.error e=>E e s')
  |.again c'=>c'.quiet=Wx/\codeAny (model prog w) A c' (λr s'=>match r with|.ok (.ret v)=>Q v s'|.ok _=>False|.error e=>E e s') s') E s:=by
  show YB (model prog w) A.in1 (Builtin.Builtins.bindParams "max" ["key", "default"] 0 ⟨[],[("default",dv)]⟩ >>= _) _ _ s;refine Ya (Wp (show Builtin.Builtins.bindParams "max" ["key", "default"] 0 ⟨[],[("default",dv)]⟩=pure [Ww,Wv dv]from rfl) (Ya (Yc (Ya (Yf h (λit s2 q=>?_) λ_ _ e=>e)))));obtain⟨J,fo,wo,m,P,S_,bt,rfl,W,st,hfo,hb,hQ⟩:=q;refine Ya (Yr ?_);have hC:s2.heap.objs.size ∉ fo:=λz=>Yw _ (hfo _ z);rw[nm];exact Yc ⟨plainId_quiet YU _,first W bt hb s2.heap.objs.size hC _ dv (W.frame _ _ _ st λb _ o e=>O1 _ e) (Oj _ rfl) λv hp tk a1 a2 kp=>hQ v hp tk a1 a2 λb o b1 e=>kp b o b1 (Ou (Yn e)) (O1 _ e)⟩
 cases hs:Manifest.signature? "max" with
 |none=>exact Yc go
 |some sig=>have ha:=args x dv;simp only[argsOk,hs]at ha;have h2:Bind.checkArgs "max" sig ⟨[x],[("default",dv)]⟩=pure ():=ha;show YB _ A.in1 (Bind.checkArgs "max" sig ⟨[x],[("default",dv)]⟩) _ _ s;rw[h2];exact Yc go
end
end Mx
end L2
namespace L2
open PySem PySem.Spec PyProof.Rows
noncomputable def ZcQ:List Int->Int->Int
 |[],d=>d
 |x::r,_=>r.foldl (λm y=>if y > m then y else m) x
theorem ZgK(ns:List Int):∀k,k<ns.length->(argBest (λi j=>Wz (ns.getD i 0 > ns.getD j 0)) k)<ns.length/\ns.getD (argBest (λi j=>Wz (ns.getD i 0 > ns.getD j 0)) k) 0=ZcQ (ns.take (k+1)) 0
 |0,h=>by
  cases ns with
  |nil=>simp at h
  |cons x r=>exact⟨by simp[argBest],by simp[argBest,ZcQ]⟩
 |k+1,h=>by
  obtain⟨h1,h2⟩:=ZgK ns k (by omega);have e:ZcQ (ns.take (k+1+1)) 0=if ns.getD (k+1) 0 > ZcQ (ns.take (k+1)) 0 then ns.getD (k+1) 0 else ZcQ (ns.take (k+1)) 0:=by
   cases ns with
   |nil=>simp at h
   |cons x r=>
    have hk:k<r.length:=by simpa using h
    show((r.take (k+1)).foldl _ x)=_;rw[List.take_succ_eq_append_getElem hk,List.foldl_append];simp only[Wr,List.foldl_nil];have:(x::r).getD (k+1) 0=r[k]:=by simp[List.getD_eq_getElem?_getD,Og hk]
    rw[this];rfl
  rw[e,<- h2];have ea:argBest (λi j=>Wz (ns.getD i 0 > ns.getD j 0)) (k+1)=if Wz (ns.getD (k+1) 0 > ns.getD (argBest (λi j=>Wz (ns.getD i 0 > ns.getD j 0)) k) 0)=Wx then k+1 else argBest (λi j=>Wz (ns.getD i 0 > ns.getD j 0)) k:=rfl;rw[ea];by_cases q:ns.getD (k+1) 0 > ns.getD (argBest (λi j=>Wz (ns.getD i 0 > ns.getD j 0)) k) 0
  . rw[if_pos (decide_eq_true q),if_pos q];exact⟨h,rfl⟩
  . rw[if_neg (by simpa using q),if_neg q];exact⟨h1,rfl⟩
section
variable {X:Cx}
theorem Znf(hc:X.calm=Wx){pins:List (Yi×Obj)}{s:Yb}{Z:L2.St}{H:Hp}{a:Yi}{ns:List Int}{d:Int}{t:Tok}{Q:VK}(I:Inv X pins Z H s)(hx:SqL X.K H a (ns.map V.int))(q:Q (.int (ZcQ ns d)) H):
 YB (model X.prog X.w) X.A (PySem.call (.builtin "max") [.ref a] [("default",.int d t)]) (EP X pins Z Q) X.xe s:=by
 obtain⟨its,rv,pl,hz⟩:=I.list hx;have hlt:a<s.heap.objs.size:=by obtain⟨_,_,e,_⟩:=pl;exact Yn e
 have hl:its.length=ns.length:=by have:=rv.length;rw[Yu]at this;exact this.symm
 have val:∀{i:Nat}{v:Yj},its.toArray[i]? = Wv v->i<ns.length/\∃t,v=.int (ns.getD i 0) t:=λ{i v} hv=>by
  have hv':its[i]? = Wv v:=by simpa using hv
  have hi:i<ns.length:=by rw[<- hl];exact(Ob.mp hv').1
  have hb:(ns.map V.int)[i]? = Wv (.int ns[i]):=by rw[On,Og hi]<;>rfl
  obtain⟨u',e',r'⟩:=rv.get hb;rw[hv']at e';cases e';obtain⟨t,rfl⟩:=r';exact⟨hi,t,by simp[List.getD_eq_getElem?_getD,Og hi]⟩
 refine Mx.call (wpAny_pyIter_list pl.isList ?_);refine⟨s.heap.objs.size,_,_,_,_,_,λi j=>Wz (ns.getD i 0 > ns.getD j 0),rfl,Walks.list (A:=X.A.in1) (show X.A.in1.handled=Ww from I.ok.hd hc) s.heap.objs.size a (Ou hlt) its.toArray,⟨⟨_,Oj _ rfl,rfl,rfl⟩,pl.isList.push _⟩,?_,?_,λv hp tk a1 a2 kp=>?_⟩
 . intro b hb;have hp1:b<s.heap.objs.size+1:=by
    simp at hb;rcases hb with rfl|rfl
    . exact OH _
    . exact Nat.lt_succ_of_lt hlt
   simpa[Heap.push]using hp1
 . exact CmpOf.ints_gt (λi=>ns.getD i 0) λi v hv=>(val hv).2
 . refine⟨.int (ZcQ ns d),H,I.kept λb o e=>kp b o (λz=>?_) (O1 _ e),?_,q⟩
   . have:b=s.heap.objs.size:=by simpa using z
     subst this;exact absurd (Yn e) (Yw _)
   . have hsz:its.toArray.size=ns.length:=by rw[Of,hl]
     by_cases h0:ns=[]
     . subst h0;have:=a1 (by rw[hsz];rfl);subst this;exact⟨t,rfl⟩
     . have hp0:0<ns.length:=List.length_pos_iff.mpr h0;obtain⟨_,t3,ev⟩:=val (a2 (by rw[hsz];exact hp0));refine⟨t3,?_⟩;rw[ev,hsz,(ZgK ns (ns.length - 1) (by omega)).2,List.take_of_length_le (by omega)];cases ns with
       |nil=>exact absurd rfl h0
       |cons x r=>rfl
end
section
variable {X:Cx}
noncomputable def Zs0(K:Yk)(ta tb:TE):TE:=λZ H Q=>ta Z H λv H1=>tb Z H1 λu H2=>∃a ns d,v=.ref a/\u=.int d/\SqL K H2 a (ns.map V.int)/\Q (.int (ZcQ ns d)) H2
theorem Zo5{x y:Expr}{ta tb:TE}{p kp pos:Pos}(hg:Gl X "max")(hm:X.mg "max" = Ww)(hc:X.calm=Wx)(ha:PE X x ta)(hb:PE X y tb)(he:YA [x] X.env=[(Wy,eval x X.env)]):
 PE X (.Call (.Name "max" p) [x] [⟨Wv "default",y,kp⟩] pos) (Zs0 X.K ta tb):=by
 intro pins s Z H Q I h;refine YY (ZdC I hg hm boot_max ?_);refine PyProof.Rows.callWith_kw ?_ (by rw[he];rfl) (by rw[he];rfl);rw[he];refine Calls.spliced_cons (thn (ha pins s Z H _ I h) λv s1 ⟨vv,H1,I1,r1,q1⟩=>Calls.spliced_nil ?_);refine kws_cons (thn (hb pins s1 Z H1 _ I1 q1) λu s2 ⟨uu,H2,I2,r2,q2⟩=>kws_nil ?_);obtain⟨a,ns,d,rfl,rfl,hq,q⟩:=q2;cases r1;obtain⟨t,rfl⟩:=r2;exact Znf hc I2 hq q
end
end L2
end
section
namespace L2
open PySem PySem.Spec PyProof PyProof.Rows PySem.AutoSeq1
set_option maxRecDepth 8000 in
theorem Zj3(l:Yi)(items:Array Yj)(n:Nat)(b:Yi)(items2:Array Yj)(n2:Nat)(od:Option Yi)(sl:Array (Option Yj))(hs0:¬(!items.isEmpty&&Wq (items.size+items2.size))=Wx)(hs1:items.size<=sizeLine)(hs2:items.size+items2.size<=sizeLine+1):
 Meets (Builtin.«list.extend» ⟨[.ref l,.ref b],[]⟩) (λ_ R s=>s.heap.get? l=Wv {cls:=.type "list",dict:=Ww,data:=.seq items n,slots:=#[]}/\s.heap.get? b=Wv {cls:=.type "tuple",dict:=od,data:=.seq items2 n2,slots:=sl}/\R (.ok (.ret Value.none)) {s with heap:=s.heap.update l (Obj.mapSeq λx=>x++items2),toks:=s.toks}):=
 .of_wp λprog w A R s h=>by
  obtain⟨hp,g,d,tk,os⟩:=s;obtain⟨hl,hb,h⟩:=h;have f1:=idx_int;have f2:=AutoSeq1.sub_tuple_tuple;have f3:=AutoSeq1.sub_list_list;have f4:=AutoSeq1.sub_tuple_list;have f5:=AutoSeq1.sub_list_tuple;have hz':(items++items2).size<=sizeLine+1:=by rw[Array.size_append];exact hs2
  wp_walk using (wpAny_updateSeq hl rfl (hz:=hs1) (_hz':=hz')),wpAny_loadPart' hl,wpAny_loadPart' hb;exact⟨_,rfl,h⟩
section
variable {X:Cx}
def ZmE(K:Yk):V->List V->Hp->VK->Prop:=λx vs H Q=>∃l b xs zs,x=.ref l/\vs=[.ref b]/\H l=Wv (.lst xs)/\SqT K H b zs/\xs.length+zs.length<=sizeLine/\Q .non (upd H l (.lst (xs++zs)))
theorem Zjz:MtM X "list.extend" (ZmE X.K):=by
 intro pins s Z H x vs v us Q I rx rv h;obtain⟨l,b,xs,zs,rfl,rfl,hH,hB,hz,q⟩:=h;cases rx;obtain⟨u,rfl,ru⟩:=rv.one;cases ru;obtain⟨z,its,n,r,hl,e⟩:=I.lstM hH;obtain⟨its2,r2,⟨o,e2,oc,n2,od⟩,z2⟩:=I.tuple hB;obtain⟨cls,dc,dat,sl⟩:=o;simp only at oc od;subst oc;subst od;have hl2:=r2.length;have hsz:its.toArray.size+its2.toArray.size<=sizeLine:=by rw[Of,Of];omega
 have hlong:¬ (!its.toArray.isEmpty&&Wq (its.toArray.size+its2.toArray.size))=Wx:=by rw[Zih hsz,Bool.and_false];exact Ow
 refine call_meets F.slot_list_extend ⟨_,e,rfl⟩ F.entry_list_extend (F.args_list_extend_2 _ _)
  (Zj3 l its.toArray n b its2.toArray n2 dc sl hlong (by rw[Of];omega) (by omega)) ⟨e,e2,?_⟩
 refine⟨.non,_,I.lset (its':=its++its2) hH e (by simp) (r.append r2) ?_,rfl,q⟩;rw[OA];omega
end
end L2
end
section
namespace L2
open PySem PySem.Spec PyProof.Rows
noncomputable def Zsv(K:Yk)(a:Yi)(n:Nat):It:=⟨λi H=>∃xs x,SqL K H a xs/\xs.length=n/\xs.reverse[i]? = Wv x,λi H x H'=>H'=H/\∀xs,SqL K H a xs->xs.reverse[i]? = Wv x,λi H=>∃xs,SqL K H a xs/\xs.length=n/\n=i⟩
theorem Zk7{P:Yh}{w:Yg}{K:Yk}{tg:Expr}(a it:Yi)(n:Nat):Turn P w K tg (Zsv K a n) [it] it (λi h=>i<=n/\h.IsRevIter it a ((n:Int) - 1 - i)) where
 mem:=by simp
 obj:=λi h st b hb=>by
  have e:b=it:=by simpa using hb
  subst e;obtain⟨_,o,e,c,d⟩:=st;exact⟨o,e,λv z=>by rw[d]at z;cases z⟩
 keep:=λi h h' st k=>⟨st.1,st.2.at λo e=>k it (by simp) o e⟩
 item:=by
  intro X hP hw hK hc i pins s Z H E I hf st hg;subst hP hw hK;obtain⟨hin,st⟩:=st;obtain⟨xs,x,hq,hxn,hx⟩:=hg;obtain⟨its,rv,p,hz⟩:=I.list hq;have hl:=rv.length;have hi:i<xs.length:=by have:=(Ob.mp hx).1;simpa using this
  have hx':xs[n - 1 - i]? = Wv x:=by rw[List.getElem?_reverse hi]at hx;rw[<- hxn];exact hx
  obtain⟨u,hu,ru⟩:=rv.get hx';obtain⟨f0,f1,f2,f3,f4,f5⟩:=hf it (by simp);have e1:(n:Int) - 1 - (i:Nat)=((n - 1 - i:Nat):Int):=by omega
  rw[e1]at st;refine wpAny_pyNext_rev_item st p.isList (x:=u) (by simpa using hu) λh' st' sb=>?_;have I1:Inv X pins Z H {s with heap:=h'}:=I.turned (t':=s.toks) (λb o hb e=>(sb.2 b hb).trans e) f0 f1 f3 f4 f5;obtain⟨o,e,c,d⟩:=id st';have e2:((n - 1 - i:Nat):Int) - 1=(n:Int) - 1 - ((i+1:Nat):Int):=by omega
  exact⟨u,rfl,ZiE (s:={s with heap:=h'}) e c d (by decide) ⟨x,H,I1,ru,⟨rfl,λys hy=>by rw[I.list_inj hy hq];exact hx⟩,⟨by omega,by rw[<- e2];exact st'⟩,λb hb=>(hf b hb).1⟩⟩
 done:=by intro X hP hw hK hc i pins s Z H E I hf st hg;subst hP hw hK;obtain⟨xs,hq,hxn,hx⟩:=hg;obtain⟨f0,f1,f2,f3,f4,f5⟩:=hf it (by simp);have st1:=st.2;rw[show(n:Int) - 1 - (i:Nat)=-1 by omega]at st1;exact wpAny_pyNext_rev_end (I.ok.hd hc) st1 λh' eb=>⟨rfl,I.turned (t':=s.toks) (λb o hb e=>eb b o hb e) f0 f1 f3 f4 f5⟩
 self:=λ_ _ _ _ _ st h=>wpAny_pyIter_revIter st.2 h
noncomputable def Zt7(K:Yk)(ta:TA):TI:=λZ H R=>ta Z H λvs H1=>∃a xs,vs=[.ref a]/\((SqT K H1 a xs/\R (Itv K a xs.length) H1)\/(SqL K H1 a xs/\R (Zsv K a xs.length) H1))
theorem Zo2{X:Cx}{tg l:Expr}{ta:TA}{p pos:Pos}(hg:Gl X "reversed")(hm:X.mg "reversed" = Ww)(ha:PA X [l] ta)(hs:YA [l] X.env=[(Wy,eval l X.env)]:=by rfl):
 PI X tg (.Call (.Name "reversed" p) [l] [] pos) (Zt7 X.K ta):=by
 intro pins s Z H R I h;refine Call_ (ZdC I hg hm boot_reversed (PyProof.Rows.callWith_type1 (thn (ha pos pins s Z H _ I h) λus s1 ⟨vs,H1,I1,r1,q1⟩=>?_) hs rfl));obtain⟨a,xs,rfl,q⟩:=q1;obtain⟨u,rfl,ru⟩:=vals1 r1;obtain rfl:u=YD a:=ru;rcases q with ⟨hq,q⟩|⟨hq,q⟩
 . obtain⟨its,rv,pl,hz⟩:=I1.tuple hq;have hl:=rv.length;refine Rv.call pl (by simp;omega) ?_;have e1:((its.toArray.size:Nat):Int) - 1=(xs.length:Int) - 1 - ((0:Nat):Int):=by simp;omega
   have st:Rv.Is (s1.heap.push (Rv.obj a (((its.toArray.size:Nat):Int) - 1))) s1.heap.objs.size a ((xs.length:Int) - 1 - ((0:Nat):Int)):=⟨_,Oj _ rfl,rfl,by rw[<- e1];rfl⟩
   refine Rv.ZgC st ?_;refine⟨s1.heap.objs.size,[s1.heap.objs.size],_,_,H1,rfl,I1.kept (t':=s1.toks+1+1) λb o e=>O1 _ e,Zmd a _ xs.length,⟨Yy _,st⟩,λb hb=>?_,q⟩;have e:b=s1.heap.objs.size:=by simpa using hb
   subst e;exact I1.fpOk (Oq _) (I1.hok.fresh (Oq _))
 . obtain⟨its,rv,pl,hz⟩:=I1.list hq;have hl:=rv.length;refine call_reversed_list pl.isList ?_;have e1:((its.toArray.size:Nat):Int) - 1=(xs.length:Int) - 1 - ((0:Nat):Int):=by simp;omega
   have st:(s1.heap.push (revObj a (((its.toArray.size:Nat):Int) - 1))).IsRevIter s1.heap.objs.size a ((xs.length:Int) - 1 - ((0:Nat):Int)):=⟨_,Oj _ rfl,rfl,by rw[<- e1];rfl⟩
   refine wpAny_pyIter_revIter st ?_;refine⟨s1.heap.objs.size,[s1.heap.objs.size],_,_,H1,rfl,I1.kept (t':=s1.toks) λb o e=>O1 _ e,Zk7 a _ xs.length,⟨Yy _,st⟩,λb hb=>?_,q⟩;have e:b=s1.heap.objs.size:=by simpa using hb
   subst e;exact I1.fpOk (Oq _) (I1.hok.fresh (Oq _))
end L2
end
section
namespace L2
open PySem PySem.Spec PyProof.Rows
namespace Tx
noncomputable def place(x:Str):List Str->Option Nat
 |[]=>Ww
 |y::r=>if y=x then Wv 0 else(place x r).map (·+1)
end Tx
noncomputable def Zfe(K:Yk):Bool:=K.all λp=>!Wz (p.2.cls=.type "tuple") || p.2.dict.isNone
end L2
end
section
namespace L2
open PySem PySem.Spec PyProof.Rows
def ZtZ(X:Cx)(hs:List ExceptHandler)(Q:Flow->Yb->Prop):Yj->Yb->Prop:=λe s₁=>YB (model X.prog X.w) X.A (noteFrame e X.env) (λ_ s₂=>YB (model X.prog X.w) X.A (setFlight e Ww) (λ_ s₃=>YB (model X.prog X.w) X.A (handleBy e X.env hs) Q X.xe s₃) X.xe s₂) X.xe s₁
section
variable {X:Cx}{cx:Str}{np hpos pos:Pos}{C2:Yi}{b0:Stmt}{suite body:List Stmt}
theorem Zlu(hgc:Gl X cx)(hmc:X.mg cx=Wv (.ref C2))(hC:ExcN X.K C2)(hstk:X.stack=X.env::X.outer)(hfrm:X.env.frame=Wv X.env.locals){Q:Flow->Yb->Prop}
 (hdb2:(cx==("__debug__" : Str))=Wy) {Z:St}{E1:XK}{pins:List (Yi×Obj)} (hE:∀cls H',E1 cls Ww H'->YV X.K cls (.ref C2)=Wv Wx/\∀C,cls=.ref C->∀a oe s',oe.cls=cls->Inv (cxH X a oe) pins Z H' s'->YB (model X.prog X.w) (cxH X a oe).A (execs (b0::suite) X.env) Q (λ_ _=>False) s')
 (hcls:∀cls H',E1 cls Ww H'->∃C,cls=.ref C) {H:Hp}{s:Yb}{e:Yj}{s':Yb} (I1:Inv X pins Z H s) (hq:CXF X.prog X.w X.stack H s E1 e s'):ZtZ X [.ExceptHandler (Wv (.Name cx np)) Ww (b0::suite) hpos] Q e s':=by
 obtain⟨a,cls,a0,H',B_,rfl,os,bare,un,hok,fl,kb,hna,h1⟩:=hq;obtain⟨C,rfl⟩:=hcls _ _ h1;obtain⟨hsub,hts⟩:=hE _ _ h1;have hfr:X.A.frames=Wv (X.env::X.outer):=by rw[<- hstk];exact I1.ok.frames
 have fl':Heap.FlyingW B_ (X.env::X.outer) a (.ref C) a0 s'.heap:=by rw[<- hstk];exact fl
 have I':=I1.call' (ch:=[]) os un hok bare (λb z=>absurd z (by simp));have hfo:∀b∈frs X.stack,∃o,s'.heap.get? b=Wv o/\∀vs,o.data≠.fields vs:=λb hb=>by obtain⟨_,o,q,nf⟩:=I'.stack.mem hb;exact⟨o,q,nf⟩
 have atH:∀h2:YG,B_.StaysIn h2->s'.heap.UpToSlots h2->∀tk,Inv X pins Z H' {s' with heap:=h2,toks:=tk}:=λh2 st up tk=>by obtain⟨r1,r2,_⟩:=ZdD un hok kb st up hfo;exact I1.call' (s':={s' with heap:=h2,toks:=tk}) (ch:=[]) os r1 r2 bare (λb z=>absurd z (by simp))
 refine wpAny_looks_onW hfr hfrm fl' λh4 held4 up4=>?_;refine wpAny_landsW held4 λh5 fl5 up5=>?_;have I5:Inv X pins Z H' {s' with heap:=h5}:=atH h5 fl5.1 (up4.trans up5) s'.toks;refine wpAny_handleBy_cons (codeAny_handlers_test (Zcr (X:=cxM X a) (I5.toM a) hgc hmc ?_ hdb2)) (by intro q;cases q);obtain⟨oe,hoe,hoc⟩:=fl5.there;refine ZiI (s:={s' with heap:=h5}) I5.kIn hC.ty hC.cls hC.exc hsub hoe hoc (codeAny_handlers_suite ?_);refine lands_againW fl5 λh6 fl6 up6=>?_;have I6:Inv X pins Z H' {s' with heap:=h6}:=atH h6 fl6.1 ((up4.trans up5).trans up6) s'.toks;obtain⟨oe6,ws,hoe6,hoc6,hod6,_⟩:=fl6.first;have hnl:a≠X.env.locals:=λz=>by obtain⟨m,⟨o,es',ep,ho,hd,_⟩,_⟩:=I6.loc;rw[<- z,hoe6]at ho;cases ho;rw[hod6]at hd;cases hd
 have hnf:a ∉ X.fs:=λz=>by obtain⟨_,o,q,nf⟩:=I6.funs.mem z;rw[hoe6]at q;cases q;exact nf _ hod6
 have IH:Inv (cxH X a oe6) pins Z H' {s' with heap:=h6}:=I6.toH hoe6 hna hnl hnf (λv z=>by rw[hod6]at z;cases z);exact Yf (hts C rfl a oe6 _ hoc6 IH) (λ_ _ z=>z) λ_ _ z=>z.elim
end
noncomputable def ZsX(K:Yk)(sp:Sp)(C2:Yi)(i:Nat)(ts:Yi->Obj->TS)(t:TA):TS:=λD Z H=>t Z H λvs H1=>sp vs H1 (λv H2=>D.nx (Z.set i (Wv v)) H2) (λcls _ H2=>∃C,cls=.ref C/\YV K (.ref C) (.ref C2)=Wv Wx/\∀a oe,ts a oe D Z H2)
section
variable {X:Cx}{k:Nat}{x cx n:Str}{ps:List Str}{sp:Sp}{e:Expr}{es:List Expr}{t:TA}{p np cpos apos hpos pos px:Pos}{C2:Yi}{i:Nat}{b0:Stmt}{suite:List Stmt}{ts:Yi->Obj->TS}
theorem Zln(F:Def X.prog X.w X.K X.mg X.base k x ps sp)(hr:Room k X.A)(hg:Gl X x)(ha:PA X.nox (e::es) t)
 (hgc:Gl X cx) (hmc:X.mg cx=Wv (.ref C2)) (hC:ExcN X.K C2) (hN:X.N.Nodup) (hi:X.N[i]? = Wv n) (hx:Loc X.env.scope n) (hf:X.fn n=Wx\/X.env.scope.names.lookup n=Wv .local) (hstk:X.stack=X.env::X.outer) (hfrm:X.env.frame=Wv X.env.locals)
 (hsuite:∀a oe,PSs (cxH X a oe) (b0::suite) (ts a oe)) (hdb:(x==("__debug__" : Str))=Wy) (hdb2:(cx==("__debug__" : Str))=Wy) (he:YA (e::es) X.env=(Wy,eval e X.env)::YA es X.env) (hpl:(YS cpos (YA es X.env)).any (·.1)=Wy)
 (hsw:swapsWith (.Call (.Name x p) (e::es) [] cpos) (Wv (.Name n px)) apos.line X.env=pure Wy:=by rfl) :
 PS X (.Try [.Assign [.Name n px] (.Call (.Name x p) (e::es) [] cpos) apos] [.ExceptHandler (Wv (.Name cx np)) Ww (b0::suite) hpos] [] [] pos) (ZsX X.K sp C2 i ts t):=by
 obtain⟨f,fd,hm,hk,hb,F⟩:=F;intro pins s Z H D I h;refine wpAny_Try_except (wpAny_execs_cons (wpAny_Assign_Name (YY (Zcr I hg hm ?_ hdb)) hsw));refine PySem.W.callWith_K (h₀:=X.base) I.ok.mod.kin hk (Yf (ha cpos pins s Z H _ (I.wish _) h) (λus s1 ⟨vs,H1,I1',r,q⟩=>?_) λ_ _ z=>z.elim) he hpl;have I1:Inv X pins Z H1 s1:=I1'.unwish;refine⟨I1.kIn,?_⟩;have hlen:(us++[]).length=ps.length:=by rw[Yt,<- r.length];exact F.len _ _ _ _ q
 have hbt:=hb s1 us I1.kIn hlen;rw[Yt]at hbt;refine wpAny_call (codeAny_mono (F.run X.A X.stack s1 H1 ⟨us,[]⟩ us vs _ _ hr I1.env0 hbt r q) λr s' hq=>?_);cases r with
 |ok fl=>
  cases fl with
  |ret u=>obtain⟨v,H',I',rv,q'⟩:=I1.after hq;exact ZdO I' hN hi hx rv (λs2 I2=>wpAny_execs_nil (wpAny_execs_nil ⟨_,H',I2,q'⟩)) hf
  |next=>exact False.elim hq
  |brk=>exact False.elim hq
  |cont=>exact False.elim hq
 |error ev=>
  have hq:CXF X.prog X.w X.stack H1 s1 (λcls _ H2=>∃C,cls=.ref C/\YV X.K (.ref C) (.ref C2)=Wv Wx/\∀a oe,ts a oe D Z H2) ev s':=hq;refine Zlu (np:=np) (hpos:=hpos) (Z:=Z) (Q:=SP X pins D) hgc hmc hC hstk hfrm hdb2 (λcls H' z=>?_) (λcls H' z=>?_) I1 hq
  . obtain⟨C,rfl,hs,ht⟩:=z;refine⟨hs,λ_ _ a oe s' _ I'=>?_⟩;refine Yf (hsuite a oe pins s' Z H' D I' (ht a oe)) (λfl s8 q8=>?_) λ_ _ z=>z;cases fl with
    |next=>obtain⟨σ',H8,I8,q8⟩:=q8;exact⟨σ',H8,I8.ofH I.ok.hd,q8⟩
    |brk=>obtain⟨σ',H8,I8,q8⟩:=q8;exact⟨σ',H8,I8.ofH I.ok.hd,q8⟩
    |cont=>obtain⟨σ',H8,I8,q8⟩:=q8;exact⟨σ',H8,I8.ofH I.ok.hd,q8⟩
    |ret v=>obtain⟨y,σ',H8,I8,r8,q8⟩:=q8;exact⟨y,σ',H8,I8.ofH I.ok.hd,r8,q8⟩
  . obtain⟨C,rfl,_⟩:=z;exact⟨C,rfl⟩
end
end L2
end
section
namespace L2
open PySem PySem.Spec PyProof.Rows
theorem ZlC{e:Yj}{env env':Env}(h:env.frame=env'.frame):noteFrame e env=noteFrame e env':=by unfold noteFrame PySem.frameOf;rw[h]
structure Fly(B_:YG)(l:List Env)(a:Yi)(cls a0 fl:Yj)(h:YG):Prop where
 stay:B_.StaysIn h
 new:B_.get? a=Ww
 fr:h.FunFrames B_ l
 tr:h.TracedAtW B_ a cls a0 fl
section
variable {M:Model}{A:YH}{E:Yj->Yb->Prop}{s:Yb}{B_:YG}{l:List Env}{a:Yi}{cls a0 fl:Yj}{Q:Unit->Yb->Prop}
theorem Zl9{h:YG}{T:Yi}{oT:Obj}{ts:Array Yj}{v:Yj}(x:Fly B_ l a cls a0 fl h)(t1:h.get? T=Wv oT)(t2:oT.data=.fields ts)(t3:B_.get? T=Ww):
 (∀b,b≠T->(h.update T (Obj.mapFields (·.setIfInBounds 3 v))).get? b=h.get? b)/\B_.StaysIn (h.update T (Obj.mapFields (·.setIfInBounds 3 v)))/\(h.update T (Obj.mapFields (·.setIfInBounds 3 v))).FunFrames B_ l/\h.UpToSlots (h.update T (Obj.mapFields (·.setIfInBounds 3 v))):=by
 have o:∀b,b≠T->(h.update T (Obj.mapFields (·.setIfInBounds 3 v))).get? b=h.get? b:=λb hb=>YN _ _ (YL hb);have nr:∀b ob,h.get? b=Wv ob->(∀vs,ob.data≠.fields vs)->b≠T:=λb ob hb hn z=>by subst z;cases t1.symm.trans hb;exact hn _ t2
 exact⟨o,λb ob hb=>(o b λz=>by subst z;cases t3.symm.trans hb).trans (x.stay b ob hb),x.fr.of_keeps λb ob hb hn=>⟨ob,(o b (nr b ob hb hn)).trans hb,rfl⟩,λb ob hb hn=>⟨ob.slots,(o b (nr b ob hb hn)).trans hb⟩⟩
theorem ZfV(x:Fly B_ l a cls a0 fl s.heap){f:Option Yi}(q:∀h',Fly B_ l a cls a0 (f.elim .none λz=>rawInt z) h'->s.heap.UpToSlots h'->Q () {s with heap:=h'}):YB M A (setFlight (.ref a) f) Q E s:=by obtain⟨oe,us,T,oT,ts,b1,b2,b3,b4,b5,b6,b7,b8,b9⟩:=x.tr;have z3:3<ts.size:=(Array.getElem?_eq_some_iff.mp b9).1;obtain⟨o,k1,k2,k3⟩:=Zl9 (v:=f.elim .none λz=>rawInt z) x b7 b8 b5;unfold setFlight;refine Ya (YR b1 b3 b4 ?_);rw[if_pos (by simp)];refine wpAny_setField b7 b8 z3 (q _ ⟨k1,x.new,k2,oe,us,T,_,_,(o a (YL b6)).trans b1,b2,b3,b4,b5,b6,YX _ b7 (Obj.isFreed_of_fields (YZ b8 _)),YZ b8 _,by simp[z3]⟩ k3)
theorem ZjH{env:Env}{outer:List Env}{L:Yi}(hfr:A.frames=Wv (env::outer))(hf:env.frame=Wv L)(x:Fly B_ (env::outer) a cls a0 fl s.heap)(q:∀h',Heap.FlyingW B_ outer a cls a0 h'->s.heap.UpToSlots h'->Q () {s with heap:=h'}):YB M A (leaving env (.ref a)) Q E s:=by
 have fin:∀(s1:Yb),Fly B_ (env::outer) a cls a0 (rawInt L) s1.heap->s.heap.UpToSlots s1.heap->(∀h',{s1 with heap:=h'}={s with heap:=h'})->YB M A (setFlight (.ref a) Ww) Q E s1:=λs1 x1 u e=>ZfV x1 λh' x2 u2=>by rw[e];exact q h' ⟨x2.stay,x2.new,x2.fr.2.2,x2.tr⟩ (u.trans u2)
 unfold leaving;refine Ya ?_;by_cases hL:fl=rawInt L
 . subst hL;exact wpAny_noteFrame_againW hf x.tr (fin s x (Heap.UpToSlots.refl _) λ_=>rfl)
 . obtain⟨oe,us,T,oT,ts,b1,b2,b3,b4,b5,b6,b7,b8,b9⟩:=x.tr;obtain⟨c1,c2⟩:=b2;subst c1;obtain⟨o,k1,k2,k3⟩:=Zl9 (v:=.none) x b7 b8 b5;unfold noteFrame;simp only[hf];refine Ya (YR b1 b3 b4 ?_);rw[if_pos (by simp)];refine Ya (YR b7 b8 b9 ?_);rw[if_neg (by simpa using hL)];refine Ya (wpAny_setField b7 b8 (Array.getElem?_eq_some_iff.mp b9).1 ?_);refine wpAny_entryW hfr k2 hf ((o a (YL b6)).trans b1) k1 x.new b3 (Array.getElem?_eq_some_iff.mp b4).1 c2 λh' ⟨x1,x2,x3,x4⟩=>?_;exact fin _ ⟨x1,x.new,x2,x3⟩ (k3.trans x4) λ_=>rfl
end
theorem Zip{P:Yh}{w:Yg}{fs:List Yi}{H H':Hp}{h h1 h2 B_:YG}(un:Un fs [] H H' h h1)(hok:HOk P w H' h1)(kb:Kept fs H' h h1 B_)(stay:B_.StaysIn h2)
 (hf:∀b∈fs,∀o,h1.get? b=Wv o->∃sl,h2.get? b=Wv {o with slots:=sl}):Un fs [] H H' h h2/\HOk P w H' h2/\Kept fs H' h h2 B_:=by
 have tr:∀b u,H' b=Wv u->∃o,h1.get? b=Wv o/\h2.get? b=Wv o/\B_.get? b=Wv o:=λb u e=>by obtain⟨o,q⟩:=(hok b u e).there;have z:=kb b o q (.inl (by rw[e];simp));exact⟨o,q,stay _ _ z,z⟩
 have old:∀b o,h.get? b=Wv o->b ∉ fs->∃o1,h1.get? b=Wv o1/\h2.get? b=Wv o1/\B_.get? b=Wv o1:=λb o e hb=>by obtain⟨o1,q⟩:=un.there b o e (by simp);have z:=kb b o1 q (.inr ⟨⟨o,e⟩,hb⟩);exact⟨o1,q,stay _ _ z,z⟩
 refine⟨⟨λb o e n hb _=>?_,λb o e n hb _=>?_,λb o e n _=>un.free b o e n (by simp),λb o e _=>?_,un.tups,un.frzs,un.tbls⟩,λb u e=>?_,λb o e hb=>?_⟩
 . obtain⟨o1,q1,q2,_⟩:=old b o e hb;cases (un.keep b o e n hb (by simp)).symm.trans q1;exact q2
 . obtain⟨sl,z⟩:=un.slot b o e n hb (by simp);obtain⟨sl',q⟩:=hf b hb _ z;exact⟨sl',q⟩
 . by_cases hb:b∈fs
   . obtain⟨o1,q1⟩:=un.there b o e (by simp);obtain⟨sl',q⟩:=hf b hb _ q1;exact⟨_,q⟩
   . obtain⟨o1,_,q2,_⟩:=old b o e hb;exact⟨_,q2⟩
 . refine(hok b u e).stay (λc v hc q=>?_) (λ_ q=>q) λ_ _ q=>q;have hc':∃u',H' c=Wv u':=by
    rcases hc with rfl|hc
    . exact⟨u,e⟩
    . exact⟨_,hc⟩
   obtain⟨u',e'⟩:=hc';obtain⟨o,q1,q2,_⟩:=tr c u' e';cases q.symm.trans q1;exact q2
 . rcases hb with hb|⟨⟨o',e'⟩,hb⟩
   . cases q:H' b with
     |none=>exact absurd q hb
     |some u=>obtain⟨o1,q1,q2,q3⟩:=tr b u q;cases e.symm.trans q2;exact q3
   . obtain⟨o1,q1,q2,q3⟩:=old b o' e' hb;cases e.symm.trans q2;exact q3
theorem Fly.hide{B_ h h':YG}{l:List Env}{a C:Yi}{cls a0 fl:Yj}{m:Str->Option Yj}(x:Fly B_ l a cls a0 fl h)(hn:h.Ns C m)(sb:Heap.SameBut C h h')(hl:∀b∈l.filterMap (·.frame),b≠C):Fly (Wb B_ [C]) l a cls a0 fl h':=by
 obtain⟨oC,es,ep,hoC,hdC,_⟩:=hn;have nf:∀b o vs,h.get? b=Wv o->o.data=.fields vs->b≠C:=λb o vs e d z=>by subst z;cases hoC.symm.trans e;rw[hdC]at d;cases d
 have small:∀b,B_.get? b=Ww->(Wb B_ [C]).get? b=Ww:=λb e=>by
  cases q:(Wb B_ [C]).get? b with
  |none=>rfl
  |some o=>rw[PySem.W.of_hideAll _ q]at e;cases e
 obtain⟨oe,us,T,oT,ts,b1,b2,b3,b4,b5,b6,b7,b8,b9⟩:=x.tr;refine⟨λb o e=>?_,small _ x.new,?_,oe,us,T,oT,ts,(sb.2 a (nf _ _ _ b1 b3)).trans b1,b2,b3,b4,small _ b5,b6,(sb.2 T (nf _ _ _ b7 b8)).trans b7,b8,b9⟩
 . have hb:b≠C:=λz=>by rw[z,PySem.W.hideAll_none [C] (by simp)]at e;cases e
   exact(sb.2 b hb).trans (x.stay b o (PySem.W.of_hideAll _ e))
 . have go:∀l:List Env,h.FunFrames B_ l->(∀b∈l.filterMap (·.frame),b≠C)->h'.FunFrames (Wb B_ [C]) l:=by
    intro l;induction l with
    |nil=>exact λ_ _=>trivial
    |cons e r ih=>rintro ⟨k,⟨L,o,f1,f2,f3,f4⟩,k2⟩ hb;have hL:L≠C:=hb L (List.mem_filterMap.mpr ⟨e,Oi,f1⟩);refine⟨k,⟨L,o,f1,small _ f2,(sb.2 L hL).trans f3,f4⟩,ih k2 λb hb'=>hb b ?_⟩;obtain⟨y,hy,ey⟩:=List.mem_filterMap.mp hb';exact List.mem_filterMap.mpr ⟨y,Oh _ hy,ey⟩
   exact go l x.fr hl
section
variable {P:Yh}{w:Yg}{K:Yk}{mg:Str->Option Yj}{base:YG}{N:List Str}{qual:Str}{scope:Scope}{f:Yi}{cd:Yj}{A:YH}{outer:List Env}{s0:Yb}{H0:Hp}{E:XK}
theorem Zlv{NC:List Str}{sc:Scope}{C:Yi}{s3:Yb}{H3:Hp}{fp:List Yi}{pins3:List (Yi×Obj)}{σ3:St}(I3:Inv (Zer (CXF P w) P w K mg base N qual scope f cd A outer s0 H0 E) pins3 σ3 H3 s3)
 (f3:∀b∈fp,Zbl (Zer (CXF P w) P w K mg base N qual scope f cd A outer s0 H0 E) pins3 H3 b) (hC:C=s3.heap.objs.size) {E1:XK} (hE:∀cls H',E1 cls Ww H'->E cls Ww H'):ZaL (CXF P w) (Zv (Zer (CXF P w) P w K mg base N qual scope f cd A outer s0 H0 E) NC sc C s3 H3 fp) E1:=by
 intro pins Z H s e s' I hx;obtain⟨a,cls,a0,H',B_,rfl,os,bare,un,hok,fl,kb,ha,hE1⟩:=hx;have I':=I.call' (ch:=[]) os un hok bare (λb z=>absurd z (by simp));have I0:Inv (Zv (Zer (CXF P w) P w K mg base N qual scope f cd A outer s0 H0 E) NC sc C s3 H3 fp) [] Z H' s':=I'.pins_of λp hp=>by cases hp
 have Io:=I3.comp_out (h'':=s'.heap) f3 hC I0 ⟨rfl,λ_ _=>rfl⟩;have hfr:(A.deeper (envOfC qual scope s0.heap.objs.size f cd)).frames=Wv (envOfC qual scope s0.heap.objs.size f cd::outer):=I3.ok.frames;have lt3:s0.heap.objs.size<s3.heap.objs.size:=I3.lt;have frC:∀b∈frs (envOfC qual scope s0.heap.objs.size f cd::outer),b≠C:=λb hb z=>by
  have hm:b∈s0.heap.objs.size::frs outer:=I3.stkSub b hb;subst z;rw[hC]at hm;rcases O3.mp hm with q|q
  . exact absurd q (Nat.ne_of_gt lt3)
  . obtain⟨_,o,q1,_⟩:=I3.funs.mem q;exact absurd (Yn q1) (Yw _)
 show YB (model P w) (A.deeper (envOfC qual scope s0.heap.objs.size f cd)) (noteFrame (.ref a) _) _ _ s';rw[ZlC (env:=compEnvC sc (ZcV (Zer (CXF P w) P w K mg base N qual scope f cd A outer s0 H0 E).env sc.names []) C (Zer (CXF P w) P w K mg base N qual scope f cd A outer s0 H0 E).env) (env':=envOfC qual scope s0.heap.objs.size f cd) rfl];refine wpAny_looks_onW hfr rfl fl λh4 held4 up4=>?_;obtain⟨m,hn,_⟩:=I'.loc;have hn4:h4.Ns C m:=up4.ns hn;refine⟨m,hn4,λh5 sb cenv hc=>?_⟩;have x5:Fly (Wb B_ [C]) (envOfC qual scope s0.heap.objs.size f cd::outer) a cls a0 (rawInt s0.heap.objs.size) h5:=Fly.hide ⟨held4.1,held4.2.1,held4.2.2.1,held4.2.2.2⟩ hn4 sb frC;have ht:=x5.tr;obtain⟨oe,us,T,oT,ts,b1,b2,b3,b4,b5,b6,b7,b8,b9⟩:=ht;unfold PySem.passOn;refine Ya (YR b1 b3 b4 ?_);rw[if_neg (by simp)];refine Ya (ZfV (s:={s' with heap:=h5}) x5 λh6 x6 up6=>wpAny_throw ?_);show YB (model P w) (A.deeper (envOfC qual scope s0.heap.objs.size f cd)) (leaving (envOfC qual scope s0.heap.objs.size f cd) (.ref a)) _ _ {s' with heap:=h6};refine ZjH hfr rfl x6 λh7 x7 up7=>?_;have kb':Kept (frs outer) H' s0.heap s'.heap (Wb B_ [C]):=λb o e1 hb=>by
  have nC:b≠C:=λz=>by
   subst z;rcases hb with hb|⟨⟨o',e'⟩,hb⟩
   . exact hb I'.free
   . rw[hC]at e';exact absurd (Yn e') (Nat.not_lt.mpr (Nat.le_of_lt lt3))
  refine PySem.W.hideAll_get _ (kb b o e1 ?_) (by simpa using nC);rcases hb with hb|⟨⟨o',e'⟩,hb⟩
  . exact .inl hb
  . obtain⟨o1,q1⟩:=(I3.base:Un (frs outer) [] H0 H3 s0.heap s3.heap).there b o' e' (show b ∉ ([]:List Yi)from List.not_mem_nil);have nfp:b ∉ fp:=λhm=>by
     rcases(f3 b hm).2.2.2.1 with z|z
     . cases z
     . exact absurd (Yn e') (Nat.not_lt.mpr z)
    obtain⟨o2,q2⟩:=I.base.there b o1 q1 nfp;refine .inr ⟨⟨o2,q2⟩,λhm=>?_⟩;have hm':b∈s0.heap.objs.size::frs outer:=I3.stkSub b hm;rcases O3.mp hm' with z|z
    . rw[z]at e';exact absurd (Yn e') (Yw _)
    . exact hb z
 have hff:∀b∈frs outer,∀o,s'.heap.get? b=Wv o->∃sl,h7.get? b=Wv {o with slots:=sl}:=λb hb o e1=>by
  obtain⟨_,o',q1,nf⟩:=Io.funs.mem hb;cases e1.symm.trans q1;obtain⟨sl4,q4⟩:=up4 b o e1 nf;have hm:b∈frs (envOfC qual scope s0.heap.objs.size f cd::outer):=by obtain⟨y,hy,ey⟩:=List.mem_filterMap.mp hb;exact List.mem_filterMap.mpr ⟨y,Oh _ hy,ey⟩
  have q5:=(sb.2 b (frC b hm)).trans q4;obtain⟨sl6,q6⟩:=up6 b _ q5 nf;obtain⟨sl7,q7⟩:=up7 b _ q6 nf;exact⟨sl7,q7⟩
 obtain⟨r1,r2,r3⟩:=Zip (Io.base:Un (frs outer) [] H0 H' s0.heap s'.heap) hok kb' x7.1 hff;exact⟨a,cls,a0,H',_,rfl,Io.os,bare,r1,r2,x7,r3,ha,hE _ _ hE1⟩
end
end L2
end
section
set_option tactic.hygienic false
namespace IV
open PySem PySem.Spec PyProof.Rows L2
inductive D where
 |non|bl (b:Bool)|int (i:Int)|str (x:Str)|tup (xs:List D)|ref (i:Nat)|ty (n:String)
 |ro (xs:List D)|kd (x:Str)
inductive DO where
 |lst (xs:List D)|dic (kvs:List (Key×D))|ins (C:Str) (fs:List (Str×D))
 |fdic (kvs:List (Key×D))
noncomputable abbrev Hd:=List DO
inductive R(α:Type) where
 |bad|ok (a:α) (h:Hd)|exc (c:Str) (h:Hd)
noncomputable def R.bind{α β:Type}(r:R α)(k:α->Hd->R β):R β:=match r with
 |.bad=>.bad
 |.ok a h=>k a h
 |.exc c h=>.exc c h
theorem R.bind_ok{α β:Type}{a:α}{h:Hd}{k:α->Hd->R β}:(R.ok a h).bind k=k a h:=rfl
theorem R.bind_bad{α β:Type}{k:α->Hd->R β}:(R.bad:R α).bind k=.bad:=rfl
noncomputable def R.ofO{α:Type}(o:Option α)(h:Hd):R α:=match o with
 |some a=>.ok a h
 |none=>.bad
theorem R.ofO_some{α:Type}{a:α}{h:Hd}:R.ofO (Wv a) h=.ok a h:=rfl
noncomputable abbrev Ev:=List (Option D)
inductive Bf where
 |len|isi|int|tup|lst|sum|all|srt|mx
 deriving DecidableEq
inductive Mf where
 |app|ext|pop|rev|clr
 deriving DecidableEq
mutual
inductive Ex where
 |var (i:Nat)|cst (d:D)|glo (x:Str)
 |bin (op:Operator) (a b:Ex)|cmp (op:CmpOp) (a b:Ex)|cmp2 (op op':CmpOp) (a b c:Ex)
 |neg (a:Ex)|nt (a:Ex)|ands (es:Exs)|ors (es:Exs)|ite (c:Tx) (a b:Ex)
 |tupl (es:Exs)|lstl (es:Exs)|ix (a i:Ex)|sl (a:Ex) (lo hi:Option Ex)
 |blt (f:Bf) (es:Exs)|call (f:Str) (es:Exs)|meth (m:Mf) (o:Ex) (es:Exs)
 |comp (NC:List Str) (js:List (Option Nat)) (it:Ix) (g:Tg) (c:Option Tx) (e:Ex)
 |sorts (e:Ex)|dictl (ps:Exs)|maxd (e d:Ex)
 |att (Cs:List Str) (o:Ex) (f:Str)|mk (C:Str) (es:Exs)|mcl (C m:Str) (o:Ex) (es:Exs)|any
 |trev (e:Ex)|tix (o e:Ex)|lrv (e:Ex)|lix (o e:Ex)|lin (a b:Ex)
inductive Exs where
 |nil|cons (e:Ex) (es:Exs)
inductive Ix where
 |pl (e:Ex)|rng (e:Ex)|rng2 (a b:Ex)|enu (e:Ex)|rev (e:Ex)
 |en1 (e:Ex)|en0 (e:Ex)|dk (e:Ex)
inductive Tg where
 |nm (i:Nat)|two (i j:Nat)|many (is:List Nat)
inductive Tx where
 |ex (e:Ex)|ands (ts:Txs)|ors (ts:Txs)|nt (a:Tx)
inductive Txs where
 |one (t:Tx)|cons (t:Tx) (ts:Txs)
end
mutual
inductive Sx where
 |ret (e:Ex)|set (g:Tg) (e:Ex)|put (o i e:Ex)|aug (i:Nat) (op:Operator) (e:Ex)|drp (e:Ex)
 |iff (c:Tx) (a b:Sxs)|whl (c:Tx) (b:Sxs)|forr (g:Tg) (it:Ix) (b:Sxs)|pas|brk|cnt
 |seta (Cs:List Str) (o:Ex) (f:Str) (e:Ex)|auga (Cs:List Str) (o:Ex) (f:Str) (e:Ex)|any
 |rai (C:Str) (e:Ex)|trs (i:Nat) (f:Str) (es:Exs) (C:Str)
inductive Sxs where
 |nil|cons (s:Sx) (r:Sxs)
end
noncomputable instance:DecidableEq D:=λa b=>Classical.propDecidable (a=b)
noncomputable instance:DecidableEq DO:=λa b=>Classical.propDecidable (a=b)
mutual
noncomputable def D.py(rd:Nat->Option PyData):D->Option PyData
 |.non=>Wv .none
 |.bl b=>Wv (.bool b)
 |.int i=>Wv (.int i)
 |.str x=>Wv (.str x)
 |.tup xs=>(D.pys rd xs).map .tuple
 |.ro xs=>(D.pys rd xs).map .list
 |.ref i=>rd i
 |_=>Ww
noncomputable def D.pys(rd:Nat->Option PyData):List D->Option (List PyData)
 |[]=>Wv []
 |x::xs=>(D.py rd x).bind λd=>(D.pys rd xs).map λds=>d::ds
end
noncomputable def ZeR(h:Hd):Nat->Nat->Option PyData
 |0,_=>Ww
 |n+1,i=>match h[i]? with
  |some (.lst xs)=>(D.pys (ZeR h n) xs).map .list
  |_=>Ww
noncomputable def ZeS(h:Hd)(d:D):Option PyData:=D.py (ZeR h 4) d
noncomputable def ZcH(o:DO)(h:Hd):R D:=.ok (.ref h.length) (h++[o])
noncomputable def lstOf(d:D)(h:Hd):Option (List D):=match d with
 |.ref i=>match h[i]? with
  |some (.lst xs)=>Wv xs
  |_=>Ww
 |.ro xs=>Wv xs
 |_=>Ww
noncomputable def dicOf(GD:Str->Option (List (Key×D)))(d:D)(h:Hd):Option (List (Key×D)):=match d with
 |.ref i=>match h[i]? with
  |some (.dic kvs)=>Wv kvs
  |some (.fdic kvs)=>Wv kvs
  |_=>Ww
 |.kd x=>GD x
 |_=>Ww
noncomputable def keyOf:D->Option Key
 |.int i=>Wv (.inl i)
 |.str x=>Wv (.inr x)
 |_=>Ww
noncomputable def Zay(kvs:List (Key×D))(k:Key):Option D:=(kvs.find? λp=>Wz (p.1=k)).map (·.2)
noncomputable def putD(kvs:List (Key×D))(k:Key)(v:D):List (Key×D):=if (kvs.any λkv=>Wz (kv.1=k))=Wx then kvs.map (λkv=>if kv.1=k then(kv.1,v)else kv)else kvs++[(k,v)]
noncomputable def cutD(xs:List D)(lo hi:Option Int):List D:=(xs.drop (HT.sIx xs.length 0 lo)).take (HT.sIx xs.length xs.length hi - HT.sIx xs.length 0 lo)
noncomputable def D.flat:D->Bool
 |.int _|.str _|.bl _|.non=>Wx
 |_=>Wy
noncomputable def eqF:D->D->Bool
 |.int i,.int j=>i==j
 |.str i,.str j=>i==j
 |.non,.non=>Wx
 |.bl i,.bl j=>i==j
 |.int i,.bl j=>i==(if j then 1 else 0)
 |.bl i,.int j=>(if i then 1 else 0)==j
 |_,_=>Wy
noncomputable def Zcm(GD:Str->Option (List (Key×D)))(d:D)(h:Hd):Option Bool:=match d with
 |.non=>Wv Wy
 |.bl b=>Wv b
 |.int i=>Wv (i != 0)
 |.str x=>if x.length<=sizeLine then Wv (!(x.length==0))else Ww
 |.tup xs=>Wv (!xs.isEmpty)
 |.ref i=>match h[i]? with
  |some (.lst xs)=>Wv (!xs.isEmpty)
  |some (.dic xs)=>Wv (!xs.isEmpty)
  |_=>Ww
 |.ro xs=>Wv (!xs.isEmpty)
 |_=>Ww
noncomputable def int2(x y:D)(k:Int->Int->R D):R D:=match x with
 |.int i=>match y with
  |.int j=>k i j
  |_=>.bad
 |_=>.bad
noncomputable def Zl1(x y:D)(h:Hd):R D:=match x with
 |.int i=>match y with
  |.int j=>.ok (.int (i+j)) h
  |_=>.bad
 |.str i=>match y with
  |.str j=>if i.length+j.length<=sizeLine then .ok (.str (i++j)) h else .bad
  |_=>.bad
 |.tup xs=>match y with
  |.tup ys=>if xs.length+ys.length<=sizeLine then .ok (.tup (xs++ys)) h else .bad
  |_=>.bad
 |.ref i=>match y with
  |.ref j=>match h[i]? with
   |some (.lst xs)=>match h[j]? with
    |some (.lst ys)=>if xs.length+ys.length<=sizeLine then ZcH (.lst (xs++ys)) h else .bad
    |_=>.bad
   |_=>.bad
  |_=>.bad
 |_=>.bad
noncomputable def ZtO(x y:D)(h:Hd):R D:=match x with
 |.str z=>match y with
  |.int n=>if 0<=n/\n<=1000/\z.length<=1000 then .ok (.str (Zeh z n.toNat)) h else .bad
  |_=>.bad
 |x=>int2 x y λi j=>if i.natAbs<2 ^ 2000/\j.natAbs<2 ^ 2000 then .ok (.int (i * j)) h else .bad
noncomputable def opB(op:Operator)(x y:D)(h:Hd):R D:=match op with
 |.Add=>Zl1 x y h
 |.Sub=>int2 x y λi j=>.ok (.int (i - j)) h
 |.Mult=>ZtO x y h
 |.Mod=>int2 x y λi j=>if 0<j then .ok (.int (i % j)) h else .bad
 |.FloorDiv=>int2 x y λi j=>if 0<j/\j<1073741824 then .ok (.int (i / j)) h else .bad
 |.Pow=>int2 x y λi j=>if 0<=j/\j<=1000000/\i.natAbs<2 ^ 64 then .ok (.int (i ^ j.toNat)) h else .bad
 |_=>.bad
noncomputable def ZbS(neg:Bool)(x y:D)(h:Hd):R D:=match ZeS h x,ZeS h y with
 |some a,Wv b=>if min a.depth b.depth<=1100 then .ok (.bl (if neg then !YQ a b else YQ a b)) h else .bad
 |_,_=>.bad
noncomputable def seqOf(d:D)(h:Hd):Option (List D):=match d with
 |.tup xs=>Wv xs
 |d=>lstOf d h
noncomputable def Zbh(GD:Str->Option (List (Key×D)))(neg:Bool)(x y:D)(h:Hd):R D:=match seqOf y h with
 |some xs=>if x.flat&&xs.all D.flat then .ok (.bl (if neg then !xs.any (λz=>eqF z x)else xs.any λz=>eqF z x)) h else .bad
 |none=>match dicOf GD y h,keyOf x with
  |some kvs,Wv k=>.ok (.bl (if neg then !(Zay kvs k).isSome else(Zay kvs k).isSome)) h
  |_,_=>.bad
noncomputable def Zg9(f:Int->Int->Bool)(x y:D)(h:Hd):R D:=match x,y with
 |.int i,.int j=>.ok (.bl (f i j)) h
 |_,_=>.bad
noncomputable def opN(neg:Bool)(x y:D)(h:Hd):R D:=match y with
 |.non=>.ok (.bl (if neg then !Wz (x=.non)else Wz (x=.non))) h
 |_=>.bad
noncomputable def opC(GD:Str->Option (List (Key×D)))(op:CmpOp)(x y:D)(h:Hd):R D:=match op with
 |.Eq=>ZbS Wy x y h
 |.NotEq=>ZbS Wx x y h
 |.Lt=>Zg9 (λi j=>Wz (i<j)) x y h
 |.LtE=>Zg9 (λi j=>Wz (i<=j)) x y h
 |.Gt=>Zg9 (λi j=>Wz (j<i)) x y h
 |.GtE=>Zg9 (λi j=>Wz (j<=i)) x y h
 |.In=>Zbh GD Wy x y h
 |.NotIn=>Zbh GD Wx x y h
 |.Is=>opN Wy x y h
 |.IsNot=>opN Wx x y h
noncomputable def Z8(GD:Str->Option (List (Key×D)))(x y:D)(h:Hd):R D:=match y with
 |.int i=>match seqOf x h with
  |some xs=>R.ofO (atI xs i) h
  |none=>match x with
   |.str z=>if z.length<=sizeLine then R.ofO ((atI z.cps.toList i).map λc=>.str ⟨#[c]⟩) h else .bad
   |_=>match dicOf GD x h with
    |some kvs=>R.ofO (Zay kvs (.inl i)) h
    |none=>.bad
 |.str z=>match dicOf GD x h with
  |some kvs=>R.ofO (Zay kvs (.inr z)) h
  |none=>.bad
 |_=>.bad
noncomputable def Zif(x:D)(l u:Option Int)(h:Hd):R D:=match x with
 |.tup xs=>.ok (.tup (cutD xs l u)) h
 |.str y=>if y.length<=sizeLine then .ok (.str (Yq y l u)) h else .bad
 |d=>match lstOf d h with
  |some xs=>ZcH (.lst (cutD xs l u)) h
  |none=>.bad
noncomputable def ZsQ(d:D)(h:Hd):Option String:=match d with
 |.int _=>Wv "int"
 |.str _=>Wv "str"
 |.bl _=>Wv "bool"
 |.non=>Wv "NoneType"
 |.tup _=>Wv "tuple"
 |d=>(lstOf d h).map λ_ => "list"
noncomputable def ZjX(t T:String):Option Bool:=if T∈["int", "str", "bool", "tuple", "list"]/\t∈["int", "str", "bool", "tuple", "list", "NoneType"]then Wv (t==T || (t == "bool" && T == "int"))else Ww
noncomputable def intsOf:List D->Option (List Int)
 |[]=>Wv []
 |.int i::r=>(intsOf r).map λz=>i::z
 |_=>Ww
noncomputable def Zqz:List D->Option (List Bool)
 |[]=>Wv []
 |.bl i::r=>(Zqz r).map λz=>i::z
 |_=>Ww
noncomputable def strsOf:List D->Option (List Str)
 |[]=>Wv []
 |.str i::r=>(strsOf r).map λz=>i::z
 |_=>Ww
noncomputable def Zdc:List (Key×D)->Option (List Str)
 |[]=>Wv []
 |(.inr x,_)::r=>(Zdc r).map λz=>x::z
 |_=>Ww
noncomputable def Zlk(x:Str):List Str->List Str
 |[]=>[x]
 |y::r=>if ltCps y.cps.toList x.cps.toList then y::Zlk x r else x::y::r
noncomputable def Zb3:List Str->List Str
 |[]=>[]
 |x::r=>Zlk x (Zb3 r)
noncomputable def Zi5(xs:List D)(h:Hd):R D:=match xs with
 |[.str y]=>if y.length<=sizeLine then .ok (.int y.length) h else .bad
 |[d]=>R.ofO ((seqOf d h).map λxs=>.int xs.length) h
 |_=>.bad
noncomputable def Zsr(xs:List D)(h:Hd):R D:=match xs with
 |[d,.ty T]=>R.ofO ((ZsQ d h).bind λt=>(ZjX t T).map .bl) h
 |_=>.bad
noncomputable def ZvO(xs:List D)(h:Hd):R D:=match xs with
 |[.int i]=>.ok (.int i) h
 |[.bl b]=>.ok (.int (if b then 1 else 0)) h
 |_=>.bad
noncomputable def Zn9(xs:List D)(h:Hd):R D:=match xs with
 |[.tup xs]=>.ok (.tup xs) h
 |[d]=>R.ofO ((lstOf d h).map .tup) h
 |_=>.bad
noncomputable def ZvN(xs:List D)(h:Hd):R D:=match xs with
 |[d]=>match seqOf d h with
  |some xs=>ZcH (.lst xs) h
  |none=>.bad
 |_=>.bad
noncomputable def ZlZ(xs:List D)(h:Hd):R D:=match xs with
 |[d]=>R.ofO (((lstOf d h).bind intsOf).map λns=>.int ns.sum) h
 |_=>.bad
noncomputable def ZvP(xs:List D)(h:Hd):R D:=match xs with
 |[d]=>R.ofO (((lstOf d h).bind Zqz).map λbs=>.bl (bs.all id)) h
 |_=>.bad
noncomputable def Zea(GD:Str->Option (List (Key×D)))(xs:List D)(h:Hd):R D:=match xs with
 |[d]=>match (dicOf GD d h).bind Zdc with
  |some ss=>if ss.length<64/\ss.all Yp=Wx then ZcH (.lst ((Zb3 ss).map .str)) h else .bad
  |none=>.bad
 |_=>.bad
noncomputable def Zk2(x d:D)(h:Hd):R D:=match d with
 |.int d=>R.ofO (((lstOf x h).bind intsOf).map λns=>.int (ZcQ ns d)) h
 |_=>.bad
noncomputable def bMx(xs:List D)(h:Hd):R D:=match xs with
 |[.int i,.int j]=>.ok (.int (if j > i then j else i)) h
 |[d]=>match (lstOf d h).bind intsOf with
  |some ns=>if ns≠[]then .ok (.int (ZcQ ns 0)) h else .bad
  |none=>.bad
 |_=>.bad
noncomputable def ZaQ(GD:Str->Option (List (Key×D))):Bf->List D->Hd->R D
 |.len=>Zi5
 |.isi=>Zsr
 |.int=>ZvO
 |.tup=>Zn9
 |.lst=>ZvN
 |.sum=>ZlZ
 |.all=>ZvP
 |.srt=>Zea GD
 |.mx=>bMx
noncomputable def ZqC(x:D)(h:Hd):R D:=match x with
 |.tup (y::ys)=>.ok (.tup (y::ys).reverse) h
 |_=>.bad
noncomputable def Zut(x:D)(h:Hd):R D:=match x with
 |.tup ys=>ZcH (.lst ys.reverse) h
 |_=>.bad
noncomputable def Zt5:D->Bool
 |.tup _=>Wx
 |_=>Wy
noncomputable def Zus(x y:D)(h:Hd):R D:=match x,y with
 |.tup xs,.str z=>match strsOf xs with
  |some ss=>R.ofO ((Tx.place z ss).map λ(j:Nat)=>.int (j:Int)) h
  |none=>.bad
 |_,_=>.bad
noncomputable def Zuu(x y:D)(h:Hd):R D:=match lstOf x h,y with
 |some xs,.str z=>match strsOf xs with
  |some ss=>R.ofO ((Tx.place z ss).map λ(j:Nat)=>.int (j:Int)) h
  |none=>.bad
 |_,_=>.bad
noncomputable def ZeY(x y:D)(h:Hd):R D:=match ZeS h x,ZeS h y with
 |some a,Wv (.list bs)=>if min (PyData.depthAll bs) a.depth<=1000 then .ok (.bl (bs.any λb=>YQ b a)) h else .bad
 |_,_=>.bad
noncomputable def ZcN:List D->Option (List (Key×D))
 |[]=>Wv []
 |k::v::r=>match keyOf k,ZcN r with
  |some k,Wv r=>Wv ((k,v)::r)
  |_,_=>Ww
 |_=>Ww
noncomputable def ZdA(kvs more:List (Key×D)):List (Key×D):=more.foldl (λacc kv=>putD acc kv.1 kv.2) kvs
noncomputable def ZjD(i:Nat)(ys xs:List D)(h:Hd):R D:=match xs with
 |[d]=>if ys.length<sizeLine then .ok .non (h.set i (.lst (ys++[d])))else .bad
 |_=>.bad
noncomputable def ZrS(i:Nat)(ys xs:List D)(h:Hd):R D:=match xs with
 |[.ref j]=>match h[j]? with
  |some (.lst zs)=>if ys.length+zs.length<=sizeLine then .ok .non (h.set i (.lst (ys++zs)))else .bad
  |_=>.bad
 |[.tup zs]=>if ys.length+zs.length<=sizeLine then .ok .non (h.set i (.lst (ys++zs)))else .bad
 |_=>.bad
noncomputable def Zpy(i:Nat)(ys xs:List D)(h:Hd):R D:=match xs with
 |[]=>match ys[ys.length - 1]? with
  |some y=>.ok y (h.set i (.lst ys.dropLast))
  |none=>.bad
 |_=>.bad
noncomputable def ZtS(i:Nat)(ys xs:List D)(h:Hd):R D:=match xs with
 |[]=>.ok .non (h.set i (.lst ys.reverse))
 |_=>.bad
noncomputable def ZtT(i:Nat)(ys xs:List D)(h:Hd):R D:=match xs with
 |[]=>.ok .non (h.set i (.lst []))
 |_=>.bad
noncomputable def Zek:Mf->Nat->List D->List D->Hd->R D
 |.app=>ZjD
 |.ext=>ZrS
 |.pop=>Zpy
 |.rev=>ZtS
 |.clr=>ZtT
noncomputable def Z9(m:Mf)(o:D)(xs:List D)(h:Hd):R D:=match o with
 |.ref i=>match h[i]? with
  |some (.lst ys)=>Zek m i ys xs h
  |_=>.bad
 |_=>.bad
noncomputable def Zb8(o:D)(h:Hd):Bool:=match o with
 |.ref i=>match h[i]? with
  |some (.lst _)=>Wx
  |_=>Wy
 |_=>Wy
noncomputable def ZbH(o i v:D)(h:Hd):R Unit:=match o with
 |.ref a=>match h[a]? with
  |some (.lst xs)=>match i with
   |.int k=>match ixN xs.length k with
    |some j=>.ok () (h.set a (.lst (xs.set j v)))
    |none=>.bad
   |_=>.bad
  |some (.dic kvs)=>match keyOf i with
   |some k=>if kvs.length<sizeLine then .ok () (h.set a (.dic (putD kvs k v)))else .bad
   |none=>.bad
  |_=>.bad
 |_=>.bad
structure Wk where
 src:Option (Nat×List D)
 xs:List D
noncomputable def Wk.stays(src:Option (Nat×List D))(h:Hd):Bool:=match src with
 |none=>Wx
 |some (i,xs)=>Wz (h[i]? = Wv (.lst xs))
noncomputable def Zal(d:D)(h:Hd):Option Wk:=match d with
 |.tup xs=>Wv ⟨Ww,xs⟩
 |.ro xs=>Wv ⟨Ww,xs⟩
 |.ref i=>match h[i]? with
  |some (.lst xs)=>Wv ⟨Wv (i,xs),xs⟩
  |_=>Ww
 |.str y=>if y.length<=sizeLine then Wv ⟨Ww,y.cps.toList.map λc=>.str ⟨#[c]⟩⟩else Ww
 |_=>Ww
noncomputable def Zkl(d:D)(h:Hd):Option Wk:=match d with
 |.ro xs=>Wv ⟨Ww,xs⟩
 |.ref i=>match h[i]? with
  |some (.lst xs)=>Wv ⟨Wv (i,xs),xs⟩
  |_=>Ww
 |_=>Ww
noncomputable def Zgi(d:D)(h:Hd):Option Wk:=match d with
 |.tup xs=>Wv ⟨Ww,xs⟩
 |.ref i=>match h[i]? with
  |some (.lst xs)=>Wv ⟨Wv (i,xs),xs⟩
  |_=>Ww
 |_=>Ww
noncomputable def Zaz(lo:Int)(n:Nat):List D:=(List.range n).map λ(k:Nat)=>.int (lo+(k:Int))
noncomputable def ZcC(xs:List D):List D:=xs.mapIdx λk x=>.tup [.int (k:Int),x]
noncomputable def ZnO(xs:List D):List D:=xs.mapIdx λk x=>.tup [.int ((k+1:Nat):Int),x]
noncomputable def Zt2:Key->D
 |.inl i=>.int i
 |.inr x=>.str x
noncomputable def Zuc(x:D)(h:Hd):R Wk:=match x with
 |.ref i=>match h[i]? with
  |some (.dic kvs)=>.ok ⟨Ww,kvs.map λp=>Zt2 p.1⟩ (h.set i (.fdic kvs))
  |some (.fdic kvs)=>.ok ⟨Ww,kvs.map λp=>Zt2 p.1⟩ h
  |_=>.bad
 |_=>.bad
noncomputable def ZaV(i:Int):Bool:=Wz (-(2 ^ 62)<=i)&&Wz (i<2 ^ 62)
noncomputable def Zji:List Nat->List D->Ev->Ev
 |i::is,x::xs,S=>Zji is xs (S.set i (Wv x))
 |_,_,S=>S
noncomputable def Zbz(g:Tg)(d:D)(S:Ev):Option Ev:=match g with
 |.nm i=>Wv (S.set i (Wv d))
 |.two i j=>match d with
  |.tup [a,b]=>Wv ((S.set i (Wv a)).set j (Wv b))
  |_=>Ww
 |.many is=>match d with
  |.tup xs=>if xs.length=is.length then Wv (Zji is xs S)else Ww
  |_=>Ww
noncomputable def Zby(js:List (Option Nat))(S:Ev):Ev:=js.map λo=>o.bind λj=>(S[j]?).join
inductive Fl where
 |nx|bk|ct|rt (d:D)
noncomputable def ZP(src:Option (Nat×List D))(g:Tg)(body:Ev->Hd->R (Fl×Ev)):List D->Ev->Hd->R (Fl×Ev)
 |[],S,h=>if Wk.stays src h then .ok (.nx,S) h else .bad
 |d::ds,S,h=>if Wk.stays src h then match Zbz g d S with
  |none=>.bad
  |some ρ1=>(body ρ1 h).bind λp h2=>match p with
   |(.nx,ρ2)=>ZP src g body ds ρ2 h2
   |(.ct,ρ2)=>ZP src g body ds ρ2 h2
   |(.bk,ρ2)=>.ok (.nx,ρ2) h2
   |(.rt d,ρ2)=>.ok (.rt d,ρ2) h2
  else .bad
noncomputable def ZN(test:Ev->Hd->R Bool)(body:Ev->Hd->R (Fl×Ev)):Nat->Ev->Hd->R (Fl×Ev)
 |0,_,_=>.bad
 |n+1,S,h=>(test S h).bind λb h1=>if b then(body S h1).bind λp h2=>match p with
  |(.nx,ρ2)=>ZN test body n ρ2 h2
  |(.ct,ρ2)=>ZN test body n ρ2 h2
  |(.bk,ρ2)=>.ok (.nx,ρ2) h2
  |(.rt d,ρ2)=>.ok (.rt d,ρ2) h2
  else .ok (.nx,S) h1
noncomputable def R.plain{α:Type}:R α->R α
 |.exc _ _=>.bad
 |r=>r
noncomputable def Zo(src:Option (Nat×List D))(g:Tg)(test:Ev->Hd->R Bool)(elt:Ev->Hd->R D):List D->Ev->List D->Hd->R (List D)
 |[],_,acc,h=>if Wk.stays src h then .ok acc h else .bad
 |d::ds,S,acc,h=>if Wk.stays src h/\acc.length<sizeLine then match Zbz g d S with
  |none=>.bad
  |some ρ1=>(test ρ1 h).bind λb h1=>if b then(elt ρ1 h1).bind λx h2=>Zo src g test elt ds S (acc++[x]) h2 else Zo src g test elt ds S acc h1
  else .bad
noncomputable def Zf2(C:Str)(i:Nat)(S:Ev)(r:R D):R (Fl×Ev):=match r with
 |.bad=>.bad
 |.ok v h=>.ok (.nx,S.set i (Wv v)) h
 |.exc c h=>if c=C then .ok (.nx,S.set i (Wv .non)) h else .bad
noncomputable def mnm(C m:Str):Str:=C++(O "." ++ m)
noncomputable def ZY(d:D)(h:Hd):Option (Str×List (Str×D)):=match d with
 |.ref i=>match h[i]? with
  |some (.ins C fs)=>Wv (C,fs)
  |_=>Ww
 |_=>Ww
noncomputable def Zgc(Cs:List Str)(f:Str)(x:D)(h:Hd):R D:=match ZY x h with
 |some (C,fs)=>if C∈Cs then R.ofO (fs.lookup f) h else .bad
 |none=>.bad
noncomputable def Zll(f:Str)(v:D):List (Str×D)->List (Str×D)
 |[]=>[(f,v)]
 |(g,x)::r=>if g=f then(g,v)::r else(g,x)::Zll f v r
noncomputable def ZgX(Cs:List Str)(f:Str)(x d:D)(h:Hd):R D:=match x with
 |.ref i=>match h[i]? with
  |some (.ins C fs)=>if C∈Cs/\fs.length<1000 then .ok .non (h.set i (.ins C (Zll f d fs)))else .bad
  |_=>.bad
 |_=>.bad
noncomputable def Znc(Cf:Str->List D->Hd->R D)(C:Str)(xs:List D)(h:Hd):R D:=(Cf (mnm C (O "__init__")) (.ref h.length::xs) (h++[.ins C []])).bind λd h2=>match d with
 |.non=>.ok (.ref h.length) h2
 |_=>.bad
structure Tb where
 G:Str->Option D
 GD:Str->Option (List (Key×D))
 C:Str->List D->Hd->R D
 L:Nat
mutual
noncomputable def ev(T:Tb):Ex->Ev->Hd->R D
 |.var i,S,h=>R.ofO (S[i]?).join h
 |.cst d,_,h=>.ok d h
 |.glo x,_,h=>R.ofO (T.G x) h
 |.bin op a b,S,h=>(ev T a S h).bind λx h1=>(ev T b S h1).bind λy h2=>opB op x y h2
 |.cmp op a b,S,h=>(ev T a S h).bind λx h1=>(ev T b S h1).bind λy h2=>opC T.GD op x y h2
 |.cmp2 op op' a b c,S,h=>(ev T a S h).bind λx h1=>(ev T b S h1).bind λy h2=>(opC T.GD op x y h2).bind λr h3=>match r with
  |.bl Wx=>(ev T c S h3).bind λz h4=>opC T.GD op' y z h4
  |.bl Wy=>.ok (.bl Wy) h3
  |_=>.bad
 |.neg a,S,h=>(ev T a S h).bind λx h1=>match x with
  |.int i=>.ok (.int (-i)) h1
  |_=>.bad
 |.nt a,S,h=>(ev T a S h).bind λx h1=>match x with
  |.bl b=>.ok (.bl (!b)) h1
  |_=>.bad
 |.ands es,S,h=>evAnd T es S h
 |.ors es,S,h=>evOr T es S h
 |.ite c a b,S,h=>(tst T c S h).bind λc h1=>if c then ev T a S h1 else ev T b S h1
 |.tupl es,S,h=>(evs T es S h).bind λxs h1=>if xs.length<=sizeLine then .ok (.tup xs) h1 else .bad
 |.lstl es,S,h=>(evs T es S h).bind λxs h1=>if xs.length<=sizeLine then ZcH (.lst xs) h1 else .bad
 |.ix a i,S,h=>(ev T a S h).bind λx h1=>(ev T i S h1).bind λy h2=>Z8 T.GD x y h2
 |.sl a lo hi,S,h=>(ev T a S h).bind λx h1=>(evo T lo S h1).bind λl h2=>(evo T hi S h2).bind λu h3=>Zif x l u h3
 |.blt f es,S,h=>(evs T es S h).bind λxs h1=>ZaQ T.GD f xs h1
 |.call f es,S,h=>(evs T es S h).bind λxs h1=>T.C f xs h1
 |.meth m o es,S,h=>(ev T o S h).bind λx h1=>if Zb8 x h1 then(evs T es S h1).bind λxs h2=>Z9 m x xs h2 else .bad
 |.comp _ js it g c e,S,h=>(evi T it S h).bind λw h1=>(Zo w.src g (tsto T c) (ev T e) w.xs (Zby js S) [] h1).bind λxs h2=>ZcH (.lst xs) h2
 |.sorts e,S,h=>(ev T e S h).bind λx h1=>match (lstOf x h1).bind strsOf with
  |some ss=>if ss.length<64 then ZcH (.lst ((Zb3 ss.eraseDups).map .str)) h1 else .bad
  |none=>.bad
 |.maxd e d,S,h=>(ev T e S h).bind λx h1=>(ev T d S h1).bind λy h2=>Zk2 x y h2
 |.dictl ps,S,h=>(evs T ps S h).bind λxs h1=>match ZcN xs with
  |some kvs=>if kvs.length<=15 then ZcH (.dic (ZdA [] kvs)) h1 else .bad
  |none=>.bad
 |.att Cs o f,S,h=>(ev T o S h).bind λx h1=>Zgc Cs f x h1
 |.mk C es,S,h=>(evs T es S h).bind λxs h1=>Znc T.C C xs h1
 |.mcl C m o es,S,h=>(ev T o S h).bind λx h1=>match ZY x h1 with
  |some (C',fs)=>if C'=C/\fs.lookup m=Ww then(evs T es S h1).bind λxs h2=>T.C (mnm C m) (x::xs) h2 else .bad
  |none=>.bad
 |.any,_,_=>.bad
 |.trev e,S,h=>(ev T e S h).bind λx h1=>ZqC x h1
 |.lrv e,S,h=>(ev T e S h).bind λx h1=>Zut x h1
 |.tix o e,S,h=>(ev T o S h).bind λx h1=>if Zt5 x then(ev T e S h1).bind λy h2=>Zus x y h2 else .bad
 |.lix o e,S,h=>(ev T o S h).bind λx h1=>if Zb8 x h1 then(ev T e S h1).bind λy h2=>Zuu x y h2 else .bad
 |.lin a b,S,h=>(ev T a S h).bind λx h1=>(ev T b S h1).bind λy h2=>ZeY x y h2
noncomputable def evs(T:Tb):Exs->Ev->Hd->R (List D)
 |.nil,_,h=>.ok [] h
 |.cons e es,S,h=>(ev T e S h).bind λx h1=>(evs T es S h1).bind λxs h2=>.ok (x::xs) h2
noncomputable def evAnd(T:Tb):Exs->Ev->Hd->R D
 |.nil,_,_=>.bad
 |.cons e es,S,h=>match es with
  |.nil=>ev T e S h
  |.cons _ _=>(ev T e S h).bind λx h1=>match x with
   |.bl Wx=>evAnd T es S h1
   |.bl Wy=>.ok (.bl Wy) h1
   |_=>.bad
noncomputable def evOr(T:Tb):Exs->Ev->Hd->R D
 |.nil,_,_=>.bad
 |.cons e es,S,h=>match es with
  |.nil=>ev T e S h
  |.cons _ _=>(ev T e S h).bind λx h1=>match x with
   |.bl Wx=>.ok (.bl Wx) h1
   |.bl Wy=>evOr T es S h1
   |_=>.bad
noncomputable def evo(T:Tb):Option Ex->Ev->Hd->R (Option Int)
 |none,_,h=>.ok Ww h
 |some e,S,h=>(ev T e S h).bind λx h1=>match x with
  |.int i=>.ok (Wv i) h1
  |_=>.bad
noncomputable def tst(T:Tb):Tx->Ev->Hd->R Bool
 |.ex e,S,h=>(ev T e S h).bind λx h1=>R.ofO (Zcm T.GD x h1) h1
 |.ands ts,S,h=>tstAnd T ts S h
 |.ors ts,S,h=>tstOr T ts S h
 |.nt a,S,h=>(tst T a S h).bind λc h1=>.ok (!c) h1
noncomputable def tstAnd(T:Tb):Txs->Ev->Hd->R Bool
 |.one t,S,h=>tst T t S h
 |.cons t ts,S,h=>(tst T t S h).bind λc h1=>if c then tstAnd T ts S h1 else .ok Wy h1
noncomputable def tstOr(T:Tb):Txs->Ev->Hd->R Bool
 |.one t,S,h=>tst T t S h
 |.cons t ts,S,h=>(tst T t S h).bind λc h1=>if c then .ok Wx h1 else tstOr T ts S h1
noncomputable def tsto(T:Tb):Option Tx->Ev->Hd->R Bool
 |none,_,h=>.ok Wx h
 |some e,S,h=>tst T e S h
noncomputable def evi(T:Tb):Ix->Ev->Hd->R Wk
 |.pl e,S,h=>(ev T e S h).bind λx h1=>R.ofO (Zal x h1) h1
 |.rng e,S,h=>(ev T e S h).bind λx h1=>match x with
  |.int j=>if ZaV j then .ok ⟨Ww,Zaz 0 j.toNat⟩ h1 else .bad
  |_=>.bad
 |.rng2 a b,S,h=>(ev T a S h).bind λx h1=>(ev T b S h1).bind λy h2=>match x,y with
  |.int i,.int j=>if ZaV i&&ZaV j then .ok ⟨Ww,Zaz i (j - i).toNat⟩ h2 else .bad
  |_,_=>.bad
 |.enu e,S,h=>(ev T e S h).bind λx h1=>R.ofO ((Zkl x h1).map λw=>⟨w.src,ZcC w.xs⟩) h1
 |.rev e,S,h=>(ev T e S h).bind λx h1=>R.ofO ((Zgi x h1).map λw=>⟨w.src,w.xs.reverse⟩) h1
 |.en1 e,S,h=>(ev T e S h).bind λx h1=>match x with
  |.tup xs=>.ok ⟨Ww,ZnO xs⟩ h1
  |_=>.bad
 |.en0 e,S,h=>(ev T e S h).bind λx h1=>match x with
  |.tup xs=>.ok ⟨Ww,ZcC xs⟩ h1
  |_=>.bad
 |.dk e,S,h=>(ev T e S h).bind λx h1=>Zuc x h1
end
mutual
noncomputable def xs1(T:Tb):Sx->Ev->Hd->R (Fl×Ev)
 |.ret e,S,h=>(ev T e S h).bind λx h1=>.ok (.rt x,S) h1
 |.set g e,S,h=>(ev T e S h).bind λx h1=>(R.ofO (Zbz g x S) h1).bind λρ1 h2=>.ok (.nx,ρ1) h2
 |.put o i e,S,h=>(ev T e S h).bind λx h1=>(ev T o S h1).bind λy h2=>(ev T i S h2).bind λz h3=>(ZbH y z x h3).bind λ_ h4=>.ok (.nx,S) h4
 |.aug i op e,S,h=>(R.ofO (S[i]?).join h).bind λx h1=>(ev T e S h1).bind λy h2=>match op,x,y with
  |.Add,.int a,.int b=>.ok (.nx,S.set i (Wv (.int (a+b)))) h2
  |_,_,_=>.bad
 |.drp e,S,h=>(ev T e S h).bind λ_ h1=>.ok (.nx,S) h1
 |.iff c a b,S,h=>(tst T c S h).bind λt h1=>if t then xs2 T a S h1 else xs2 T b S h1
 |.whl c b,S,h=>ZN (tst T c) (xs2 T b) T.L S h
 |.forr g it b,S,h=>(evi T it S h).bind λw h1=>ZP w.src g (xs2 T b) w.xs S h1
 |.pas,S,h=>.ok (.nx,S) h
 |.brk,S,h=>.ok (.bk,S) h
 |.cnt,S,h=>.ok (.ct,S) h
 |.seta Cs o f e,S,h=>(ev T e S h).bind λd h1=>(ev T o S h1).bind λx h2=>(ZgX Cs f x d h2).bind λ_ h3=>.ok (.nx,S) h3
 |.auga Cs o f e,S,h=>(ev T o S h).bind λx h1=>(Zgc Cs f x h1).bind λv h2=>(ev T e S h2).bind λy h3=>match v,y with
  |.int a,.int b=>if (ZY x h1).map (·.1)=(ZY x h3).map (·.1)then(ZgX Cs f x (.int (a+b)) h3).bind λ_ h4=>.ok (.nx,S) h4 else .bad
  |_,_=>.bad
 |.any,_,_=>.bad
 |.rai C e,S,h=>(ev T e S h).bind λ_ h1=>.exc C h1
 |.trs i f es C,S,h=>(evs T es S h).plain.bind λxs h1=>Zf2 C i S (T.C f xs h1)
noncomputable def xs2(T:Tb):Sxs->Ev->Hd->R (Fl×Ev)
 |.nil,S,h=>.ok (.nx,S) h
 |.cons s r,S,h=>(xs1 T s S h).bind λp h1=>match p with
  |(.nx,ρ1)=>xs2 T r ρ1 h1
  |p=>.ok p h1
end
structure Fd where
 ps:List Str
 N:List Str
 body:Sxs
structure Pg where
 tb:List (Str×Fd)
 G:Str->Option D
 GD:Str->Option (List (Key×D))
 L:Nat
 ms:List (Str×Fd):=[]
noncomputable def Pg.look(P:Pg)(f:Str):Option Fd:=match P.tb.lookup f with
 |some fd=>Wv fd
 |none=>P.ms.lookup f
noncomputable def Zq(N:List Str)(ds:List D):Ev:=ds.map Wv++YK (N.length - ds.length) Ww
noncomputable def Zh:R (Fl×Ev)->R D
 |.ok (.rt d,_) h=>.ok d h
 |.ok (.nx,_) h=>.ok .non h
 |.exc c h=>.exc c h
 |_=>.bad
noncomputable def run(P:Pg):Nat->Str->List D->Hd->R D
 |0,_,_,_=>.bad
 |n+1,f,ds,h=>match P.look f with
  |none=>.bad
  |some fd=>if ds.length=fd.ps.length then Zh (xs2 ⟨P.G,P.GD,run P n,P.L⟩ fd.body (Zq fd.N ds) h)else .bad
noncomputable def Pg.tbl(P:Pg)(n:Nat):Tb:=⟨P.G,P.GD,run P n,P.L⟩
end IV
end
section
set_option tactic.hygienic false
namespace IV
open PySem PySem.Spec PyProof.Rows L2
def FzL(K:Yk)(H:Hp)(a:Yi)(xs:List V):Prop:=(∃o,H a=Wv (.frz o (.lst xs)))\/∃(o:Obj) (its:Array Yj) (n:Nat),K.lookup a=Wv o/\o.cls=.type "list" /\ o.dict=Ww/\o.data=.seq its n/\its.size<=sizeLine/\Zm xs its.toList
theorem FzL.sq{K:Yk}{H:Hp}{a:Yi}{xs:List V}(h:FzL K H a xs):SqL K H a xs:=h.elim (λ⟨o,h⟩=>.inl (.inr ⟨o,h⟩)) .inr
structure Yx where
 K:Yk
 mg:Str->Option Yj
mutual
inductive RD(Y:Yx)(H:Hp)(B:List Yi):D->V->Prop
 |non:RD Y H B .non .non
 |bl (b:Bool):RD Y H B (.bl b) (.bl b)
 |int (i:Int):RD Y H B (.int i) (.int i)
 |str (x:Str) (ok:Yp x=Wx):RD Y H B (.str x) (.str x)
 |tup {a:Yi}{vs:List V}{ds:List D}:SqT Y.K H a vs->RDs Y H B ds vs->RD Y H B (.tup ds) (.ref a)
 |ref {i:Nat}{a:Yi}:B[i]? = Wv a->RD Y H B (.ref i) (.ref a)
 |ty (n:String):RD Y H B (.ty n) (.ty n)
 |ro {a:Yi}{vs:List V}{ds:List D}:FzL Y.K H a vs->RDs Y H B ds vs->RD Y H B (.ro ds) (.ref a)
 |kd {x:Str}{a:Yi}:Y.mg x=Wv (.ref a)->RD Y H B (.kd x) (.ref a)
inductive RDs(Y:Yx)(H:Hp)(B:List Yi):List D->List V->Prop
 |nil:RDs Y H B [] []
 |cons {d:D}{v:V}{ds:List D}{vs:List V}:RD Y H B d v->RDs Y H B ds vs->RDs Y H B (d::ds) (v::vs)
end
inductive RKs(Y:Yx)(H:Hp)(B:List Yi){κ:Type}:List (κ×D)->List (κ×V)->Prop
 |nil:RKs Y H B [] []
 |cons {k:κ}{d:D}{v:V}{ds:List (κ×D)}{vs:List (κ×V)}:RD Y H B d v->RKs Y H B ds vs->RKs Y H B ((k,d)::ds) ((k,v)::vs)
def RO(Y:Yx)(H:Hp)(B:List Yi)(a:Yi):DO->Prop
 |.lst ds=>∃vs,H a=Wv (.lst vs)/\RDs Y H B ds vs
 |.dic kvs=>∃kvs',H a=Wv (.dK kvs')/\RKs Y H B kvs kvs'
 |.ins C fs=>∃Ca dx fs',H a=Wv (.ins Ca dx fs')/\Y.mg C=Wv (.ref Ca)/\RKs Y H B fs fs'
 |.fdic kvs=>∃o kvs',H a=Wv (.frz o (.dK kvs'))/\RKs Y H B kvs kvs'
def ZcA(kvs:List (Key×D)):Prop:=∀p∈kvs,∀x,p.1=.inr x->Yp x=Wx
def DOk:DO->Prop
 |.dic kvs=>ZcA kvs
 |.fdic kvs=>ZcA kvs
 |_=>True
structure RH(Y:Yx)(H:Hp)(B:List Yi)(h:Hd):Prop where
 len:h.length=B.length
 nd:B.Nodup
 ob:∀(i:Nat) (o:DO) (a:Yi),h[i]? = Wv o->B[i]? = Wv a->RO Y H B a o
 ks:∀(i:Nat) (o:DO),h[i]? = Wv o->DOk o
structure Gr(H:Hp)(B:List Yi)(H':Hp)(μ':List Yi):Prop where
 pre:∀(i:Nat) (a:Yi),B[i]? = Wv a->μ'[i]? = Wv a
 new:∀a∈μ',a∈B\/H a=Ww
 keep:∀b o,b ∉ B->H b=Wv o->H' b=Wv o
 fz:∀b o u,H b=Wv (.frz o u)->H' b=Wv (.frz o u)
theorem Gr.refl{H:Hp}{B:List Yi}:Gr H B H B:=⟨λ_ _ h=>h,λ_ h=>.inl h,λ_ _ _ h=>h,λ_ _ _ h=>h⟩
theorem Gr.trans{H H1 H2:Hp}{B μ1 μ2:List Yi}(a:Gr H B H1 μ1)(b:Gr H1 μ1 H2 μ2):Gr H B H2 μ2:=by
 refine⟨λi x h=>b.pre i x (a.pre i x h),λx hx=>?_,λx o hx h=>?_,λx o u h=>b.fz x o u (a.fz x o u h)⟩
 . rcases b.new x hx with h|h
   . exact a.new x h
   . by_cases hm:x∈B
     . exact .inl hm
     . cases q:H x with
       |none=>exact .inr rfl
       |some o=>rw[a.keep x o hm q]at h;cases h
 . refine b.keep x o (λhm=>?_) (a.keep x o hx h);rcases a.new x hm with z|z
   . exact hx z
   . rw[h]at z;cases z
def Mu:Option HO->Prop
 |some (.lst _)|some (.dK _)|some (.ins _ _ _)|some (.frz _ (.dK _))=>True
 |_=>False
theorem RO.mut{Y:Yx}{H:Hp}{B:List Yi}{a:Yi}{o:DO}(h:RO Y H B a o):Mu (H a):=by
 cases o with
 |lst ds=>obtain⟨vs,e,_⟩:=h;rw[e];trivial
 |dic ds=>obtain⟨vs,e,_⟩:=h;rw[e];trivial
 |ins C ds=>obtain⟨_,_,_,e,_⟩:=h;rw[e];trivial
 |fdic ds=>obtain⟨_,_,e,_⟩:=h;rw[e];trivial
theorem RH.mem{Y:Yx}{H:Hp}{B:List Yi}{h:Hd}(r:RH Y H B h){a:Yi}(ha:a∈B):∃(i:Nat) (o:DO),B[i]? = Wv a/\h[i]? = Wv o/\RO Y H B a o:=by
 obtain⟨i,hi⟩:=List.mem_iff_getElem?.mp ha;have hl:i<h.length:=by rw[r.len];exact(Ob.mp hi).1
 exact⟨i,h[i],hi,Og hl,r.ob i _ a (Og hl) hi⟩
theorem RH.mut{Y:Yx}{H:Hp}{B:List Yi}{h:Hd}(r:RH Y H B h){a:Yi}(ha:a∈B):Mu (H a):=let ⟨_,_,_,_,q⟩:=r.mem ha;q.mut
theorem Gr.rdT{Y:Yx}{H H':Hp}{B μ':List Yi}{h:Hd}(r:RH Y H B h)(g:Gr H B H' μ'){a:Yi}{xs:List V}(t:SqT Y.K H a xs):SqT Y.K H' a xs:=by
 rcases t with t|t
 . rcases t with t|⟨o,t⟩
   . exact .inl (.inl (g.keep a _ (λhm=>by have:=r.mut hm;rw[t]at this;exact this) t))
   . exact .inl (.inr ⟨o,g.fz a _ _ t⟩)
 . exact .inr t
theorem Gr.rdF{Y:Yx}{H H':Hp}{B μ':List Yi}{h:Hd}(r:RH Y H B h)(g:Gr H B H' μ'){a:Yi}{xs:List V}(t:FzL Y.K H a xs):FzL Y.K H' a xs:=by
 rcases t with ⟨o,t⟩|t
 . exact .inl ⟨o,g.fz a _ _ t⟩
 . exact .inr t
section
variable {Y:Yx}{H H':Hp}{B μ':List Yi}{h:Hd}
mutual
theorem RD.mono(r:RH Y H B h)(g:Gr H B H' μ'):∀{d:D}{v:V},RD Y H B d v->RD Y H' μ' d v
 |_,_,.non=>.non
 |_,_,.bl b=>.bl b
 |_,_,.int i=>.int i
 |_,_,.str x ok=>.str x ok
 |_,_,.tup t s=>.tup (g.rdT r t) (RDs.mono r g s)
 |_,_,.ref e=>.ref (g.pre _ _ e)
 |_,_,.ty n=>.ty n
 |_,_,.ro t s=>.ro (g.rdF r t) (RDs.mono r g s)
 |_,_,.kd e=>.kd e
theorem RDs.mono(r:RH Y H B h)(g:Gr H B H' μ'):∀{d:List D}{v:List V},RDs Y H B d v->RDs Y H' μ' d v
 |_,_,.nil=>.nil
 |_,_,.cons a s=>.cons (RD.mono r g a) (RDs.mono r g s)
end
theorem RKs.mono{κ:Type}(r:RH Y H B h)(g:Gr H B H' μ'):∀{d:List (κ×D)}{v:List (κ×V)},RKs Y H B d v->RKs Y H' μ' d v
 |_,_,.nil=>.nil
 |_,_,.cons a s=>.cons (a.mono r g) (RKs.mono r g s)
theorem RDs.length:∀{d:List D}{v:List V},RDs Y H B d v->d.length=v.length
 |_,_,.nil=>rfl
 |_,_,.cons a s=>by rw[Os,Os,s.length]
theorem RKs.length{κ:Type}:∀{d:List (κ×D)}{v:List (κ×V)},RKs Y H B d v->d.length=v.length
 |_,_,.nil=>rfl
 |_,_,.cons a s=>by rw[Os,Os,s.length]
theorem RDs.get:∀{ds:List D}{vs:List V},RDs Y H B ds vs->∀{i:Nat}{d:D},ds[i]? = Wv d->∃v,vs[i]? = Wv v/\RD Y H B d v
 |_,_,.nil,i,d,e=>by simp at e
 |_,_,.cons a s,0,d,e=>by cases e;exact⟨_,rfl,a⟩
 |_,_,.cons a s,i+1,d,e=>by obtain⟨v,h1,h2⟩:=RDs.get s (i:=i) (d:=d) (by simpa using e);exact⟨v,by simpa using h1,h2⟩
theorem RDs.append:∀{ds es:List D}{vs ws:List V},RDs Y H B ds vs->RDs Y H B es ws->RDs Y H B (ds++es) (vs++ws)
 |_,_,_,_,.nil,s=>s
 |_,_,_,_,.cons a r,s=>.cons a (r.append s)
theorem RDs.take:∀{ds:List D}{vs:List V} (n:Nat),RDs Y H B ds vs->RDs Y H B (ds.take n) (vs.take n)
 |_,_,0,_=>.nil
 |_,_,_+1,.nil=>.nil
 |_,_,n+1,.cons a s=>.cons a (s.take n)
theorem RDs.drop:∀{ds:List D}{vs:List V} (n:Nat),RDs Y H B ds vs->RDs Y H B (ds.drop n) (vs.drop n)
 |_,_,0,s=>s
 |_,_,_+1,.nil=>.nil
 |_,_,n+1,.cons a s=>s.drop n
theorem RDs.reverse{ds:List D}{vs:List V}(s:RDs Y H B ds vs):RDs Y H B ds.reverse vs.reverse:=by
 have gen:∀{ds es:List D}{vs ws:List V},RDs Y H B ds vs->RDs Y H B es ws->RDs Y H B (ds.reverseAux es) (vs.reverseAux ws):=by
  intro ds;induction ds with
  |nil=>intro es vs ws a b;cases a;exact b
  |cons d ds ih=>
   intro es vs ws a b;cases a with
   |cons a s=>have z:=ih s (RDs.cons a b);exact z
 exact gen s .nil
theorem RDs.dropLast{ds:List D}{vs:List V}(s:RDs Y H B ds vs):RDs Y H B ds.dropLast vs.dropLast:=by rw[List.dropLast_eq_take,List.dropLast_eq_take,s.length];exact s.take _
theorem RDs.set{d:D}{v:V}(r:RD Y H B d v):∀{ds:List D}{vs:List V} (i:Nat),RDs Y H B ds vs->RDs Y H B (ds.set i d) (vs.set i v)
 |_,_,_,.nil=>.nil
 |_,_,0,.cons _ s=>.cons r s
 |_,_,i+1,.cons a s=>.cons a (RDs.set r i s)
theorem RDs.cut{ds:List D}{vs:List V}(s:RDs Y H B ds vs)(lo hi:Option Int):RDs Y H B (cutD ds lo hi) (ZiP vs lo hi):=by unfold cutD ZiP;rw[s.length];exact(s.drop _).take _
theorem RDs.isEmpty{ds:List D}{vs:List V}(s:RDs Y H B ds vs):ds.isEmpty=vs.isEmpty:=by cases s<;>rfl
theorem RDs.atI{ds:List D}{vs:List V}(s:RDs Y H B ds vs){i:Int}{d:D}(e:L2.atI ds i=Wv d):∃v,L2.atI vs i=Wv v/\RD Y H B d v:=by
 unfold L2.atI at e ⊢;rw[s.length]at e;cases q:ixN vs.length i with
 |none=>rw[q]at e;cases e
 |some j=>rw[q]at e;exact s.get (i:=j) e
theorem RKs.val{κ:Type}[DecidableEq κ]:∀{ds:List (κ×D)}{vs:List (κ×V)},RKs Y H B ds vs->∀(k:κ),((ds.find? λp=>Wz (p.1=k))=Ww/\(vs.find? λp=>Wz (p.1=k))=Ww)\/∃d v,(ds.find? λp=>Wz (p.1=k))=Wv (k,d)/\(vs.find? λp=>Wz (p.1=k))=Wv (k,v)/\RD Y H B d v
 |_,_,.nil,k=>.inl ⟨rfl,rfl⟩
 |_,_,.cons (k:=k') (d:=d) (v:=v) a s,k=>by
  by_cases e:k'=k
  . subst e;exact .inr ⟨d,v,by simp,by simp,a⟩
  . rcases s.val k with ⟨h1,h2⟩|⟨d,v,h1,h2,h3⟩
    . exact .inl ⟨by simp[e,h1],by simp[e,h2]⟩
    . exact .inr ⟨d,v,by simp[e,h1],by simp[e,h2],h3⟩
end
theorem Zr6{α:Type}{l:List α}(hl:l.Nodup){i j:Nat}{x:α}(a:l[i]? = Wv x)(b:l[j]? = Wv x):i=j:=by obtain⟨h1,e1⟩:=Ob.mp a;obtain⟨h2,e2⟩:=Ob.mp b;exact(List.getElem_inj hl).mp (e1.trans e2.symm)
section
variable {Y:Yx}{H:Hp}{B:List Yi}{h:Hd}
theorem Gr.lay{p:Yi}{o:HO}(hp:H p=Ww):Gr H B (upd H p o) (B++[p]):=by
 refine⟨λi a e=>?_,λa ha=>?_,λb u hb e=>?_,λb u v e=>by rw[Ze (λz=>by rw[z,hp]at e;cases e)];exact e⟩
 . rw[Oe (Ob.mp e).1];exact e
 . rcases OD.mp ha with z|z
   . exact .inl z
   . rw[Ox.mp z];exact .inr hp
 . rw[Ze (λz=>by rw[z,hp]at e;cases e)];exact e
theorem Gr.lay0{p:Yi}{o:HO}(hp:H p=Ww):Gr H B (upd H p o) B:=⟨λ_ _ e=>e,λa ha=>.inl ha,λb u hb e=>by rw[Ze (λz=>by rw[z,hp]at e;cases e)];exact e,λb u v e=>by rw[Ze (λz=>by rw[z,hp]at e;cases e)];exact e⟩
def NF:Option HO->Prop
 |some (.frz _ _)=>False
 |_=>True
theorem Gr.write{p:Yi}{o:HO}(hp:p∈B)(nf:NF (H p)):Gr H B (upd H p o) B:=⟨λ_ _ e=>e,λa ha=>.inl ha,λb u hb e=>by rw[Ze (show b≠p from λz=>hb (by rw[z];exact hp))];exact e,λb u v e=>by rw[Ze (λz=>by rw[z]at e;rw[e]at nf;exact nf)];exact e⟩
theorem RO.mono{H':Hp}{μ':List Yi}(r:RH Y H B h)(g:Gr H B H' μ'){a:Yi}{o:DO}(q:RO Y H B a o)(e:H' a=H a):RO Y H' μ' a o:=by
 cases o with
 |lst ds=>obtain⟨vs,z,s⟩:=q;exact⟨vs,e.trans z,s.mono r g⟩
 |dic ds=>obtain⟨vs,z,s⟩:=q;exact⟨vs,e.trans z,s.mono r g⟩
 |ins C ds=>obtain⟨a1,a2,a3,z,m,s⟩:=q;exact⟨a1,a2,a3,e.trans z,m,s.mono r g⟩
 |fdic ds=>obtain⟨o,vs,z,s⟩:=q;exact⟨o,vs,e.trans z,s.mono r g⟩
theorem RH.keep{H':Hp}(r:RH Y H B h)(g:Gr H B H' B)(k:∀a∈B,H' a=H a):RH Y H' B h:=⟨r.len,r.nd,λi o a e1 e2=>(r.ob i o a e1 e2).mono r g (k a (O2 e2)),r.ks⟩
theorem ZjK{o:DO}(k:∀(i:Nat) (o:DO),h[i]? = Wv o->DOk o)(dk:DOk o):∀(i:Nat) (o':DO),(h++[o])[i]? = Wv o'->DOk o':=by
 intro i o' e1;by_cases hi:i<h.length
 . rw[Oe hi]at e1;exact k i o' e1
 . have hi':i=h.length:=by have:=(Ob.mp e1).1;simp at this;omega
   subst hi';rw[Om (Oq _)]at e1;simp at e1;subst e1;exact dk
theorem RH.lay{p:Yi}{u:HO}{o:DO}(r:RH Y H B h)(hp:H p=Ww)(n:RO Y (upd H p u) (B++[p]) p o)(dk:DOk o:=by trivial):RH Y (upd H p u) (B++[p]) (h++[o]):=by
 have np:p ∉ B:=λz=>by have:=r.mut z;rw[hp]at this;exact this
 refine⟨by simp[r.len],?_,λi o' a e1 e2=>?_,ZjK r.ks dk⟩
 . rw[List.nodup_append];refine⟨r.nd,by simp,λa ha b hb=>?_⟩;rw[Ox.mp hb];intro z;exact np (z ▸ ha)
 . by_cases hi:i<h.length
   . rw[Oe hi]at e1;rw[Oe (by rw[<- r.len];exact hi)]at e2;exact(r.ob i o' a e1 e2).mono r (Gr.lay hp) (Ze λz=>np (z ▸ O2 e2))
   . have hi':i=h.length:=by have:=(Ob.mp e1).1;simp at this;omega
     subst hi';rw[Om (Oq _)]at e1;rw[Om (by rw[r.len];exact Oq _)]at e2;simp[r.len]at e1 e2;subst e1;subst e2;exact n
theorem RH.lay0{p:Yi}{u:HO}(r:RH Y H B h)(hp:H p=Ww):RH Y (upd H p u) B h:=by
 have np:p ∉ B:=λz=>by have:=r.mut z;rw[hp]at this;exact this
 exact r.keep (Gr.lay0 hp) λa ha=>Ze λz=>np (z ▸ ha)
theorem RH.write{p:Yi}{i:Nat}{u:HO}{o:DO}(r:RH Y H B h)(hp:B[i]? = Wv p)(n:RO Y (upd H p u) B p o)(nf:NF (H p))(dk:DOk o:=by trivial):RH Y (upd H p u) B (h.set i o):=by
 have hm:p∈B:=O2 hp;refine⟨by simp[r.len],r.nd,λj o' a e1 e2=>?_,λj o' e1=>?_⟩
 rotate_right
 . by_cases hj:j=i
   . subst hj;have hl:j<h.length:=by rw[r.len];exact(Ob.mp hp).1
     rw[Ol hl]at e1;cases e1;exact dk
   . rw[Oc (YL hj)]at e1;exact r.ks j o' e1
 by_cases hj:j=i
 . subst hj;rw[hp]at e2;cases e2;have hl:j<h.length:=by rw[r.len];exact(Ob.mp hp).1
   rw[Ol hl]at e1;cases e1;exact n
 . rw[Oc (YL hj)]at e1;refine(r.ob j o' a e1 e2).mono r (Gr.write hm nf) (Ze λz=>hj ?_);subst z;exact Zr6 r.nd e2 hp
end
end IV
end
section
set_option tactic.hygienic false
namespace IV
open PySem PySem.Spec PyProof.Rows L2
def Fin{α β:Type}(Y:Yx)(rel:Hp->List Yi->α->β->Prop)(H:Hp)(B:List Yi)(r:R α)(Q:β->Hp->Prop)(E:XK):Prop:=match r with
 |.bad=>False
 |.ok a h'=>∀b H' μ',Gr H B H' μ'->RH Y H' μ' h'->rel H' μ' a b->Q b H'
 |.exc c h'=>∀H' μ' C,Gr H B H' μ'->RH Y H' μ' h'->Y.mg c=Wv (.ref C)->E (.ref C) Ww H'
section
variable {Y:Yx}{α β α' β':Type}{rel:Hp->List Yi->α->β->Prop}{rel':Hp->List Yi->α'->β'->Prop}{H H1:Hp}{B μ1:List Yi}{E:XK}
theorem Fin.mono{r:R α}{Q:β->Hp->Prop}(g:Gr H B H1 μ1)(f:Fin Y rel H B r Q E):Fin Y rel H1 μ1 r Q E:=by
 cases r with
 |bad=>exact f
 |ok a h=>exact λb H' μ' g'=>f b H' μ' (g.trans g')
 |exc c h=>exact λH' μ' C g'=>f H' μ' C (g.trans g')
theorem Fin.bind{r:R α}{k:α->Hd->R α'}{Q:β'->Hp->Prop}{Q1:β->Hp->Prop}(f:Fin Y rel' H B (r.bind k) Q E)
 (hk:∀a h1 b H1 μ1,r=.ok a h1->Gr H B H1 μ1->RH Y H1 μ1 h1->rel H1 μ1 a b->Fin Y rel' H1 μ1 (k a h1) Q E->Q1 b H1):Fin Y rel H B r Q1 E:=by
 cases r with
 |bad=>exact f
 |ok a h=>exact λb H' μ' g' rh rl=>hk a h b H' μ' rfl g' rh rl (Fin.mono g' f)
 |exc c h=>exact f
theorem Fin.ok{a:α}{b:β}{h:Hd}{Q:β->Hp->Prop}(f:Fin Y rel H B (.ok a h) Q E)(rh:RH Y H B h)(r:rel H B a b):Q b H:=f b H B Gr.refl rh r
theorem Fin.at{a:α}{b:β}{h:Hd}{Q:β->Hp->Prop}(f:Fin Y rel H B (.ok a h) Q E)(g:Gr H B H1 μ1)(rh:RH Y H1 μ1 h)(r:rel H1 μ1 a b):Q b H1:=f b H1 μ1 g rh r
theorem Fin.ofO{o:Option α}{h:Hd}{Q:β->Hp->Prop}(f:Fin Y rel H B (R.ofO o h) Q E):∃a,o=Wv a/\Fin Y rel H B (.ok a h) Q E:=by
 cases o with
 |none=>exact f.elim
 |some a=>exact⟨a,rfl,f⟩
theorem Fin.iff{c:Prop}[Decidable c]{r:R α}{Q:β->Hp->Prop}(f:Fin Y rel H B (if c then r else .bad) Q E):c/\Fin Y rel H B r Q E:=by
 by_cases h:c
 . rw[if_pos h]at f;exact⟨h,f⟩
 . rw[if_neg h]at f;exact f.elim
theorem Fin.new{o:DO}{u:HO}{h:Hd}{Q:VK}{p:Yi}(f:Fin Y (RD Y) H B (ZcH o h) Q E)(rh:RH Y H B h)(hp:H p=Ww)(n:RO Y (upd H p u) (B++[p]) p o)(dk:DOk o:=by trivial):Q (.ref p) (upd H p u):=f.at (Gr.lay hp) (rh.lay hp n dk) (.ref (by rw[rh.len];simp))
theorem Fin.tup{ds:List D}{vs:List V}{h:Hd}{Q:VK}{p:Yi}(f:Fin Y (RD Y) H B (.ok (.tup ds) h) Q E)(rh:RH Y H B h)(hp:H p=Ww)(r:RDs Y H B ds vs):Q (.ref p) (upd H p (.tup vs)):=f.at (Gr.lay0 hp) (rh.lay0 hp) (.tup (.inl (.inl Zl)) (r.mono rh (Gr.lay0 hp)))
theorem Fin.wrote{a:α}{b:β}{o:DO}{u:HO}{h:Hd}{Q:β->Hp->Prop}{i:Nat}{p:Yi}(f:Fin Y rel H B (.ok a (h.set i o)) Q E)(rh:RH Y H B h)(hp:B[i]? = Wv p)(n:RO Y (upd H p u) B p o)(r:rel (upd H p u) B a b)(nf:NF (H p))(dk:DOk o:=by trivial):Q b (upd H p u):=f.at (Gr.write (O2 hp) nf) (rh.write hp n nf dk) r
end
section
variable {Y:Yx}{H:Hp}{B:List Yi}{h:Hd}
theorem RD.lst{i:Nat}{xs:List D}{v:V}(rh:RH Y H B h)(r:RD Y H B (.ref i) v)(e:h[i]? = Wv (.lst xs)):∃a vs,v=.ref a/\B[i]? = Wv a/\H a=Wv (.lst vs)/\RDs Y H B xs vs:=by
 cases r with
 |ref q=>obtain⟨vs,h1,h2⟩:=rh.ob i _ _ e q;exact⟨_,vs,rfl,q,h1,h2⟩
theorem RD.dic{i:Nat}{xs:List (Key×D)}{v:V}(rh:RH Y H B h)(r:RD Y H B (.ref i) v)(e:h[i]? = Wv (.dic xs)):∃a vs,v=.ref a/\B[i]? = Wv a/\H a=Wv (.dK vs)/\RKs Y H B xs vs:=by
 cases r with
 |ref q=>obtain⟨vs,h1,h2⟩:=rh.ob i _ _ e q;exact⟨_,vs,rfl,q,h1,h2⟩
theorem RD.lstOf{d:D}{xs:List D}{v:V}(rh:RH Y H B h)(r:RD Y H B d v)(e:lstOf d h=Wv xs):∃a vs,v=.ref a/\SqL Y.K H a vs/\RDs Y H B xs vs:=by
 cases d with
 |ref i=>
  unfold IV.lstOf at e;simp only at e;split at e
  . cases e;rename_i q;obtain⟨a,vs,h1,h2,h3,h4⟩:=r.lst rh q;exact⟨a,vs,h1,.of h3,h4⟩
  . cases e
 |ro ys=>
  cases e;cases r with
  |ro q s=>exact⟨_,_,rfl,q.sq,s⟩
 |_=>cases e
theorem RD.seqOf{d:D}{xs:List D}{v:V}(rh:RH Y H B h)(r:RD Y H B d v)(e:seqOf d h=Wv xs):∃a vs,v=.ref a/\(SqL Y.K H a vs\/SqT Y.K H a vs)/\RDs Y H B xs vs:=by
 by_cases ht:∃ys,d=.tup ys
 . obtain⟨ys,rfl⟩:=ht;cases e;cases r with
   |tup q s=>exact⟨_,_,rfl,.inr q,s⟩
 . have e':IV.lstOf d h=Wv xs:=by
    cases d with
    |tup ys=>exact absurd ⟨ys,rfl⟩ ht
    |_=>exact e
   obtain⟨a,vs,h1,h2,h3⟩:=r.lstOf rh e';exact⟨a,vs,h1,.inl h2,h3⟩
theorem RD.int_inv{i:Int}{v:V}(r:RD Y H B (.int i) v):v=.int i:=by cases r;rfl
theorem RD.str_inv{i:Str}{v:V}(r:RD Y H B (.str i) v):v=.str i/\Yp i=Wx:=by cases r with|str x ok=>exact⟨rfl,ok⟩
theorem RD.tup_inv{ds:List D}{v:V}(r:RD Y H B (.tup ds) v):∃a vs,v=.ref a/\SqT Y.K H a vs/\RDs Y H B ds vs:=by cases r with|tup q s=>exact⟨_,_,rfl,q,s⟩
theorem Zgy{x y:Str}(hx:Yp x=Wx)(hy:Yp y=Wx):Yp (x++y)=Wx:=by show(x.cps++y.cps).all _=Wx;rw[Array.all_append];unfold Yp at hx hy;rw[hx,hy];rfl
theorem Zm8{x:Str}(hx:Yp x=Wx)(n:Nat):Yp (Zeh x n)=Wx:=by
 have gen:∀(n:Nat) (a:Array Nat),a.all (·<0x110000)=Wx->((YK n x.cps).foldl (·++·) a).all (·<0x110000)=Wx:=by
  intro n;induction n with
  |zero=>intro a h;exact h
  |succ n ih=>intro a h;rw[List.replicate_succ,Wr];refine ih _ ?_;rw[Array.all_append,h];exact hx
 exact gen n #[] (by simp)
theorem Zjx{x:Str}(hx:Yp x=Wx){c:Nat}(h:c∈x.cps.toList):Yp ⟨#[c]⟩=Wx:=by unfold Yp at hx ⊢;rw[Array.all_eq_true']at hx;have:=hx c (by simpa using h);simpa using this
theorem Zpw{α:Type}{xs:List α}{i:Int}{x:α}(h:atI xs i=Wv x):x∈xs:=by
 unfold atI at h;cases q:ixN xs.length i with
 |none=>rw[q]at h;cases h
 |some j=>rw[q]at h;exact O2 (i:=j) h
end
section
variable {X:Cx}{Y:Yx}{E:XK}
noncomputable def rB(Y:Yx)(E:XK)(f:D->D->Hd->R D):R2:=λx y H Q=>∃dx dy h B,RH Y H B h/\RD Y H B dx x/\RD Y H B dy y/\Fin Y (RD Y) H B (f dx dy h) Q E
theorem Fin.int2{x y:D}{k:Int->Int->R D}{Q:VK}(f:Fin Y (RD Y) H B (int2 x y k) Q E):∃i j,x=.int i/\y=.int j/\Fin Y (RD Y) H B (k i j) Q E:=by
 cases x with
 |int i=>
  cases y with
  |int j=>exact⟨i,j,rfl,rfl,f⟩
  |_=>exact f.elim
 |_=>exact f.elim
theorem ZrL(hY:Y.K=X.K)(op:Operator):OpR X (binaryOp op) (rB Y E (opB op)):=by
 intro pins s Z H x y v u Q I rx ry hh;obtain⟨dx,dy,h,B,rh,r1,r2,f⟩:=hh;cases op with
 |Add=>
  have f:Fin Y (RD Y) H B (Zl1 dx dy h) Q E:=f;cases dx with
  |int i=>
   cases dy with
   |int j=>cases r1;cases r2;exact ZrK pins s Z H _ _ v u Q I rx ry ⟨_,_,rfl,rfl,f.ok rh (.int _)⟩
   |_=>exact f.elim
  |str i=>
   cases dy with
   |str j=>
    obtain⟨hz,f⟩:=Fin.iff f;cases r1 with|str _ o1=>
    cases r2 with|str _ o2=>
    exact Zjv pins s Z H _ _ v u Q I rx ry ⟨_,_,rfl,rfl,hz,f.ok rh (.str _ (Zgy o1 o2))⟩
   |_=>exact f.elim
  |tup xs=>
   cases dy with
   |tup ys=>
    obtain⟨hz,f⟩:=Fin.iff f;obtain⟨a,vs,rfl,t1,s1⟩:=r1.tup_inv;obtain⟨b,ws,rfl,t2,s2⟩:=r2.tup_inv;rw[s1.length,s2.length]at hz;by_cases h0:vs=[]
    . subst h0;cases s1;exact Zph pins s Z H _ _ v u Q I rx ry ⟨a,b,ws,rfl,rfl,hY ▸ t1,hY ▸ t2,f.ok rh (.tup t2 s2)⟩
    . refine Zpg pins s Z H _ _ v u Q I rx ry ⟨a,b,vs,ws,rfl,rfl,hY ▸ t1,hY ▸ t2,h0,hz,λe=>?_,λe p hp=>f.tup rh hp (s1.append s2)⟩;subst e;cases s2;rw[Yt]at f;exact f.ok rh (.tup t1 s1)
   |_=>exact f.elim
  |ref i=>
   cases dy with
   |ref j=>
    unfold Zl1 at f;simp only at f;split at f
    . rename_i e1;split at f
      . rename_i e2;obtain⟨hz,f⟩:=f.iff;obtain⟨a,vs,rfl,_,h1,s1⟩:=r1.lst rh e1;obtain⟨b,ws,rfl,_,h2,s2⟩:=r2.lst rh e2;rw[s1.length,s2.length]at hz;exact ZrJ pins s Z H _ _ v u Q I rx ry ⟨a,b,vs,ws,rfl,rfl,h1,h2,hz,λp hp=>f.new rh hp ⟨_,Zl,(s1.append s2).mono rh (Gr.lay hp)⟩⟩
      . exact f.elim
    . exact f.elim
   |_=>exact f.elim
  |_=>exact f.elim
 |Sub=>obtain⟨i,j,rfl,rfl,f⟩:=Fin.int2 f;cases r1;cases r2;exact ZrE pins s Z H _ _ v u Q I rx ry ⟨_,_,rfl,rfl,f.ok rh (.int _)⟩
 |Mult=>
  have f:Fin Y (RD Y) H B (ZtO dx dy h) Q E:=f;cases dx with
  |str z=>
   cases dy with
   |int n=>
    obtain⟨hz,f⟩:=Fin.iff f;cases r1 with|str _ o1=>
    cases r2;exact Zpe pins s Z H _ _ v u Q I rx ry ⟨_,_,rfl,rfl,hz.1,hz.2.1,hz.2.2,f.ok rh (.str _ (Zm8 o1 _))⟩
   |_=>exact f.elim
  |int i=>obtain⟨i,j,e1,rfl,f⟩:=Fin.int2 (show Fin Y (RD Y) H B (IV.int2 (.int i) dy λi j=>if i.natAbs<2 ^ 2000/\j.natAbs<2 ^ 2000 then .ok (.int (i * j)) h else .bad) Q E from f);cases e1;obtain⟨hz,f⟩:=f.iff;cases r1;cases r2;exact Zlx pins s Z H _ _ v u Q I rx ry ⟨_,_,rfl,rfl,hz,f.ok rh (.int _)⟩
  |_=>exact f.elim
 |Mod=>obtain⟨i,j,rfl,rfl,f⟩:=Fin.int2 f;obtain⟨hz,f⟩:=f.iff;cases r1;cases r2;exact ZrG pins s Z H _ _ v u Q I rx ry ⟨_,_,rfl,rfl,hz,f.ok rh (.int _)⟩
 |FloorDiv=>obtain⟨i,j,rfl,rfl,f⟩:=Fin.int2 f;obtain⟨hz,f⟩:=f.iff;cases r1;cases r2;exact Zpf pins s Z H _ _ v u Q I rx ry ⟨_,_,rfl,rfl,hz,f.ok rh (.int _)⟩
 |Pow=>obtain⟨i,j,rfl,rfl,f⟩:=Fin.int2 f;obtain⟨hz,f⟩:=f.iff;cases r1;cases r2;exact ZrF pins s Z H _ _ v u Q I rx ry ⟨_,_,rfl,rfl,hz,f.ok rh (.int _)⟩
 |_=>exact f.elim
end
end IV
end
section
namespace IV
open PySem PySem.Spec PyProof.Rows L2
structure Gk(X:Cx)(Y:Yx)(T:Tb):Prop where
 K:Y.K=X.K
 mg:Y.mg=X.mg
 gd:∀x kvs,T.GD x=Wv kvs->∃a kvs',X.mg x=Wv (.ref a)/\DkK X.prog X.w X.K a kvs'/\∀H B,RKs Y H B kvs kvs'
 g:∀x d,T.G x=Wv d->∃v u,X.mg x=Wv u/\RelV v u/\∀H B,RD Y H B d v
 bare:Zfe X.K=Wx
section
variable {X:Cx}{Y:Yx}{E:XK}{T:Tb}{H:Hp}{B:List Yi}{h:Hd}
theorem RD.dicOf(G:Gk X Y T)(rh:RH Y H B h){d:D}{v:V}{kvs:List (Key×D)}(r:RD Y H B d v)(e:dicOf T.GD d h=Wv kvs):∃a kvs',v=.ref a/\Dk X.prog X.w X.K H a kvs'/\RKs Y H B kvs kvs':=by
 cases d with
 |ref i=>
  unfold IV.dicOf at e;simp only at e;split at e
  . cases e;rename_i q;obtain⟨a,vs,h1,_,h3,h4⟩:=r.dic rh q;exact⟨a,vs,h1,.inl (.inl h3),h4⟩
  . cases e;rename_i q;cases r with
    |ref qm=>obtain⟨o,vs,h1,h2⟩:=rh.ob i _ _ q qm;exact⟨_,vs,rfl,.inl (.inr ⟨o,h1⟩),h2⟩
  . cases e
 |kd x=>
  obtain⟨a,kvs',h1,h2,h3⟩:=G.gd x kvs e;cases r with
  |kd q=>rw[G.mg,h1]at q;cases q;exact⟨a,kvs',rfl,.inr h2,h3 H B⟩
 |_=>cases e
theorem Znn{d:D}{v:V}{k:Key}(r:RD Y H B d v)(e:keyOf d=Wv k):∀x,k=.inr x->Yp x=Wx:=by
 cases d with
 |int i=>cases e;intro x z;cases z
 |str i=>
  cases e;intro x z;cases z;cases r with
  |str _ ok=>exact ok
 |_=>cases e
theorem ZfM{kvs:List (Key×D)}{k:Key}{c:D}(h:ZcA kvs)(hk:∀x,k=.inr x->Yp x=Wx):ZcA (putD kvs k c):=by
 intro p hp x e;unfold putD at hp;split at hp
 . obtain⟨q,hq,rfl⟩:=List.mem_map.mp hp;refine h q hq x ?_;split at e<;>exact e
 . rcases OD.mp hp with hp|hp
   . exact h p hp x e
   . rw[Ox.mp hp]at e;exact hk x e
theorem Zdd{d:D}{v:V}{k:Key}(r:RD Y H B d v)(e:keyOf d=Wv k):v=kV k:=by
 cases d with
 |int i=>cases e;cases r;rfl
 |str i=>cases e;cases r;rfl
 |_=>cases e
theorem RKs.valV_rel{ds:List (Key×D)}{vs:List (Key×V)}(s:RKs Y H B ds vs)(k:Key):(Zay ds k=Ww/\ZdN vs k=Ww)\/∃d v,Zay ds k=Wv d/\ZdN vs k=Wv v/\RD Y H B d v:=by
 unfold Zay ZdN;rcases s.val k with ⟨h1,h2⟩|⟨d,v,h1,h2,h3⟩
 . exact .inl ⟨by rw[h1];rfl,by rw[h2];rfl⟩
 . exact .inr ⟨d,v,by rw[h1];rfl,by rw[h2];rfl,h3⟩
theorem RKs.any_rel(k:Key):∀{ds:List (Key×D)}{vs:List (Key×V)},RKs Y H B ds vs->(ds.any λkv=>Wz (kv.1=k))=(vs.any λkv=>Wz (kv.1=k))
 |_,_,.nil=>rfl
 |_,_,.cons a s=>by rw[We,We,s.any_rel k]
theorem RKs.map_rel(k:Key){d:D}{v:V}(r:RD Y H B d v):∀{ds:List (Key×D)}{vs:List (Key×V)},RKs Y H B ds vs->RKs Y H B (ds.map λkv=>if kv.1=k then(kv.1,d)else kv) (vs.map λkv=>if kv.1=k then(kv.1,v)else kv)
 |_,_,.nil=>.nil
 |_,_,.cons (k:=k') a s=>by
  rw[Op,Op];by_cases e:k'=k
  . rw[if_pos e,if_pos e];exact .cons r (s.map_rel k r)
  . rw[if_neg e,if_neg e];exact .cons a (s.map_rel k r)
theorem RKs.append{κ:Type}:∀{ds es:List (κ×D)}{vs ws:List (κ×V)},RKs Y H B ds vs->RKs Y H B es ws->RKs Y H B (ds++es) (vs++ws)
 |_,_,_,_,.nil,s=>s
 |_,_,_,_,.cons a r,s=>.cons a (r.append s)
theorem RKs.put{ds:List (Key×D)}{vs:List (Key×V)}(s:RKs Y H B ds vs)(k:Key){d:D}{v:V}(r:RD Y H B d v):RKs Y H B (putD ds k d) (putK vs k v):=by
 unfold putD putK;rw[s.any_rel k];split
 . exact s.map_rel k r
 . exact s.append (.cons r .nil)
mutual
theorem RD.dp(rh:RH Y H B h)(rd:Nat->Option PyData)(hr:∀i p a,rd i=Wv p->B[i]? = Wv a->Dp Y.K H (.ref a) p):∀{d:D}{v:V}{p:PyData},RD Y H B d v->D.py rd d=Wv p->Dp Y.K H v p
 |_,_,_,.non,e=>by cases e;exact .non
 |_,_,_,.bl b,e=>by cases e;exact .bl b
 |_,_,_,.int i,e=>by cases e;exact .int i
 |_,_,_,.str x ok,e=>by cases e;exact .str x ok
 |_,_,_,.tup t s,e=>by rw[D.py]at e;obtain⟨ps,e1,rfl⟩:=Oo.mp e;exact .tup t (RDs.dps rh rd hr s e1)
 |_,_,_,.ref q,e=>hr _ _ _ e q
 |_,_,_,.ty n,e=>by cases e
 |_,_,_,.ro t s,e=>by rw[D.py]at e;obtain⟨ps,e1,rfl⟩:=Oo.mp e;exact .lst t.sq (RDs.dps rh rd hr s e1)
 |_,_,_,.kd q,e=>by cases e
theorem RDs.dps(rh:RH Y H B h)(rd:Nat->Option PyData)(hr:∀i p a,rd i=Wv p->B[i]? = Wv a->Dp Y.K H (.ref a) p):∀{d:List D}{v:List V}{p:List PyData},RDs Y H B d v->D.pys rd d=Wv p->Dps Y.K H v p
 |_,_,_,.nil,e=>by cases e;exact .nil
 |_,_,_,.cons a s,e=>by rw[D.pys]at e;obtain⟨q,e1,e2⟩:=Option.bind_eq_some_iff.mp e;obtain⟨qs,e3,rfl⟩:=Oo.mp e2;exact .cons (RD.dp rh rd hr a e1) (RDs.dps rh rd hr s e3)
end
theorem Zkw(rh:RH Y H B h):∀(n i:Nat) (p:PyData) (a:Yi),ZeR h n i=Wv p->B[i]? = Wv a->Dp Y.K H (.ref a) p
 |0,i,p,a,e,q=>by cases e
 |n+1,i,p,a,e,q=>by
  rw[ZeR]at e;split at e
  . rename_i xs he;obtain⟨ps,e1,rfl⟩:=Oo.mp e;obtain⟨vs,z,s⟩:=rh.ob i _ a he q;exact .lst (.of z) (RDs.dps rh _ (Zkw rh n) s e1)
  . cases e
theorem Zc7(rh:RH Y H B h){d:D}{v:V}{p:PyData}(r:RD Y H B d v)(e:ZeS h d=Wv p):Dp Y.K H v p:=r.dp rh _ (Zkw rh 4) e
theorem ZfW{d:D}{v:V}(r:RD Y H B d v)(f:d.flat=Wx):Zdu v=Wx:=by cases r<;>first|rfl|cases f
theorem Zeo:∀{ds:List D}{vs:List V},RDs Y H B ds vs->ds.all D.flat=Wx->vs.all Zdu=Wx
 |_,_,.nil,_=>rfl
 |_,_,.cons a s,f=>by rw[List.all_cons,Oa]at f;rw[List.all_cons,ZfW a f.1,Zeo s f.2];rfl
theorem Zsj{d e:D}{v w:V}(r:RD Y H B d v)(q:RD Y H B e w)(f:d.flat=Wx)(g:e.flat=Wx):eqF d e=eqV v w:=by cases r<;>cases q<;>first|rfl|exact absurd f (by simp[D.flat])|exact absurd g (by simp[D.flat])
theorem any_rel{e:D}{w:V}(q:RD Y H B e w)(g:e.flat=Wx):∀{ds:List D}{vs:List V},RDs Y H B ds vs->ds.all D.flat=Wx->(ds.any λz=>eqF z e)=vs.any λy=>eqV y w
 |_,_,.nil,_=>rfl
 |_,_,.cons a s,f=>by rw[List.all_cons,Oa]at f;rw[We,We,Zsj a q f.1 g,any_rel q g s f.2]
theorem Zpo{k:Nat}(hr:Room k X.A)(h60:60<=k)(hY:Y.K=X.K):OpR X (YM .Eq) (rB Y E (ZbS Wy)):=by
 intro pins s Z H x y v u Q I rx ry hh;obtain⟨dx,dy,h,B,rh,r1,r2,f⟩:=hh;unfold ZbS at f;split at f
 . rename_i e1 e2;obtain⟨hz,f⟩:=f.iff;have d1:=Zc7 rh r1 e1;have d2:=Zc7 rh r2 e2;rw[hY]at d1 d2;obtain⟨as,q1⟩:=I.reads d1 rx;obtain⟨bs,q2⟩:=I.reads d2 ry;have:=hr.un;exact SeqAt.compareEq_reads q1 q2 d1.lay d2.lay (by omega) ⟨.bl _,H,I,rfl,f.ok rh (.bl _)⟩
 . exact f.elim
theorem Zpj{k:Nat}(hr:Room k X.A)(h60:60<=k)(hY:Y.K=X.K):OpR X (YM .NotEq) (rB Y E (ZbS Wx)):=by
 intro pins s Z H x y v u Q I rx ry hh;obtain⟨dx,dy,h,B,rh,r1,r2,f⟩:=hh;unfold ZbS at f;split at f
 . rename_i e1 e2;obtain⟨hz,f⟩:=f.iff;have d1:=Zc7 rh r1 e1;have d2:=Zc7 rh r2 e2;rw[hY]at d1 d2;obtain⟨as,q1⟩:=I.reads d1 rx;obtain⟨bs,q2⟩:=I.reads d2 ry;have:=hr.un;exact SeqAt.compareNe_reads q1 q2 d1.lay d2.lay (by omega) ⟨.bl _,H,I,rfl,f.ok rh (.bl _)⟩
 . exact f.elim
theorem Zig{k:Nat}(hr:Room k X.A)(h60:60<=k)(hY:Y.K=X.K):OpR X (YM .In) (rB Y E ZeY):=by
 intro pins s Z H x y v u Q I rx ry hh;obtain⟨dx,dy,h,B,rh,r1,r2,f⟩:=hh;unfold ZeY at f;split at f
 . rename_i e1 e2;obtain⟨hz,f⟩:=f.iff;have d1:=Zc7 rh r1 e1;have d2:=Zc7 rh r2 e2;rw[hY]at d1 d2;obtain⟨as,q1⟩:=I.reads d1 rx;obtain⟨bs,q2⟩:=I.reads d2 ry;have:=hr.un;exact SeqAt.in_list_reads q2 q1 d2.lay d1.lay (by omega) ⟨.bl _,H,I,rfl,f.ok rh (.bl _)⟩
 . exact f.elim
theorem Ze5{op:CmpOp}{g:Int->Int->Bool}(ho:OpR X (YM op) (rI0 λi j=>.bl (g i j))):OpR X (YM op) (rB Y E (Zg9 g)):=by
 intro pins s Z H x y v u Q I rx ry hh;obtain⟨dx,dy,h,B,rh,r1,r2,f⟩:=hh;unfold Zg9 at f;split at f
 . cases r1;cases r2;exact ho pins s Z H _ _ v u Q I rx ry ⟨_,_,rfl,rfl,f.ok rh (.bl _)⟩
 . exact f.elim
theorem ZkF{d:D}{v:V}(r:RD Y H B d v):Wz (d=.non)=Wz (v=.non):=by cases r<;>simp
theorem Zpm:OpR X (YM .Is) (rB Y E (opN Wy)):=by
 intro pins s Z H x y v u Q I rx ry hh;obtain⟨dx,dy,h,B,rh,r1,r2,f⟩:=hh;unfold opN at f;split at f
 . cases r2;have z:=ZkF r1;simp only[OG,if_false,z]at f;exact ZrH pins s Z H _ _ v u Q I rx ry ⟨rfl,f.ok rh (.bl _)⟩
 . exact f.elim
theorem Zlz:OpR X (YM .IsNot) (rB Y E (opN Wx)):=by
 intro pins s Z H x y v u Q I rx ry hh;obtain⟨dx,dy,h,B,rh,r1,r2,f⟩:=hh;unfold opN at f;split at f
 . cases r2;have z:=ZkF r1;simp only[if_true,z]at f;exact Zpd pins s Z H _ _ v u Q I rx ry ⟨rfl,f.ok rh (.bl _)⟩
 . exact f.elim
theorem Zpn(G:Gk X Y T):OpR X (YM .In) (rB Y E (Zbh T.GD Wy)):=by
 intro pins s Z H x y v u Q I rx ry hh;obtain⟨dx,dy,h,B,rh,r1,r2,f⟩:=hh;unfold Zbh at f;split at f
 . rename_i xs e1;obtain⟨hz,f⟩:=f.iff;rw[Oa]at hz;obtain⟨a,vs,rfl,hs,rs⟩:=r2.seqOf rh e1;have q:=f.ok rh (.bl _);simp only[OG,if_false,any_rel r1 hz.1 rs hz.2]at q;exact Zly pins s Z H _ _ v u Q I rx ry ⟨a,vs,rfl,G.K ▸ hs,ZfW r1 hz.1,Zeo rs hz.2,q⟩
 . split at f
   . rename_i kvs k e1 e2;obtain⟨a,kvs',rfl,hd,rk⟩:=r2.dicOf G rh e1;have q:=f.ok rh (.bl _);have z:(Zay kvs k).isSome=(ZdN kvs' k).isSome:=by rcases rk.valV_rel k with ⟨h1,h2⟩|⟨d,v,h1,h2,_⟩<;>rw[h1,h2]<;>rfl
     rw[z]at q;exact ZrI pins s Z H _ _ v u Q I rx ry ⟨a,kvs',k,rfl,Zdd r1 e2,hd,q⟩
   . exact f.elim
theorem Zjw(G:Gk X Y T):OpR X (YM .NotIn) (rB Y E (Zbh T.GD Wx)):=by
 intro pins s Z H x y v u Q I rx ry hh;obtain⟨dx,dy,h,B,rh,r1,r2,f⟩:=hh;unfold Zbh at f;split at f
 . rename_i xs e1;obtain⟨hz,f⟩:=f.iff;rw[Oa]at hz;obtain⟨a,vs,rfl,hs,rs⟩:=r2.seqOf rh e1;have q:=f.ok rh (.bl _);simp only[if_true,any_rel r1 hz.1 rs hz.2]at q;exact Zg8 pins s Z H _ _ v u Q I rx ry ⟨a,vs,rfl,G.K ▸ hs,ZfW r1 hz.1,Zeo rs hz.2,q⟩
 . split at f
   . rename_i kvs k e1 e2;obtain⟨a,kvs',rfl,hd,rk⟩:=r2.dicOf G rh e1;have q:=f.ok rh (.bl _);have z:(Zay kvs k).isSome=(ZdN kvs' k).isSome:=by rcases rk.valV_rel k with ⟨h1,h2⟩|⟨d,v,h1,h2,_⟩<;>rw[h1,h2]<;>rfl
     rw[z]at q;exact Zlw pins s Z H _ _ v u Q I rx ry ⟨a,kvs',k,rfl,Zdd r1 e2,hd,q⟩
   . exact f.elim
theorem Zej{k:Nat}(hr:Room k X.A)(h60:60<=k)(G:Gk X Y T)(op:CmpOp):OpR X (YM op) (rB Y E (opC T.GD op)):=by
 cases op with
 |Eq=>exact Zpo hr h60 G.K
 |NotEq=>exact Zpj hr h60 G.K
 |Lt=>exact Ze5 ZtB
 |LtE=>exact Ze5 ZtC
 |Gt=>exact Ze5 ZtD
 |GtE=>exact Ze5 ZtE
 |Is=>exact Zpm
 |IsNot=>exact Zlz
 |In=>exact Zpn G
 |NotIn=>exact Zjw G
theorem Zpk(G:Gk X Y T):IxR X (rB Y E (Z8 T.GD)):=by
 intro value slice pins s Z H x y v u Q I rx ry hh hs;obtain⟨dx,dy,h,B,rh,r1,r2,f⟩:=hh;have dict:∀(kvs:List (Key×D)) (k:Key),dicOf T.GD dx h=Wv kvs->y=kV k->Fin Y (RD Y) H B (R.ofO (Zay kvs k) h) Q E->YB (model X.prog X.w) X.A (subscriptTail value slice v u) (EP X pins Z Q) X.xe s:=by
  intro kvs k e1 ey f;obtain⟨d,e2,f⟩:=f.ofO;obtain⟨a,kvs',rfl,hd,rk⟩:=r1.dicOf G rh e1;rcases rk.valV_rel k with ⟨h1,h2⟩|⟨d',w,h1,h2,h3⟩
  . rw[h1]at e2;cases e2
  . rw[h1]at e2;cases e2;exact ZpJ value slice pins s Z H _ _ v u Q I rx ry ⟨a,kvs',k,w,rfl,ey,hd,h2,f.ok rh h3⟩ hs
 unfold Z8 at f;split at f
 . rename_i i;cases r2;split at f
   . rename_i xs e1;obtain⟨d,e2,f⟩:=f.ofO;obtain⟨a,vs,rfl,hq,rs⟩:=r1.seqOf rh e1;obtain⟨w,e3,rw'⟩:=rs.atI e2;rcases hq with hq|hq
     . exact ZpI value slice pins s Z H _ _ v u Q I rx ry ⟨a,vs,i,w,rfl,rfl,G.K ▸ hq,e3,f.ok rh rw'⟩ hs
     . exact Zr4 value slice pins s Z H _ _ v u Q I rx ry ⟨a,vs,i,w,rfl,rfl,G.K ▸ hq,e3,f.ok rh rw'⟩ hs
   . split at f
     . obtain⟨hz,f⟩:=f.iff;obtain⟨d,e2,f⟩:=f.ofO;obtain⟨c,e3,rfl⟩:=Oo.mp e2;obtain⟨rfl,ok⟩:=r1.str_inv;exact Zr5 value slice pins s Z H _ _ v u Q I rx ry ⟨_,i,c,rfl,rfl,hz,e3,f.ok rh (.str _ (Zjx ok (Zpw e3)))⟩ hs
     . split at f
       . rename_i kvs e1;exact dict kvs (.inl i) e1 rfl f
       . exact f.elim
 . rename_i z;obtain⟨rfl,ok⟩:=r2.str_inv;split at f
   . rename_i kvs e1;exact dict kvs (.inr z) e1 rfl f
   . exact f.elim
 . exact f.elim
theorem Zm7{x y:Str}(hx:Yp x=Wx)(h:∀c∈y.cps.toList,c∈x.cps.toList):Yp y=Wx:=by unfold Yp at hx ⊢;rw[Array.all_eq_true']at hx ⊢;intro c hc;exact hx c (by simpa using h c (by simpa using hc))
theorem Zop{d:D}{v:V}{b:Bool}(hY:Y.K=X.K)(rh:RH Y H B h)(r:RD Y H B d v)(e:Zcm T.GD d h=Wv b):Zsu X.K v H b:=by
 cases d with
 |non=>cases r;cases e;rfl
 |bl c=>cases r;cases e;rfl
 |int c=>cases r;cases e;rfl
 |str c=>
  cases r;unfold Zcm at e;simp only at e;split at e
  . rename_i hz;cases e;refine⟨hz,?_⟩;by_cases h0:c.length=0
    . simp[h0]
    . have h1:((c.length:Int) != 0)=Wx:=by simp;omega
      rw[h1];simp[h0]
  . cases e
 |tup xs=>obtain⟨a,vs,rfl,t,s⟩:=r.tup_inv;cases e;exact .inr (.inl ⟨vs,hY ▸ t,by rw[s.isEmpty]⟩)
 |ref i=>
  unfold Zcm at e;simp only at e;split at e
  . rename_i q;cases e;obtain⟨a,vs,rfl,_,h3,s⟩:=r.lst rh q;exact .inl ⟨vs,.of h3,by rw[s.isEmpty]⟩
  . rename_i q;cases e;obtain⟨a,vs,rfl,_,h3,s⟩:=r.dic rh q;exact .inr (.inr ⟨vs,h3,by cases s<;>rfl⟩)
  . cases e
 |ro xs=>
  cases e;cases r with
  |ro q s=>exact .inl ⟨_,hY ▸ q.sq,by rw[s.isEmpty]⟩
 |ty n=>cases e
 |kd x=>cases e
end
end IV
end
section
namespace IV
open PySem PySem.Spec PyProof.Rows L2
section
variable {X:Cx}{Y:Yx}{E:XK}{T:Tb}{H:Hp}{B:List Yi}{h:Hd}
def rS(Y:Yx)(E:XK):V->Option Int->Option Int->Hp->VK->Prop:=λx l u H Q=>∃d h B,RH Y H B h/\RD Y H B d x/\Fin Y (RD Y) H B (Zif d l u h) Q E
theorem Zfl(y:Str)(l u:Option Int):∀c∈(Yq y l u).cps.toList,c∈y.cps.toList:=by
 intro c hc;unfold Yq at hc;split at hc
 . exact hc
 . simp only[List.mem_filterMap]at hc;obtain⟨i,_,hi⟩:=hc;have:=Array.mem_of_getElem? hi;simpa using this
theorem ZlU{xs:List D}{lo hi:Option Int}(h:HT.sIx xs.length 0 lo=0/\HT.sIx xs.length xs.length hi=xs.length):cutD xs lo hi=xs:=by unfold cutD;rw[h.1,h.2];simp
theorem Zpi(hY:Y.K=X.K):SlR X (rS Y E):=by
 intro pins s Z H x v vl vu lo hi sl Q I rx hs pl pu hh;obtain⟨d,h,B,rh,r,f⟩:=hh;unfold Zif at f;split at f
 . rename_i xs;obtain⟨a,vs,rfl,t,rs⟩:=r.tup_inv;by_cases hw:HT.sIx vs.length 0 lo=0/\HT.sIx vs.length vs.length hi=vs.length
   . rw[ZlU (by rw[rs.length];exact hw)]at f;exact Zml pins s Z H _ v vl vu lo hi sl Q I rx hs pl pu ⟨a,vs,rfl,hY ▸ t,hw,f.ok rh (.tup t rs)⟩
   . exact Zq1 pins s Z H _ v vl vu lo hi sl Q I rx hs pl pu ⟨a,vs,rfl,hY ▸ t,hw,λp hp=>f.tup rh hp (rs.cut lo hi)⟩
 . obtain⟨hz,f⟩:=f.iff;obtain⟨rfl,ok⟩:=r.str_inv;exact Zq3 pins s Z H _ v vl vu lo hi sl Q I rx hs pl pu ⟨_,rfl,hz,f.ok rh (.str _ (Zm7 ok (Zfl _ _ _)))⟩
 . split at f
   . rename_i xs e1;obtain⟨a,vs,rfl,hl,rs⟩:=r.lstOf rh e1;exact Zoz pins s Z H _ v vl vu lo hi sl Q I rx hs pl pu ⟨a,vs,rfl,hY ▸ hl,λp hp=>f.new rh hp ⟨_,Zl,(rs.cut lo hi).mono rh (Gr.lay hp)⟩⟩
   . exact f.elim
def rF(Y:Yx)(E:XK)(f:List D->Hd->R D):List V->Hp->VK->Prop:=λxs H Q=>∃ds h B,RH Y H B h/\RDs Y H B ds xs/\Fin Y (RD Y) H B (f ds h) Q E
theorem RDs.one{d:D}{xs:List V}(r:RDs Y H B [d] xs):∃x,xs=[x]/\RD Y H B d x:=by
 cases r with
 |cons a s=>cases s;exact⟨_,rfl,a⟩
theorem RDs.two{d e:D}{xs:List V}(r:RDs Y H B [d,e] xs):∃x y,xs=[x,y]/\RD Y H B d x/\RD Y H B e y:=by
 cases r with
 |cons a s=>obtain⟨y,rfl,b⟩:=s.one;exact⟨_,_,rfl,a,b⟩
theorem Zp6(hY:Y.K=X.K):Zcl X (.builtin "len") (rF Y E Zi5):=by
 intro pins s Z H xs us Q I r hh;obtain⟨ds,h,B,rh,rs,f⟩:=hh;unfold Zi5 at f;split at f
 . obtain⟨hz,f⟩:=f.iff;obtain⟨x,rfl,rd⟩:=rs.one;obtain⟨rfl,ok⟩:=rd.str_inv;exact ZhB pins s Z H _ us Q I r ⟨_,rfl,hz,f.ok rh (.int _)⟩
 . obtain⟨e,e1,f⟩:=f.ofO;obtain⟨zs,e2,rfl⟩:=Oo.mp e1;obtain⟨x,rfl,rd⟩:=rs.one;obtain⟨a,vs,rfl,hq,rv⟩:=rd.seqOf rh e2;refine ZhC pins s Z H _ us Q I r ⟨a,vs,rfl,hY ▸ hq,?_⟩;rw[<- rv.length];exact f.ok rh (.int _)
 . exact f.elim
theorem ZpG{K:Yk}{t T:String}{b:Bool}(e:ZjX t T=Wv b):PySem.W.kitOne K (.type t) (.type T)=Wv b:=by
 have all:(["int", "str", "bool", "tuple", "list"].all λT=>["int", "str", "bool", "tuple", "list", "NoneType"].all λt=>Wz (PySem.W.kitOne [] (.type t) (.type T)=Wv (t==T || (t == "bool" && T == "int"))))=Wx:=by decide +kernel
 unfold ZjX at e;split at e
 . rename_i hm;cases e;rw[OC]at all;have h1:=all T hm.1;rw[OC]at h1;exact ZlI (of_decide_eq_true (h1 t hm.2))
 . cases e
theorem ZsP{d:D}{v:V}{t:String}(hY:Y.K=X.K)(rh:RH Y H B h)(r:RD Y H B d v)(e:ZsQ d h=Wv t):TyN X.K v H t:=by
 have lst:(IV.lstOf d h).map (λ_ => "list")=Wv t->TyN X.K v H t:=λe=>by obtain⟨xs,e1,rfl⟩:=Oo.mp e;obtain⟨a,vs,rfl,hl,rs⟩:=r.lstOf rh e1;exact .inl ⟨rfl,vs,hY ▸ hl⟩
 cases d with
 |int i=>cases e;cases r;rfl
 |str i=>cases e;cases r;rfl
 |bl i=>cases e;cases r;rfl
 |non=>cases e;cases r;rfl
 |tup xs=>cases e;obtain⟨a,vs,rfl,t,rs⟩:=r.tup_inv;exact .inr ⟨rfl,vs,hY ▸ t⟩
 |ref i=>exact lst e
 |ro xs=>exact lst e
 |ty n=>exact lst e
 |kd x=>exact lst e
theorem Zp7(hY:Y.K=X.K):Zcl X (.builtin "isinstance") (rF Y E Zsr):=by
 intro pins s Z H xs us Q I r hh;obtain⟨ds,h,B,rh,rs,f⟩:=hh;unfold Zsr at f;split at f
 . obtain⟨e,e1,f⟩:=f.ofO;obtain⟨t,e2,e3⟩:=Option.bind_eq_some_iff.mp e1;obtain⟨b,e4,rfl⟩:=Oo.mp e3;obtain⟨x,y,rfl,r1,r2⟩:=rs.two;cases r2;exact Zn0 pins s Z H _ us Q I r ⟨x,t,_,b,rfl,ZsP hY rh r1 e2,ZpG e4,f.ok rh (.bl _)⟩
 . exact f.elim
theorem Zp3(hY:Y.K=X.K):Zcl X (.type "tuple") (rF Y E Zn9):=by
 intro pins s Z H xs us Q I r hh;obtain⟨ds,h,B,rh,rs,f⟩:=hh;unfold Zn9 at f;split at f
 . obtain⟨x,rfl,r1⟩:=rs.one;obtain⟨a,vs,rfl,t,rv⟩:=r1.tup_inv;exact Zdw pins s Z H _ us Q I r ⟨a,vs,rfl,.inr ⟨hY ▸ t,f.ok rh (.tup t rv)⟩⟩
 . obtain⟨e,e1,f⟩:=f.ofO;obtain⟨zs,e2,rfl⟩:=Oo.mp e1;obtain⟨x,rfl,r1⟩:=rs.one;obtain⟨a,vs,rfl,hl,rv⟩:=r1.lstOf rh e2;exact Zdw pins s Z H _ us Q I r ⟨a,vs,rfl,.inl ⟨hY ▸ hl,λp hp=>f.tup rh hp rv⟩⟩
 . exact f.elim
theorem ZfQ:∀{ds:List D}{vs:List V}{ns:List Int},RDs Y H B ds vs->intsOf ds=Wv ns->vs=ns.map V.int
 |_,_,_,.nil,e=>by cases e;rfl
 |_,_,_,.cons (d:=d) a s,e=>by
  cases d with
  |int i=>rw[intsOf]at e;obtain⟨z,e1,rfl⟩:=Oo.mp e;cases a;rw[ZfQ s e1];rfl
  |_=>cases e
theorem Zp4(hc:X.A.handled=Ww)(hY:Y.K=X.K):Zcl X (.builtin "sum") (rF Y E ZlZ):=by
 intro pins s Z H xs us Q I r hh;obtain⟨ds,h,B,rh,rs,f⟩:=hh;unfold ZlZ at f;split at f
 . obtain⟨e,e1,f⟩:=f.ofO;obtain⟨ns,e2,rfl⟩:=Oo.mp e1;obtain⟨zs,e3,e4⟩:=Option.bind_eq_some_iff.mp e2;obtain⟨x,rfl,r1⟩:=rs.one;obtain⟨a,vs,rfl,hl,rv⟩:=r1.lstOf rh e3;rw[ZfQ rv e4]at hl;exact ZlX hc pins s Z H _ us Q I r ⟨a,ns,rfl,hY ▸ hl,f.ok rh (.int _)⟩
 . exact f.elim
def rM(Y:Yx)(E:XK)(m:Mf):V->List V->Hp->VK->Prop:=λx xs H Q=>∃d ds h B,RH Y H B h/\RD Y H B d x/\RDs Y H B ds xs/\Fin Y (RD Y) H B (Z9 m d ds h) Q E
noncomputable def mid:Mf->String
 |.app => "list.append"
 |.ext => "list.extend"
 |.pop => "list.pop"
 |.rev => "list.reverse"
 |.clr => "list.clear"
theorem ZkJ(hY:Y.K=X.K)(m:Mf):MtM X (mid m) (rM Y E m):=by
 intro pins s Z H x xs v us Q I rx rs hh;obtain⟨d,ds,h,B,rh,r1,r2,f⟩:=hh;unfold Z9 at f;split at f
 . split at f
   . rename_i i ys e;obtain⟨a,vs,rfl,hi,hl,rv⟩:=r1.lst rh e;cases m with
     |app=>
      unfold Zek ZjD at f;simp only at f;split at f
      . obtain⟨hz,f⟩:=f.iff;obtain⟨y,rfl,ry⟩:=r2.one;have g:Gr H B (upd H a (.lst (vs++[y]))) B:=Gr.write (O2 hi) (by rw[hl];trivial);exact Zgz pins s Z H _ _ v us Q I rx rs ⟨a,vs,y,rfl,rfl,hl,by rw[<- rv.length];exact hz,f.wrote rh hi ⟨_,Zl,(rv.append (.cons ry .nil)).mono rh g⟩ .non (by rw[hl];trivial)⟩
      . exact f.elim
     |ext=>
      unfold Zek ZrS at f;simp only at f;split at f
      . split at f
        . rename_i zs e2;obtain⟨hz,f⟩:=f.iff;obtain⟨y,rfl,ry⟩:=r2.one;obtain⟨b,ws,rfl,hj,hl2,rw'⟩:=ry.lst rh e2;have g:Gr H B (upd H a (.lst (vs++ws))) B:=Gr.write (O2 hi) (by rw[hl];trivial);exact ZlE pins s Z H _ _ v us Q I rx rs ⟨a,b,vs,ws,rfl,rfl,hl,hl2,by rw[<- rv.length,<- rw'.length];exact hz,f.wrote rh hi ⟨_,Zl,(rv.append rw').mono rh g⟩ .non (by rw[hl];trivial)⟩
        . exact f.elim
      . obtain⟨hz,f⟩:=f.iff;obtain⟨y,rfl,ry⟩:=r2.one;obtain⟨b,ws,rfl,t,rw'⟩:=ry.tup_inv;have g:Gr H B (upd H a (.lst (vs++ws))) B:=Gr.write (O2 hi) (by rw[hl];trivial);exact Zjz pins s Z H _ _ v us Q I rx rs ⟨a,b,vs,ws,rfl,rfl,hl,hY ▸ t,by rw[<- rv.length,<- rw'.length];exact hz,f.wrote rh hi ⟨_,Zl,(rv.append rw').mono rh g⟩ .non (by rw[hl];trivial)⟩
      . exact f.elim
     |pop=>
      unfold Zek Zpy at f;simp only at f;split at f
      . split at f
        . rename_i y e2;cases r2;rw[rv.length]at e2;obtain⟨w,e3,rw'⟩:=rv.get e2;have g:Gr H B (upd H a (.lst vs.dropLast)) B:=Gr.write (O2 hi) (by rw[hl];trivial);exact ZrP pins s Z H _ _ v us Q I rx rs ⟨a,vs,w,rfl,rfl,hl,e3,f.wrote rh hi ⟨_,Zl,rv.dropLast.mono rh g⟩ (rw'.mono rh g) (by rw[hl];trivial)⟩
        . exact f.elim
      . exact f.elim
     |rev=>
      unfold Zek ZtS at f;simp only at f;split at f
      . cases r2;have g:Gr H B (upd H a (.lst vs.reverse)) B:=Gr.write (O2 hi) (by rw[hl];trivial);exact Zjy pins s Z H _ _ v us Q I rx rs ⟨a,vs,rfl,rfl,hl,f.wrote rh hi ⟨_,Zl,rv.reverse.mono rh g⟩ .non (by rw[hl];trivial)⟩
      . exact f.elim
     |clr=>
      unfold Zek ZtT at f;simp only at f;split at f
      . cases r2;exact Zne pins s Z H _ _ v us Q I rx rs ⟨a,vs,rfl,rfl,hl,f.wrote rh hi ⟨_,Zl,.nil⟩ .non (by rw[hl];trivial)⟩
      . exact f.elim
   . exact f.elim
 . exact f.elim
noncomputable def rP(Y:Yx)(E:XK):Zog:=λo i v H Q=>∃a b c h B,RH Y H B h/\RD Y H B a o/\RD Y H B b i/\RD Y H B c v/\Fin Y (λ_ _ (_:Unit) (_:Unit)=>True) H B (ZbH a b c h) (λ_ H'=>Q H') E
theorem Zrk:Zqa X (rP Y E):=by
 intro pins s Z H o i v ov iv u Q I ro ri rv hh;obtain⟨a,b,c,h,B,rh,ra,rb,rc,f⟩:=hh;unfold ZbH at f;split at f
 . split at f
   . rename_i j xs e;split at f
     . split at f
       . rename_i j' e2;obtain⟨p,vs,rfl,hi,hl,rs⟩:=ra.lst rh e;have hb:=rb.int_inv;subst hb;rw[rs.length]at e2;have g:Gr H B (upd H p (.lst (vs.set j' v))) B:=Gr.write (O2 hi) (by rw[hl];trivial);exact set_list pins s Z H _ _ v ov iv u Q I ro ri rv ⟨p,vs,_,j',rfl,rfl,hl,e2,f.wrote (b:=()) rh hi ⟨_,Zl,(RDs.set rc j' rs).mono rh g⟩ trivial (by rw[hl];trivial)⟩
       . exact f.elim
     . exact f.elim
   . rename_i j kvs e;split at f
     . rename_i k e2;obtain⟨hz,f⟩:=f.iff;obtain⟨p,vs,rfl,hi,hl,rs⟩:=ra.dic rh e;have g:Gr H B (upd H p (.dK (putK vs k v))) B:=Gr.write (O2 hi) (by rw[hl];trivial);exact set_dict pins s Z H _ _ v ov iv u Q I ro ri rv ⟨p,vs,k,rfl,Zdd rb e2,hl,by rw[<- rs.length];exact hz,f.wrote (b:=()) rh hi ⟨_,Zl,(rs.put k rc).mono rh g⟩ trivial (by rw[hl];trivial) (ZfM (rh.ks _ _ e) (Znn rb e2))⟩
     . exact f.elim
   . exact f.elim
 . exact f.elim
end
end IV
end
section
namespace IV
open PySem PySem.Spec PyProof.Rows L2
def rW(K:Yk)(x:V)(H1:Hp)(R:It->Hp->Prop):Prop:=(∃a,x=.ref a/\(∃xs,SqL K H1 a xs)/\R (Itl K a) H1)\/(∃a,x=.ref a/\(∃xs,SqT K H1 a xs)/\R (Itt K a) H1)\/(∃y,x=.str y/\R (Its y) H1)
theorem Zrs{X:Cx}{tg l:Expr}{tl:TE}(hl:PE X l tl):PI X tg l (λZ H R=>tl Z H λx H1=>rW X.K x H1 R):=by
 intro pins s Z H R I h;refine thn (hl pins s Z H _ I h) λv s1 ⟨x,H1,I1,r1,q1⟩=>?_;have fp1:∀b∈[s1.heap.objs.size],Zbl X pins H1 b:=λb hb=>by
  have e:b=s1.heap.objs.size:=by simpa using hb
  subst e;exact I1.fpOk (Oq _) (I1.hok.fresh (Oq _))
 rcases q1 with ⟨a,rfl,⟨xs,hq⟩,q⟩|⟨a,rfl,⟨xs,hq⟩,q⟩|⟨y,rfl,q⟩
 . cases r1;obtain⟨its,rv,p,hz⟩:=I1.list hq;exact wpAny_pyIter_list p.isList ⟨s1.heap.objs.size,[s1.heap.objs.size],_,_,H1,rfl,I1.kept (t':=s1.toks) λb o e=>O1 _ e,Zk8 a _,⟨_,Oj _ rfl,rfl,rfl⟩,fp1,q⟩
 . cases r1;obtain⟨its,rv,p,hz⟩:=I1.tuple hq;exact wpAny_pyIter_tuple (show s1.heap.IsTuple a its.toArray from p) ⟨s1.heap.objs.size,[s1.heap.objs.size],_,_,H1,rfl,I1.kept (t':=s1.toks) λb o e=>O1 _ e,Zjc a _,⟨_,Oj _ rfl,rfl,rfl⟩,fp1,q⟩
 . obtain⟨t,rfl⟩:=r1;cases ha:y.cps.all (·<128)
   . exact wpAny_pyIter_wide ha ⟨s1.heap.objs.size,[s1.heap.objs.size],_,_,H1,rfl,I1.kept (t':=s1.toks) λb o e=>O1 _ e,ZhS (t:=t) (λA' hA=>Walks.strWide hA _ y t) (λ_ _ _ _ _ st h=>wpAny_pyIter_striter_wide st h),⟨_,Oj _ rfl,rfl,rfl⟩,fp1,q⟩
   . exact wpAny_pyIter_ascii ha ⟨s1.heap.objs.size,[s1.heap.objs.size],_,_,H1,rfl,I1.kept (t':=s1.toks) λb o e=>O1 _ e,ZhS (t:=t) (λA' hA=>Walks.strAscii hA _ y t) (λ_ _ _ _ _ st h=>wpAny_pyIter_striter_ascii st h),⟨_,Oj _ rfl,rfl,rfl⟩,fp1,q⟩
def WJ(Y:Yx)(H0:Hp)(μ0:List Yi)(w:Wk)(J:It):Prop:=∀H B h,Gr H0 μ0 H B->RH Y H B h->Wk.stays w.src h=Wx ->
 (∀i d,w.xs[i]? = Wv d->J.go i H/\∀x H',J.yld i H x H'->Gr H B H' B/\RH Y H' B h/\RD Y H' B d x)/\J.stop w.xs.length H
section
variable {X:Cx}{Y:Yx}{E:XK}{T:Tb}{H:Hp}{B:List Yi}{h:Hd}
theorem ZqI{a:Yi}{vs:List V}{xs:List D}(hY:Y.K=X.K)(rh:RH Y H B h)(t:SqT Y.K H a vs)(s:RDs Y H B xs vs):WJ Y H B ⟨Ww,xs⟩ (Itt X.K a):=by intro H1 μ1 h1 g rh1 st;have t1:=g.rdT rh t;have s1:=s.mono rh g;rw[hY]at t1;refine⟨λi d e=>?_,⟨vs,t1,by rw[s.length];exact Oq _⟩⟩;obtain⟨v,e1,r1⟩:=s1.get e;refine⟨⟨vs,v,t1,e1⟩,λx H' ⟨eH,q⟩=>?_⟩;subst eH;have:=q vs t1;rw[e1]at this;cases this;exact⟨Gr.refl,rh1,r1⟩
theorem Zqc{a:Yi}{vs:List V}{xs:List D}(hY:Y.K=X.K)(rh:RH Y H B h)(t:FzL Y.K H a vs)(s:RDs Y H B xs vs):WJ Y H B ⟨Ww,xs⟩ (Itl X.K a):=by intro H1 μ1 h1 g rh1 st;have t1:=(g.rdF rh t).sq;have s1:=s.mono rh g;rw[hY]at t1;refine⟨λi d e=>?_,⟨vs,t1,by rw[s.length];exact Oq _⟩⟩;obtain⟨v,e1,r1⟩:=s1.get e;refine⟨⟨vs,v,t1,e1⟩,λx H' ⟨eH,q⟩=>?_⟩;subst eH;have:=q vs t1;rw[e1]at this;cases this;exact⟨Gr.refl,rh1,r1⟩
theorem Zfj{i:Nat}{xs:List D}{h:Hd}(st:Wk.stays (Wv (i,xs)) h=Wx):h[i]? = Wv (.lst xs):=of_decide_eq_true st
theorem Zl6{i:Nat}{a:Yi}{xs:List D}(hi:B[i]? = Wv a):WJ Y H B ⟨Wv (i,xs),xs⟩ (Itl X.K a):=by intro H1 μ1 h1 g rh1 st;obtain⟨vs,hl,s1⟩:=rh1.ob i _ a (Zfj st) (g.pre i a hi);have t1:SqL X.K H1 a vs:=.of hl;refine⟨λi d e=>?_,⟨vs,t1,by rw[s1.length];exact Oq _⟩⟩;obtain⟨v,e1,r1⟩:=s1.get e;refine⟨⟨vs,v,t1,e1⟩,λx H' ⟨eH,q⟩=>?_⟩;subst eH;have:=q vs t1;rw[e1]at this;cases this;exact⟨Gr.refl,rh1,r1⟩
theorem ZqK{lo:Int}{n:Nat}:WJ Y H B ⟨Ww,Zaz lo n⟩ (Itr lo n):=by
 intro H1 μ1 h1 g rh1 st;have hl:(Zaz lo n).length=n:=by simp[Zaz]
 refine⟨λi d e=>?_,by show n<=(Zaz lo n).length;rw[hl];exact Oq _⟩;have hi:i<n:=by have:=(Ob.mp e).1;rw[hl]at this;exact this
 refine⟨hi,λx H' ⟨eH,q⟩=>?_⟩;subst eH q;have:d=.int (lo+i):=by unfold Zaz at e;rw[On,List.getElem?_range hi]at e;exact(YF e).symm
 subst this;exact⟨Gr.refl,rh1,.int _⟩
theorem ZqJ{y:Str}(ok:Yp y=Wx):WJ Y H B ⟨Ww,y.cps.toList.map λc=>.str ⟨#[c]⟩⟩ (Its y):=by
 intro H1 μ1 h1 g rh1 st;have hl:(y.cps.toList.map λc=>D.str ⟨#[c]⟩).length=y.cps.size:=by simp
 refine⟨λi d e=>?_,hl⟩;have hi:i<y.cps.size:=by have:=(Ob.mp e).1;rw[hl]at this;exact this
 refine⟨hi,λx H' ⟨eH,c,q,ex⟩=>?_⟩;subst eH ex;rw[On,Array.getElem?_toList,q]at e;have:=(YF e).symm;subst this;exact⟨Gr.refl,rh1,.str _ (Zjx ok (by simpa using Array.mem_of_getElem? q))⟩
theorem ZnN{xs:List D}{i:Nat}{d:D}(e:(ZcC xs)[i]? = Wv d):∃x,xs[i]? = Wv x/\d=.tup [.int i,x]:=by unfold ZcC at e;rw[List.getElem?_mapIdx]at e;obtain⟨x,e1,e2⟩:=Oo.mp e;exact⟨x,e1,e2.symm⟩
theorem Zkj{a:Yi}{src:Option (Nat×List D)}{xs:List D}(hw:WJ Y H B ⟨src,xs⟩ (Itl X.K a))(sq:∀H1 μ1 h1,Gr H B H1 μ1->RH Y H1 μ1 h1->Wk.stays src h1=Wx->∃vs,SqL X.K H1 a vs/\RDs Y H1 μ1 xs vs):WJ Y H B ⟨src,ZcC xs⟩ (Ite X.K a):=by
 intro H1 μ1 h1 g rh1 st;obtain⟨vs,t1,s1⟩:=sq H1 μ1 h1 g rh1 st;have hl:(ZcC xs).length=xs.length:=by simp[ZcC]
 refine⟨λi d e=>?_,⟨vs,t1,by rw[hl,s1.length]⟩⟩;obtain⟨x0,e0,rfl⟩:=ZnN e;obtain⟨v,e1,r1⟩:=s1.get e0;refine⟨⟨vs,v,t1,e1⟩,λx H' ⟨p,ex,hp,y,q,eH⟩=>?_⟩;subst ex eH;have:=q vs t1;rw[e1]at this;cases this;exact⟨Gr.lay0 hp,rh1.lay0 hp,.tup (.inl (.inl Zl)) (.cons (.int _) (.cons (r1.mono rh1 (Gr.lay0 hp)) .nil))⟩
theorem ZqL{a:Yi}{vs:List V}{xs:List D}(hY:Y.K=X.K)(rh:RH Y H B h)(t:SqT Y.K H a vs)(s:RDs Y H B xs vs):WJ Y H B ⟨Ww,xs.reverse⟩ (Itv X.K a vs.length):=by intro H1 μ1 h1 g rh1 st;have t1:=g.rdT rh t;have s1:=(s.mono rh g).reverse;rw[hY]at t1;refine⟨λi d e=>?_,⟨vs,t1,rfl,by simp[s.length]⟩⟩;obtain⟨v,e1,r1⟩:=s1.get e;refine⟨⟨vs,v,t1,rfl,e1⟩,λx H' ⟨eH,q⟩=>?_⟩;subst eH;have:=q vs t1;rw[e1]at this;cases this;exact⟨Gr.refl,rh1,r1⟩
theorem Zoi{i:Nat}{a:Yi}{xs:List D}(hi:B[i]? = Wv a):WJ Y H B ⟨Wv (i,xs),xs.reverse⟩ (Zsv X.K a xs.length):=by intro H1 μ1 h1 g rh1 st;obtain⟨vs,hl,s0⟩:=rh1.ob i _ a (Zfj st) (g.pre i a hi);have t1:SqL X.K H1 a vs:=.of hl;have s1:=s0.reverse;refine⟨λi d e=>?_,⟨vs,t1,s0.length.symm,by simp⟩⟩;obtain⟨v,e1,r1⟩:=s1.get e;refine⟨⟨vs,v,t1,s0.length.symm,e1⟩,λx H' ⟨eH,q⟩=>?_⟩;subst eH;have:=q vs t1;rw[e1]at this;cases this;exact⟨Gr.refl,rh1,r1⟩
theorem Zol{d:D}{x:V}{w:Wk}{R:It->Hp->Prop}(hY:Y.K=X.K)(rh:RH Y H B h)(r:RD Y H B d x)(e:Zal d h=Wv w)(q:∀J,WJ Y H B w J->R J H):rW X.K x H R:=by
 cases d with
 |tup xs=>cases e;obtain⟨a,vs,rfl,t,s⟩:=r.tup_inv;exact .inr (.inl ⟨a,rfl,⟨vs,hY ▸ t⟩,q _ (ZqI hY rh t s)⟩)
 |ro xs=>
  cases e;cases r with
  |ro t s=>exact .inl ⟨_,rfl,⟨_,hY ▸ t.sq⟩,q _ (Zqc hY rh t s)⟩
 |ref i=>
  unfold Zal at e;simp only at e;split at e
  . rename_i xs he;cases e;obtain⟨a,vs,rfl,hi,hl,s⟩:=r.lst rh he;exact .inl ⟨a,rfl,⟨vs,.of hl⟩,q _ (Zl6 hi)⟩
  . cases e
 |str y=>
  unfold Zal at e;simp only at e;split at e
  . cases e;obtain⟨rfl,ok⟩:=r.str_inv;exact .inr (.inr ⟨y,rfl,q _ (ZqJ ok)⟩)
  . cases e
 |_=>cases e
end
end IV
end
section
namespace IV
open PySem PySem.Spec PyProof.Rows L2
structure Kl where
 cs:List Str
 ats:List Str
 ms:List (Str×Str)
 is:List Str
 xs:List Str:=[]
structure Gm where
 N:List Str
 sc:Scope
 fs:List Str
 top:Bool
 kl:Kl
noncomputable def glb(Γ:Gm)(x:Str):Bool:=Wz (Γ.sc.names.lookup x=Wv .globalImplicit)&&!(x==("__debug__" : Str))
noncomputable def Zon(sc:Scope)(x:Str):Bool:=Wz (sc.names.lookup x=Wv .local) || Wz (sc.names.lookup x=Wv .cell) || Wz (sc.names.lookup x=Wv .free)
noncomputable def Zn5:Bf->Str
 |.len => "len" |.isi => "isinstance" |.int => "int" |.tup => "tuple" |.lst => "list" |.sum => "sum" |.all => "all" |.srt => "sorted" |.mx => "max"
noncomputable def bok:Bf->Bool
 |.mx=>Wy
 |.lst=>Wy
 |.int=>Wy
 |.all=>Wy
 |_=>Wx
noncomputable def Zqo:Mf->Str
 |.app => "append" |.ext => "extend" |.pop => "pop" |.rev => "reverse" |.clr => "clear"
noncomputable def Zkn:List String:=["int", "str", "bool", "tuple", "list"]
noncomputable def asName:Expr->Option Str
 |.Name x _=>Wv x
 |_=>Ww
noncomputable def Zob:Expr->Option (List Expr)
 |.Tuple es _ _=>Wv es
 |_=>Ww
noncomputable def ZqF:Expr->Option Const
 |.Constant c _ _=>Wv c
 |_=>Ww
theorem ZdM{e:Expr}{x:Str}(h:asName e=Wv x):∃p,e=.Name x p:=by
 cases e with
 |Name y p=>cases h;exact⟨p,rfl⟩
 |_=>cases h
theorem ZgM{e:Expr}{es:List Expr}(h:Zob e=Wv es):∃k p,e=.Tuple es k p:=by
 cases e with
 |Tuple es k p=>cases h;exact⟨k,p,rfl⟩
 |_=>cases h
theorem ZgN{e:Expr}{c:Const}(h:ZqF e=Wv c):∃k p,e=.Constant c k p:=by
 cases e with
 |Constant c k p=>cases h;exact⟨k,p,rfl⟩
 |_=>cases h
noncomputable def Zuq:D->Const->Bool
 |.int i,.int j=>Wz (i=j)
 |.str x,.str y=>Wz (x=y)&&Yp y
 |.bl b,.bool c=>Wz (b=c)
 |.non,.none=>Wx
 |_,_=>Wy
noncomputable def ZlW(Γ:Gm)(d:D)(e:Expr):Bool:=match ZqF e with
 |some c=>Zuq d c
 |none=>match d with
  |.ty n=>match asName e with
   |some x=>Wz (n∈Zkn)&&Wz (Str.ofString n=x)&&glb Γ x
   |none=>Wy
  |_=>Wy
noncomputable def ZnV(NC N:List Str)(js:List (Option Nat))(sc scope:Scope):Bool:=
 Wz (scope.kind=.function)&&Wz (sc.kind=.function)&&(scope.names.all λy=>Wz (y.2≠.cell))&&(scope.names.all λy=>!Wz (y.2=.local) || Wz (scope.names.lookup y.1=Wv .local)) &&
  (scope.names.all λy=>!Wz (y.2=.free) || Wz (sc.names.lookup y.1=Wv .cell))&&decide NC.Nodup&&Wz (js.length=NC.length) &&
  ((NC.zip js).all λp=>p.2.all λj=>Wz (N[j]? = Wv p.1)&&Wz (scope.names.lookup p.1=Wv .free))
theorem ZiQ{NC N:List Str}{js:List (Option Nat)}{sc scope:Scope}(h:ZnV NC N js sc scope=Wx):CompSc NC N js sc scope:=by
 unfold ZnV at h;rw[Oa,Oa,Oa,Oa,Oa,Oa,Oa]at h;obtain⟨⟨⟨⟨⟨⟨⟨a,b⟩,c⟩,d⟩,e⟩,f⟩,g⟩,i⟩:=h;rw[OC]at c d e;refine⟨of_decide_eq_true a,of_decide_eq_true b,λy hy=>of_decide_eq_true (c y hy),λy hy e1=>?_,λy hy e1=>?_,of_decide_eq_true f,of_decide_eq_true g,i⟩
 . have:=d y hy;rw[decide_eq_true e1]at this;simpa using this
 . have:=e y hy;rw[decide_eq_true e1]at this;simpa using this
noncomputable def Zij(N:List Str)(own:Str->Bool)(i:Nat)(e:Expr):Bool:=match asName e with
 |some x=>Wz (N[i]? = Wv x)&&own x
 |none=>Wy
noncomputable def Zd8(N:List Str)(own:Str->Bool):List Nat->List Expr->Bool
 |[],[]=>Wx
 |i::is,e::es=>Zij N own i e&&Zd8 N own is es
 |_,_=>Wy
noncomputable def ZnZ(N:List Str)(own:Str->Bool)(i j:Nat)(e:Expr):Bool:=match Zob e with
 |some [a,b]=>Zij N own i a&&Zij N own j b
 |_=>Wy
noncomputable def ZnY(N:List Str)(own:Str->Bool)(is:List Nat)(e:Expr):Bool:=match Zob e with
 |some es=>Zd8 N own is es
 |none=>Wy
noncomputable def Zka(N:List Str)(own:Str->Bool)(g:Tg)(e:Expr):Bool:=match g with
 |.nm i=>Zij N own i e
 |.two i j=>ZnZ N own i j e
 |.many is=>ZnY N own is e
theorem Za1{N:List Str}{own:Str->Bool}{i:Nat}{e:Expr}(h:Zij N own i e=Wx):∃x p,e=.Name x p/\N[i]? = Wv x/\own x=Wx:=by
 unfold Zij at h;cases q:asName e with
 |none=>rw[q]at h;cases h
 |some x=>rw[q]at h;rw[Oa]at h;obtain⟨p,rfl⟩:=ZdM q;exact⟨x,p,rfl,of_decide_eq_true h.1,h.2⟩
theorem ZgQ{N:List Str}{own:Str->Bool}{i j:Nat}{e:Expr}(h:Zka N own (.two i j) e=Wx):∃x p y q k r,e=.Tuple [.Name x p,.Name y q] k r/\(N[i]? = Wv x/\own x=Wx)/\N[j]? = Wv y/\own y=Wx:=by
 replace h:ZnZ N own i j e=Wx:=h
 unfold ZnZ at h;split at h
 . rename_i a b q;rw[Oa]at h;obtain⟨k,r,rfl⟩:=ZgM q;obtain⟨x,p,rfl,e1⟩:=Za1 h.1;obtain⟨y,p2,rfl,e2⟩:=Za1 h.2;exact⟨x,p,y,p2,k,r,rfl,e1,e2⟩
 . cases h
theorem ZfI{N:List Str}{own:Str->Bool}{is:List Nat}{e:Expr}(h:Zka N own (.many is) e=Wx):∃es k r,e=.Tuple es k r/\Zd8 N own is es=Wx:=by
 replace h:ZnY N own is e=Wx:=h
 unfold ZnY at h;split at h
 . rename_i es q;obtain⟨k,r,rfl⟩:=ZgM q;exact⟨es,k,r,rfl,h⟩
 . cases h
noncomputable def isTup:Expr->Bool
 |.Tuple _ _ _=>Wx
 |_=>Wy
noncomputable def tgk:Tg->Nat
 |.nm i=>i+1
 |.two i j=>max i j+1
 |.many is=>is.foldr max 0+1
noncomputable def Zvl(sc:Scope)(x:Str):Bool:=Wz (sc.names.lookup x=Wv .local)
noncomputable def ownD(sc:Scope)(x:Str):Bool:=Wz (sc.names.lookup x=Wv .local) || Wz (sc.names.lookup x=Wv .cell)
noncomputable def ZbT:Expr->Bool
 |.Set _ _ _=>Wy
 |_=>Wx
noncomputable def ZfF:Expr->Bool
 |.Slice _ _ _ _=>Wy
 |_=>Wx
noncomputable def Zaj:Expr->Bool
 |.Starred _ _=>Wy
 |_=>Wx
noncomputable def ZcO:Expr->Bool
 |.Call _ [] _ _=>Wy
 |_=>Wx
noncomputable def Zjr:Expr->Bool
 |.BoolOp _ _ _|.UnaryOp _ _ _|.IfExp _ _ _ _|.NamedExpr _ _ _=>Wy
 |_=>Wx
mutual
noncomputable def chk(Γ:Gm):Ex->Expr->Bool
 |.var i,e=>match e with
  |.Name x _=>Wz (Γ.N[i]? = Wv x)&&Zon Γ.sc x&&!(x==("__debug__" : Str))&&!(x==("__classdict__" : Str))
  |_=>Wy
 |.cst d,e=>ZlW Γ d e
 |.glo x,e=>match e with
  |.Name y _=>Wz (x=y)&&glb Γ x
  |_=>Wy
 |.bin op a b,e=>match e with
  |.BinOp l op' r _=>Wz (op=op')&&chk Γ a l&&chk Γ b r
  |_=>Wy
 |.cmp op a b,e=>match e with
  |.Compare l [op'] [r] _=>Wz (op=op')&&chk Γ a l&&chk Γ b r&&ZbT r
  |_=>Wy
 |.cmp2 o1 o2 a b c,e=>match e with
  |.Compare l [p1,p2] [m,r] _=>Wz (o1=p1)&&Wz (o2=p2)&&chk Γ a l&&chk Γ b m&&chk Γ c r&&ZbT r
  |_=>Wy
 |.neg a,e=>match e with
  |.UnaryOp .USub x _=>chk Γ a x
  |_=>Wy
 |.nt a,e=>match e with
  |.UnaryOp .Not x _=>chk Γ a x
  |_=>Wy
 |.ands es,e=>match e with
  |.BoolOp .And xs _=>chks Γ es xs
  |_=>Wy
 |.ors es,e=>match e with
  |.BoolOp .Or xs _=>chks Γ es xs
  |_=>Wy
 |.ite c a b,e=>match e with
  |.IfExp t x y _=>chkt Γ c t&&chk Γ a x&&chk Γ b y
  |_=>Wy
 |.tupl es,e=>match e with
  |.Tuple xs _ _=>chks Γ es xs
  |_=>Wy
 |.lstl es,e=>match e with
  |.List xs _=>chks Γ es xs
  |_=>Wy
 |.ix a i,e=>match e with
  |.Subscript x y _=>chk Γ a x&&chk Γ i y&&ZfF y
  |_=>Wy
 |.sl a lo hi,e=>match e with
  |.Subscript x (.Slice l u Ww _) _=>chk Γ a x&&chko Γ lo l&&chko Γ hi u
  |_=>Wy
 |.blt f es,e=>match e with
  |.Call (.Name x _) (y::ys) [] _=>Wz (x=Zn5 f)&&(bok f&&glb Γ x)&&chks Γ es (y::ys)
  |_=>Wy
 |.call f es,e=>match e with
  |.Call (.Name x _) (y::ys) [] _=>Wz (x=f)&&Wz (f∈Γ.fs)&&glb Γ x&&chks Γ es (y::ys)
  |_=>Wy
 |.meth m o es,e=>match e with
  |.Call (.Attribute x n ap) ys [] cp=>Wz (n=Zqo m)&&chk Γ o x&&ZcO x&&chks Γ es ys&&Wz (ys.length<29)&&(ap.endLine==cp.line)
  |_=>Wy
 |.trev _,_=>Wy
 |.lrv _,_=>Wy
 |.tix _ _,_=>Wy
 |.lix _ _,_=>Wy
 |.lin a b,e=>match e with
  |.Compare l [op'] [r] _=>Wz (CmpOp.In=op')&&chk Γ a l&&chk Γ b r&&ZbT r
  |_=>Wy
 |.comp NC js it g c e,x=>match x with
  |.ListComp elt [⟨tg,iter,ifs,0⟩] scope _=>Γ.top&&ZnV NC Γ.N js Γ.sc scope&&chki Γ it tg iter&&ZbT iter&&Zka NC (Zvl scope) g tg&&((List.range (tgk g)).all λj=>Wz (js[j]? = Wv Ww)) &&
   chkf ⟨NC,scope,Γ.fs,Wy,Γ.kl⟩ c ifs&&chk ⟨NC,scope,Γ.fs,Wy,Γ.kl⟩ e elt
  |_=>Wy
 |.sorts _,_=>Wy
 |.maxd a d,e=>match e with
  |.Call (.Name x _) [y] [⟨Wv n,z,_⟩] _=>Wz (x = "max")&&Wz (n = "default")&&glb Γ x&&chk Γ a y&&Zaj y&&chk Γ d z
  |_=>Wy
 |.dictl ps,e=>match e with
  |.Dict keys values _=>Wz (keys.length<=15)&&chkp Γ ps keys values
  |_=>Wy
 |.att Cs o f,e=>match e with
  |.Attribute x n _=>Wz (n=f)&&chk Γ o x&&ZcO x&&(Cs.all λC=>Wz (C∈Γ.kl.cs))&&Wz (f∈Γ.kl.ats)
  |_=>Wy
 |.mk C es,e=>match e with
  |.Call (.Name x _) ys [] _=>Wz (x=C)&&Wz (C∈Γ.kl.is)&&glb Γ x&&chks Γ es ys
  |_=>Wy
 |.mcl C m o es,e=>match e with
  |.Call (.Attribute x n ap) ys [] cp=>Wz (n=m)&&chk Γ o x&&ZcO x&&chks Γ es ys&&Wz ((C,m)∈Γ.kl.ms)&&Wz (ys.length<29)&&(ap.endLine==cp.line)
  |_=>Wy
 |.any,e=>match e with
  |.Compare _ _ _ _=>Wy
  |_=>Wx
noncomputable def chks(Γ:Gm):Exs->List Expr->Bool
 |.nil,es=>es.isEmpty
 |.cons e r,es=>match es with
  |x::xs=>chk Γ e x&&Zaj x&&chks Γ r xs
  |[]=>Wy
noncomputable def chkp(Γ:Gm):Exs->List (Option Expr)->List Expr->Bool
 |.nil,ks,vs=>ks.isEmpty&&vs.isEmpty
 |.cons k r,ks,vs=>match r with
  |.cons v r'=>match ks,vs with
   |some kx::ks,vx::vs=>chk Γ k kx&&chk Γ v vx&&chkp Γ r' ks vs
   |_,_=>Wy
  |.nil=>Wy
noncomputable def chko(Γ:Gm):Option Ex->Option Expr->Bool
 |none,x=>x.isNone
 |some a,x=>match x with
  |some x=>chk Γ a x
  |none=>Wy
noncomputable def chkf(Γ:Gm):Option Tx->List Expr->Bool
 |none,x=>x.isEmpty
 |some a,x=>match x with
  |[x]=>chkt Γ a x
  |_=>Wy
noncomputable def chkt(Γ:Gm):Tx->Expr->Bool
 |.ex e,x=>Zjr x&&chk Γ e x
 |.ands ts,x=>match x with
  |.BoolOp .And xs _=>chkts Γ ts xs
  |_=>Wy
 |.ors ts,x=>match x with
  |.BoolOp .Or xs _=>chkts Γ ts xs
  |_=>Wy
 |.nt t,x=>match x with
  |.UnaryOp .Not y _=>chkt Γ t y
  |_=>Wy
noncomputable def chkts(Γ:Gm):Txs->List Expr->Bool
 |.one t,xs=>match xs with
  |[x]=>chkt Γ t x
  |_=>Wy
 |.cons t ts,xs=>match xs with
  |x::y::r=>chkt Γ t x&&chkts Γ ts (y::r)
  |_=>Wy
noncomputable def chki(Γ:Gm):Ix->Expr->Expr->Bool
 |.pl e,_,x=>chk Γ e x
 |.rng e,_,x=>match x with
  |.Call (.Name f _) [y] [] _=>Wz (f = "range")&&glb Γ f&&chk Γ e y&&Zaj y
  |_=>Wy
 |.rng2 _ _,_,_=>Wy
 |.enu e,tg,x=>match x with
  |.Call (.Name f _) [y] [] _=>Wz (f = "enumerate")&&glb Γ f&&chk Γ e y&&Zaj y&&isTup tg
  |_=>Wy
 |.rev e,_,x=>match x with
  |.Call (.Name f _) [y] [] _=>Wz (f = "reversed")&&glb Γ f&&chk Γ e y&&Zaj y
  |_=>Wy
 |.en1 _,_,_=>Wy
 |.en0 _,_,_=>Wy
 |.dk _,_,_=>Wy
end
end IV
end
section
namespace IV
open PySem PySem.Spec PyProof.Rows L2
def leS(a b:Str):Prop:=¬ b.cps.toList<a.cps.toList
theorem ZgA{a b c:Str}(h:leS a b)(q:leS b c):leS a c:=by unfold leS at *;rw[List.not_lt]at *;exact List.le_trans h q
theorem Znj{a b:Str}(h:leS a b)(q:leS b a):a=b:=by unfold leS at *;rw[List.not_lt]at *;have e:=List.le_antisymm h q;obtain⟨⟨a⟩⟩:=a;obtain⟨⟨b⟩⟩:=b;simp at e;subst e;rfl
theorem ZhX:∀{ss:List Str},sortedS ss=Wx->ss.Pairwise leS:=by
 have gen:∀(r:List Str) (p:Str),risingS p r=Wx->(∀x∈r,leS p x)/\r.Pairwise leS:=by
  intro r;induction r with
  |nil=>intro p _;exact⟨by simp,.nil⟩
  |cons x r ih=>
   intro p h;rw[risingS,Oa]at h;obtain⟨h1,h2⟩:=ih x h.2;have hx:leS p x:=by have:=h.1;rw[ltCps_eq]at this;unfold leS;simpa using this
   refine⟨λy hy=>?_,.cons h1 h2⟩;rcases O3.mp hy with rfl|hy
   . exact hx
   . exact ZgA hx (h1 y hy)
 intro ss h;cases ss with
 |nil=>exact .nil
 |cons x r=>obtain⟨h1,h2⟩:=gen r x h;exact .cons h1 h2
theorem Zfz(x:Str):∀r:List Str,(Zlk x r).Perm (x::r)
 |[]=>.refl _
 |y::r=>by
  unfold Zlk;split
  . exact((Zfz x r).cons y).trans (.swap x y r)
  . exact .refl _
theorem Zc5:∀r:List Str,(Zb3 r).Perm r
 |[]=>.refl _
 |x::r=>(Zfz x _).trans ((Zc5 r).cons x)
theorem Zh9(x:Str):∀r:List Str,r.Pairwise leS->(Zlk x r).Pairwise leS
 |[],_=>.cons (by simp) .nil
 |y::r,h=>by
  cases h with
  |cons h1 h2=>
   unfold Zlk;split
   . rename_i hlt;rw[ltCps_eq]at hlt;have hlt:=of_decide_eq_true hlt;refine .cons (λz hz=>?_) (Zh9 x r h2);rcases O3.mp ((Zfz x r).mem_iff.mp hz)with rfl|hz
     . unfold leS;rw[List.not_lt];exact List.le_of_lt hlt
     . exact h1 z hz
   . rename_i hlt;have hxy:leS x y:=by unfold leS;rw[ltCps_eq]at hlt;simpa using hlt
     refine .cons (λz hz=>?_) (.cons h1 h2);rcases O3.mp hz with rfl|hz
     . exact hxy
     . exact ZgA hxy (h1 z hz)
theorem Zgm:∀r:List Str,(Zb3 r).Pairwise leS
 |[]=>.nil
 |x::r=>Zh9 x _ (Zgm r)
theorem Zlf{ss ss':List Str}(hp:ss'.Perm ss)(hs:sortedS ss'=Wx):ss'=Zb3 ss:=(hp.trans (Zc5 ss).symm).eq_of_pairwise (λ_ _ _ _ h q=>Znj h q) (ZhX hs) (Zgm ss)
section
variable {X:Cx}{Y:Yx}{E:XK}{T:Tb}{H:Hp}{B:List Yi}{h:Hd}
theorem ZeK:∀{ds:List (Key×D)}{vs:List (Key×V)}{ss:List Str},RKs Y H B ds vs->Zdc ds=Wv ss->vs.map (·.1)=ss.map YE
 |_,_,_,.nil,e=>by cases e;rfl
 |_,_,_,.cons (k:=k) a s,e=>by
  cases k with
  |inl i=>cases e
  |inr x=>rw[Zdc]at e;obtain⟨z,e1,rfl⟩:=Oo.mp e;rw[Op,Op,ZeK s e1]
theorem Zks:∀(ss:List Str),(∀x∈ss,Yp x=Wx)->RDs Y H B (ss.map D.str) (ss.map V.str)
 |[],_=>.nil
 |x::r,h=>.cons (.str x (h x (by simp))) (Zks r λy hy=>h y (by simp[hy]))
theorem Zp5(hc:X.A.handled=Ww)(G:Gk X Y T):Zcl X (.builtin "sorted") (rF Y E (Zea T.GD)):=by
 intro pins s Z H xs us Q I r hh;obtain⟨ds,h,B,rh,rs,f⟩:=hh;unfold Zea at f;split at f
 . split at f
   . rename_i ss e2;obtain⟨hz,f⟩:=f.iff;obtain⟨kvs,e3,e4⟩:=Option.bind_eq_some_iff.mp e2;obtain⟨x,rfl,r1⟩:=rs.one;obtain⟨a,kvs',rfl,hd,rk⟩:=r1.dicOf G rh e3;obtain⟨hz,hok⟩:=hz;refine ZhA hc pins s Z H _ us Q I r ⟨a,kvs',ss,rfl,hd,ZeK rk e4,hz,λp ss' hp h1 h2=>?_⟩;rw[Zlf h1 h2];refine f.new rh hp ⟨_,Zl,Zks _ λy hy=>?_⟩;rw[OC]at hok;exact hok y ((Zc5 ss).mem_iff.mp hy)
   . exact f.elim
 . exact f.elim
end
end IV
end
section
set_option tactic.hygienic false
namespace IV
open PySem PySem.Spec PyProof.Rows L2
def RS(Y:Yx)(H:Hp)(B:List Yi)(S:Ev)(Z:L2.St):Prop:=Z.length=S.length/\∀(i:Nat) (d:D),S[i]? = Wv (Wv d)->∃v,Z[i]? = Wv (Wv v)/\RD Y H B d v
section
variable {Y:Yx}{H H':Hp}{B μ':List Yi}{h:Hd}{S:Ev}{Z:L2.St}
theorem RS.mono(rh:RH Y H B h)(g:Gr H B H' μ')(r:RS Y H B S Z):RS Y H' μ' S Z:=⟨r.1,λi d e=>let ⟨v,h1,h2⟩:=r.2 i d e;⟨v,h1,h2.mono rh g⟩⟩
theorem RS.var(r:RS Y H B S Z){i:Nat}{d:D}(e:(S[i]?).join=Wv d):∃v,Z[i]? = Wv (Wv v)/\RD Y H B d v:=by
 refine r.2 i d ?_;cases q:S[i]? with
 |none=>rw[q]at e;cases e
 |some o=>rw[q]at e;cases o with
  |none=>cases e
  |some d'=>cases e;rfl
theorem RS.set(r:RS Y H B S Z){i:Nat}{d:D}{v:V}(q:RD Y H B d v):RS Y H B (S.set i (Wv d)) (Z.set i (Wv v)):=by
 refine⟨by simp[r.1],λj e he=>?_⟩;by_cases hj:i=j
 . subst hj;have hl:i<S.length:=by have:=(Ob.mp he).1;simpa using this
   rw[Ol hl]at he;cases he;exact⟨v,by rw[Ol (by rw[r.1];exact hl)],q⟩
 . rw[Oc hj]at he;obtain⟨w,h1,h2⟩:=r.2 j e he;exact⟨w,by rw[Oc hj];exact h1,h2⟩
theorem RS.capt(r:RS Y H B S Z)(js:List (Option Nat)):RS Y H B (Zby js S) (capt js Z):=by
 refine⟨by simp[Zby,L2.capt],λi d e=>?_⟩;unfold Zby at e;unfold L2.capt;rw[On]at e ⊢;cases q:js[i]? with
 |none=>rw[q]at e;cases e
 |some o=>
  rw[q]at e;cases o with
  |none=>cases e
  |some j=>
   have e':(S[j]?).join=Wv d:=by simpa using e
   obtain⟨v,h1,h2⟩:=r.var e';exact⟨v,by simp[h1],h2⟩
end
section
variable (T:Tb) (Y:Yx) (E:XK)
noncomputable def ZaO(e:Ex):TE:=λZ H Q=>∃S h B,RH Y H B h/\RS Y H B S Z/\Fin Y (RD Y) H B (ev T e S h) Q E
noncomputable def ZoB(e:Exs):TA:=λZ H Q=>∃S h B,RH Y H B h/\RS Y H B S Z/\Fin Y (RDs Y) H B (evs T e S h) Q E
noncomputable def Zjj(e:Tx):TT:=λZ H Q=>∃S h B,RH Y H B h/\RS Y H B S Z/\Fin Y (λ_ _ (a b:Bool)=>a=b) H B (tst T e S h) Q E
noncomputable def Zu4(e:Option Ex):TO:=λZ H Q=>∃S h B,RH Y H B h/\RS Y H B S Z/\Fin Y (λ_ _ (a b:Option Int)=>a=b) H B (evo T e S h) Q E
noncomputable def Zu5(e:Ix):TI:=λZ H Q=>∃S h B,RH Y H B h/\RS Y H B S Z/\Fin Y (WJ Y) H B (evi T e S h) Q E
noncomputable def ZeQ(f:Str):Sp:=λvs H Q E=>∃ds h B,RH Y H B h/\RDs Y H B ds vs/\Fin Y (RD Y) H B (T.C f ds h) Q E
end
structure Gd(T:Tb)(Γ:Gm)(X:Cx)(Y:Yx)(E:XK)(k:Nat):Prop where
 gk:Gk X Y T
 N:X.N=Γ.N
 sc:Γ.top=Wx->X.env.scope=Γ.sc
 vis:∀x,Zon Γ.sc x=Wx->Vis X.env.scope x
 glo:∀x,Γ.sc.names.lookup x=Wv .globalImplicit->Gl X x
 nd:X.N.Nodup
 calm:X.calm=Wx
 room:Room k X.A
 h60:60<=k
 pass:ZaL (CXF X.prog X.w) X E
 defs:∀f∈Γ.fs,∃ps,Def X.prog X.w X.K X.mg X.base k f ps (ZeQ T Y f)
 blt:∀x∈(["len", "isinstance", "int", "tuple", "list", "sum", "all", "sorted", "range", "enumerate", "reversed", "str", "bool", "max"]:List Str),X.mg x=Ww
 room1:Room (k+1) X.A
 passC:Γ.top=Wx->∀(pins:List (Yi×Obj)) (Z:L2.St) (NC:List Str) (scope:Scope) (C:Yi) (s3:Yb) (H3:Hp) (fp:List Yi),Inv X pins Z H3 s3->(∀b∈fp,Zbl X pins H3 b)->C=s3.heap.objs.size->ZaL (CXF X.prog X.w) (Zv X NC scope C s3 H3 fp) E
 cls:∀C∈Γ.kl.cs,∃a,X.mg C=Wv (.ref a)/\Cls X.K a/\∀f∈Γ.kl.ats,ZaM X.K a f
 mts:∀p∈Γ.kl.ms,∃a f fd ps,X.mg p.1=Wv (.ref a)/\Cls X.K a/\Meth X.K a p.2 f/\FnOk X.prog X.w X.K X.mg X.base (CXF X.prog X.w) k f fd ps (ZeQ T Y (mnm p.1 p.2))/\Binds X.K fd ps []
 mks:∀C∈Γ.kl.is,∃a f fd ps,X.mg C=Wv (.ref a)/\Mk X.K a f/\FnOk X.prog X.w X.K X.mg X.base (CXF X.prog X.w) k f fd ps (ZeQ T Y (mnm C (O "__init__")))/\Binds X.K fd ps []
theorem _root_.L2.PE.imp{X:Cx}{e:Expr}{t t':TE}(h:PE X e t)(i:∀Z H Q,t' Z H Q->t Z H Q):PE X e t':=λpins s Z H Q I q=>h pins s Z H Q I (i Z H Q q)
theorem _root_.L2.PT.imp{X:Cx}{e:Expr}{t t':TT}(h:PT X e t)(i:∀Z H Q,t' Z H Q->t Z H Q):PT X e t':=λpins s Z H Q I q=>h pins s Z H Q I (i Z H Q q)
theorem _root_.L2.PW.imp{X:Cx}{e:Expr}{t t':TT}(h:PW X e t)(i:∀Z H Q,t' Z H Q->t Z H Q):PW X e t':=λw pins s Z H Q I q=>h w pins s Z H Q I (i Z H Q q)
theorem _root_.L2.PA.imp{X:Cx}{e:List Expr}{t t':TA}(h:PA X e t)(i:∀Z H Q,t' Z H Q->t Z H Q):PA X e t':=λp pins s Z H Q I q=>h p pins s Z H Q I (i Z H Q q)
theorem _root_.L2.PO.imp{X:Cx}{e:Option Expr}{t t':TO}(h:PO X e t)(i:∀Z H Q,t' Z H Q->t Z H Q):PO X e t':=λpins s Z H Q I q=>h pins s Z H Q I (i Z H Q q)
theorem _root_.L2.PI.imp{X:Cx}{tg:Expr}{e:Expr}{t t':TI}(h:PI X tg e t)(i:∀Z H Q,t' Z H Q->t Z H Q):PI X tg e t':=λpins s Z H Q I q=>h pins s Z H Q I (i Z H Q q)
theorem Zp{x:Expr}{xs:List Expr}(env:Env)(h:Zaj x=Wx):YA (x::xs) env=(Wy,eval x env)::YA xs env:=by cases x<;>first|rfl|cases h
theorem Zjh{x:Expr}(env:Env)(h:ZbT x=Wx):∀v,foldedSetIterable x env v=pure v:=by cases x<;>first|(intro _;rfl)|cases h
theorem Zda{x:Expr}{op:CmpOp}(h:ZbT x=Wx):behindInMarks op x=Wy:=by cases x<;>first|rfl|cases h
theorem Zmk{x:Expr}(h:ZfF x=Wx):Zk3 x:=by cases x<;>first|(intro _ _;rfl)|cases h
theorem Ze9{x:Expr}{n:Str}{env:Env}(h:ZcO x=Wx):attributeBase x n env (eval x env)=eval x env:=by
 cases x with
 |Call f as ks p=>
  cases as with
  |nil=>cases h
  |cons a as=>cases f<;>rfl
 |_=>rfl
theorem ZmN{x:Expr}{env:Env}(h:Zjr x=Wx)(hc:∀l o r p,x≠.Compare l o r p):∀whole,isTrue x env whole=(do let v <- whole;standAt x.pos;holding [v] (truthy v)):=by cases x<;>first|(intro _;rfl)|exact absurd rfl (hc _ _ _ _)|cases h
theorem Zbm(Γ:Gm)(env:Env):∀(es:Exs) (xs:List Expr),chks Γ es xs=Wx->∀pos,(YS pos (YA xs env)).any (·.1)=Wy
 |.nil,xs,h,pos=>by
  rw[chks]at h;cases xs with
  |nil=>rfl
  |cons a b=>cases h
 |.cons e r,xs,h,pos=>by
  cases xs with
  |nil=>rw[chks]at h;cases h
  |cons x xs=>rw[chks,Oa,Oa]at h;rw[Zp env h.1.2];have:=Zbm Γ env r xs h.2 pos;show((Wy,_)::YS pos (YA xs env)).any (·.1)=Wy;rw[We,this];rfl
theorem Zeg(Γ:Gm)(env:Env):∀(es:Exs) (xs:List Expr),chks Γ es xs=Wx->∀pos,(YS pos (YA xs env)).all (λx=>!x.1)=Wx
 |.nil,xs,h,pos=>by
  rw[chks]at h;cases xs with
  |nil=>rfl
  |cons a b=>cases h
 |.cons e r,xs,h,pos=>by
  cases xs with
  |nil=>rw[chks]at h;cases h
  |cons x xs=>rw[chks,Oa,Oa]at h;rw[Zp env h.1.2];have:=Zeg Γ env r xs h.2 pos;show((Wy,_)::YS pos (YA xs env)).all (λx=>!x.1)=Wx;rw[List.all_cons,this];rfl
theorem Gd.gl{T:Tb}{Γ:Gm}{X:Cx}{Y:Yx}{E:XK}{k:Nat}(G:Gd T Γ X Y E k){x:Str}(h:glb Γ x=Wx):Gl X x/\(x==("__debug__" : Str))=Wy:=by unfold glb at h;rw[Oa]at h;exact⟨G.glo x (of_decide_eq_true h.1),by simpa using h.2⟩
theorem ZfJ{f:Str->NameKind->NameKind}(x:Str):∀names:List (Str×NameKind),(names.map λp=>(p.1,f p.1 p.2)).lookup x=(names.lookup x).map (f x)
 |[]=>rfl
 |(n,k)::r=>by
  rw[Op,OF,OF];by_cases e:x=n
  . subst e;simp
  . have:(x==n)=Wy:=by simpa using e
    simp only[this];exact ZfJ x r
theorem ZaB(scope:Scope)(env:Env)(x:Str):(relabel scope env).names.lookup x=(scope.names.lookup x).map λk=>if (k==Yo&&env.scope.kind==.function&&env.kindOf x==Wv .cell)then NameKind.cell else k:=by
 have e:(relabel scope env).names=scope.names.map λp=>(p.1,(λ(n:Str) (k:NameKind)=>if (k==Yo&&env.scope.kind==.function&&env.kindOf n==Wv .cell)then NameKind.cell else k) p.1 p.2):=by unfold relabel;simp only;refine List.map_congr_left λp _=>?_;obtain⟨n,k⟩:=p;simp only;split<;>rfl
 rw[e];exact ZfJ (f:=λ(n:Str) (k:NameKind)=>if (k==Yo&&env.scope.kind==.function&&env.kindOf n==Wv .cell)then NameKind.cell else k) x scope.names
theorem Gd.comp{T:Tb}{Γ:Gm}{X:Cx}{Y:Yx}{E:XK}{k:Nat}(G:Gd T Γ X Y E k)(NC:List Str)(scope:Scope)(C:Yi)(s3:Yb)(H3:Hp)(fp:List Yi)(nd:NC.Nodup)(hp:ZaL (CXF X.prog X.w) (Zv X NC scope C s3 H3 fp) E):Gd T ⟨NC,scope,Γ.fs,Wy,Γ.kl⟩ (Zv X NC scope C s3 H3 fp) Y E k:=by
 refine⟨⟨G.gk.K,G.gk.mg,G.gk.gd,G.gk.g,G.gk.bare⟩,rfl,(λh=>by cases h),λx hx=>?_,λx hx=>?_,nd,rfl,G.room,G.h60,hp,G.defs,G.blt,G.room1,(λh=>by cases h),G.cls,G.mts,G.mks⟩
 . show Vis (relabel scope X.env) x;unfold Vis;rw[ZaB];unfold Zon at hx;rw[Wu,Wu]at hx;rcases hx with (hx|hx)|hx
   . rw[of_decide_eq_true hx];exact .inl rfl
   . rw[of_decide_eq_true hx];exact .inr (.inl rfl)
   . rw[of_decide_eq_true hx];by_cases q:(X.env.scope.kind==.function&&X.env.kindOf x==Wv .cell)=Wx
     . refine .inr (.inl ?_);have:(Yo==Yo&&X.env.scope.kind==.function&&X.env.kindOf x==Wv .cell)=Wx:=by simpa using q
       simp only[Yv,this,if_true]
     . refine .inr (.inr ?_);have:¬ ((Yo==Yo&&X.env.scope.kind==.function&&X.env.kindOf x==Wv .cell)=Wx):=by simpa using q
       simp only[Yv,this,if_false];rfl
 . show(relabel scope X.env).names.lookup x=Wv .globalImplicit;rw[ZaB,hx];rfl
section
variable {T:Tb}{Y:Yx}{E:XK}{Z:L2.St}{H:Hp}{Q:VK}
theorem Zlg{a b:Ex}{f:D->D->Hd->R D}{S:Ev}{h:Hd}{B:List Yi}(rh:RH Y H B h)(rs:RS Y H B S Z)(q:Fin Y (RD Y) H B ((ev T a S h).bind λx h1=>(ev T b S h1).bind λy h2=>f x y h2) Q E):
 ZaO T Y E a Z H λx H1=>ZaO T Y E b Z H1 λy H2=>rB Y E f x y H2 Q:=
 ⟨S,h,B,rh,rs,q.bind λd h1 x H1 μ1 _ g rh1 rd f1=>⟨S,h1,μ1,rh1,rs.mono rh g,f1.bind λe h2 y H2 μ2 _ g2 rh2 re f2=>⟨d,e,h2,μ2,rh2,rd.mono rh1 g2,re,f2⟩⟩⟩
end
theorem Zsp{T:Tb}{Γ:Gm}{X:Cx}{Y:Yx}{E:XK}{k:Nat}(G:Gd T Γ X Y E k)(f:Bf)(hb:bok f=Wx){e:Expr}{es:List Expr}{t:TA}{p pos:Pos}(hg:Gl X (Zn5 f))(ha:PA X (e::es) t)
 (he:YA (e::es) X.env=(Wy,eval e X.env)::YA es X.env) (hpl:(YS pos (YA es X.env)).any (·.1)=Wy):PE X (.Call (.Name (Zn5 f) p) (e::es) [] pos) (tCB (rF Y E (ZaQ T.GD f)) t):=by
 have hY:=G.gk.K;cases f with
 |len=>exact ZdW (Zp6 hY) hg (G.blt _ (by decide)) (by decide +kernel) ha (by decide) (by decide) he hpl
 |isi=>exact ZdW (Zp7 hY) hg (G.blt _ (by decide)) (by decide +kernel) ha (by decide) (by decide) he hpl
 |int=>cases hb
 |tup=>exact Zlt (Zp3 hY) hg (G.blt _ (by decide)) (by decide +kernel) ha (by decide) (by decide) he hpl
 |lst=>cases hb
 |sum=>exact ZdW (Zp4 G.room.hd hY) hg (G.blt _ (by decide)) (by decide +kernel) ha (by decide) (by decide) he hpl
 |all=>cases hb
 |mx=>cases hb
 |srt=>exact ZdW (Zp5 G.room.hd G.gk) hg (G.blt _ (by decide)) (by decide +kernel) ha (by decide) (by decide) he hpl
end IV
end
section
namespace IV
open PySem PySem.Spec PyProof.Rows L2
theorem ZnU{T:Tb}{Γ:Gm}{X:Cx}{Y:Yx}{E:XK}{k:Nat}(G:Gd T Γ X Y E k){d:D}{x:Expr}(h:ZlW Γ d x=Wx):PE X x (ZaO T Y E (.cst d)):=by
 have go:∀{v:V},(∀H B,RD Y H B d v)->PE X x (tC v)->PE X x (ZaO T Y E (.cst d)):=λ{v} rd p=>PE.imp p λZ H Q ⟨S,h,B,rh,rs,f⟩=>Fin.ok (r:=rd H B) (show Fin Y (RD Y) H B (.ok d h) Q E from f) rh;unfold ZlW at h;split at h
 . rename_i c q;obtain⟨k,p,rfl⟩:=ZgN q;unfold Zuq at h;split at h
   . have e:=of_decide_eq_true h;subst e;exact go (λ_ _=>.int _) Zrz
   . rw[Oa]at h;have e:=of_decide_eq_true h.1;subst e;exact go (λ_ _=>.str _ h.2) Zrw
   . have e:=of_decide_eq_true h;subst e;exact go (λ_ _=>.bl _) Zty
   . exact go (λ_ _=>.non) ZmS
   . cases h
 . cases d with
   |ty n=>
    simp only at h;cases q:asName x with
    |none=>rw[q]at h;cases h
    |some y=>
     rw[q]at h;rw[Oa,Oa]at h;obtain⟨⟨h1,h2⟩,h3⟩:=h;obtain⟨p,rfl⟩:=ZdM q;have e:=of_decide_eq_true h2;subst e;obtain⟨g1,g2⟩:=G.gl h3;have hn:=of_decide_eq_true h1;have all:(Zkn.all λn=>Wz (bootBuiltins (Str.ofString n)=Wv (.type n))&&Wz (Str.ofString n ≠ "__name__")&&Wz (Str.ofString n∈(["len", "isinstance", "int", "tuple", "list", "sum", "all", "sorted", "range", "enumerate", "reversed", "str", "bool", "max"]:List Str)))=Wx:=by decide +kernel
     rw[OC]at all;have a:=all n hn;rw[Oa,Oa]at a;exact go (λ_ _=>.ty _) (Zpb g1 (G.blt _ (of_decide_eq_true a.2)) (of_decide_eq_true a.1.1) rfl (of_decide_eq_true a.1.2) g2)
   |_=>cases h
theorem R.bind_eq{α β:Type}{r:R α}{k:α->Hd->R β}{b:β}{h:Hd}(e:r.bind k=.ok b h):∃a h1,r=.ok a h1/\k a h1=.ok b h:=by
 cases r with
 |bad=>cases e
 |ok a h1=>exact⟨a,h1,rfl,e⟩
 |exc c h1=>cases e
theorem R.bind_assoc{α β γ:Type}{r:R α}{k:α->Hd->R β}{l:β->Hd->R γ}:(r.bind k).bind l=r.bind λa h=>(k a h).bind l:=by cases r<;>rfl
theorem Zm5{GD:Str->Option (List (Key×D))}{op:CmpOp}{x y r:D}{h h':Hd}(e:opC GD op x y h=.ok r h'):∃b,r=.bl b:=by
 have i2:∀{f:Int->Int->Bool},Zg9 f x y h=.ok r h'->∃b,r=.bl b:=λe=>by
  unfold Zg9 at e;split at e
  . cases e;exact⟨_,rfl⟩
  . cases e
 have eq:∀{n:Bool},ZbS n x y h=.ok r h'->∃b,r=.bl b:=λe=>by
  unfold IV.ZbS at e;split at e
  . split at e
    . cases e;exact⟨_,rfl⟩
    . cases e
  . cases e
 have inn:∀{n:Bool},Zbh GD n x y h=.ok r h'->∃b,r=.bl b:=λe=>by
  unfold Zbh at e;split at e
  . split at e
    . cases e;exact⟨_,rfl⟩
    . cases e
  . split at e
    . cases e;exact⟨_,rfl⟩
    . cases e
 have n1:∀{n:Bool},opN n x y h=.ok r h'->∃b,r=.bl b:=λe=>by
  unfold opN at e;split at e
  . cases e;exact⟨_,rfl⟩
  . cases e
 unfold opC at e;split at e
 . exact eq e
 . exact eq e
 . exact i2 e
 . exact i2 e
 . exact i2 e
 . exact i2 e
 . exact inn e
 . exact inn e
 . exact n1 e
 . exact n1 e
theorem ZtQ(m:Mf):Slot "list" (Zqo m) (mid m)/\typeOf (.builtin (mid m))=pure (.type "method_descriptor"):=by
 cases m with
 |app=>exact⟨PySem.F.slot_list_append,PySem.F.type_list_append⟩
 |ext=>exact⟨PySem.F.slot_list_extend,PySem.F.type_list_extend⟩
 |pop=>exact⟨PySem.F.slot_list_pop,PySem.F.type_list_pop⟩
 |rev=>exact⟨PySem.F.slot_list_reverse,PySem.F.type_list_reverse⟩
 |clr=>exact⟨PySem.F.slot_list_clear,PySem.F.type_list_clear⟩
section
variable {Y:Yx}{α β α' β':Type}{rel:Hp->List Yi->α->β->Prop}{rel':Hp->List Yi->α'->β'->Prop}{H0 H H1:Hp}{μ0 B μ1:List Yi}{E:XK}
theorem Fin.bindB{r:R α}{k:α->Hd->R α'}{Q:β'->Hp->Prop}{Q1:β->Hp->Prop}(g0:Gr H0 μ0 H B)(f:Fin Y rel' H0 μ0 (r.bind k) Q E)
 (hk:∀a h1 b H1 μ1,r=.ok a h1->Gr H B H1 μ1->RH Y H1 μ1 h1->rel H1 μ1 a b->Fin Y rel' H0 μ0 (k a h1) Q E->Q1 b H1):Fin Y rel H B r Q1 E:=by
 cases r with
 |bad=>exact f
 |ok a h=>exact λb H' μ' g' rh rl=>hk a h b H' μ' rfl g' rh rl f
 |exc c h=>exact λH' μ' C g'=>f H' μ' C (g0.trans g')
theorem Fin.bindAt{r:R α}{k:α->Hd->R α'}{Q:β'->Hp->Prop}{Q1:β->Hp->Prop}(g0:Gr H0 μ0 H B)(f:Fin Y rel' H0 μ0 (r.bind k) Q E)
 (hk:∀a h1 b H1 μ1,r=.ok a h1->Gr H B H1 μ1->RH Y H1 μ1 h1->rel H1 μ1 a b->Fin Y rel' H0 μ0 (k a h1) Q E->Q1 b H1):Fin Y rel H B r Q1 E:=by
 cases r with
 |bad=>exact f
 |ok a h=>exact λb H' μ' g' rh rl=>hk a h b H' μ' rfl g' rh rl f
 |exc c h=>exact λH' μ' C g'=>f H' μ' C (g0.trans g')
end
noncomputable def ZiF:List Nat->TGs
 |[]=>ZpO
 |i::is=>ZiG (ZcS i) (ZiF is)
noncomputable def tgR(K:Yk):Tg->TG
 |.nm i=>ZcS i
 |.two i j=>ZpN K 2 (ZiG (ZcS i) (ZiG (ZcS j) ZpO))
 |.many is=>ZpN K is.length (ZiF is)
theorem ZhU{k:Nat}:∀is:List Nat,is.foldr max 0<k->Zi8 k (ZiF is)
 |[],_=>Zkr
 |i::is,h=>by simp only[List.foldr_cons]at h;exact Zfg (by omega) (ZhU is (by omega))
theorem ZsV(K:Yk)(g:Tg):Zl2 (tgk g) (tgR K g):=by
 cases g with
 |nm i=>exact Zoq (OH i)
 |two i j=>exact Zme (Zfg (show i<max i j+1 by omega) (Zfg (show j<max i j+1 by omega) Zkr))
 |many is=>exact Zme (ZhU is (OH _))
theorem Zeq{env:Env}{N:List Str}{own:Str->Bool}:∀(is:List Nat) (es:List Expr),Zd8 N own is es=Wx->(assignEach es env).length=is.length/\List.findIdx? (λx=>x.fst) (assignEach es env)=Ww
 |[],[],_=>⟨rfl,rfl⟩
 |i::is,e::es,h=>by
  unfold Zd8 at h;rw[Oa]at h;obtain⟨x,p,rfl,_⟩:=Za1 h.1;obtain⟨a,b⟩:=Zeq (env:=env) is _ h.2;constructor
  . simp[assignEach,a]
  . simp only[assignEach,List.findIdx?_cons,b];rfl
 |[],_::_,h=>by cases h
 |_::_,[],h=>by simp[Zd8]at h
theorem Zid{X:Cx}{N:List Str}{own:Str->Bool}(hN:X.N=N)(nd:X.N.Nodup)(ho:∀x,own x=Wx->Loc X.env.scope x/\(X.fn x=Wx\/X.env.scope.names.lookup x=Wv .local)):∀(is:List Nat) (es:List Expr),Zd8 N own is es=Wx->PGs X es (ZiF is)
 |[],[],_=>ZkB
 |i::is,e::es,h=>by unfold Zd8 at h;rw[Oa]at h;obtain⟨x,p,rfl,e1,e2⟩:=Za1 h.1;obtain⟨o1,o2⟩:=ho _ e2;exact ZfB (Ze4 nd (by rw[hN];exact e1) o1 o2) (Zid hN nd ho is _ h.2)
 |[],_::_,h=>by cases h
 |_::_,[],h=>by simp[Zd8]at h
theorem ZkC{X:Cx}{N:List Str}{own:Str->Bool}{g:Tg}{tg:Expr}(hN:X.N=N)(nd:X.N.Nodup)(hc:X.calm=Wx)(ho:∀x,own x=Wx->Loc X.env.scope x/\(X.fn x=Wx\/X.env.scope.names.lookup x=Wv .local))(h:Zka N own g tg=Wx):PG X tg (tgR X.K g):=by
 cases g with
 |nm i=>obtain⟨x,p,rfl,e1,e2⟩:=Za1 h;obtain⟨o1,o2⟩:=ho _ e2;exact Ze4 nd (by rw[hN];exact e1) o1 o2
 |two i j=>obtain⟨x,p,y,q,k,r,rfl,⟨a1,a2⟩,b1,b2⟩:=ZgQ h;obtain⟨o1,o2⟩:=ho _ a2;obtain⟨p1,p2⟩:=ho _ b2;exact ZmP hc (ZfB (Ze4 nd (by rw[hN];exact a1) o1 o2) (ZfB (Ze4 nd (by rw[hN];exact b1) p1 p2) ZkB))
 |many is=>obtain⟨es,k,r,rfl,h⟩:=ZfI h;exact ZmP (hn:=(Zeq _ _ h).1) (hst:=(Zeq _ _ h).2) hc (Zid hN nd ho _ _ h)
theorem ZkK{Y:Yx}{H:Hp}{B:List Yi}{Q:L2.St->Hp->Prop}:∀(is:List Nat) {ds:List D}{vs:List V}{S:Ev}{Z:L2.St},RDs Y H B ds vs->RS Y H B S Z->ds.length=is.length->(∀σ1,RS Y H B (Zji is ds S) σ1->Q σ1 H)->ZiF is vs Z H Q
 |[],ds,vs,S,Z,r,rs,hl,q=>by
  cases r with
  |nil=>exact⟨rfl,q _ rs⟩
  |cons a s=>simp at hl
 |i::is,ds,vs,S,Z,r,rs,hl,q=>by
  cases r with
  |nil=>simp at hl
  |cons a s=>exact⟨_,_,rfl,ZkK is s (rs.set a) (by simpa using hl) q⟩
theorem ZhD{Y:Yx}{K:Yk}{H:Hp}{B:List Yi}{g:Tg}{d:D}{v:V}{S ρ1:Ev}{Z:L2.St}{Q:L2.St->Hp->Prop}(hY:Y.K=K)(r:RD Y H B d v)(rs:RS Y H B S Z)(e:Zbz g d S=Wv ρ1)(q:∀σ1,RS Y H B ρ1 σ1->Q σ1 H):tgR K g v Z H Q:=by
 cases g with
 |nm i=>cases e;exact q _ (rs.set r)
 |two i j=>
  unfold Zbz at e;simp only at e;split at e
  . cases e;obtain⟨a,vs,rfl,t,s⟩:=r.tup_inv;obtain⟨x,y,rfl,r1,r2⟩:=s.two;exact⟨a,_,rfl,hY ▸ t,rfl,x,_,rfl,y,_,rfl,rfl,q _ ((rs.set r1).set r2)⟩
  . cases e
 |many is=>
  unfold Zbz at e;simp only at e;split at e
  . split at e
    . rename_i hl;cases e;obtain⟨a,vs,rfl,t,s⟩:=r.tup_inv;exact⟨a,vs,rfl,hY ▸ t,by rw[<- s.length,hl],ZkK is s rs hl q⟩
    . cases e
  . cases e
section
variable {Y:Yx}{H:Hp}{B:List Yi}{h:Hd}{Dd:Yi}{ys zs:List V}
theorem Zmi{K:Yk}(hD:H Dd=Wv (.lst ys)){a:Yi}{vs:List V}(t:SqT K H a vs):SqT K (upd H Dd (.lst zs)) a vs:=by
 rcases t with t|t
 . rcases t with t|⟨o,t⟩
   . exact .inl (.inl (by rw[Ze (λz=>by rw[z,hD]at t;cases t)];exact t))
   . exact .inl (.inr ⟨o,by rw[Ze (λz=>by rw[z,hD]at t;cases t)];exact t⟩)
 . exact .inr t
theorem ZnA{K:Yk}(hD:H Dd=Wv (.lst ys)){a:Yi}{vs:List V}(t:FzL K H a vs):FzL K (upd H Dd (.lst zs)) a vs:=by
 rcases t with ⟨o,t⟩|t
 . exact .inl ⟨o,by rw[Ze (λz=>by rw[z,hD]at t;cases t)];exact t⟩
 . exact .inr t
mutual
theorem RD.swap(hD:H Dd=Wv (.lst ys)):∀{d:D}{v:V},RD Y H B d v->RD Y (upd H Dd (.lst zs)) B d v
 |_,_,.non=>.non
 |_,_,.bl b=>.bl b
 |_,_,.int i=>.int i
 |_,_,.str x ok=>.str x ok
 |_,_,.tup t s=>.tup (Zmi hD t) (RDs.swap hD s)
 |_,_,.ref e=>.ref e
 |_,_,.ty n=>.ty n
 |_,_,.ro t s=>.ro (ZnA hD t) (RDs.swap hD s)
 |_,_,.kd e=>.kd e
theorem RDs.swap(hD:H Dd=Wv (.lst ys)):∀{d:List D}{v:List V},RDs Y H B d v->RDs Y (upd H Dd (.lst zs)) B d v
 |_,_,.nil=>.nil
 |_,_,.cons a s=>.cons (RD.swap hD a) (RDs.swap hD s)
end
theorem RKs.swap{κ:Type}(hD:H Dd=Wv (.lst ys)):∀{d:List (κ×D)}{v:List (κ×V)},RKs Y H B d v->RKs Y (upd H Dd (.lst zs)) B d v
 |_,_,.nil=>.nil
 |_,_,.cons a s=>.cons (a.swap hD) (s.swap hD)
theorem RH.swap(hD:H Dd=Wv (.lst ys))(hn:Dd ∉ B)(r:RH Y H B h):RH Y (upd H Dd (.lst zs)) B h:=by
 refine⟨r.len,r.nd,λi o a e1 e2=>?_,r.ks⟩;have ne:a≠Dd:=λz=>hn (z ▸ O2 e2);have q:=r.ob i o a e1 e2;cases o with
 |lst ds=>obtain⟨vs,z,s⟩:=q;exact⟨vs,by rw[Ze ne];exact z,s.swap hD⟩
 |dic ds=>obtain⟨vs,z,s⟩:=q;exact⟨vs,by rw[Ze ne];exact z,s.swap hD⟩
 |ins C ds=>obtain⟨a1,a2,a3,z,m,s⟩:=q;exact⟨a1,a2,a3,by rw[Ze ne];exact z,m,s.swap hD⟩
 |fdic ds=>obtain⟨o,vs,z,s⟩:=q;exact⟨o,vs,by rw[Ze ne];exact z,s.swap hD⟩
theorem Gr.out{H':Hp}{μ':List Yi}(g:Gr H B H' μ'){o:HO}(hD:H Dd=Wv o)(hn:Dd ∉ B):H' Dd=Wv o/\Dd ∉ μ':=⟨g.keep _ _ hn hD,λhm=>(g.new _ hm).elim hn λz=>by rw[hD]at z;cases z⟩
end
section
variable {Y:Yx}{H:Hp}{B:List Yi}{p:Yi}
mutual
theorem RD.more:∀{d:D}{v:V},RD Y H B d v->RD Y H (B++[p]) d v
 |_,_,.non=>.non
 |_,_,.bl b=>.bl b
 |_,_,.int i=>.int i
 |_,_,.str x ok=>.str x ok
 |_,_,.tup t s=>.tup t (RDs.more s)
 |_,_,.ref e=>.ref (by rw[Oe (Ob.mp e).1];exact e)
 |_,_,.ty n=>.ty n
 |_,_,.ro t s=>.ro t (RDs.more s)
 |_,_,.kd e=>.kd e
theorem RDs.more:∀{d:List D}{v:List V},RDs Y H B d v->RDs Y H (B++[p]) d v
 |_,_,.nil=>.nil
 |_,_,.cons a s=>.cons (RD.more a) (RDs.more s)
end
theorem RKs.more{κ:Type}:∀{d:List (κ×D)}{v:List (κ×V)},RKs Y H B d v->RKs Y H (B++[p]) d v
 |_,_,.nil=>.nil
 |_,_,.cons a s=>.cons a.more s.more
theorem RO.more{a:Yi}{o:DO}(q:RO Y H B a o):RO Y H (B++[p]) a o:=by
 cases o with
 |lst ds=>obtain⟨vs,z,s⟩:=q;exact⟨vs,z,s.more⟩
 |dic ds=>obtain⟨vs,z,s⟩:=q;exact⟨vs,z,s.more⟩
 |ins C ds=>obtain⟨a1,a2,a3,z,m,s⟩:=q;exact⟨a1,a2,a3,z,m,s.more⟩
 |fdic ds=>obtain⟨o,vs,z,s⟩:=q;exact⟨o,vs,z,s.more⟩
end
theorem ZkW{T:Tb}{Y:Yx}{E:XK}{K:Yk}(hY:Y.K=K){js:List (Option Nat)}{g:Tg}{c:Option Tx}{e:Ex}{tc:TT}{J:It}{w:Wk}{H1:Hp}{μ1:List Yi}{h1:Hd}{S:Ev}{Z:L2.St}{Q:VK}{Dd:Yi}
 (htc:∀Z H Q,(∃S h B,RH Y H B h/\RS Y H B S Z/\Fin Y (λ_ _ (a b:Bool)=>a=b) H B (tsto T c S h) Q E)->tc Z H Q)
 (rh:RH Y H1 μ1 h1) (rs:RS Y H1 μ1 S Z) (wj:WJ Y H1 μ1 w J) (f:Fin Y (RD Y) H1 μ1 ((Zo w.src g (tsto T c) (ev T e) w.xs (Zby js S) [] h1).bind λxs h2=>ZcH (.lst xs) h2) Q E) (hD:H1 Dd=Ww) :
 ∃W:Nat->Nat->List V->Hp->Prop,(∃m,W 0 m [] (upd H1 Dd (.lst []))) /\
  ∀i m ys H,W i m ys H->H Dd=Wv (.lst ys)->(J.stop i H/\Q (.ref Dd) H) \/
   (J.go i H/\ys.length<sizeLine/\∀x H',J.yld i H x H'->tgR K g x (capt js Z) H' λσ2 H2=>tc σ2 H2 λb H3=>
    if b=Wx then ZaO T Y E e σ2 H3 λy H4=>H4 Dd=Wv (.lst ys)/\∃m',m'<m/\W (i+1) m' (ys++[y]) (upd H4 Dd (.lst (ys++[y])))
    else H3 Dd=Wv (.lst ys)/\∃m',m'<m/\W (i+1) m' ys H3):=by
 have n1:Dd ∉ μ1:=λz=>by have:=rh.mut z;rw[hD]at this;exact this
 refine⟨λi m ys H=>∃acc h B,i<=w.xs.length/\m=w.xs.length - i/\Gr H1 μ1 H B/\RH Y H B h/\RDs Y H B acc ys/\Dd ∉ B /\
  Fin Y (RD Y) H1 μ1 ((Zo w.src g (tsto T c) (ev T e) (w.xs.drop i) (Zby js S) acc h).bind λxs h2=>ZcH (.lst xs) h2) Q E,⟨w.xs.length,[],h1,μ1,Yy _,by simp,Gr.lay0 hD,rh.lay0 hD,.nil,n1,f⟩,?_⟩
 rintro i m ys H ⟨acc,h,B,hi,rfl,g1,rh1,ra,nD,f1⟩ hl;by_cases hlt:i<w.xs.length
 . obtain⟨d,hd⟩:∃d,w.xs[i]? = Wv d:=⟨_,Og hlt⟩
   have hdrop:w.xs.drop i=d::w.xs.drop (i+1):=by rw[List.drop_eq_getElem_cons hlt];have:=Og hlt;rw[hd]at this;rw[<- YF this]
   rw[hdrop,Zo]at f1;by_cases hs:Wk.stays w.src h=Wx/\acc.length<sizeLine
   . rw[if_pos hs]at f1;obtain⟨go,yl⟩:=(wj H B h g1 rh1 hs.1).1 i d hd;refine .inr ⟨go,by rw[<- ra.length];exact hs.2,λx H' hy=>?_⟩;obtain⟨g2,rh2,rx⟩:=yl x H' hy;obtain⟨hl2,nD2⟩:=g2.out hl nD;have g02:=g1.trans g2;split at f1
     . exact f1.elim
     . rename_i ρ1 hb;refine ZhD hY rx ((rs.mono rh g02).capt js) hb λσ1 rs1=>htc σ1 H' _ ⟨ρ1,h,B,rh2,rs1,?_⟩;rw[R.bind_assoc]at f1;refine Fin.bindAt g02 f1 λb h3 b' H3 μ3 _ g3 rh3 eb f3=>?_;subst eb;obtain⟨hl3,nD3⟩:=g3.out hl2 nD2;have g03:=g02.trans g3;cases b with
       |true=>
        rw[if_pos rfl]at f3 ⊢;rw[R.bind_assoc]at f3;refine⟨ρ1,h3,μ3,rh3,rs1.mono rh2 g3,Fin.bindAt g03 f3 λy h4 y' H4 μ4 _ g4 rh4 ry f4=>?_⟩;obtain⟨hl4,nD4⟩:=g4.out hl3 nD3;refine⟨hl4,_,Nat.sub_lt_sub_left hlt (OH i),acc++[y],h4,μ4,hlt,rfl,?_,rh4.swap hl4 nD4,?_,nD4,f4⟩
        . have g04:=g03.trans g4;exact⟨g04.pre,g04.new,λb o hb e=>by rw[Ze (λz=>by rw[z,hD]at e;cases e)];exact g04.keep b o hb e,λb u v e=>by rw[Ze (λz=>by rw[z,hD]at e;cases e)];exact g04.fz b u v e⟩
        . exact((((ra.mono rh1 g2).mono rh2 g3).mono rh3 g4).append (.cons ry .nil)).swap hl4
       |false=>rw[if_neg (by decide)]at f3 ⊢;exact⟨hl3,_,Nat.sub_lt_sub_left hlt (OH i),acc,h3,μ3,hlt,rfl,g03,rh3,(ra.mono rh1 g2).mono rh2 g3,nD3,f3⟩
   . rw[if_neg hs]at f1;exact f1.elim
 . have he:i=w.xs.length:=by omega
   subst he;rw[List.drop_eq_nil_of_le (Oq _),Zo]at f1;by_cases hs:Wk.stays w.src h=Wx
   . rw[if_pos hs]at f1;refine .inl ⟨(wj H B h g1 rh1 hs).2,?_⟩;have f2:Fin Y (RD Y) H1 μ1 (.ok (.ref h.length) (h++[.lst acc])) Q E:=f1;have gg:Gr H B H (B++[Dd])->True:=λ_=>trivial;have g3:Gr H1 μ1 H (B++[Dd]):=by
      refine⟨λj a e=>?_,λa ha=>?_,g1.keep,g1.fz⟩
      . have:=g1.pre j a e;rw[Oe (Ob.mp this).1];exact this
      . rcases OD.mp ha with z|z
        . exact g1.new a z
        . rw[Ox.mp z];exact .inr hD
     refine f2.at g3 ?_ (.ref (by rw[rh1.len];simp));have pre:∀{d:D}{v:V},RD Y H B d v->RD Y H (B++[Dd]) d v:=λr=>r.more;refine⟨by simp[rh1.len],?_,λj o a e1 e2=>?_,ZjK rh1.ks trivial⟩
     . rw[List.nodup_append];refine⟨rh1.nd,by simp,λa ha b hb=>?_⟩;rw[Ox.mp hb];intro z;exact nD (z ▸ ha)
     . by_cases hj:j<h.length
       . rw[Oe hj]at e1;rw[Oe (by rw[<- rh1.len];exact hj)]at e2;exact(rh1.ob j o a e1 e2).more
       . have hj':j=h.length:=by have:=(Ob.mp e1).1;simp at this;omega
         subst hj';rw[Om (Oq _)]at e1;rw[Om (by rw[rh1.len];exact Oq _)]at e2;simp[rh1.len]at e1 e2;subst e1;subst e2;exact⟨ys,hl,ra.more⟩
   . rw[if_neg hs]at f1;exact f1.elim
end IV
end
section
namespace IV
open PySem PySem.Spec PyProof.Rows L2
section
variable {Y:Yx}{H:Hp}{B:List Yi}{h:Hd}
theorem RKs.look{f:Str}:∀{fs:List (Str×D)}{gs:List (Str×V)},RKs Y H B fs gs->(∀d,fs.lookup f=Wv d->∃v,gs.lookup f=Wv v/\RD Y H B d v)/\(fs.lookup f=Ww->gs.lookup f=Ww)
 |_,_,.nil=>⟨λd e=>by simp at e,λ_=>rfl⟩
 |_,_,.cons (k:=k) (d:=d0) (v:=v0) a s=>by
  by_cases e:f=k
  . subst e;exact⟨λd z=>by simp at z;subst z;exact⟨_,by simp,a⟩,λz=>by simp at z⟩
  . have b:(f==k)=Wy:=by simpa using e
    obtain⟨q1,q2⟩:=RKs.look (f:=f) s;refine⟨λd z=>?_,λz=>?_⟩
    . rw[OF,b]at z ⊢;exact q1 d z
    . rw[OF,b]at z ⊢;exact q2 z
theorem RKs.putAF{f:Str}{d:D}{v:V}(r:RD Y H B d v):∀{fs:List (Str×D)}{gs:List (Str×V)},RKs Y H B fs gs->RKs Y H B (Zll f d fs) (ZbQ f v gs)
 |_,_,.nil=>.cons r .nil
 |_,_,.cons (k:=k) a s=>by
  unfold Zll ZbQ;by_cases e:k=f
  . rw[if_pos e,if_pos e];exact .cons r s
  . rw[if_neg e,if_neg e];exact .cons a (RKs.putAF r s)
theorem ZfR(rh:RH Y H B h){d:D}{v:V}{C:Str}{fs:List (Str×D)}(r:RD Y H B d v)(e:ZY d h=Wv (C,fs)):∃i a Ca dx gs,d=.ref i/\v=.ref a/\B[i]? = Wv a/\h[i]? = Wv (.ins C fs)/\H a=Wv (.ins Ca dx gs)/\Y.mg C=Wv (.ref Ca)/\RKs Y H B fs gs:=by
 unfold ZY at e;split at e
 . rename_i i;split at e
   . rename_i C' fs' hi;cases e;cases r with
     |ref q=>rename_i a;obtain⟨Ca,dx,gs,z,m,s⟩:=rh.ob i _ a hi q;exact⟨i,a,Ca,dx,gs,rfl,rfl,q,hi,z,m,s⟩
   . cases e
 . cases e
theorem Zpx{C:Str}{x dx Ca:Yi}(rh:RH Y H B h)(hx:H x=Ww)(hd:H dx=Ww)(ne:dx≠x)(m:Y.mg C=Wv (.ref Ca)):RH Y (upd (upd H dx (.own x)) x (.ins Ca dx [])) (B++[x]) (h++[.ins C []])/\Gr H B (upd (upd H dx (.own x)) x (.ins Ca dx [])) (B++[x]):=by
 have hx':upd H dx (.own x) x=Ww:=by rw[Ze (λz=>ne z.symm)];exact hx
 exact⟨(rh.lay0 hd).lay hx' ⟨Ca,dx,[],Zl,m,.nil⟩,(Gr.lay0 hd).trans (Gr.lay hx')⟩
end
theorem ZlF{o:Expr}{name:Str}{apos pos:Pos}{args:List Expr}{env:Env}(hbase:attributeBase o name env (eval o env)=eval o env)
 (hform:methodCallForm (args.length+([]:List Keyword).length) (YS pos (YA args env)) (backToKw pos (keywordEach [] env))=Wx) (hline:(apos.endLine==pos.line)=Wx) :
 eval (.Call (.Attribute o name apos) args [] pos) env=(do
  let ov <- eval o env
  standAt apos.atName
  let (f,first) <- holding [ov] (getMethod ov name (do return (<- importBound o env).getD Wx))
  callWith pos f first (YS pos (YA args env)) (backToKw pos (keywordEach [] env))):=by
 have hpos:methodCallPos Wx o env apos pos=pure pos:=by unfold methodCallPos;simp[hline]
 rw[arm_eval_Call,hbase];unfold methodCall;simp only[hform,hpos];rfl
section
variable {T:Tb}{Γ:Gm}{X:Cx}{Y:Yx}{E:XK}{k:Nat}
theorem Zst(G:Gd T Γ X Y E k){Cs:List Str}{f:Str}(hc:(Cs.all λC=>Wz (C∈Γ.kl.cs))=Wx)(hf:f∈Γ.kl.ats){H:Hp}{B:List Yi}{h:Hd}{d:D}{x:V}{Q:VK}(rh:RH Y H B h)(rd:RD Y H B d x)(ff:Fin Y (RD Y) H B (Zgc Cs f d h) Q E):
 ∃a C dx fs v,x=.ref a/\H a=Wv (.ins C dx fs)/\Cls X.K C/\ZaM X.K C f/\fs.lookup f=Wv v/\Q v H:=by
 unfold Zgc at ff;split at ff
 . rename_i C fs e;obtain⟨hC,ff⟩:=ff.iff;obtain⟨i,a,Ca,dx,gs,rfl,rfl,q,hi,z,m,s⟩:=ZfR rh rd e;obtain⟨w,e1,ff⟩:=ff.ofO;obtain⟨v,l,rv⟩:=(s.look (f:=f)).1 w e1;rw[OC]at hc;obtain⟨Ca',m',cl,na⟩:=G.cls C (of_decide_eq_true (hc C hC));rw[G.gk.mg,m']at m;cases m;exact⟨a,Ca,dx,gs,v,rfl,z,cl,na f hf,l,ff.ok rh rv⟩
 . exact ff.elim
theorem Zmo(G:Gd T Γ X Y E k){Cs:List Str}{f:Str}(hc:(Cs.all λC=>Wz (C∈Γ.kl.cs))=Wx)(hf:f∈Γ.kl.ats){H:Hp}{B:List Yi}{h:Hd}{d e:D}{x y:V}{Q:VK}(rh:RH Y H B h)(rd:RD Y H B d x)(re:RD Y H B e y)(ff:Fin Y (RD Y) H B (ZgX Cs f d e h) Q E):
 ∃a C dx fs,x=.ref a/\H a=Wv (.ins C dx fs)/\Cls X.K C/\ZaM X.K C f/\fs.length<1000/\Q .non (upd H a (.ins C dx (ZbQ f y fs))):=by
 unfold ZgX at ff;split at ff
 . rename_i i;split at ff
   . rename_i C fs hi;obtain⟨⟨hC,hl⟩,ff⟩:=ff.iff;obtain⟨i',a,Ca,dx,gs,e1,rfl,q,hi',z,m,s⟩:=ZfR rh rd (show ZY (.ref i) h=Wv (C,fs) by simp[ZY,hi]);cases e1;rw[OC]at hc;obtain⟨Ca',m',cl,na⟩:=G.cls C (of_decide_eq_true (hc C hC));have m0:=m;rw[G.gk.mg,m']at m;cases m;refine⟨a,Ca,dx,gs,rfl,z,cl,na f hf,by rw[<- s.length];exact hl,ff.at (Gr.write (O2 q) (by rw[z];trivial)) (rh.write q ?_ (by rw[z];trivial)) .non⟩;exact⟨Ca,dx,_,Zl,m0,(RKs.putAF re s).mono rh (Gr.write (O2 q) (by rw[z];trivial))⟩
   . exact ff.elim
 . exact ff.elim
theorem ZtR(G:Gd T Γ X Y E k){C:Str}{es:Exs}{ys:List Expr}{p pos:Pos}(h2:C∈Γ.kl.is)(h3:glb Γ C=Wx)(h4:chks Γ es ys=Wx)(ha:PA X ys (ZoB T Y E es)):PE X (.Call (.Name C p) ys [] pos) (ZaO T Y E (.mk C es)):=by
 obtain⟨a,f,fd,ps,m,M,F,B_⟩:=G.mks _ h2;obtain⟨g1,g2⟩:=G.gl h3;have key:∀(ds:List D) (h1:Hd) (xs:List V) (H1:Hp) (μ1:List Yi) (Q:VK),RH Y H1 μ1 h1->RDs Y H1 μ1 ds xs->Fin Y (RD Y) H1 μ1 (Znc T.C C ds h1) Q E->∀x dx,H1 x=Ww->H1 dx=Ww->dx≠x ->
  ZeQ T Y (mnm C (O "__init__")) (.ref x::(xs++[])) (upd (upd H1 dx (.own x)) x (.ins a dx [])) (λv H2=>v=.non/\Q (.ref x) H2) E:=by
  intro ds h1 xs H1 μ1 Q rh1 rds f1 x dx hx hd ne;obtain⟨rh2,g2⟩:=Zpx (C:=C) (Ca:=a) rh1 hx hd ne (by rw[G.gk.mg];exact m);have px:(μ1++[x])[h1.length]? = Wv x:=by rw[rh1.len];simp
  refine⟨.ref h1.length::ds,h1++[.ins C []],μ1++[x],rh2,.cons (.ref px) (by rw[Yt];exact rds.mono rh1 g2),?_⟩;refine Fin.bind (Fin.mono g2 f1) λd h3 v H3 μ3 _ g3 rh3 rd3 f3=>?_;cases d with
  |non=>cases rd3;exact⟨rfl,f3.ok rh3 (.ref (g3.pre _ _ px))⟩
  |_=>exact f3.elim
 cases ys with
 |nil=>
  cases es with
  |nil=>exact(ZmU M F G.room1 g1 m B_ .nil G.pass g2).imp λZ H Q ⟨S,h,B,rh,rs,f⟩=>key [] h [] H B Q rh .nil f
  |cons e r=>unfold chks at h4;cases h4
 |cons y ys=>
  have st:Zaj y=Wx:=by
   cases es with
   |nil=>unfold chks at h4;cases h4
   |cons e r=>unfold chks at h4;rw[Oa,Oa]at h4;exact h4.1.2
  have sp:∀pos,(YS pos (YA ys X.env)).any (·.1)=Wy:=by
   cases es with
   |nil=>unfold chks at h4;cases h4
   |cons e r=>unfold chks at h4;rw[Oa,Oa]at h4;exact Zbm Γ X.env r ys h4.2
  exact(Zo6 M F G.room1 g1 m B_ .nil G.pass ha g2 (Zp X.env st) (sp _)).imp λZ H Q ⟨S,h,B,rh,rs,f⟩=>⟨S,h,B,rh,rs,Fin.bind f λds h1 xs H1 μ1 _ g rh1 rds f1=>key ds h1 xs H1 μ1 Q rh1 rds f1⟩
theorem ZrR(G:Gd T Γ X Y E k){C n:Str}{o:Ex}{es:Exs}{xo:Expr}{ys:List Expr}{ap cp:Pos}(h5:(C,n)∈Γ.kl.ms)(h3:ZcO xo=Wx)(h4:chks Γ es ys=Wx)(h6:ys.length<29)(h7:(ap.endLine==cp.line)=Wx)(ho:PE X xo (ZaO T Y E o))(ha:PA X ys (ZoB T Y E es)):
 PE X (.Call (.Attribute xo n ap) ys [] cp) (ZaO T Y E (.mcl C n o es)):=by
 obtain⟨a,f,fd,ps,mm,c,hm,F,B_⟩:=G.mts _ h5;have hform:methodCallForm (ys.length+([]:List Keyword).length) (YS cp (YA ys X.env)) (backToKw cp (keywordEach [] X.env))=Wx:=by
  unfold methodCallForm;rw[Zeg Γ X.env es ys h4];have h30:Wz (ys.length+([]:List Keyword).length+(if (backToKw cp (keywordEach [] X.env)).isEmpty then 0 else 1)<30)=Wx:=by rw[decide_eq_true_eq];show ys.length+0+0<30;omega
  rw[h30];rfl
 have ht:=ZlF (o:=xo) (name:=n) (apos:=ap) (pos:=cp) (args:=ys) (env:=X.env) (Ze9 h3) hform h7;have key:∀(d:D) (h1:Hd) (x:V) (H1:Hp) (μ1:List Yi) (S:Ev) (Z:L2.St) (Q:VK),RH Y H1 μ1 h1->RS Y H1 μ1 S Z->RD Y H1 μ1 d x->Fin Y (RD Y) H1 μ1 (match ZY d h1 with
  |some (C',fs)=>if C'=C/\fs.lookup n=Ww then(evs T es S h1).bind λxs h2=>T.C (mnm C n) (d::xs) h2 else .bad
  |none=>.bad) Q E->∃b dx fs,x=.ref b/\H1 b=Wv (.ins a dx fs)/\fs.lookup n=Ww/\ZoB T Y E es Z H1 λvs H2=>ZeQ T Y (mnm C n) (x::(vs++[])) H2 Q E:=by
  intro d h1 x H1 μ1 S Z Q rh1 rs1 rd f1;split at f1
  . rename_i C' fs e;obtain⟨⟨e1,e2⟩,f1⟩:=f1.iff;subst e1;obtain⟨i,b,Ca,dx,gs,rfl,rfl,q,hi,z,m',s⟩:=ZfR rh1 rd e;rw[G.gk.mg,mm]at m';cases m';refine⟨b,dx,gs,rfl,z,(s.look (f:=n)).2 e2,S,h1,μ1,rh1,rs1,f1.bind λds h2 vs H2 μ2 _ g2 rh2 rds f2=>⟨_,h2,μ2,rh2,.cons (rd.mono rh1 g2) (by rw[Yt];exact rds),f2⟩⟩
  . exact f1.elim
 cases ys with
 |nil=>
  cases es with
  |nil=>
   refine(ZmT ho c hm F G.room B_ .nil G.pass ht).imp λZ H Q ⟨S,h,B,rh,rs,f⟩=>⟨S,h,B,rh,rs,Fin.bind f λd h1 x H1 μ1 _ g rh1 rd f1=>?_⟩
   obtain⟨b,dx,fs,e1,e2,e3,ρ',h',μ',rh',rs',f'⟩:=key d h1 x H1 μ1 S Z Q rh1 (rs.mono rh g) rd f1;exact⟨b,dx,fs,e1,e2,e3,f'.ok rh' .nil⟩
  |cons e r=>unfold chks at h4;cases h4
 |cons y ys=>
  have st:Zaj y=Wx:=by
   cases es with
   |nil=>unfold chks at h4;cases h4
   |cons e r=>unfold chks at h4;rw[Oa,Oa]at h4;exact h4.1.2
  have sp:∀pos,(YS pos (YA ys X.env)).any (·.1)=Wy:=by
   cases es with
   |nil=>unfold chks at h4;cases h4
   |cons e r=>unfold chks at h4;rw[Oa,Oa]at h4;exact Zbm Γ X.env r ys h4.2
  exact(Zo4 ho c hm F G.room B_ .nil G.pass ha (Zp X.env st) (sp _) ht).imp λZ H Q ⟨S,h,B,rh,rs,f⟩=>⟨S,h,B,rh,rs,Fin.bind f λd h1 x H1 μ1 _ g rh1 rd f1=>key d h1 x H1 μ1 S Z Q rh1 (rs.mono rh g) rd f1⟩
end
end IV
end
section
namespace IV
open PySem PySem.Spec PyProof.Rows L2
theorem ZpZ{T:Tb}{Γ:Gm}{X:Cx}{Y:Yx}{E:XK}{k:Nat}(G:Gd T Γ X Y E k){op:CmpOp}{a b:Ex}{l r:Expr}{pos:Pos}(ha:PE X l (ZaO T Y E a))(hb:PE X r (ZaO T Y E b))(hm:ZbT r=Wx):PT X (.Compare l [op] [r] pos) (Zjj T Y E (.ex (.cmp op a b))):=by refine(ZkA (Zej (E:=E) G.room G.h60 G.gk op) ha hb (Zda hm)).imp λZ H Q ⟨S,h,B,rh,rs,f⟩=>Zlg (f:=opC T.GD op) rh rs ?_;refine Fin.bind (show Fin Y _ H B ((ev T (.cmp op a b) S h).bind λx h1=>R.ofO (Zcm T.GD x h1) h1) Q E from f) λd h1 x H1 μ1 er g rh1 rd f1=>?_;obtain⟨_,_,_,er⟩:=R.bind_eq (show(ev T a S h).bind _=.ok d h1 from er);obtain⟨_,_,_,er⟩:=R.bind_eq er;obtain⟨c,rfl⟩:=Zm5 er;cases rd;exact⟨c,rfl,Fin.ok (show Fin Y _ H1 μ1 (.ok c h1) Q E from f1) rh1 rfl⟩
theorem ZrT{x y r:D}{h h':Hd}(e:ZeY x y h=.ok r h'):∃b,r=.bl b:=by
 unfold ZeY at e;split at e
 . split at e
   . cases e;exact⟨_,rfl⟩
   . cases e
 . cases e
theorem ZpD{T:Tb}{Γ:Gm}{X:Cx}{Y:Yx}{E:XK}{k:Nat}(G:Gd T Γ X Y E k){a b:Ex}{l r:Expr}{pos:Pos}(ha:PE X l (ZaO T Y E a))(hb:PE X r (ZaO T Y E b))(hm:ZbT r=Wx):PT X (.Compare l [.In] [r] pos) (Zjj T Y E (.ex (.lin a b))):=by refine(ZkA (Zig (E:=E) G.room G.h60 G.gk.K) ha hb (Zda hm)).imp λZ H Q ⟨S,h,B,rh,rs,f⟩=>Zlg (f:=ZeY) rh rs ?_;refine Fin.bind (show Fin Y _ H B ((ev T (.lin a b) S h).bind λx h1=>R.ofO (Zcm T.GD x h1) h1) Q E from f) λd h1 x H1 μ1 er g rh1 rd f1=>?_;obtain⟨_,_,_,er⟩:=R.bind_eq (show(ev T a S h).bind _=.ok d h1 from er);obtain⟨_,_,_,er⟩:=R.bind_eq er;obtain⟨c,rfl⟩:=ZrT er;cases rd;exact⟨c,rfl,Fin.ok (show Fin Y _ H1 μ1 (.ok c h1) Q E from f1) rh1 rfl⟩
theorem ZnX{T:Tb}{Γ:Gm}{X:Cx}{Y:Yx}{E:XK}{k:Nat}(G:Gd T Γ X Y E k){o1 o2:CmpOp}{a b c:Ex}{l m r:Expr}{pos:Pos}(ha:PE X l (ZaO T Y E a))(hb:PE X m (ZaO T Y E b))(hc:PE X r (ZaO T Y E c))(hm:ZbT r=Wx):PT X (.Compare l [o1,o2] [m,r] pos) (Zjj T Y E (.ex (.cmp2 o1 o2 a b c))):=by
 refine(ZmH (Zej (E:=E) G.room G.h60 G.gk o1) (Zej (E:=E) G.room G.h60 G.gk o2) ha hb hc (Zda hm)).imp λZ H Q ⟨S,h,B,rh,rs,f⟩=>?_;have f':Fin Y (λ_ _ (a b:Bool)=>a=b) H B ((ev T a S h).bind λx h1=>(ev T b S h1).bind λy h2=>(opC T.GD o1 x y h2).bind λr h3=>(match r with
  |.bl Wx=>(ev T c S h3).bind λz h4=>opC T.GD o2 y z h4
  |.bl Wy=>.ok (.bl Wy) h3
  |_=>.bad:R D).bind λx h1=>R.ofO (Zcm T.GD x h1) h1) Q E:=by
  have q:Fin Y (λ_ _ (a b:Bool)=>a=b) H B ((ev T (.cmp2 o1 o2 a b c) S h).bind λx h1=>R.ofO (Zcm T.GD x h1) h1) Q E:=f;rw[show ev T (.cmp2 o1 o2 a b c) S h=(ev T a S h).bind λx h1=>(ev T b S h1).bind λy h2=>(opC T.GD o1 x y h2).bind λr h3=>(match r with
   |.bl Wx=>(ev T c S h3).bind λz h4=>opC T.GD o2 y z h4
   |.bl Wy=>.ok (.bl Wy) h3
   |_=>.bad:R D)from rfl,R.bind_assoc]at q
  simpa only[R.bind_assoc]using q
 refine⟨S,h,B,rh,rs,Fin.bind f' λd h1 x H1 μ1 _ g rh1 rd f1=>⟨S,h1,μ1,rh1,rs.mono rh g,f1.bind λe h2 y H2 μ2 _ g2 rh2 re f2=>⟨d,e,h2,μ2,rh2,rd.mono rh1 g2,re,f2.bind λr h3 z H3 μ3 _ g3 rh3 rz f3=>?_⟩⟩⟩;cases rz with
 |bl q=>
  refine⟨q,rfl,?_⟩;cases q with
  |true=>
   refine Zhk ⟨S,h3,μ3,rh3,((rs.mono rh g).mono rh1 g2).mono rh2 g3,?_⟩;have f3:Fin Y (λ_ _ (a b:Bool)=>a=b) H3 μ3 (((ev T c S h3).bind λz h4=>opC T.GD o2 e z h4).bind λx h1=>R.ofO (Zcm T.GD x h1) h1) Q E:=f3;rw[R.bind_assoc]at f3;refine Fin.bind f3 λd4 h4 w H4 μ4 _ g4 rh4 rw' f4=>⟨e,d4,h4,μ4,rh4,(re.mono rh2 g3).mono rh3 g4,rw',Fin.bind f4 λd5 h5 w5 H5 μ5 er g5 rh5 rd5 f5=>?_⟩
   obtain⟨c,rfl⟩:=Zm5 er;cases rd5;exact⟨c,rfl,Fin.ok (show Fin Y _ H5 μ5 (.ok c h5) Q E from f5) rh5 rfl⟩
  |false=>exact Zhl ⟨Wy,rfl,Fin.ok (show Fin Y (λ_ _ (a b:Bool)=>a=b) H3 μ3 (.ok Wy h3) Q E from f3) rh3 rfl⟩
 |_=>exact f3.elim
theorem Zp0{Γ:Gm}{e:Ex}{l:Expr}{o:List CmpOp}{r:List Expr}{p:Pos}(h:chk Γ e (.Compare l o r p)=Wx):(∃op a b,e=.cmp op a b)\/(∃o1 o2 a b c,e=.cmp2 o1 o2 a b c)\/(∃a b,e=.lin a b):=by
 cases e with
 |lin a b=>exact .inr (.inr ⟨a,b,rfl⟩)
 |cmp op a b=>exact .inl ⟨op,a,b,rfl⟩
 |cmp2 o1 o2 a b c=>exact .inr (.inl ⟨o1,o2,a,b,c,rfl⟩)
 |cst d=>cases d<;>(unfold chk ZlW at h;cases h)
 |_=>unfold chk at h;cases h
theorem Zlq{T:Tb}{Γ:Gm}{X:Cx}{Y:Yx}{E:XK}{k:Nat}(G:Gd T Γ X Y E k){e:Ex}{x:Expr}(he:PE X x (ZaO T Y E e))(h1:Zjr x=Wx)(hx:∀l o r p,x≠.Compare l o r p):PT X x (Zjj T Y E (.ex e)):=by
 refine(ZmG he (ZmN h1 hx)).imp λZ H Q ⟨S,h,B,rh,rs,f⟩=>⟨S,h,B,rh,rs,Fin.bind (show Fin Y _ H B ((ev T e S h).bind λx h1=>R.ofO (Zcm T.GD x h1) h1) Q E from f) λd h1 x H1 μ1 er g rh1 rd f1=>?_⟩
 obtain⟨b,eb,f1⟩:=f1.ofO;exact⟨b,Zop G.gk.K rh1 rd eb,f1.ok rh1 rfl⟩
noncomputable def Zkq(T:Tb)(Y:Yx)(E:XK):Exs->List (TE×TE)
 |.nil=>[]
 |.cons k r=>match r with
  |.nil=>[]
  |.cons v r'=>(ZaO T Y E k,ZaO T Y E v)::Zkq T Y E r'
section
variable {Y:Yx}{H:Hp}{B:List Yi}{h:Hd}{Dd:Yi}{ys zs:List (Key×V)}
theorem Zle{K:Yk}(hD:H Dd=Wv (.dK ys)){a:Yi}{vs:List V}(t:SqT K H a vs):SqT K (upd H Dd (.dK zs)) a vs:=by
 rcases t with t|t
 . rcases t with t|⟨o,t⟩
   . exact .inl (.inl (by rw[Ze (λz=>by rw[z,hD]at t;cases t)];exact t))
   . exact .inl (.inr ⟨o,by rw[Ze (λz=>by rw[z,hD]at t;cases t)];exact t⟩)
 . exact .inr t
theorem ZlT{K:Yk}(hD:H Dd=Wv (.dK ys)){a:Yi}{vs:List V}(t:FzL K H a vs):FzL K (upd H Dd (.dK zs)) a vs:=by
 rcases t with ⟨o,t⟩|t
 . exact .inl ⟨o,by rw[Ze (λz=>by rw[z,hD]at t;cases t)];exact t⟩
 . exact .inr t
mutual
theorem RD.swapD(hD:H Dd=Wv (.dK ys)):∀{d:D}{v:V},RD Y H B d v->RD Y (upd H Dd (.dK zs)) B d v
 |_,_,.non=>.non
 |_,_,.bl b=>.bl b
 |_,_,.int i=>.int i
 |_,_,.str x ok=>.str x ok
 |_,_,.tup t s=>.tup (Zle hD t) (RDs.swapD hD s)
 |_,_,.ref e=>.ref e
 |_,_,.ty n=>.ty n
 |_,_,.ro t s=>.ro (ZlT hD t) (RDs.swapD hD s)
 |_,_,.kd e=>.kd e
theorem RDs.swapD(hD:H Dd=Wv (.dK ys)):∀{d:List D}{v:List V},RDs Y H B d v->RDs Y (upd H Dd (.dK zs)) B d v
 |_,_,.nil=>.nil
 |_,_,.cons a s=>.cons (RD.swapD hD a) (RDs.swapD hD s)
end
theorem RKs.swapD{κ:Type}(hD:H Dd=Wv (.dK ys)):∀{d:List (κ×D)}{v:List (κ×V)},RKs Y H B d v->RKs Y (upd H Dd (.dK zs)) B d v
 |_,_,.nil=>.nil
 |_,_,.cons a s=>.cons (a.swapD hD) (s.swapD hD)
theorem RO.swapD{a:Yi}{o:DO}(hD:H Dd=Wv (.dK ys))(ne:a≠Dd)(q:RO Y H B a o):RO Y (upd H Dd (.dK zs)) B a o:=by
 cases o with
 |lst ds=>obtain⟨vs,z,s⟩:=q;exact⟨vs,by rw[Ze ne];exact z,s.swapD hD⟩
 |dic ds=>obtain⟨vs,z,s⟩:=q;exact⟨vs,by rw[Ze ne];exact z,s.swapD hD⟩
 |ins C ds=>obtain⟨a1,a2,a3,z,m,s⟩:=q;exact⟨a1,a2,a3,by rw[Ze ne];exact z,m,s.swapD hD⟩
 |fdic ds=>obtain⟨o,vs,z,s⟩:=q;exact⟨o,vs,by rw[Ze ne];exact z,s.swapD hD⟩
end
inductive RPs(Y:Yx)(H:Hp)(B:List Yi):List D->List (V×V)->Prop
 |nil:RPs Y H B [] []
 |cons {k v:D}{r:List D}{x y:V}{ps:List (V×V)}:RD Y H B k x->RD Y H B v y->RPs Y H B r ps->RPs Y H B (k::v::r) ((x,y)::ps)
theorem RPs.pairs{Y:Yx}{H:Hp}{B:List Yi}:∀{ds:List D}{ps:List (V×V)}{kvs:List (Key×D)},RPs Y H B ds ps->ZcN ds=Wv kvs->∃kvs':List (Key×V),ps=kvs'.map (λkv=>(kV kv.1,kv.2))/\RKs Y H B kvs kvs'
 |_,_,_,.nil,e=>by cases e;exact⟨[],rfl,.nil⟩
 |_,_,_,.cons a b s,e=>by
  rw[ZcN]at e;split at e
  . rename_i k r e1 e2;cases e;obtain⟨kvs',rfl,rk⟩:=s.pairs e2;have:=Zdd a e1;subst this;exact⟨(k,_)::kvs',rfl,.cons b rk⟩
  . cases e
theorem RPs.keysOk{Y:Yx}{H:Hp}{B:List Yi}:∀{ds:List D}{ps:List (V×V)}{kvs:List (Key×D)},RPs Y H B ds ps->ZcN ds=Wv kvs->ZcA kvs
 |_,_,_,.nil,e=>by cases e;intro p hp;cases hp
 |_,_,_,.cons a b s,e=>by
  rw[ZcN]at e;split at e
  . rename_i k r e1 e2;cases e;intro p hp x z;rcases O3.mp hp with rfl|hp
    . exact Znn a e1 x z
    . exact s.keysOk e2 p hp x z
  . cases e
theorem Zd2:∀{more kvs:List (Key×D)},ZcA more->ZcA kvs->ZcA (ZdA kvs more)
 |[],kvs,_,h=>h
 |(k,d)::r,kvs,hm,h=>Zd2 (more:=r) (kvs:=putD kvs k d) (λp hp=>hm p (Oh _ hp)) (ZfM h (λx e=>hm (k,d) Oi x e))
theorem RKs.merge{Y:Yx}{H:Hp}{B:List Yi}:∀{more:List (Key×D)}{more':List (Key×V)}{kvs:List (Key×D)}{kvs':List (Key×V)},RKs Y H B more more'->RKs Y H B kvs kvs'->RKs Y H B (ZdA kvs more) (Zdz kvs' more')
 |_,_,_,_,.nil,s=>s
 |_,_,_,_,.cons (k:=k) a r,s=>by have z:=RKs.merge r (s.put k a);exact z
theorem ZmY{T:Tb}{Y:Yx}{E:XK}{H0:Hp}{μ0:List Yi}{Q:VK}{S:Ev}{Z:L2.St}:∀(n:Nat) (ps:Exs) {K:List D->Hd->R D}{H:Hp}{B:List Yi}{h:Hd}{Q1:List (V×V)->Hp->Prop}{Γ:Gm}{ks:List (Option Expr)}{vs:List Expr},ks.length<=n->chkp Γ ps ks vs=Wx ->
 Gr H0 μ0 H B->RH Y H B h->RS Y H B S Z->Fin Y (RD Y) H0 μ0 ((evs T ps S h).bind K) Q E ->
 (∀ds h1 qs H1 μ1,Gr H B H1 μ1->RH Y H1 μ1 h1->RPs Y H1 μ1 ds qs->Fin Y (RD Y) H0 μ0 (K ds h1) Q E->Q1 qs H1)->ZgV (Zkq T Y E ps) Z H Q1:=by
 intro n;induction n with
 |zero=>
  intro ps K H B h Q1 Γ ks vs hl hc g0 rh rs f hq;cases ps with
  |nil=>exact hq [] h [] H B Gr.refl rh .nil f
  |cons k r=>
   cases r with
   |nil=>unfold chkp at hc;cases hc
   |cons v r'=>
    unfold chkp at hc;simp only at hc;split at hc
    . simp at hl
    . cases hc
 |succ n ih=>
  intro ps K H B h Q1 Γ ks vs hl hc g0 rh rs f hq;cases ps with
  |nil=>exact hq [] h [] H B Gr.refl rh .nil f
  |cons k r=>
   cases r with
   |nil=>unfold chkp at hc;cases hc
   |cons v r'=>
    unfold chkp at hc;simp only at hc;split at hc
    . rw[Oa]at hc;have f1:Fin Y (RD Y) H0 μ0 ((ev T k S h).bind λx h1=>(ev T v S h1).bind λy h2=>(evs T r' S h2).bind λxs h3=>K (x::y::xs) h3) Q E:=by
       have e:(evs T (.cons k (.cons v r')) S h).bind K=(ev T k S h).bind λx h1=>(ev T v S h1).bind λy h2=>(evs T r' S h2).bind λxs h3=>K (x::y::xs) h3:=by show((ev T k S h).bind λx h1=>((ev T v S h1).bind λy h2=>(evs T r' S h2).bind λxs h3=>R.ok (y::xs) h3).bind λxs h2=>R.ok (x::xs) h2).bind K=_;simp only[R.bind_assoc,R.bind_ok]
       rw[<- e];exact f
      refine⟨S,h,B,rh,rs,Fin.bindB g0 f1 λd h1 x H1 μ1 _ g1 rh1 rd f2=>?_⟩;refine⟨S,h1,μ1,rh1,rs.mono rh g1,Fin.bindB (g0.trans g1) f2 λe h2 y H2 μ2 _ g2 rh2 re f3=>?_⟩;refine ih r' (by simpa using hl) hc.2 ((g0.trans g1).trans g2) rh2 ((rs.mono rh g1).mono rh1 g2) f3 λds h3 qs H3 μ3 g3 rh3 rp f4=>?_;exact hq (d::e::ds) h3 ((x,y)::qs) H3 μ3 ((g1.trans g2).trans g3) rh3 (.cons ((rd.mono rh1 g2).mono rh2 g3) (re.mono rh2 g3) rp) f4
    . cases hc
theorem ZpW{T:Tb}{Y:Yx}(ps:Exs){Γ:Gm}{X:Cx}{E:XK}{k:Nat}{ks:List (Option Expr)}{vs:List Expr}{pos:Pos}(G:Gd T Γ X Y E k)(h15:ks.length<=15)(hc:chkp Γ ps ks vs=Wx)(hp:PPs X pos ks vs (Zkq T Y E ps))(hall:ks.all (·.isSome)=Wx)(hl:ks.length=vs.length):PE X (.Dict ks vs pos) (ZaO T Y E (.dictl ps)):=by
 by_cases h0:ks=[]
 . subst h0;cases vs with
   |cons a b=>cases hl
   |nil=>
    cases ps with
    |cons k r=>
     cases r with
     |nil=>unfold chkp at hc;cases hc
     |cons v r'=>unfold chkp at hc;cases hc
    |nil=>refine ZmW.imp λZ H Q ⟨S,h,B,rh,rs,f⟩ p hp=>?_;have f:Fin Y (RD Y) H B (ZcH (.dic []) h) Q E:=f;exact f.new rh hp ⟨[],Zl,.nil⟩ (λp hp=>by cases hp)
 . refine(Zo8 hp hall hl h0 h15).imp λZ H Q ⟨S,h,B,rh,rs,f⟩ p hp=>?_;have np:p ∉ B:=λz=>by have:=rh.mut z;rw[hp]at this;exact this
   refine ZmY ks.length ps (Oq _) hc (Gr.lay0 hp) (rh.lay0 hp) (rs.mono rh (Gr.lay0 hp)) f λds h1 qs H1 μ1 g1 rh1 rp f1=>?_;obtain⟨hl1,nD⟩:=g1.out (Zl (H:=H)) np;have g01:Gr H B H1 μ1:=(Gr.lay0 hp).trans g1;split at f1
   . rename_i kvs ek;obtain⟨hz,f1⟩:=f1.iff;obtain⟨kvs',rfl,rk⟩:=rp.pairs ek;refine⟨hl1,kvs',rfl,by rw[<- rk.length];exact hz,?_⟩;have f2:Fin Y (RD Y) H B (.ok (.ref h1.length) (h1++[.dic (ZdA [] kvs)])) Q E:=f1;have g3:Gr H B (upd H1 p (.dK (Zdz [] kvs'))) (μ1++[p]):=by
      refine⟨λj a e=>?_,λa ha=>?_,λb o hb e=>?_,λb u v e=>by rw[Ze (λz=>by rw[z,hp]at e;cases e)];exact g01.fz b u v e⟩
      . have:=g01.pre j a e;rw[Oe (Ob.mp this).1];exact this
      . rcases OD.mp ha with z|z
        . exact g01.new a z
        . rw[Ox.mp z];exact .inr hp
      . rw[Ze (λz=>by rw[z,hp]at e;cases e)];exact g01.keep b o hb e
     refine f2.at g3 ?_ (.ref (by rw[rh1.len];simp));refine⟨by simp[rh1.len],?_,λj o a e1 e2=>?_,ZjK rh1.ks (show ZcA (ZdA [] kvs)from Zd2 (rp.keysOk ek) (λp hp=>by cases hp))⟩
     . rw[List.nodup_append];refine⟨rh1.nd,by simp,λa ha b hb=>?_⟩;rw[Ox.mp hb];intro z;exact nD (z ▸ ha)
     . by_cases hj:j<h1.length
       . rw[Oe hj]at e1;rw[Oe (by rw[<- rh1.len];exact hj)]at e2;exact((rh1.ob j o a e1 e2).swapD hl1 (λz=>nD (z ▸ O2 e2))).more
       . have hj':j=h1.length:=by have:=(Ob.mp e1).1;simp at this;omega
         subst hj';rw[Om (Oq _)]at e1;rw[Om (by rw[rh1.len];exact Oq _)]at e2;simp[rh1.len]at e1 e2;subst e1;subst e2;exact⟨_,Zl,((rk.merge .nil).swapD hl1).more⟩
   . exact f1.elim
mutual
theorem Zi{T:Tb}{Y:Yx}:∀(e:Ex) {Γ:Gm}{X:Cx}{E:XK}{k:Nat}{x:Expr},Gd T Γ X Y E k->chk Γ e x=Wx->PE X x (ZaO T Y E e)
 |.var i,Γ,X,E,k,x,G,h=>by
  unfold chk at h;split at h
  . rw[Oa,Oa,Oa]at h;obtain⟨⟨⟨h1,h2⟩,h3⟩,h4⟩:=h;refine(Zru (by rw[G.N];exact of_decide_eq_true h1) (G.vis _ h2) (by simpa using h3) (by simpa using h4)).imp λZ H Q ⟨S,h,B,rh,rs,f⟩=>?_;obtain⟨d,e,f⟩:=Fin.ofO (show Fin Y (RD Y) H B (R.ofO (S[i]?).join h) Q E from f);obtain⟨v,e1,rd⟩:=rs.var e;exact⟨v,e1,f.ok rh rd⟩
  . cases h
 |.cst d,Γ,X,E,k,x,G,h=>ZnU G (by unfold chk at h;exact h)
 |.glo y,Γ,X,E,k,x,G,h=>by
  unfold chk at h;split at h
  . rw[Oa]at h;have e:=of_decide_eq_true h.1;subst e;obtain⟨g1,g2⟩:=G.gl h.2;intro pins s Z H Q I ⟨S,h,B,rh,rs,f⟩;obtain⟨d,e,f⟩:=Fin.ofO (show Fin Y (RD Y) H B (R.ofO (T.G y) h) Q E from f);obtain⟨v,u,hm,rv,rd⟩:=G.gk.g y d e;exact Zo7 g1 hm rv g2 pins s Z H Q I (f.ok rh (rd H B))
  . cases h
 |.bin op a b,Γ,X,E,k,x,G,h=>by
  unfold chk at h;split at h
  . rw[Oa,Oa]at h;have e:=of_decide_eq_true h.1.1;subst e;exact(Ztv (ZrL G.gk.K op) (Zi a G h.1.2) (Zi b G h.2)).imp λZ H Q ⟨S,h,B,rh,rs,f⟩=>Zlg rh rs f
  . cases h
 |.cmp op a b,Γ,X,E,k,x,G,h=>by
  unfold chk at h;split at h
  . rw[Oa,Oa,Oa]at h;have e:=of_decide_eq_true h.1.1.1;subst e;exact(ZkD (Zej G.room G.h60 G.gk op) (Zi a G h.1.1.2) (Zi b G h.1.2) (Zda h.2)).imp λZ H Q ⟨S,h,B,rh,rs,f⟩=>Zlg rh rs f
  . cases h
 |.cmp2 o1 o2 a b c,Γ,X,E,k,x,G,h=>by
  unfold chk at h;split at h
  . rw[Oa,Oa,Oa,Oa,Oa]at h;obtain⟨⟨⟨⟨⟨h1,h2⟩,h3⟩,h4⟩,h5⟩,h6⟩:=h;have e1:=of_decide_eq_true h1;have e2:=of_decide_eq_true h2;subst e1 e2;refine(ZmX (Zej (E:=E) G.room G.h60 G.gk o1) (Zej (E:=E) G.room G.h60 G.gk o2) (Zi a G h3) (Zi b G h4) (Zi c G h5) (Zda h6)).imp λZ H Q ⟨S,h,B,rh,rs,f⟩=>?_;refine⟨S,h,B,rh,rs,Fin.bind f λd h1 x H1 μ1 _ g rh1 rd f1=>⟨S,h1,μ1,rh1,rs.mono rh g,f1.bind λe h2 y H2 μ2 _ g2 rh2 re f2=>⟨d,e,h2,μ2,rh2,rd.mono rh1 g2,re,f2.bind λr h3 z H3 μ3 _ g3 rh3 rz f3=>?_⟩⟩⟩;cases rz with
    |bl q=>
     refine⟨q,rfl,?_⟩;cases q with
     |true=>refine Zhk ⟨S,h3,μ3,rh3,((rs.mono rh g).mono rh1 g2).mono rh2 g3,Fin.bind f3 λd4 h4 w H4 μ4 _ g4 rh4 rw' f4=>⟨e,d4,h4,μ4,rh4,(re.mono rh2 g3).mono rh3 g4,rw',f4⟩⟩
     |false=>exact Zhl (Fin.ok (show Fin Y (RD Y) H3 μ3 (.ok (.bl Wy) h3) Q E from f3) rh3 (.bl _))
    |_=>exact f3.elim
  . cases h
 |.neg a,Γ,X,E,k,x,G,h=>by
  unfold chk at h;split at h
  . refine(Ztt ZqN (Zi a G h)).imp λZ H Q ⟨S,h,B,rh,rs,f⟩=>⟨S,h,B,rh,rs,Fin.bind f λd h1 x H1 μ1 _ g rh1 rd f1=>?_⟩
    cases rd with
    |int i=>exact⟨i,rfl,Fin.ok f1 rh1 (.int _)⟩
    |_=>exact f1.elim
  . cases h
 |.nt a,Γ,X,E,k,x,G,h=>by
  unfold chk at h;split at h
  . refine(Zrx (Zi a G h)).imp λZ H Q ⟨S,h,B,rh,rs,f⟩=>⟨S,h,B,rh,rs,Fin.bind f λd h1 x H1 μ1 _ g rh1 rd f1=>?_⟩
    cases rd with
    |bl i=>exact⟨i,rfl,Fin.ok f1 rh1 (.bl _)⟩
    |_=>exact f1.elim
  . cases h
 |.ands es,Γ,X,E,k,x,G,h=>by
  unfold chk at h;split at h
  . exact and_ok es G h
  . cases h
 |.ors es,Γ,X,E,k,x,G,h=>by
  unfold chk at h;split at h
  . exact or_ok es G h
  . cases h
 |.ite c a b,Γ,X,E,k,x,G,h=>by
  unfold chk at h;split at h
  . rw[Oa,Oa]at h;refine(ZmV (tst_ok c G h.1.1) (Zi a G h.1.2) (Zi b G h.2)).imp λZ H Q ⟨S,h,B,rh,rs,f⟩=>⟨S,h,B,rh,rs,Fin.bind f λd h1 x H1 μ1 _ g rh1 rd f1=>?_⟩
    subst rd;cases d with
    |true=>exact Zhk ⟨S,h1,μ1,rh1,rs.mono rh g,f1⟩
    |false=>exact Zhl ⟨S,h1,μ1,rh1,rs.mono rh g,f1⟩
  . cases h
 |.tupl es,Γ,X,E,k,x,G,h=>by
  unfold chk at h;split at h
  . refine(Zrv (evs_ok es G h)).imp λZ H Q ⟨S,h,B,rh,rs,f⟩=>⟨S,h,B,rh,rs,Fin.bind f λd h1 x H1 μ1 _ g rh1 rd f1=>?_⟩
    obtain⟨hz,f1⟩:=f1.iff;exact⟨by rw[<- rd.length];exact hz,λp hp=>f1.tup rh1 hp rd⟩
  . cases h
 |.lstl es,Γ,X,E,k,x,G,h=>by
  unfold chk at h;split at h
  . refine(Zry (evs_ok es G h)).imp λZ H Q ⟨S,h,B,rh,rs,f⟩=>⟨S,h,B,rh,rs,Fin.bind f λd h1 x H1 μ1 _ g rh1 rd f1=>?_⟩
    obtain⟨hz,f1⟩:=f1.iff;exact⟨by rw[<- rd.length];exact hz,λp hp=>f1.new rh1 hp ⟨_,Zl,rd.mono rh1 (Gr.lay hp)⟩⟩
  . cases h
 |.ix a i,Γ,X,E,k,x,G,h=>by
  unfold chk at h;split at h
  . rw[Oa,Oa]at h;exact(Ztw (Zpk G.gk) (Zi a G h.1.1) (Zi i G h.1.2) (Zmk h.2)).imp λZ H Q ⟨S,h,B,rh,rs,f⟩=>Zlg rh rs f
  . cases h
 |.sl a lo hi,Γ,X,E,k,x,G,h=>by
  unfold chk at h;split at h
  . rw[Oa,Oa]at h;refine(ZmQ (Zpi (E:=E) G.gk.K) (Zi a G h.1.1) (evo_ok lo G h.1.2) (evo_ok hi G h.2)).imp λZ H Q ⟨S,h,B,rh,rs,f⟩=>⟨S,h,B,rh,rs,Fin.bind f λd h1 x H1 μ1 _ g rh1 rd f1=>⟨S,h1,μ1,rh1,rs.mono rh g,Fin.bind f1 λl h2 l' H2 μ2 _ g2 rh2 rl f2=>⟨S,h2,μ2,rh2,(rs.mono rh g).mono rh1 g2,Fin.bind f2 λu h3 u' H3 μ3 _ g3 rh3 ru f3=>?_⟩⟩⟩
    subst rl ru;exact⟨d,h3,μ3,rh3,(rd.mono rh1 g2).mono rh2 g3,f3⟩
  . cases h
 |.blt f es,Γ,X,E,k,x,G,h=>by
  unfold chk at h;split at h
  . rename_i y ys _;rw[Oa,Oa]at h;have e:=of_decide_eq_true h.1.1;subst e;have hs:=h.2;have st:Zaj y=Wx:=by
     cases es with
     |nil=>rw[chks]at hs;cases hs
     |cons e r=>rw[chks,Oa,Oa]at hs;exact hs.1.2
    have sp:∀pos,(YS pos (YA ys X.env)).any (·.1)=Wy:=by
     cases es with
     |nil=>rw[chks]at hs;cases hs
     |cons e r=>rw[chks,Oa,Oa]at hs;exact Zbm Γ X.env r ys hs.2
    exact(Zsp G f ((Oa _ _).mp h.1.2).1 (G.gl ((Oa _ _).mp h.1.2).2).1 (evs_ok es G h.2) (Zp X.env st) (sp _)).imp λZ H Q ⟨S,h,B,rh,rs,f⟩=>⟨S,h,B,rh,rs,Fin.bind f λd h1 x H1 μ1 _ g rh1 rd f1=>⟨d,h1,μ1,rh1,rd,f1⟩⟩
  . cases h
 |.call f es,Γ,X,E,k,x,G,h=>by
  unfold chk at h;split at h
  . rename_i y ys _;rw[Oa,Oa,Oa]at h;have e:=of_decide_eq_true h.1.1.1;subst e;obtain⟨ps,hd⟩:=G.defs _ (of_decide_eq_true h.1.1.2);obtain⟨g1,g2⟩:=G.gl h.1.2;have hs:=h.2;have st:Zaj y=Wx:=by
     cases es with
     |nil=>rw[chks]at hs;cases hs
     |cons e r=>rw[chks,Oa,Oa]at hs;exact hs.1.2
    have sp:∀pos,(YS pos (YA ys X.env)).any (·.1)=Wy:=by
     cases es with
     |nil=>rw[chks]at hs;cases hs
     |cons e r=>rw[chks,Oa,Oa]at hs;exact Zbm Γ X.env r ys hs.2
    exact(ZrB hd G.room g1 G.pass (evs_ok es G h.2) g2 (Zp X.env st) (sp _)).imp λZ H Q ⟨S,h,B,rh,rs,f⟩=>⟨S,h,B,rh,rs,Fin.bind f λd h1 x H1 μ1 _ g rh1 rd f1=>⟨d,h1,μ1,rh1,rd,f1⟩⟩
  . cases h
 |.meth m o es,Γ,X,E,k,x,G,h=>by
  unfold chk at h;split at h
  . rename_i xo n ap ys cp;rw[Oa,Oa,Oa,Oa,Oa]at h;obtain⟨⟨⟨⟨⟨h1,h2⟩,h3⟩,h4⟩,h5⟩,h6⟩:=h;have e:=of_decide_eq_true h1;subst e;obtain⟨sl,ty⟩:=ZtQ m;have tyl:∀{H1:Hp}{μ1:List Yi}{h1:Hd}{d:D}{v:V},RH Y H1 μ1 h1->RD Y H1 μ1 d v->Zb8 d h1=Wx->tyV X.K "list" v H1:=by
     intro H1 μ1 h1 d v rh r il;cases r with
     |ref q=>
      rename_i i a;have:∃xs,h1[i]? = Wv (.lst xs):=by
       unfold Zb8 at il;simp only at il;split at il
       . exact⟨_,by assumption⟩
       . cases il
      obtain⟨xs,hx⟩:=this;obtain⟨vs,hl,_⟩:=rh.ob i _ a hx q;exact .inl ⟨rfl,vs,.of hl⟩
     |_=>cases il
    cases ys with
    |nil=>
     refine(ZrC PySem.F.plainAttrs_list sl ty (ZkJ (Y:=Y) (E:=E) G.gk.K m) (Zi o G h2) (Ze9 h3) h6).imp λZ H Q ⟨S,h,B,rh,rs,f⟩=>⟨S,h,B,rh,rs,Fin.bind f λd h1 x H1 μ1 _ g rh1 rd f1=>?_⟩
     obtain⟨il,f1⟩:=f1.iff;refine⟨tyl rh1 rd il,?_⟩;cases es with
     |nil=>exact⟨d,[],h1,μ1,rh1,rd,.nil,f1⟩
     |cons e r=>unfold chks at h4;cases h4
    |cons y ys=>
     have st:Zaj y=Wx:=by
      cases es with
      |nil=>unfold chks at h4;cases h4
      |cons e r=>unfold chks at h4;rw[Oa,Oa]at h4;exact h4.1.2
     have sp:∀pos,(YS pos (YA ys X.env)).any (·.1)=Wy:=by
      cases es with
      |nil=>unfold chks at h4;cases h4
      |cons e r=>unfold chks at h4;rw[Oa,Oa]at h4;exact Zbm Γ X.env r ys h4.2
     refine(Ztx PySem.F.plainAttrs_list sl ty (ZkJ (Y:=Y) (E:=E) G.gk.K m) (Zi o G h2) (evs_ok es G h4) (Ze9 h3) ?_ h6 (Zp X.env st) (sp _)).imp λZ H Q ⟨S,h,B,rh,rs,f⟩=>⟨S,h,B,rh,rs,Fin.bind f λd h1 x H1 μ1 _ g rh1 rd f1=>?_⟩
     . rw[Zeg Γ X.env es (y::ys) h4];have:=of_decide_eq_true h5;have h30:Wz ((y::ys).length+([]:List Keyword).length+(if ([]:List Keyword).isEmpty then 0 else 1)<30)=Wx:=by rw[decide_eq_true_eq];simp only[List.isEmpty_nil,List.length_nil,if_true];omega
       rw[h30];rfl
     . obtain⟨il,f1⟩:=f1.iff;exact⟨tyl rh1 rd il,S,h1,μ1,rh1,rs.mono rh g,f1.bind λds h2 xs H2 μ2 _ g2 rh2 rds f2=>⟨d,ds,h2,μ2,rh2,rd.mono rh1 g2,rds,f2⟩⟩
  . cases h
 |.comp NC js it g c e,Γ,X,E,k,x,G,h=>by
  unfold chk at h;split at h
  . rename_i scope _;rw[Oa,Oa,Oa,Oa,Oa,Oa,Oa]at h;obtain⟨⟨⟨⟨⟨⟨⟨h0,h1⟩,h2⟩,h3⟩,h4⟩,h5⟩,h6⟩,h7⟩:=h;have S_:=ZiQ h1;rw[<- G.N,<- G.sc h0]at S_;have Gc:=λ(pins:List (Yi×Obj)) (Z:L2.St) (C:Yi) (s3:Yb) (H3:Hp) (fp:List Yi) (i3:Inv X pins Z H3 s3) (j3:∀b∈fp,Zbl X pins H3 b) (k3:C=s3.heap.objs.size)=>G.comp NC scope C s3 H3 fp S_.nd (G.passC h0 pins Z NC scope C s3 H3 fp i3 j3 k3);rw[OC]at h5;refine(Zo9 (g:=tgR X.K g) (tc:=λZ H Q=>∃S h B,RH Y H B h/\RS Y H B S Z/\Fin Y (λ_ _ (a b:Bool)=>a=b) H B (tsto T c S h) Q E) (te:=ZaO T Y E e) S_ rfl G.calm (evi_ok it G h2) (λpins Z C s3 H3 fp i3 j3 k3=>⟨ZkC rfl S_.nd rfl (λx hx=>?_) h4,?_,Zi e (Gc pins Z C s3 H3 fp i3 j3 k3) h7⟩) (ZsV X.K g) (λj hj=>of_decide_eq_true (h5 j (List.mem_range.mpr hj))) (Zjh X.env h3)).imp
     λZ H Q ⟨S,h,B,rh,rs,f⟩=>⟨S,h,B,rh,rs,Fin.bind f λw h1 J H1 μ1 _ g1 rh1 wj f1 D hD=>ZkW G.gk.K (λ_ _ _ z=>z) rh1 (rs.mono rh g1) wj f1 hD⟩
    . have hl:=of_decide_eq_true hx;have:(relabel scope X.env).names.lookup x=Wv .local:=by rw[ZaB,hl];rfl
      exact⟨.inl this,.inr this⟩
    . exact ifs_ok c (Gc pins Z C s3 H3 fp i3 j3 k3) h6
  . cases h
 |.sorts e,Γ,X,E,k,x,G,h=>by unfold chk at h;cases h
 |.trev e,Γ,X,E,k,x,G,h=>by unfold chk at h;cases h
 |.lrv e,Γ,X,E,k,x,G,h=>by unfold chk at h;cases h
 |.tix o e,Γ,X,E,k,x,G,h=>by unfold chk at h;cases h
 |.lix o e,Γ,X,E,k,x,G,h=>by unfold chk at h;cases h
 |.lin a b,Γ,X,E,k,x,G,h=>by
  unfold chk at h;split at h
  . rw[Oa,Oa,Oa]at h;have e:=of_decide_eq_true h.1.1.1;subst e;exact(ZkD (Zig G.room G.h60 G.gk.K) (Zi a G h.1.1.2) (Zi b G h.1.2) (Zda h.2)).imp λZ H Q ⟨S,h,B,rh,rs,f⟩=>Zlg rh rs f
  . cases h
 |.any,Γ,X,E,k,x,G,h=>λpins s Z H Q I ⟨S,h,B,rh,rs,f⟩=>f.elim
 |.att Cs o f,Γ,X,E,k,x,G,h=>by
  unfold chk at h;split at h
  . rw[Oa,Oa,Oa,Oa]at h;obtain⟨⟨⟨⟨h1,h2⟩,h3⟩,h4⟩,h5⟩:=h;have e:=of_decide_eq_true h1;subst e;exact(ZrA (Zi o G h2) (Ze9 h3)).imp λZ H Q ⟨S,h,B,rh,rs,f⟩=>⟨S,h,B,rh,rs,Fin.bind f λd h1 x H1 μ1 _ g rh1 rd f1=>Zst G h4 (of_decide_eq_true h5) rh1 rd f1⟩
  . cases h
 |.mk C es,Γ,X,E,k,x,G,h=>by
  unfold chk at h;split at h
  . rw[Oa,Oa,Oa]at h;obtain⟨⟨⟨h1,h2⟩,h3⟩,h4⟩:=h;have e:=of_decide_eq_true h1;subst e;exact ZtR G (of_decide_eq_true h2) h3 h4 (evs_ok es G h4)
  . cases h
 |.mcl C m o es,Γ,X,E,k,x,G,h=>by
  unfold chk at h;split at h
  . rw[Oa,Oa,Oa,Oa,Oa,Oa]at h;obtain⟨⟨⟨⟨⟨⟨h1,h2⟩,h3⟩,h4⟩,h5⟩,h6⟩,h7⟩:=h;have e:=of_decide_eq_true h1;subst e;exact ZrR G (of_decide_eq_true h5) h3 h4 (of_decide_eq_true h6) h7 (Zi o G h2) (evs_ok es G h4)
  . cases h
 |.maxd a d,Γ,X,E,k,x,G,h=>by
  unfold chk at h;split at h
  . rw[Oa,Oa,Oa,Oa,Oa]at h;obtain⟨⟨⟨⟨⟨h1,h2⟩,h3⟩,h4⟩,h5⟩,h6⟩:=h;have e1:=of_decide_eq_true h1;have e2:=of_decide_eq_true h2;subst e1 e2;refine(Zo5 (G.gl h3).1 (G.blt _ (by decide)) G.calm (Zi a G h4) (Zi d G h6) (Zp X.env h5)).imp λZ H Q ⟨S,h,B,rh,rs,f⟩=>⟨S,h,B,rh,rs,Fin.bind f λx h1 v H1 μ1 _ g rh1 rx f1=>⟨S,h1,μ1,rh1,rs.mono rh g,Fin.bind f1 λy h2 u H2 μ2 _ g2 rh2 ry f2=>?_⟩⟩
    cases ry with
    |int d=>obtain⟨r,er,f2⟩:=Fin.ofO (show Fin Y (RD Y) H2 μ2 (R.ofO (((lstOf x h2).bind intsOf).map λns=>.int (ZcQ ns d)) h2) Q E from f2);obtain⟨ns,e2,rfl⟩:=Oo.mp er;obtain⟨zs,e3,e4⟩:=Option.bind_eq_some_iff.mp e2;obtain⟨a,vs,rfl,hl,rv⟩:=(rx.mono rh1 g2).lstOf rh2 e3;rw[ZfQ rv e4]at hl;exact⟨a,ns,d,rfl,rfl,G.gk.K ▸ hl,f2.ok rh2 (.int _)⟩
    |_=>exact f2.elim
  . cases h
 |.dictl ps,Γ,X,E,k,x,G,h=>by
  unfold chk at h;split at h
  . rw[Oa]at h;obtain⟨p1,p2,p3⟩:=pairs_ok ps G h.2;exact ZpW ps G (of_decide_eq_true h.1) h.2 p1 p2 p3
  . cases h
theorem evs_ok{T:Tb}{Y:Yx}:∀(e:Exs) {Γ:Gm}{X:Cx}{E:XK}{k:Nat}{x:List Expr},Gd T Γ X Y E k->chks Γ e x=Wx->PA X x (ZoB T Y E e)
 |.nil,Γ,X,E,k,x,G,h=>by
  rw[chks]at h;cases x with
  |nil=>exact ZfD.imp λZ H Q ⟨S,h,B,rh,rs,f⟩=>Fin.ok (show Fin Y (RDs Y) H B (.ok [] h) Q E from f) rh .nil
  |cons a b=>cases h
 |.cons e r,Γ,X,E,k,x,G,h=>by
  cases x with
  |nil=>rw[chks]at h;cases h
  |cons y ys=>
   rw[chks,Oa,Oa]at h;exact(ZdX (Zi e G h.1.1) (evs_ok r G h.2) (Zp X.env h.1.2)).imp λZ H Q ⟨S,h,B,rh,rs,f⟩=>⟨S,h,B,rh,rs,Fin.bind f λd h1 x H1 μ1 _ g rh1 rd f1=>⟨S,h1,μ1,rh1,rs.mono rh g,f1.bind λds h2 xs H2 μ2 _ g2 rh2 rds f2=>f2.ok rh2 (.cons (rd.mono rh1 g2) rds)⟩⟩
theorem and_ok{T:Tb}{Y:Yx}:∀(e:Exs) {Γ:Gm}{X:Cx}{E:XK}{k:Nat}{x:List Expr}{pos:Pos},Gd T Γ X Y E k->chks Γ e x=Wx->PE X (.BoolOp .And x pos) (ZaO T Y E (.ands e))
 |.nil,Γ,X,E,k,x,pos,G,h=>λpins s Z H Q I ⟨S,h,B,rh,rs,f⟩=>f.elim
 |.cons e r,Γ,X,E,k,x,pos,G,h=>by
  cases x with
  |nil=>rw[chks]at h;cases h
  |cons y ys=>
   rw[chks,Oa,Oa]at h;cases r with
   |nil=>
    have h2:=h.2;rw[chks]at h2;cases ys with
    |nil=>exact(ZmR (Zi e G h.1.1)).imp λZ H Q q=>q
    |cons a b=>cases h2
   |cons e' r'=>
    cases ys with
    |nil=>have h2:=h.2;rw[chks]at h2;cases h2
    |cons z zs=>
     refine(ZrD (Zi e G h.1.1) (and_ok (.cons e' r') G h.2)).imp λZ H Q ⟨S,h,B,rh,rs,f⟩=>⟨S,h,B,rh,rs,Fin.bind f λd h1 x H1 μ1 _ g rh1 rd f1=>?_⟩
     cases rd with
     |bl c=>
      refine⟨c,rfl,?_⟩;cases c with
      |true=>exact Zhk ⟨S,h1,μ1,rh1,rs.mono rh g,f1⟩
      |false=>exact Zhl (Fin.ok f1 rh1 (.bl _))
     |_=>exact f1.elim
theorem or_ok{T:Tb}{Y:Yx}:∀(e:Exs) {Γ:Gm}{X:Cx}{E:XK}{k:Nat}{x:List Expr}{pos:Pos},Gd T Γ X Y E k->chks Γ e x=Wx->PE X (.BoolOp .Or x pos) (ZaO T Y E (.ors e))
 |.nil,Γ,X,E,k,x,pos,G,h=>λpins s Z H Q I ⟨S,h,B,rh,rs,f⟩=>f.elim
 |.cons e r,Γ,X,E,k,x,pos,G,h=>by
  cases x with
  |nil=>rw[chks]at h;cases h
  |cons y ys=>
   rw[chks,Oa,Oa]at h;cases r with
   |nil=>
    have h2:=h.2;rw[chks]at h2;cases ys with
    |nil=>exact(ZmR (Zi e G h.1.1)).imp λZ H Q q=>q
    |cons a b=>cases h2
   |cons e' r'=>
    cases ys with
    |nil=>have h2:=h.2;rw[chks]at h2;cases h2
    |cons z zs=>
     refine(Ztu (Zi e G h.1.1) (or_ok (.cons e' r') G h.2)).imp λZ H Q ⟨S,h,B,rh,rs,f⟩=>⟨S,h,B,rh,rs,Fin.bind f λd h1 x H1 μ1 _ g rh1 rd f1=>?_⟩
     cases rd with
     |bl c=>
      refine⟨c,rfl,?_⟩;cases c with
      |true=>exact Zhk (Fin.ok f1 rh1 (.bl _))
      |false=>exact Zhl ⟨S,h1,μ1,rh1,rs.mono rh g,f1⟩
     |_=>exact f1.elim
theorem evo_ok{T:Tb}{Y:Yx}:∀(e:Option Ex) {Γ:Gm}{X:Cx}{E:XK}{k:Nat}{x:Option Expr},Gd T Γ X Y E k->chko Γ e x=Wx->PO X x (Zu4 T Y E e)
 |none,Γ,X,E,k,x,G,h=>by
  unfold chko at h;cases x with
  |none=>exact ZoZ.imp λZ H Q ⟨S,h,B,rh,rs,f⟩=>Fin.ok (show Fin Y _ H B (.ok Ww h) Q E from f) rh rfl
  |some a=>cases h
 |some e,Γ,X,E,k,x,G,h=>by
  unfold chko at h;cases x with
  |none=>cases h
  |some a=>
   refine(ZoY (Zi e G h)).imp λZ H Q ⟨S,h,B,rh,rs,f⟩=>⟨S,h,B,rh,rs,Fin.bind f λd h1 x H1 μ1 _ g rh1 rd f1=>?_⟩
   cases rd with
   |int i=>exact⟨i,rfl,Fin.ok f1 rh1 rfl⟩
   |_=>exact f1.elim
theorem tst_ok{T:Tb}{Y:Yx}:∀ (e:Tx) {Γ:Gm}{X:Cx}{E:XK}{k:Nat}{x:Expr},Gd T Γ X Y E k->chkt Γ e x=Wx->PT X x (Zjj T Y E e)
 | .ex e,Γ,X,E,k,x,G,h=>by
   unfold chkt at h;rw [Oa] at h;have pl:=Zlq G (Zi e G h.2) h.1;by_cases hx:∀ l o r p,x≠.Compare l o r p
   . exact pl hx
   . have h2:=h.2;cases e with
     | cmp op a b =>
       unfold chk at h2;split at h2
       . rw [Oa,Oa,Oa] at h2;have e:=of_decide_eq_true h2.1.1.1;subst e;exact ZpZ G (Zi a G h2.1.1.2) (Zi b G h2.1.2) h2.2
       . cases h2
     | lin a b =>
       unfold chk at h2;split at h2
       . rw [Oa,Oa,Oa] at h2;have e:=of_decide_eq_true h2.1.1.1;subst e;exact ZpD G (Zi a G h2.1.1.2) (Zi b G h2.1.2) h2.2
       . cases h2
     | cmp2 o1 o2 a b c =>
       unfold chk at h2;split at h2
       . rw [Oa,Oa,Oa,Oa,Oa] at h2;obtain ⟨⟨⟨⟨⟨h1,h2⟩,h3⟩,h4⟩,h5⟩,h6⟩:=h2;have e1:=of_decide_eq_true h1;have e2:=of_decide_eq_true h2;subst e1 e2;exact ZnX G (Zi a G h3) (Zi b G h4) (Zi c G h5) h6
       . cases h2
     | _ =>
       refine pl fun l o r p z=>?_;subst z;rcases Zp0 h2 with ⟨_,_,_,q⟩|⟨_,_,_,_,_,q⟩|⟨_,_,q⟩<;>cases q
 | .ands ts,Γ,X,E,k,x,G,h=>by
   unfold chkt at h;split at h
   . exact (tand_ok ts G h).pt
   . cases h
 | .ors ts,Γ,X,E,k,x,G,h=>by
   unfold chkt at h;split at h
   . exact (tor_ok ts G h).pt
   . cases h
 | .nt t,Γ,X,E,k,x,G,h=>by
   unfold chkt at h;split at h
   . exact (Zrl (tst_ok t G h)).imp fun Z H Q ⟨S,h,B,rh,rs,f⟩=>⟨S,h,B,rh,rs,Fin.bind (show Fin Y _ H B ((tst T t S h).bind fun c h1=>.ok (!c) h1) Q E from f) fun d h1 x H1 μ1 er g rh1 rd f1=>by
       subst rd;exact Fin.ok f1 rh1 rfl⟩
   . cases h
theorem tand_ok{T:Tb}{Y:Yx}:∀(e:Txs) {Γ:Gm}{X:Cx}{E:XK}{k:Nat}{x:List Expr}{pos:Pos},Gd T Γ X Y E k->chkts Γ e x=Wx->PW X (.BoolOp .And x pos) (Zjj T Y E (.ands e))
 |.one t,Γ,X,E,k,x,pos,G,h=>by
  unfold chkts at h;split at h
  . exact(ZoR (tst_ok t G h)).imp λZ H Q q=>q
  . cases h
 |.cons t ts,Γ,X,E,k,x,pos,G,h=>by
  unfold chkts at h;split at h
  . rw[Oa]at h;refine(Zrj (tst_ok t G h.1) (tand_ok ts G h.2)).imp λZ H Q ⟨S,h,B,rh,rs,f⟩=>⟨S,h,B,rh,rs,Fin.bind (show Fin Y _ H B ((tst T t S h).bind λc h1=>if c then tstAnd T ts S h1 else .ok Wy h1) Q E from f) λd h1 x H1 μ1 er g rh1 rd f1=>?_⟩
    subst rd;cases d with
    |true=>exact Zhk ⟨S,h1,μ1,rh1,rs.mono rh g,f1⟩
    |false=>exact Zhl (Fin.ok f1 rh1 rfl)
  . cases h
theorem tor_ok{T:Tb}{Y:Yx}:∀(e:Txs) {Γ:Gm}{X:Cx}{E:XK}{k:Nat}{x:List Expr}{pos:Pos},Gd T Γ X Y E k->chkts Γ e x=Wx->PW X (.BoolOp .Or x pos) (Zjj T Y E (.ors e))
 |.one t,Γ,X,E,k,x,pos,G,h=>by
  unfold chkts at h;split at h
  . exact(Zri (tst_ok t G h)).imp λZ H Q q=>q
  . cases h
 |.cons t ts,Γ,X,E,k,x,pos,G,h=>by
  unfold chkts at h;split at h
  . rw[Oa]at h;refine(Ztq (tst_ok t G h.1) (tor_ok ts G h.2)).imp λZ H Q ⟨S,h,B,rh,rs,f⟩=>⟨S,h,B,rh,rs,Fin.bind (show Fin Y _ H B ((tst T t S h).bind λc h1=>if c then .ok Wx h1 else tstOr T ts S h1) Q E from f) λd h1 x H1 μ1 er g rh1 rd f1=>?_⟩
    subst rd;cases d with
    |true=>exact Zhk (Fin.ok f1 rh1 rfl)
    |false=>exact Zhl ⟨S,h1,μ1,rh1,rs.mono rh g,f1⟩
  . cases h
theorem ifs_ok{T:Tb}{Y:Yx}:∀(c:Option Tx) {Γ:Gm}{X:Cx}{E:XK}{k:Nat}{x:List Expr},Gd T Γ X Y E k->chkf Γ c x=Wx->PIf X x (λZ H Q=>∃S h B,RH Y H B h/\RS Y H B S Z/\Fin Y (λ_ _ (a b:Bool)=>a=b) H B (tsto T c S h) Q E)
 |none,Γ,X,E,k,x,G,h=>by
  unfold chkf at h;cases x with
  |nil=>intro pins s Z H Q I ⟨S,h,B,rh,rs,f⟩;exact Zo1 pins s Z H Q I (Fin.ok (show Fin Y (λ_ _ (a b:Bool)=>a=b) H B (.ok Wx h) Q E from f) rh rfl)
  |cons a b=>cases h
 |some t,Γ,X,E,k,x,G,h=>by
  unfold chkf at h;split at h
  . exact Zo0 (tst_ok t G h)
  . cases h
theorem evi_ok{T:Tb}{Y:Yx}:∀(e:Ix) {Γ:Gm}{X:Cx}{E:XK}{k:Nat}{x tg:Expr},Gd T Γ X Y E k->chki Γ e tg x=Wx->PI X tg x (Zu5 T Y E e)
 |.pl e,Γ,X,E,k,x,tg,G,h=>by
  unfold chki at h;refine(Zrs (Zi e G h)).imp λZ H Q ⟨S,h,B,rh,rs,f⟩=>⟨S,h,B,rh,rs,Fin.bind (show Fin Y _ H B ((ev T e S h).bind λx h1=>R.ofO (Zal x h1) h1) Q E from f) λd h1 x H1 μ1 er g rh1 rd f1=>?_⟩
  obtain⟨w,ew,f1⟩:=f1.ofO;exact Zol G.gk.K rh1 rd ew λJ wj=>f1.ok rh1 wj
 |.rng e,Γ,X,E,k,x,tg,G,h=>by
  unfold chki at h;split at h
  . rw[Oa,Oa,Oa]at h;obtain⟨⟨⟨h1,h2⟩,h3⟩,h4⟩:=h;have e1:=of_decide_eq_true h1;subst e1;refine(Zls (G.gl h2).1 (G.blt _ (by decide)) (ZdX (Zi e G h3) ZfD (Zp X.env h4)) (Zp X.env h4)).imp λZ H Q ⟨S,h,B,rh,rs,f⟩=>⟨S,h,B,rh,rs,Fin.bind f λd h1 x H1 μ1 er g rh1 rd f1=>?_⟩
    cases rd with
    |int j=>obtain⟨hz,f1⟩:=Fin.iff (show Fin Y (WJ Y) H1 μ1 (if ZaV j=Wx then .ok ⟨Ww,Zaz 0 j.toNat⟩ h1 else .bad) Q E from f1);unfold ZaV at hz;rw[Oa]at hz;exact⟨j,rfl,of_decide_eq_true hz.1,of_decide_eq_true hz.2,f1.ok rh1 ZqK⟩
    |_=>exact f1.elim
  . cases h
 |.rng2 a b,Γ,X,E,k,x,tg,G,h=>by unfold chki at h;cases h
 |.enu e,Γ,X,E,k,x,tg,G,h=>by
  unfold chki at h;split at h
  . rw[Oa,Oa,Oa,Oa]at h;obtain⟨⟨⟨⟨h1,h2⟩,h3⟩,h4⟩,h5⟩:=h;have e1:=of_decide_eq_true h1;subst e1;have:∃es kk tp,tg=.Tuple es kk tp:=by cases tg<;>first|exact⟨_,_,_,rfl⟩|cases h5
    obtain⟨es,kk,tp,rfl⟩:=this;refine(Zo3 (G.gl h2).1 (G.blt _ (by decide)) (ZdX (Zi e G h3) ZfD (Zp X.env h4)) (Zp X.env h4)).imp λZ H Q ⟨S,h,B,rh,rs,f⟩=>⟨S,h,B,rh,rs,Fin.bind f λd h1 x H1 μ1 er g rh1 rd f1=>?_⟩
    obtain⟨w,ew,f1⟩:=f1.ofO;obtain⟨w0,ew0,rfl⟩:=Oo.mp ew;cases d with
    |ro xs=>
     cases ew0;cases rd with
     |ro t s=>refine⟨_,rfl,⟨_,G.gk.K ▸ t.sq⟩,f1.ok rh1 (Zkj (Zqc G.gk.K rh1 t s) λH2 μ2 h2 g2 rh2 st=>⟨_,G.gk.K ▸ (g2.rdF rh1 t).sq,s.mono rh1 g2⟩)⟩
    |ref i=>
     unfold Zkl at ew0;simp only at ew0;split at ew0
     . rename_i xs hi;cases ew0;obtain⟨a,vs,rfl,hm,hl,s⟩:=rd.lst rh1 hi;refine⟨a,rfl,⟨vs,.of hl⟩,f1.ok rh1 (Zkj (Zl6 hm) λH2 μ2 h2 g2 rh2 st=>?_)⟩;obtain⟨vs2,hl2,s2⟩:=rh2.ob i _ a (Zfj st) (g2.pre i a hm);exact⟨vs2,.of hl2,s2⟩
     . cases ew0
    |_=>cases ew0
  . cases h
 |.rev e,Γ,X,E,k,x,tg,G,h=>by
  unfold chki at h;split at h
  . rw[Oa,Oa,Oa]at h;obtain⟨⟨⟨h1,h2⟩,h3⟩,h4⟩:=h;have e1:=of_decide_eq_true h1;subst e1;refine(Zo2 (G.gl h2).1 (G.blt _ (by decide)) (ZdX (Zi e G h3) ZfD (Zp X.env h4)) (Zp X.env h4)).imp λZ H Q ⟨S,h,B,rh,rs,f⟩=>⟨S,h,B,rh,rs,Fin.bind f λd h1 x H1 μ1 er g rh1 rd f1=>?_⟩
    obtain⟨w,ew,f1⟩:=f1.ofO;obtain⟨w0,ew0,rfl⟩:=Oo.mp ew;cases d with
    |tup xs=>cases ew0;obtain⟨a,vs,rfl,t,s⟩:=rd.tup_inv;exact⟨a,vs,rfl,.inl ⟨G.gk.K ▸ t,f1.ok rh1 (ZqL G.gk.K rh1 t s)⟩⟩
    |ref i=>
     unfold Zgi at ew0;simp only at ew0;split at ew0
     . rename_i xs ex;cases ew0;obtain⟨a,vs,rfl,hi,hl,s⟩:=rd.lst rh1 ex;exact⟨a,vs,rfl,.inr ⟨.of hl,by rw[<- s.length];exact f1.ok rh1 (Zoi hi)⟩⟩
     . cases ew0
    |_=>cases ew0
  . cases h
 |.en1 e,Γ,X,E,k,x,tg,G,h=>by unfold chki at h;cases h
 |.en0 e,Γ,X,E,k,x,tg,G,h=>by unfold chki at h;cases h
 |.dk e,Γ,X,E,k,x,tg,G,h=>by unfold chki at h;cases h
theorem pairs_ok{T:Tb}{Y:Yx}:∀(ps:Exs) {Γ:Gm}{X:Cx}{E:XK}{k:Nat}{ks:List (Option Expr)}{vs:List Expr}{pos:Pos},Gd T Γ X Y E k->chkp Γ ps ks vs=Wx->PPs X pos ks vs (Zkq T Y E ps)/\ks.all (·.isSome)=Wx/\ks.length=vs.length
 |.nil,Γ,X,E,k,ks,vs,pos,G,h=>by
  unfold chkp at h;rw[Oa]at h;cases ks with
  |nil=>cases vs with
   |nil=>exact⟨ZoX,rfl,rfl⟩
   |cons a b=>cases h.2
  |cons a b=>cases h.1
 |.cons e r,Γ,X,E,k,ks,vs,pos,G,h=>by
  cases r with
  |nil=>unfold chkp at h;cases h
  |cons v r'=>
   unfold chkp at h;simp only at h;split at h
   . rw[Oa,Oa]at h;obtain⟨p1,p2,p3⟩:=pairs_ok r' (pos:=pos) G h.2;refine⟨ZmM (Zi e G h.1.1) (Zi v G h.1.2) p1,?_,?_⟩
     . rw[List.all_cons,p2];rfl
     . rw[Os,Os,p3]
   . cases h
end
end IV
end
section
namespace IV
open PySem PySem.Spec PyProof.Rows L2
noncomputable def ZdY:Expr->Bool
 |.ListComp _ _ _ _|.SetComp _ _ _ _|.DictComp _ _ _ _ _=>Wy
 |_=>Wx
noncomputable def Zm9:Expr->Bool
 |.Tuple _ _ _=>Wy
 |_=>Wx
noncomputable def ZiC:Expr->Expr->Bool
 |.Name _ _,.ListComp _ _ _ _=>Wx
 |_,_=>Wy
noncomputable def Zp1(Γ:Gm)(C:Str)(e:Expr):Bool:=match asName e with
 |some c=>Wz (c=C)&&Wz (C∈Γ.kl.xs)&&glb Γ c
 |none=>Wy
noncomputable def Zqw(Γ:Gm)(C:Str)(e:Ex)(x:Expr):Bool:=match x with
 |.Call g as ks _=>Zp1 Γ C g&&ks.isEmpty&&chks Γ (.cons e .nil) as
 |_=>Wy
noncomputable def ZkZ(Γ:Gm)(i:Nat)(e:Ex)(b:List Stmt):Bool:=match b with
 |[s]=>match s with
  |.Assign ts x _=>(match ts with
   |[g]=>Zka Γ.N (ownD Γ.sc) (.nm i) g
   |_=>Wy)&&chk Γ e x
  |_=>Wy
 |_=>Wy
noncomputable def Zqv(Γ:Gm)(i:Nat)(C:Str)(hs:List ExceptHandler):Bool:=match hs with
 |[.ExceptHandler (Wv t) Ww b _]=>Zp1 Γ C t&&ZkZ Γ i (.cst .non) b
 |_=>Wy
theorem ZkY{Γ:Gm}{C:Str}{e:Expr}(h:Zp1 Γ C e=Wx):(∃p,e=.Name C p)/\C∈Γ.kl.xs/\glb Γ C=Wx:=by
 unfold Zp1 at h;cases q:asName e with
 |none=>rw[q]at h;cases h
 |some c=>rw[q]at h;rw[Oa,Oa]at h;obtain⟨p,rfl⟩:=ZdM q;have e:=of_decide_eq_true h.1.1;subst e;exact⟨⟨p,rfl⟩,of_decide_eq_true h.1.2,h.2⟩
theorem ZiV{Γ:Gm}{i:Nat}{e:Ex}{b:List Stmt}(h:ZkZ Γ i e b=Wx):∃n p x q,b=[.Assign [.Name n p] x q]/\Γ.N[i]? = Wv n/\ownD Γ.sc n=Wx/\chk Γ e x=Wx:=by
 unfold ZkZ at h;cases b with
 |nil=>cases h
 |cons s r=>
  cases r with
  |cons _ _=>cases h
  |nil=>
   cases s with
   |Assign ts x q=>
    simp only[Oa]at h;obtain⟨h1,h2⟩:=h;cases ts with
    |nil=>cases h1
    |cons g r=>
     cases r with
     |cons _ _=>cases h1
     |nil=>obtain⟨n,p,rfl,e1,e2⟩:=Za1 h1;exact⟨n,p,x,q,rfl,e1,e2,h2⟩
   |_=>cases h
mutual
noncomputable def ZcW(Γ:Gm):Sx->Stmt->Bool
 |.ret e,s=>match s with
  |.Return (Wv x) _=>chk Γ e x
  |_=>Wy
 |.set g e,s=>match s with
  |.Assign [tg] x _=>Zka Γ.N (ownD Γ.sc) g tg&&chk Γ e x&&((ZdY x&&(!isTup tg || Zm9 x)) || ZiC tg x)
  |_=>Wy
 |.put o i e,s=>match s with
  |.Assign [.Subscript xo xi _] x _=>chk Γ o xo&&chk Γ i xi&&chk Γ e x&&ZfF xi&&ZdY x
  |_=>Wy
 |.aug i op e,s=>match s with
  |.AugAssign (.Name y _) op' x _=>Wz (op=.Add)&&Wz (op'=.Add)&&Wz (Γ.N[i]? = Wv y)&&ownD Γ.sc y&&chk Γ e x
  |_=>Wy
 |.drp e,s=>match s with
  |.Expr x _=>chk Γ e x&&ZdY x
  |_=>Wy
 |.iff c a b,s=>match s with
  |.If t xs ys _=>chkt Γ c t&&chkSs Γ a xs&&chkSs Γ b ys
  |_=>Wy
 |.whl c b,s=>match s with
  |.While t xs [] _=>chkt Γ c t&&chkSs Γ b xs
  |_=>Wy
 |.forr g it b,s=>match s with
  |.For tg x xs [] _=>chki Γ it tg x&&ZbT x&&Zka Γ.N (ownD Γ.sc) g tg&&chkSs Γ b xs
  |_=>Wy
 |.pas,s=>match s with
  |.Pass _=>Wx
  |_=>Wy
 |.brk,s=>match s with
  |.Break _=>Wx
  |_=>Wy
 |.cnt,s=>match s with
  |.Continue _=>Wx
  |_=>Wy
 |.seta Cs o f e,s=>match s with
  |.Assign [.Attribute xo n _] x _=>Wz (n=f)&&chk Γ o xo&&chk Γ e x&&ZdY x&&(Cs.all λC=>Wz (C∈Γ.kl.cs))&&Wz (f∈Γ.kl.ats)
  |_=>Wy
 |.auga Cs o f e,s=>match s with
  |.AugAssign (.Attribute xo n _) op x _=>Wz (op=.Add)&&Wz (n=f)&&chk Γ o xo&&chk Γ e x&&(Cs.all λC=>Wz (C∈Γ.kl.cs))&&Wz (f∈Γ.kl.ats)
  |_=>Wy
 |.any,_=>Wx
 |.rai C e,s=>match s with
  |.Raise (Wv x) Ww _=>Zqw Γ C e x
  |_=>Wy
 |.trs i f es C,s=>match s with
  |.Try b hs o q _=>o.isEmpty&&q.isEmpty&&ZkZ Γ i (.call f es) b&&Zqv Γ i C hs
  |_=>Wy
noncomputable def chkSs(Γ:Gm):Sxs->List Stmt->Bool
 |.nil,ss=>ss.isEmpty
 |.cons s r,ss=>match ss with
  |x::xs=>ZcW Γ s x&&chkSs Γ r xs
  |[]=>Wy
end
def Zy(Y:Yx)(H:Hp)(B:List Yi)(r:R (Fl×Ev))(D:Ends)(E:XK):Prop:=match r with
 |.bad=>False
 |.ok p h'=>∀H' μ',Gr H B H' μ'->RH Y H' μ' h'->match p.1 with
  |.nx=>∀σ',RS Y H' μ' p.2 σ'->D.nx σ' H'
  |.bk=>∀σ',RS Y H' μ' p.2 σ'->D.bk σ' H'
  |.ct=>∀σ',RS Y H' μ' p.2 σ'->D.ct σ' H'
  |.rt d=>∀v,RD Y H' μ' d v->D.rt v H'
 |.exc c h'=>∀H' μ' C,Gr H B H' μ'->RH Y H' μ' h'->Y.mg c=Wv (.ref C)->E (.ref C) Ww H'
section
variable {Y:Yx}{α β:Type}{rel:Hp->List Yi->α->β->Prop}{H H1:Hp}{B μ1:List Yi}{E:XK}{D:Ends}
theorem Zy.mono{r:R (Fl×Ev)}(g:Gr H B H1 μ1)(f:Zy Y H B r D E):Zy Y H1 μ1 r D E:=by
 cases r with
 |bad=>exact f
 |ok a h=>exact λH' μ' g'=>f H' μ' (g.trans g')
 |exc c h=>exact λH' μ' C g'=>f H' μ' C (g.trans g')
theorem Zy.bind{r:R α}{k:α->Hd->R (Fl×Ev)}{Q1:β->Hp->Prop}(f:Zy Y H B (r.bind k) D E)
 (hk:∀a h1 b H1 μ1,r=.ok a h1->Gr H B H1 μ1->RH Y H1 μ1 h1->rel H1 μ1 a b->Zy Y H1 μ1 (k a h1) D E->Q1 b H1):Fin Y rel H B r Q1 E:=by
 cases r with
 |bad=>exact f
 |ok a h=>exact λb H' μ' g' rh rl=>hk a h b H' μ' rfl g' rh rl (Zy.mono g' f)
 |exc c h=>exact f
theorem Zy.ofO{o:Option α}{h:Hd}{k:α->Hd->R (Fl×Ev)}(f:Zy Y H B ((R.ofO o h).bind k) D E):∃a,o=Wv a/\Zy Y H B (k a h) D E:=by
 cases o with
 |none=>exact f.elim
 |some a=>exact⟨a,rfl,f⟩
theorem Zy.nx{S:Ev}{Z:L2.St}{h:Hd}(f:Zy Y H B (.ok (.nx,S) h) D E)(rh:RH Y H B h)(rs:RS Y H B S Z):D.nx Z H:=f H B Gr.refl rh Z rs
theorem Zy.part{r:R (Fl×Ev)}{k:(Fl×Ev)->Hd->R (Fl×Ev)}{D1:Ends}(f:Zy Y H B (r.bind k) D E)
 (hk:∀p h1 H1 μ1,r=.ok p h1->Gr H B H1 μ1->RH Y H1 μ1 h1->Zy Y H1 μ1 (k p h1) D E->match p.1 with
  |.nx=>∀σ',RS Y H1 μ1 p.2 σ'->D1.nx σ' H1
  |.bk=>∀σ',RS Y H1 μ1 p.2 σ'->D1.bk σ' H1
  |.ct=>∀σ',RS Y H1 μ1 p.2 σ'->D1.ct σ' H1
  |.rt d=>∀v,RD Y H1 μ1 d v->D1.rt v H1):Zy Y H B r D1 E:=by
 cases r with
 |bad=>exact f
 |ok p h=>exact λH' μ' g' rh=>hk p h H' μ' rfl g' rh (Zy.mono g' f)
 |exc c h=>exact f
end
noncomputable def Zta(T:Tb)(Y:Yx)(E:XK)(s:Sx):TS:=λD Z H=>∃S h B,RH Y H B h/\RS Y H B S Z/\Zy Y H B (xs1 T s S h) D E
noncomputable def Zqk(T:Tb)(Y:Yx)(E:XK)(s:Sxs):TS:=λD Z H=>∃S h B,RH Y H B h/\RS Y H B S Z/\Zy Y H B (xs2 T s S h) D E
theorem _root_.L2.PS.imp{X:Cx}{s:Stmt}{t t':TS}(h:PS X s t)(i:∀D Z H,t' D Z H->t D Z H):PS X s t':=λpins s Z H D I q=>h pins s Z H D I (i D Z H q)
theorem _root_.L2.PSs.imp{X:Cx}{s:List Stmt}{t t':TS}(h:PSs X s t)(i:∀D Z H,t' D Z H->t D Z H):PSs X s t':=λpins s Z H D I q=>h pins s Z H D I (i D Z H q)
structure XOk(K:Yk)(a:Yi):Prop extends ExcN K a where
 own:PySem.W.excIn K a [.type "ValueError",.type "Exception",.type "BaseException",.type "object"] "ValueError.__new__" = Wx
 sub:YV K (.ref a) (.ref a)=Wv Wx
structure GdS(T:Tb)(Γ:Gm)(X:Cx)(Y:Yx)(E:XK)(k:Nat):Prop extends Gd T Γ X Y E k where
 top:Γ.top=Wx
 fnt:∀x,X.fn x=Wx
 own:PassesOwn (model X.prog X.w) X.A X.env X.xe
 bk:X.env.blockKind=.function
 rz:ZhP X E
 stk:X.stack=X.env::X.outer
 frm:X.env.frame=Wv X.env.locals
 xcs:∀C∈Γ.kl.xs,∃a,X.mg C=Wv (.ref a)/\XOk X.K a
theorem GdS.ownD{T:Tb}{Γ:Gm}{X:Cx}{Y:Yx}{E:XK}{k:Nat}(G:GdS T Γ X Y E k):∀x,ownD Γ.sc x=Wx->Loc X.env.scope x/\(X.fn x=Wx\/X.env.scope.names.lookup x=Wv .local):=by intro x h;refine⟨?_,.inl (G.fnt x)⟩;unfold IV.ownD at h;rw[G.sc G.top];rw[Wu]at h;exact h.imp of_decide_eq_true of_decide_eq_true
theorem Zc4{x:Expr}{t:Option Expr}{n:Nat}{env:Env}(h:ZdY x=Wx):swapsWith x t n env=pure Wy:=by cases x<;>first|rfl|cases h
theorem Zef{tg x:Expr}{env:Env}(h:(!isTup tg || Zm9 x)=Wx)(hg:∀es p,tg≠.List es p):swappedStores [tg] x env=pure Ww:=by
 cases tg with
 |List es p=>exact absurd rfl (hg es p)
 |Tuple es k p=>cases x<;>first|rfl|cases h
 |_=>rfl
theorem Zmp{T:Tb}{Γ:Gm}{X:Cx}{Y:Yx}{E:XK}{k:Nat}(G:GdS T Γ X Y E k){i:Nat}{y:Str}{py pos spos:Pos}{elt:Expr}{gs:List Comprehension}{scope:Scope}{e:Ex}
 (hi:Γ.N[i]? = Wv y) (ho:ownD Γ.sc y=Wx) (h:chk Γ e (.ListComp elt gs scope pos)=Wx):PS X (.Assign [.Name y py] (.ListComp elt gs scope pos) spos) (Zmg (ZaO T Y E e) (ZcS i)):=by
 obtain⟨o1,o2⟩:=G.ownD y ho;have hy:X.N[i]? = Wv y:=by rw[G.N];exact hi
 by_cases sw:swapsWith (.ListComp elt gs scope pos) (Wv (.Name y py)) spos.line X.env=pure Wx
 . cases e with
   |comp NC js it g c e=>
    unfold chk at h;split at h
    . rename_i heq;cases heq;rw[Oa,Oa,Oa,Oa,Oa,Oa,Oa]at h;obtain⟨⟨⟨⟨⟨⟨⟨h0,h1⟩,h2⟩,h3⟩,h4⟩,h5⟩,h6⟩,h7⟩:=h;have S_:=ZiQ h1;rw[<- G.N,<- G.sc h0]at S_;have Gc:=λ(pins:List (Yi×Obj)) (Z:L2.St) (C:Yi) (s3:Yb) (H3:Hp) (fp:List Yi) (i3:Inv X pins Z H3 s3) (j3:∀b∈fp,Zbl X pins H3 b) (k3:C=s3.heap.objs.size)=>G.toGd.comp NC scope C s3 H3 fp S_.nd (G.passC h0 pins Z NC scope C s3 H3 fp i3 j3 k3);rw[OC]at h5;refine(Zjo (g:=tgR X.K g) (tc:=λZ H Q=>∃S h B,RH Y H B h/\RS Y H B S Z/\Fin Y (λ_ _ (a b:Bool)=>a=b) H B (tsto T c S h) Q E) (te:=ZaO T Y E e) G.nd hy o1 o2 S_ rfl G.calm (evi_ok it G.toGd h2) (λpins Z C s3 H3 fp i3 j3 k3=>⟨ZkC rfl S_.nd rfl (λx hx=>?_) h4,?_,Zi e (Gc pins Z C s3 H3 fp i3 j3 k3) h7⟩) (ZsV X.K g) (λj hj=>of_decide_eq_true (h5 j (List.mem_range.mpr hj))) (Zjh X.env h3) sw).imp
       λD Z H q=>?_
      . have hl:=of_decide_eq_true hx;have:(relabel scope X.env).names.lookup x=Wv .local:=by rw[ZaB,hl];rfl
        exact⟨.inl this,.inr this⟩
      . exact ifs_ok c (Gc pins Z C s3 H3 fp i3 j3 k3) h6
      . obtain⟨S,h,B,rh,rs,f⟩:=q;exact⟨S,h,B,rh,rs,Fin.bind f λw h1 J H1 μ1 _ g1 rh1 wj f1 D hD=>ZkW G.gk.K (λ_ _ _ z=>z) rh1 (rs.mono rh g1) wj f1 hD⟩
    . cases h
   |cst d=>cases d<;>(unfold chk ZlW at h;cases h)
   |any=>exact λpins s Z H D I ⟨S,h,B,rh,rs,f⟩=>f.elim
   |_=>unfold chk at h;cases h
 . refine Zjp G.nd hy o1 (Zi e G.toGd h) ?_ o2;have e1:swapsWith (.ListComp elt gs scope pos) (Wv (.Name y py)) spos.line X.env=pure (X.env.blockKind==.function&&X.env.kindOf y==Wv .local&&py.line==pos.line&&!(scope.names.any λ(n,k)=>n==y&&(k==.local || k==.cell))):=rfl;cases q:(X.env.blockKind==.function&&X.env.kindOf y==Wv .local&&py.line==pos.line&&!(scope.names.any λ(n,k)=>n==y&&(k==.local || k==.cell)))with
   |true=>rw[q]at e1;exact absurd e1 sw
   |false=>rw[q]at e1;exact e1
theorem Zss{T:Tb}{Γ:Gm}{X:Cx}{Y:Yx}{E:XK}{k:Nat}(G:Gd T Γ X Y E k){Cs:List Str}{f:Str}{e:Ex}(hc:(Cs.all λC=>Wz (C∈Γ.kl.cs))=Wx)(hf:f∈Γ.kl.ats){H1:Hp}{μ1:List Yi}{h1:Hd}{d:D}{x:V}{S:Ev}{Z:L2.St}{D:Ends}(rh1:RH Y H1 μ1 h1)(rs1:RS Y H1 μ1 S Z)(rd:RD Y H1 μ1 d x)
 (f1:Zy Y H1 μ1 ((Zgc Cs f d h1).bind λv h2=>(ev T e S h2).bind λy h3=>match v,y with
  |.int a,.int b=>if (ZY d h1).map (·.1)=(ZY d h3).map (·.1)then(ZgX Cs f d (.int (a+b)) h3).bind λ_ h4=>.ok (.nx,S) h4 else .bad
  |_,_=>.bad) D E) :
 ∃a C dx fs v,x=.ref a/\H1 a=Wv (.ins C dx fs)/\Cls X.K C/\ZaM X.K C f/\fs.lookup f=Wv v /\
  ZaO T Y E e Z H1 λy H2=>Ztp v y H2 λz H3=>∃dx' fs',H3 a=Wv (.ins C dx' fs')/\fs'.length<1000/\D.nx Z (upd H3 a (.ins C dx' (ZbQ f z fs'))):=by
 unfold Zgc at f1;cases ei:ZY d h1 with
 |none=>rw[ei]at f1;exact f1.elim
 |some p=>
  obtain⟨C,fs⟩:=p;rw[ei]at f1;simp only at f1;by_cases hC:C∈Cs
  . rw[if_pos hC]at f1;obtain⟨w,e1,f1⟩:=f1.ofO;obtain⟨i,a,Ca,dx,gs,rfl,rfl,q,hi,z,m,s⟩:=ZfR rh1 rd ei;obtain⟨v,l,rv⟩:=(s.look (f:=f)).1 w e1;have hc':=hc;rw[OC]at hc';obtain⟨Ca',m',cl,na⟩:=G.cls C (of_decide_eq_true (hc' C hC));have m0:=m;rw[G.gk.mg,m']at m;cases m;refine⟨a,Ca,dx,gs,v,rfl,z,cl,na f hf,l,S,h1,μ1,rh1,rs1,Zy.bind f1 λy h3 u H3 μ3 _ g3 rh3 ry f3=>?_⟩;cases w with
    |int p=>
     cases y with
     |int r=>
      cases rv;cases ry;refine⟨p,r,rfl,rfl,?_⟩;simp only at f3;by_cases hk:Option.map (·.1) (Wv (C,fs))=(ZY (.ref i) h3).map (·.1)
      . rw[if_pos hk]at f3;obtain⟨a',C',dx',fs',e4,z',_,_,l',nx⟩:=Zmo (Q:=λ_ H'=>D.nx Z H') G hc hf rh3 (rd.mono rh1 g3) (.int _) (Zy.bind f3 λ_ h4 _ H4 μ4 _ g4 rh4 _ f4=>f4.nx rh4 ((rs1.mono rh1 g3).mono rh3 g4));cases e4;cases e5:ZY (.ref i) h3 with
        |none=>rw[e5]at hk;cases hk
        |some p3=>obtain⟨C3,fs3⟩:=p3;rw[e5]at hk;cases hk;obtain⟨i3,a3,Ca3,dx3,gs3,e6,e7,_,_,z3,m3,_⟩:=ZfR rh3 (rd.mono rh1 g3) e5;cases e7;rw[m0]at m3;cases m3;rw[z']at z3;cases z3;exact⟨dx',fs',z',l',nx⟩
      . rw[if_neg hk]at f3;exact f3.elim
     |_=>exact f3.elim
    |_=>exact f3.elim
  . rw[if_neg hC]at f1;exact f1.elim
theorem _root_.IV.Gd.nox{T:Tb}{Γ:Gm}{X:Cx}{Y:Yx}{E:XK}{k:Nat}(G:Gd T Γ X Y E k):Gd T Γ X.nox Y E0 k:=⟨⟨G.gk.K,G.gk.mg,G.gk.gd,G.gk.g,G.gk.bare⟩,G.N,G.sc,G.vis,G.glo,G.nd,G.calm,G.room,G.h60,Zgw,G.defs,G.blt,G.room1,λ_ _ _ _ _ _ _ _ _ _ _ _=>Zgw,G.cls,G.mts,G.mks⟩
theorem Zl4{Y:Yx}{α β:Type}{rel:Hp->List Yi->α->β->Prop}{H:Hp}{B:List Yi}{r:R α}{Q:β->Hp->Prop}{E:XK}(f:Fin Y rel H B r.plain Q E):Fin Y rel H B r Q E0:=by
 cases r with
 |bad=>exact f.elim
 |ok a h=>exact f
 |exc c h=>exact f.elim
theorem ZrN{X:Cx}{a:Yi}{oe:Obj}{n:Str}{i:Nat}{px pos:Pos}{v:Expr}{Γ:Gm}(hN:X.N.Nodup)(hi:X.N[i]? = Wv n)(hx:Loc X.env.scope n)(hf:X.fn n=Wx\/X.env.scope.names.lookup n=Wv .local)(hv:chk Γ (.cst .non) v=Wx):
 PSs (cxH X a oe) [.Assign [.Name n px] v pos] (λD Z H=>D.nx (Z.set i (Wv .non)) H):=by
 unfold chk ZlW at hv;split at hv
 . rename_i c q;obtain⟨k,p,rfl⟩:=ZgN q;cases c with
   |none=>exact(ZoT (Zjp (X:=cxH X a oe) hN hi hx ZmS rfl hf)).imp λD Z H q=>q
   |_=>cases hv
 . cases hv
mutual
theorem Zs8{T:Tb}{Y:Yx}:∀ (s:Sx) {Γ:Gm}{X:Cx}{E:XK}{k:Nat}{x:Stmt},GdS T Γ X Y E k->ZcW Γ s x=Wx->PS X x (Zta T Y E s)
 | .ret e,Γ,X,E,k,x,G,h=>by
   unfold ZcW at h;split at h
   . exact (Zrm (Zi e G.toGd h)).imp fun D Z H ⟨S,h,B,rh,rs,f⟩=>⟨S,h,B,rh,rs,Zy.bind f fun d h1 v H1 μ1 _ g rh1 rd f1=>f1 H1 μ1 Gr.refl rh1 v rd⟩
   . cases h
 | .set g e,Γ,X,E,k,x,G,h=>by
   unfold ZcW at h;split at h
   . rename_i tg xe pos;rw [Oa,Oa] at h;obtain ⟨⟨h1,h2⟩,h3⟩:=h;have fin:∀ {D:Ends}{Z:L2.St}{H:Hp},Zta T Y E (.set g e) D Z H->Zmg (ZaO T Y E e) (tgR X.K g) D Z H:=fun {D Z H} ⟨S,h,B,rh,rs,f⟩=>⟨S,h,B,rh,rs,Zy.bind f fun d h1 v H1 μ1 _ g1 rh1 rd f1=>by
       obtain ⟨ρ1,eb,f1⟩:=f1.ofO;exact ZhD G.gk.K rd (rs.mono rh g1) eb fun σ1 rs1=>f1.nx rh1 rs1⟩
     rw [Wu,Oa] at h3;have pg:=ZkC (X:=X) G.N G.nd G.calm G.ownD h1;rcases h3 with ⟨h3,h4⟩|h3
     . cases g with
       | nm i =>
         obtain ⟨y,py,rfl,e1,e2⟩:=Za1 (show Zij Γ.N (ownD Γ.sc) i tg=Wx from h1);obtain ⟨o1,o2⟩:=G.ownD y e2;exact (Zjp G.nd (by rw [G.N];exact e1) o1 (Zi e G.toGd h2) (Zc4 h3) o2).imp fun D Z H q=>fin q
       | two i j =>
         obtain ⟨x,p,y,q,k,r,rfl,_⟩:=ZgQ h1;exact (Zjq (pos:=pos) (Zi e G.toGd h2) pg (by unfold swapsWithSole;exact Zc4 h3) (Zef h4 (fun _ _ z=>by cases z)) rfl).imp fun D Z H q=>fin q
       | many is =>
         obtain ⟨es,k,r,rfl,_⟩:=ZfI h1;exact (Zjq (pos:=pos) (Zi e G.toGd h2) pg (by unfold swapsWithSole;exact Zc4 h3) (Zef h4 (fun _ _ z=>by cases z)) rfl).imp fun D Z H q=>fin q
     . unfold ZiC at h3;split at h3
       . rename_i y0 p0 _ _ _ _;cases g with
         | nm i =>
           obtain ⟨y,py,q,e1,e2⟩:=Za1 (show Zij Γ.N (ownD Γ.sc) i (.Name y0 p0)=Wx from h1);cases q;exact (Zmp G e1 e2 h2).imp fun D Z H q=>fin q
         | two i j=>obtain ⟨x,p,y,q,k,r,z,_⟩:=ZgQ h1;cases z
         | many is=>obtain ⟨es,k,r,z,_⟩:=ZfI h1;cases z
       . cases h3
   . cases h
 | .put o i e,Γ,X,E,k,x,G,h=>by
   unfold ZcW at h;split at h
   . rename_i xo xi p1 xe p2;rw [Oa,Oa,Oa,Oa] at h;obtain ⟨⟨⟨⟨h1,h2⟩,h3⟩,h4⟩,h5⟩:=h;refine (Zjq (pos:=p2) (Zi e G.toGd h3) (Zrt (pos:=p1) (Zi o G.toGd h1) (Zi i G.toGd h2) (Zrk (Y:=Y) (E:=E)) ?_) (by unfold swapsWithSole;exact Zc4 h5) (Zef rfl (fun _ _ z=>by cases z)) rfl).imp fun D Z H ⟨S,h,B,rh,rs,f⟩=>⟨S,h,B,rh,rs,Zy.bind f fun d h1 v H1 μ1 _ g1 rh1 rd f1 =>
       ⟨S,h1,μ1,rh1,rs.mono rh g1,f1.bind fun d2 h2 v2 H2 μ2 _ g2 rh2 rd2 f2=>⟨S,h2,μ2,rh2,(rs.mono rh g1).mono rh1 g2,f2.bind fun d3 h3 v3 H3 μ3 _ g3 rh3 rd3 f3 =>
         ⟨d2,d3,d,h3,μ3,rh3,rd2.mono rh2 g3,rd3,(rd.mono rh1 g2).mono rh2 g3,f3.bind fun _ h4 _ H4 μ4 _ g4 rh4 _ f4=>f4.nx rh4 ((((rs.mono rh g1).mono rh1 g2).mono rh2 g3).mono rh3 g4)⟩⟩⟩⟩
     cases xi<;>first|(intro _;rfl)|cases h4
   . cases h
 | .aug i op e,Γ,X,E,k,x,G,h=>by
   unfold ZcW at h;split at h
   . rw [Oa,Oa,Oa,Oa] at h;obtain ⟨⟨⟨⟨h1,h2⟩,h3⟩,h4⟩,h5⟩:=h;have e1:=of_decide_eq_true h1;have e2:=of_decide_eq_true h2;subst e1 e2;obtain ⟨o1,o2⟩:=G.ownD _ h4;refine (Zrp G.nd (by rw [G.N];exact of_decide_eq_true h3) o1 (Zi e G.toGd h5) Zr7 o2).imp fun D Z H ⟨S,h,B,rh,rs,f⟩=>?_;obtain ⟨d,ed,f⟩:=Zy.ofO f;obtain ⟨v,ev,rd⟩:=rs.var ed;refine ⟨v,ev,S,h,B,rh,rs,Zy.bind f fun d2 h2 v2 H2 μ2 _ g2 rh2 rd2 f2=>?_⟩;cases rd with
     | int a =>
       cases rd2 with
       | int b=>exact ⟨a,b,rfl,rfl,Zy.nx f2 rh2 ((rs.mono rh g2).set (.int _))⟩
       | _=>exact f2.elim
     | _=>exact f2.elim
   . cases h
 | .drp e,Γ,X,E,k,x,G,h=>by
   unfold ZcW at h;split at h
   . rw [Oa] at h;exact (ZoW (Zi e G.toGd h.1) (Zc4 h.2)).imp fun D Z H ⟨S,h,B,rh,rs,f⟩=>⟨S,h,B,rh,rs,Zy.bind f fun d h1 v H1 μ1 _ g1 rh1 rd f1=>f1.nx rh1 (rs.mono rh g1)⟩
   . cases h
 | .iff c a b,Γ,X,E,k,x,G,h=>by
   unfold ZcW at h;split at h
   . rw [Oa,Oa] at h;refine (Zts (tst_ok c G.toGd h.1.1) (sts_ok a G h.1.2) (sts_ok b G h.2)).imp fun D Z H ⟨S,h,B,rh,rs,f⟩=>⟨S,h,B,rh,rs,Zy.bind f fun t h1 v H1 μ1 _ g1 rh1 rd f1=>?_⟩
     subst rd;cases t with
     | true=>exact Zhk ⟨S,h1,μ1,rh1,rs.mono rh g1,f1⟩
     | false=>exact Zhl ⟨S,h1,μ1,rh1,rs.mono rh g1,f1⟩
   . cases h
 | .whl c b,Γ,X,E,k,x,G,h=>by
   unfold ZcW at h;split at h
   . rw [Oa] at h;refine (ZmJ G.own (tst_ok c G.toGd h.1) (sts_ok b G h.2)).imp fun D Z H ⟨S,h,B,rh,rs,f⟩=>?_;refine ⟨fun m Z H=>∃ S h B,RH Y H B h/\RS Y H B S Z/\Zy Y H B (ZN (tst T c) (xs2 T b) m S h) D E,⟨T.L,S,h,B,rh,rs,f⟩,?_⟩;rintro m Z H ⟨S,h,B,rh,rs,f⟩;cases m with
     | zero=>exact f.elim
     | succ m =>
       refine ⟨S,h,B,rh,rs,Zy.bind f fun t h1 v H1 μ1 _ g1 rh1 rd f1=>?_⟩;subst rd;cases t with
       | false=>exact Zhl (Zy.nx f1 rh1 (rs.mono rh g1))
       | true =>
         refine Zhk ⟨fun σ' H'=>∃ S h B,RH Y H' B h/\RS Y H' B S σ'/\Zy Y H' B (ZN (tst T c) (xs2 T b) m S h) D E,fun σ' H' q=>⟨m,OH m,q⟩,S,h1,μ1,rh1,rs.mono rh g1,?_⟩;refine Zy.part f1 fun p h2 H2 μ2 _ g2 rh2 f2=>?_;obtain ⟨fl,ρ2⟩:=p;cases fl with
         | nx=>exact fun σ' rs'=>⟨ρ2,h2,μ2,rh2,rs',f2⟩
         | ct=>exact fun σ' rs'=>⟨ρ2,h2,μ2,rh2,rs',f2⟩
         | bk=>exact fun σ' rs'=>Zy.nx f2 rh2 rs'
         | rt d=>exact fun v rv=>f2 H2 μ2 Gr.refl rh2 v rv
   . cases h
 | .forr g it b,Γ,X,E,k,x,G,h=>by
   unfold ZcW at h;split at h
   . rw [Oa,Oa,Oa] at h;obtain ⟨⟨⟨h1,h2⟩,h3⟩,h4⟩:=h;refine (Zrn G.own G.calm (evi_ok it G.toGd h1) (ZkC (X:=X) G.N G.nd G.calm G.ownD h3) (sts_ok b G h4) (Zjh X.env h2)).imp fun D Z H ⟨S,h,B,rh,rs,f⟩=>⟨S,h,B,rh,rs,Zy.bind f fun w h1 J H1 μ1 _ g1 rh1 wj f1=>?_⟩
     refine ⟨fun i m Z H=>∃ S h B,i<=w.xs.length/\m=w.xs.length - i/\Gr H1 μ1 H B/\RH Y H B h/\RS Y H B S Z/\Zy Y H B (ZP w.src g (xs2 T b) (w.xs.drop i) S h) D E,⟨w.xs.length,S,h1,μ1,Yy _,by simp,Gr.refl,rh1,rs.mono rh g1,f1⟩,?_⟩;rintro i m Z H ⟨S,h,B,hi,rfl,g0,rh,rs,f⟩;by_cases hlt:i<w.xs.length
     . obtain ⟨d,hd⟩:∃ d,w.xs[i]? = Wv d:=⟨_,Og hlt⟩
       have hdrop:w.xs.drop i=d::w.xs.drop (i+1):=by
         rw [List.drop_eq_getElem_cons hlt];have:=Og hlt;rw [hd] at this;rw [<- YF this]
       rw [hdrop,ZP] at f;by_cases hs:Wk.stays w.src h=Wx
       . rw [if_pos hs] at f;obtain ⟨go,yl⟩:=(wj H B h g0 rh hs).1 i d hd;refine .inr ⟨go,fun σ' H'=>∃ S h B,i+1<=w.xs.length/\Gr H1 μ1 H' B/\RH Y H' B h/\RS Y H' B S σ'/\Zy Y H' B (ZP w.src g (xs2 T b) (w.xs.drop (i+1)) S h) D E,fun σ' H' ⟨S,h,B,q1,q2,q3,q4,q5⟩=>⟨_,Nat.sub_lt_sub_left hlt (OH i),S,h,B,q1,rfl,q2,q3,q4,q5⟩,fun x H' hy=>?_⟩;obtain ⟨g2,rh2,rx⟩:=yl x H' hy;split at f
         . exact f.elim
         . rename_i ρ1 hb;refine ZhD G.gk.K rx (rs.mono rh g2) hb fun σ1 rs1=>⟨ρ1,h,B,rh2,rs1,Zy.part (Zy.mono g2 f) fun p h3 H3 μ3 _ g3 rh3 f3=>?_⟩
           have g03:=(g0.trans g2).trans g3;obtain ⟨fl,ρ2⟩:=p;cases fl with
           | nx=>exact fun σ' rs'=>⟨ρ2,h3,μ3,hlt,g03,rh3,rs',f3⟩
           | ct=>exact fun σ' rs'=>⟨ρ2,h3,μ3,hlt,g03,rh3,rs',f3⟩
           | bk=>exact fun σ' rs'=>Zy.nx f3 rh3 rs'
           | rt d=>exact fun v rv=>f3 H3 μ3 Gr.refl rh3 v rv
       . rw [if_neg hs] at f;exact f.elim
     . have he:i=w.xs.length:=by omega
       subst he;rw [List.drop_eq_nil_of_le (Oq _),ZP] at f;by_cases hs:Wk.stays w.src h=Wx
       . rw [if_pos hs] at f;exact .inl ⟨(wj H B h g0 rh hs).2,Zy.nx f rh rs⟩
       . rw [if_neg hs] at f;exact f.elim
   . cases h
 | .pas,Γ,X,E,k,x,G,h=>by
   unfold ZcW at h;split at h
   . exact ZoV.imp fun D Z H ⟨S,h,B,rh,rs,f⟩=>Zy.nx f rh rs
   . cases h
 | .brk,Γ,X,E,k,x,G,h=>by
   unfold ZcW at h;split at h
   . exact ZmL.imp fun D Z H ⟨S,h,B,rh,rs,f⟩=>f H B Gr.refl rh Z rs
   . cases h
 | .cnt,Γ,X,E,k,x,G,h=>by
   unfold ZcW at h;split at h
   . exact Zic.imp fun D Z H ⟨S,h,B,rh,rs,f⟩=>f H B Gr.refl rh Z rs
   . cases h
 | .any,Γ,X,E,k,x,G,h=>fun pins s Z H D I ⟨S,h,B,rh,rs,f⟩=>f.elim
 | .rai C e,Γ,X,E,k,x,G,h=>by
   unfold ZcW at h;split at h
   . rename_i x pos;cases x with
     | Call g as ks cp =>
       unfold Zqw at h;rw [Oa,Oa] at h;obtain ⟨⟨h1,h2⟩,h3⟩:=h;obtain ⟨⟨np,rfl⟩,hx,hg⟩:=ZkY h1;cases ks with
       | cons _ _=>cases h2
       | nil =>
         cases as with
         | nil=>rw [chks] at h3;cases h3
         | cons y ys =>
           rw [chks,Oa,Oa] at h3;cases ys with
           | cons _ _=>rw [chks] at h3;cases h3.2
           | nil =>
             obtain ⟨ca,m,xo⟩:=G.xcs _ hx;obtain ⟨g1,g2⟩:=G.gl hg;exact (ZmK G.rz G.calm PySem.F.excBase_ValueError g1 m xo.own (ZdX (Zi e G.toGd h3.1.1) ZfD (Zp X.env h3.1.2)) g2 (Zp X.env h3.1.2) rfl).imp fun D Z H ⟨S,h,B,rh,rs,f⟩=>⟨S,h,B,rh,rs,Zy.bind f fun d h1 v H1 μ1 _ g1 rh1 rd f1 =>
               ⟨by show 1<=sizeLine;decide,f1 H1 μ1 ca Gr.refl rh1 (by rw [G.gk.mg];exact m)⟩⟩
     | _=>cases h
   . cases h
 | .trs i f es C,Γ,X,E,k,x,G,h=>by
   unfold ZcW at h;split at h
   . rename_i b hs o q pos;rw [Oa,Oa,Oa] at h;obtain ⟨⟨⟨h1,h2⟩,h3⟩,h4⟩:=h;cases o with
     | cons _ _=>cases h1
     | nil =>
     cases q with
     | cons _ _=>cases h2
     | nil =>
     obtain ⟨n,px,xe,ap,rfl,hn,hown,h5⟩:=ZiV h3;unfold Zqv at h4;split at h4
     . rename_i t bd hp;rw [Oa] at h4;obtain ⟨⟨np,rfl⟩,hxs,hg⟩:=ZkY h4.1;obtain ⟨n',px',v,pos',rfl,hn',_,h11⟩:=ZiV h4.2;cases hn.symm.trans hn';unfold chk at h5;split at h5
       . rename_i fx p y ys cp;rw [Oa,Oa,Oa] at h5;obtain ⟨⟨⟨h6,h7⟩,h8⟩,h4⟩:=h5;have e1:=of_decide_eq_true h6;subst e1;obtain ⟨ps,hd⟩:=G.defs _ (of_decide_eq_true h7);obtain ⟨g1,g2⟩:=G.gl h8;obtain ⟨c1,c2⟩:=G.gl hg;obtain ⟨ca,m,xo⟩:=G.xcs _ hxs;obtain ⟨o1,o2⟩:=G.ownD _ hown;have hi:X.N[i]? = Wv n:=by rw [G.N];exact hn
         have hs:=h4;have st:Zaj y=Wx:=by
           cases es with
           | nil=>rw [chks] at hs;cases hs
           | cons e r=>rw [chks,Oa,Oa] at hs;exact hs.1.2
         have sp:∀ pos,(YS pos (YA ys X.env)).any (·.1)=Wy:=by
           cases es with
           | nil=>rw [chks] at hs;cases hs
           | cons e r=>rw [chks,Oa,Oa] at hs;exact Zbm Γ X.env r ys hs.2
         refine (Zln hd G.room g1 (evs_ok es G.toGd.nox h4) c1 m xo.toExcN G.nd hi o1 o2 G.stk G.frm (fun a oe=>ZrN G.nd hi o1 o2 h11) g2 c2 (Zp X.env st) (sp _) rfl).imp fun D Z H ⟨S,h,B,rh,rs,f⟩=>⟨S,h,B,rh,rs,Zl4 (Zy.bind f fun ds h1 vs H1 μ1 _ g1 rh1 rds f1=>⟨ds,h1,μ1,rh1,rds,?_⟩)⟩
         have rs1:=rs.mono rh g1;cases q:T.C fx ds h1 with
         | bad=>rw [q] at f1;exact f1.elim
         | ok w h2 =>
           rw [q] at f1;exact fun b H' μ' g2 rh2 rb=>f1 H' μ' g2 rh2 _ ((rs1.mono rh1 g2).set rb)
         | exc w h2 =>
           rw [q] at f1;unfold Zf2 at f1;by_cases e:w=C
           . subst e;simp only [if_true] at f1;intro H' μ' C' g2 rh2 mc;rw [G.gk.mg,m] at mc;cases mc;exact ⟨ca,rfl,xo.sub,fun a oe=>f1 H' μ' g2 rh2 _ ((rs1.mono rh1 g2).set .non)⟩
           . simp only [if_neg e] at f1;exact f1.elim
       . cases h5
     . cases h4
   . cases h
 | .seta Cs o f e,Γ,X,E,k,x,G,h=>by
   unfold ZcW at h;split at h
   . rw [Oa,Oa,Oa,Oa,Oa] at h;obtain ⟨⟨⟨⟨⟨h1,h2⟩,h3⟩,h4⟩,h5⟩,h6⟩:=h;have en:=of_decide_eq_true h1;subst en;exact (Zro (Zi o G.toGd h2) (Zi e G.toGd h3) (Zc4 h4)).imp fun D Z H ⟨S,h,B,rh,rs,f⟩=>⟨S,h,B,rh,rs,Zy.bind f fun d h1 v H1 μ1 _ g1 rh1 rd f1=>⟨S,h1,μ1,rh1,rs.mono rh g1,Zy.bind f1 fun d2 h2 v2 H2 μ2 _ g2 rh2 rd2 f2 =>
       Zmo (Q:=fun _ H'=>D.nx Z H') G.toGd h5 (of_decide_eq_true h6) rh2 rd2 (rd.mono rh1 g2) (Zy.bind f2 fun _ h3 _ H3 μ3 _ g3 rh3 _ f3=>f3.nx rh3 (((rs.mono rh g1).mono rh1 g2).mono rh2 g3))⟩⟩
   . cases h
 | .auga Cs o f e,Γ,X,E,k,x,G,h=>by
   unfold ZcW at h;split at h
   . rw [Oa,Oa,Oa,Oa,Oa] at h;obtain ⟨⟨⟨⟨⟨h0,h1⟩,h2⟩,h3⟩,h5⟩,h6⟩:=h;have eo:=of_decide_eq_true h0;have en:=of_decide_eq_true h1;subst eo;subst en;exact (Zlo (Zi o G.toGd h2) (Zi e G.toGd h3) Zr8).imp fun D Z H ⟨S,h,B,rh,rs,f⟩=>⟨S,h,B,rh,rs,Zy.bind f fun d h1 x H1 μ1 _ g1 rh1 rd f1=>Zss G.toGd h5 (of_decide_eq_true h6) rh1 (rs.mono rh g1) rd f1⟩
   . cases h
theorem sts_ok{T:Tb}{Y:Yx}:∀(s:Sxs) {Γ:Gm}{X:Cx}{E:XK}{k:Nat}{x:List Stmt},GdS T Γ X Y E k->chkSs Γ s x=Wx->PSs X x (Zqk T Y E s)
 |.nil,Γ,X,E,k,x,G,h=>by
  unfold chkSs at h;cases x with
  |nil=>exact ZoU.imp λD Z H ⟨S,h,B,rh,rs,f⟩=>Zy.nx f rh rs
  |cons a b=>cases h
 |.cons s r,Γ,X,E,k,x,G,h=>by
  unfold chkSs at h;split at h
  . rw[Oa]at h;refine(ZmI (Zs8 s G h.1) (sts_ok r G h.2)).imp λD Z H ⟨S,h,B,rh,rs,f⟩=>⟨S,h,B,rh,rs,Zy.part f λp h1 H1 μ1 _ g1 rh1 f1=>?_⟩
    obtain⟨fl,ρ1⟩:=p;cases fl with
    |nx=>exact λσ' rs'=>⟨ρ1,h1,μ1,rh1,rs',f1⟩
    |bk=>exact λσ' rs'=>f1 H1 μ1 Gr.refl rh1 σ' rs'
    |ct=>exact λσ' rs'=>f1 H1 μ1 Gr.refl rh1 σ' rs'
    |rt d=>exact λv rv=>f1 H1 μ1 Gr.refl rh1 v rv
  . cases h
end
end IV
end
section
set_option tactic.hygienic false
namespace IV
open PySem PySem.Spec PyProof.Rows L2
structure BodyOk(K:Yk)(kl:Kl)(fs:List Str)(x q:Str)(fd:Fd)(st:Stmt)(f:Yi)(fdd:FuncData):Prop where
 fn:Fun K x q st f fdd
 sc:FnScope fd.N fd.ps (ZR st)
 hb:∀(kV doc pm:Yj) (an:Option Yi) (cdv ct:Yj) (us:List Yj),us.length=fd.ps.length->bindArgs (PySem.W.fnOf x q (Zdf st) (ZbK st) (ZR st) .none kV doc pm an cdv ct) ⟨us,[]⟩=pure (fd.ps.zip us)
 ck:chkSs ⟨fd.N,ZR st,fs,Wx,kl⟩ fd.body (ZbK st)=Wx
structure DefOk(K:Yk)(mg:Str->Option Yj)(kl:Kl)(fs:List Str)(x:Str)(fd:Fd)(st:Stmt)(f:Yi)(fdd:FuncData):Prop where
 bd:BodyOk K kl fs x x fd st f fdd
 mg:mg x=Wv (.ref f)
structure Md(Pr:Yh)(w:Yg)(K:Yk)(mg:Str->Option Yj)(P:Pg)(kl:Kl):Prop where
 bare:Zfe K=Wx
 gd:∀x kvs,P.GD x=Wv kvs->∃a kvs',mg x=Wv (.ref a)/\DkK Pr w K a kvs'/\∀H B,RKs ⟨K,mg⟩ H B kvs kvs'
 g:∀x d,P.G x=Wv d->∃v u,mg x=Wv u/\RelV v u/\∀H B,RD ⟨K,mg⟩ H B d v
 blt:∀x∈(["len", "isinstance", "int", "tuple", "list", "sum", "all", "sorted", "range", "enumerate", "reversed", "str", "bool", "max"]:List Str),mg x=Ww
 defs:∀x fd,P.tb.lookup x=Wv fd->∃st f fdd,DefOk K mg kl (P.tb.map (·.1)) x fd st f fdd
 cls:∀C∈kl.cs,∃a,mg C=Wv (.ref a)/\Cls K a/\∀f∈kl.ats,ZaM K a f
 mts:∀p∈kl.ms,∃a f fdd fd st q,mg p.1=Wv (.ref a)/\Cls K a/\Meth K a p.2 f/\P.look (mnm p.1 p.2)=Wv fd/\BodyOk K kl (P.tb.map (·.1)) p.2 q fd st f fdd
 mks:∀C∈kl.is,∃a f fdd fd st q,mg C=Wv (.ref a)/\Mk K a f/\P.look (mnm C (O "__init__"))=Wv fd/\BodyOk K kl (P.tb.map (·.1)) (O "__init__") q fd st f fdd
 xcs:∀C∈kl.xs,∃a,mg C=Wv (.ref a)/\XOk K a
theorem Zmh{Y:Yx}{H:Hp}{B:List Yi}{N:List Str}{ds:List D}{vs:List V}(r:RDs Y H B ds vs):RS Y H B (Zq N ds) (L2.start N vs):=by
 refine⟨by simp[Zq,L2.start,r.length],λi d e=>?_⟩;unfold Zq at e;unfold L2.start;by_cases hi:i<ds.length
 . rw[Oe (by simpa using hi),On]at e;rw[Oe (by simpa[<- r.length]using hi),On];obtain⟨d',e1,e2⟩:=Oo.mp e;cases e2;obtain⟨v,h1,h2⟩:=r.get e1;exact⟨v,by rw[h1];rfl,h2⟩
 . rw[Om (by simpa using hi)]at e;have:=O2 e;rw[List.mem_replicate]at this;cases this.2
theorem ZoD{Y:Yx}{H:Hp}{B:List Yi}{r:R (Fl×Ev)}{Q:VK}{E:XK}(f:Fin Y (RD Y) H B (Zh r) Q E):Zy Y H B r {nx:=λ_ H'=>Q .non H',rt:=Q} E:=by
 cases r with
 |bad=>exact f.elim
 |exc c h=>exact f
 |ok p h=>
  obtain⟨fl,S⟩:=p;cases fl with
  |nx=>exact λH' μ' g rh σ' _=>f .non H' μ' g rh .non
  |bk=>exact f.elim
  |ct=>exact f.elim
  |rt d=>exact λH' μ' g rh v rv=>f v H' μ' g rh rv
section
variable {Pr:Yh}{w:Yg}{K:Yk}{mg:Str->Option Yj}{base:YG}{P:Pg}{kl:Kl}
theorem Zhd{x:Str}{fd:Fd}(h:P.tb.lookup x=Wv fd):P.look x=Wv fd:=by unfold Pg.look;rw[h]
theorem Zmj{n:Nat}{x:Str}{fd:Fd}(hl:P.look x=Wv fd){vs:List V}{H:Hp}{Q:VK}{E:XK}(h:ZeQ (P.tbl n) ⟨K,mg⟩ x vs H Q E):vs.length=fd.ps.length:=by
 obtain⟨ds,h,B,rh,rs,f⟩:=h;cases n with
 |zero=>exact f.elim
 |succ n=>have f:Fin ⟨K,mg⟩ (RD ⟨K,mg⟩) H B (run P (n+1) x ds h) Q E:=f;rw[run,hl]at f;obtain⟨hz,_⟩:=f.iff;rw[<- rs.length];exact hz
structure Lev(Pr:Yh)(w:Yg)(K:Yk)(mg:Str->Option Yj)(base:YG)(P:Pg)(kl:Kl)(n:Nat):Prop where
 defs:∀y∈P.tb.map (·.1),∃ps,Def Pr w K mg base (2 * n+61) y ps (ZeQ (P.tbl n) ⟨K,mg⟩ y)
 mts:∀p∈kl.ms,∃a f fd ps,mg p.1=Wv (.ref a)/\Cls K a/\Meth K a p.2 f/\FnOk Pr w K mg base (CXF Pr w) (2 * n+61) f fd ps (ZeQ (P.tbl n) ⟨K,mg⟩ (mnm p.1 p.2))/\Binds K fd ps []
 mks:∀C∈kl.is,∃a f fd ps,mg C=Wv (.ref a)/\Mk K a f/\FnOk Pr w K mg base (CXF Pr w) (2 * n+61) f fd ps (ZeQ (P.tbl n) ⟨K,mg⟩ (mnm C (O "__init__")))/\Binds K fd ps []
theorem Zhx(M:Md Pr w K mg P kl){x nm q:Str}{fd:Fd}{st:Stmt}{f:Yi}{fdd:FuncData}(hl:P.look x=Wv fd)(o:BodyOk K kl (P.tb.map (·.1)) nm q fd st f fdd):
 ∀n,Lev Pr w K mg base P kl n->FnOk Pr w K mg base (CXF Pr w) (2 * (n+1)+61) f fdd fd.ps (ZeQ (P.tbl (n+1)) ⟨K,mg⟩ x):=by
 intro n ih;obtain⟨oc,od,kV,doc,pm,an,cdv,ct,osl,rfl,lk,hcd⟩:=o.fn.ex;have S_:=o.sc;rw[show 2 * (n+1)+61=(2 * n+61+1)+1 by omega];refine Zue lk hcd S_ (λvs H Q E h=>Zmj hl h) λA outer s H vs Q E hr hsp=>?_;refine body_of (t:=Zqk (P.tbl n) ⟨K,mg⟩ E fd.body) (sts_ok fd.body (k:=2 * n+61) (Γ:=⟨fd.N,ZR st,P.tb.map (·.1),Wx,kl⟩) ⟨⟨⟨rfl,rfl,M.gd,M.g,M.bare⟩,rfl,λ_=>rfl,λy hy=>?_,λy hy=>hy,S_.nd,rfl,hr.mono (by omega),by omega,Zpc λ_ _ z=>z,ih.defs,M.blt,hr,λ_ _ _ _ _ _ _ _ _ i3 j3 k3=>Zlv i3 j3 k3 λ_ _ z=>z,M.cls,ih.mts,ih.mks⟩,rfl,λ_=>rfl,PassesOwn.leaving,?_,Zmt,rfl,rfl,M.xcs⟩ o.ck) ?_
 . unfold Zon at hy;rw[Wu,Wu]at hy;rcases hy with (hy|hy)|hy
   . exact .inl (of_decide_eq_true hy)
   . exact .inr (.inl (of_decide_eq_true hy))
   . exact .inr (.inr (of_decide_eq_true hy))
 . show(if (ZR st).kind.isAnnotationScope then ScopeKind.function else(ZR st).kind)=.function;rw[S_.kind];rfl
 . obtain⟨ds,h,B,rh,rs,f⟩:=hsp;have f:Fin ⟨K,mg⟩ (RD ⟨K,mg⟩) H B (run P (n+1) x ds h) Q E:=f;rw[run,hl]at f;obtain⟨hz,f⟩:=f.iff;exact⟨Zq fd.N ds,h,B,rh,Zmh rs,ZoD f⟩
theorem mem_lookup{α:Type}{l:List (Str×α)}{x:Str}(h:x∈l.map (·.1)):∃a,l.lookup x=Wv a:=by
 induction l with
 |nil=>simp at h
 |cons p r ih=>
  rw[OF];by_cases e:x=p.1
  . have:(x==p.1)=Wx:=by simpa using e
    rw[this];exact⟨_,rfl⟩
  . have:(x==p.1)=Wy:=by simpa using e
    rw[this];exact ih (by simpa[e]using h)
theorem Zhq{x:Str}{fd:Fd}{f:Yi}{fdd:FuncData}(hl:P.look x=Wv fd):FnOk Pr w K mg base (CXF Pr w) (2 * 0+61) f fdd fd.ps (ZeQ (P.tbl 0) ⟨K,mg⟩ x):=⟨λvs H Q E h=>Zmj hl h,λA outer s H args us vs Q E _ _ _ _ h=>by obtain⟨ds,h,B,rh,rs,f⟩:=h;exact f.elim⟩
theorem Zof(M:Md Pr w K mg P kl):∀n,Lev Pr w K mg base P kl n:=by
 intro n;induction n with
 |zero=>
  refine⟨λy hy=>?_,λp hp=>?_,λC hC=>?_⟩
  . obtain⟨fd,hl⟩:=mem_lookup hy;obtain⟨st,f,fdd,o⟩:=M.defs y fd hl;exact⟨fd.ps,f,fdd,o.mg,o.bd.fn.kp,o.bd.fn.binds o.bd.hb,Zhq (Zhd hl)⟩
  . obtain⟨a,f,fdd,fd,st,q,m,c,me,hl,o⟩:=M.mts p hp;exact⟨a,f,fdd,fd.ps,m,c,me,Zhq hl,o.fn.binds o.hb⟩
  . obtain⟨a,f,fdd,fd,st,q,m,me,hl,o⟩:=M.mks C hC;exact⟨a,f,fdd,fd.ps,m,me,Zhq hl,o.fn.binds o.hb⟩
 |succ n ih=>
  refine⟨λy hy=>?_,λp hp=>?_,λC hC=>?_⟩
  . obtain⟨fd,hl⟩:=mem_lookup hy;obtain⟨st,f,fdd,o⟩:=M.defs y fd hl;exact⟨fd.ps,f,fdd,o.mg,o.bd.fn.kp,o.bd.fn.binds o.bd.hb,Zhx M (Zhd hl) o.bd n ih⟩
  . obtain⟨a,f,fdd,fd,st,q,m,c,me,hl,o⟩:=M.mts p hp;exact⟨a,f,fdd,fd.ps,m,c,me,Zhx M hl o n ih,o.fn.binds o.hb⟩
  . obtain⟨a,f,fdd,fd,st,q,m,me,hl,o⟩:=M.mks C hC;exact⟨a,f,fdd,fd.ps,m,me,Zhx M hl o n ih,o.fn.binds o.hb⟩
theorem ZrV(M:Md Pr w K mg P kl){x:Str}{a:Str}{fd:Fd}{fa:Yi}(n:Nat)(hl:P.tb.lookup x=Wv fd)(hps:fd.ps=[a])(hm:mg x=Wv (.ref fa)):
 ∃fdd:FuncData,(∀(s:Yb) (v:Yj),BindsTo s fdd ⟨[v],[]⟩ [(a,v)])/\∀base:YG,FnOk Pr w K mg base (CXF Pr w) (2 * (n+1)+61) fa fdd [a] (ZeQ (P.tbl (n+1)) ⟨K,mg⟩ x):=by
 obtain⟨st,f,fdd,o⟩:=M.defs x fd hl;have e:=hm.symm.trans o.mg;cases e;refine⟨fdd,λs v=>?_,λbase=>hps ▸ Zhx M (Zhd hl) o.bd n (Zof M n)⟩;obtain⟨oc,od,kV,doc,pm,an,cdv,ct,osl,rfl,lk,hcd⟩:=o.bd.fn.ex;have:=o.bd.hb kV doc pm an cdv ct [v] (by rw[hps];rfl);rw[hps]at this;exact BindsTo.of_eq this
end
theorem ZsO{α:Type}{us:List α}(h:us.length=0):us=[]:=List.length_eq_zero_iff.mp h
theorem Zk6{α:Type}{us:List α}{n:Nat}(h:us.length=n+1):∃a r,us=a::r/\r.length=n:=by
 cases us with
 |nil=>cases h
 |cons a r=>exact⟨a,r,rfl,Nat.succ.inj h⟩
theorem ZsN{α:Type}{us:List α}(h:us.length=1):∃a0,us=[a0]:=by obtain⟨a0,r,rfl,h2⟩:=Zk6 h;exact⟨a0,by rw[ZsO h2]⟩
theorem ZsM{α:Type}{us:List α}(h:us.length=2):∃a0 a1,us=[a0,a1]:=by obtain⟨a0,r,rfl,h2⟩:=Zk6 h;obtain⟨a1,rfl⟩:=ZsN h2;exact⟨a0,a1,rfl⟩
theorem ZsL{α:Type}{us:List α}(h:us.length=3):∃a0 a1 a2,us=[a0,a1,a2]:=by obtain⟨a0,r,rfl,h2⟩:=Zk6 h;obtain⟨a1,a2,rfl⟩:=ZsM h2;exact⟨a0,a1,a2,rfl⟩
theorem ZsK{α:Type}{us:List α}(h:us.length=4):∃a0 a1 a2 a3,us=[a0,a1,a2,a3]:=by obtain⟨a0,r,rfl,h2⟩:=Zk6 h;obtain⟨a1,a2,a3,rfl⟩:=ZsL h2;exact⟨a0,a1,a2,a3,rfl⟩
theorem ZsJ{α:Type}{us:List α}(h:us.length=5):∃a0 a1 a2 a3 a4,us=[a0,a1,a2,a3,a4]:=by obtain⟨a0,r,rfl,h2⟩:=Zk6 h;obtain⟨a1,a2,a3,a4,rfl⟩:=ZsK h2;exact⟨a0,a1,a2,a3,a4,rfl⟩
theorem ZuN{α:Type}{us:List α}(h:us.length=6):∃a0 a1 a2 a3 a4 a5,us=[a0,a1,a2,a3,a4,a5]:=by obtain⟨a0,r,rfl,h2⟩:=Zk6 h;obtain⟨a1,a2,a3,a4,a5,rfl⟩:=ZsJ h2;exact⟨a0,a1,a2,a3,a4,a5,rfl⟩
end IV
end
section
namespace IV
open PySem PySem.Spec PyProof.Rows L2
def All{α:Type}(p:α->Prop):List α->Prop
 |[]=>True
 |a::l=>p a/\All p l
theorem All.mem{α:Type}{p:α->Prop}:∀{l:List α},All p l->∀a∈l,p a
 |[],_,a,h=>by simp at h
 |b::l,⟨h1,h2⟩,a,h=>by
  rcases O3.mp h with rfl|h
  . exact h1
  . exact All.mem h2 a h
theorem lookup_mem{α:Type}{l:List (Str×α)}{x:Str}{a:α}(h:l.lookup x=Wv a):(x,a)∈l:=by
 induction l with
 |nil=>cases h
 |cons p r ih=>
  rw[OF]at h;by_cases e:x=p.1
  . have:(x==p.1)=Wx:=by simpa using e
    rw[this]at h;cases h;subst e;exact Oi
  . have:(x==p.1)=Wy:=by simpa using e
    rw[this]at h;exact Oh _ (ih h)
noncomputable def spL(K:Yk):Sp:=λvs H Q _=>∃(a:Yi) (ns:List Int),vs=[.ref a]/\SqL K H a (ns.map V.int)/\ns.length<=63/\Zqb H/\∀H',Q (.bl Wx) H'
theorem ZkR{Y:Yx}{H:Hp}{B:List Yi}:∀ns:List Int,RDs Y H B (ns.map D.int) (ns.map V.int)
 |[]=>.nil
 |n::r=>.cons (.int n) (ZkR r)
theorem ZsI{l:PySem.W.OpenLaw}{q:Yh}{loose:List Str}{XP:(Str->Option Yj)->YG->Prop}{YP:Yg->YG->Prop}{d:DefRec}{K:Params->Yk}{P:Pg}{kl:Kl}{fd:Fd}(n:Nat)(hn:l.most=Wv 63)(hdf:d.params.defaults=[])(hd:d.name=O "law")(hr:Room (2 * (n+1)+61) callerA)
 (hY:∀(w:Yg) (h:YG),YP w h->(K w.params).In h) (hl:P.tb.lookup (O "law")=Wv fd) (hps:fd.ps=[O "_law_script"])
 (hrun:∀ns:List Int,ns.length<=63->∃h',run P (n+1) (O "law") [.ro (ns.map .int)] []=.ok (.bl Wx) h')
 (M:∀(w:Yg) (mg:Str->Option Yj) (h:YG),(K w.params).In h->h.Ns Yd mg->Md l.prog w (K w.params) mg P kl) :
 PySem.W.WalkO q loose XP YP l.row.toRowW d [] (λf vs=>PySem.call f vs):=by
 refine L2.Zom (n:=63) (k:=2 * (n+1)+61) (x := "_law_script") (CX:=λw=>CXF l.prog w) (sp:=λw=>spL (K w.params)) hn (by decide) hdf hr hY (λw mg fa h KX G hmg=>?_) (λ_ _ a ns hl hO hS=>⟨a,ns,rfl,hS,hl,hO,λ_=>rfl⟩) λ_ _ _ _ _ z=>by obtain⟨_,_,_,_,_,_,_,_,_,_,_,_,_,z⟩:=z;exact z
 rw[hd]at hmg;obtain⟨fdd,hb,F⟩:=ZrV (M w mg h KX G) n hl hps hmg;refine⟨fdd,hb,λbase _ _=>(F base).imp λvs H Q E hsp=>?_⟩;obtain⟨a,ns,rfl,hS,hz,hO,hq⟩:=hsp;obtain⟨h',e⟩:=hrun ns hz;refine⟨[.ro (ns.map .int)],[],[],⟨rfl,.nil,λi o a e=>by simp at e,λi o e=>by simp at e⟩,.cons (.ro ?_ (ZkR ns)) .nil,?_⟩
 . rcases hS with hS|hS
   . rcases hS with hS|hS
     . rcases hO a with z|⟨o,xs,z⟩<;>(rw[z]at hS;cases hS)
     . exact .inl hS
   . exact .inr hS
 . show Fin _ _ H [] (run P (n+1) (O "law") [.ro (ns.map .int)] []) Q E;rw[e];exact λb H' μ' _ _ r=>by cases r;exact hq H'
theorem Zdj{K:Yk}{H:Hp}{a:Yi}{od:Option Yi}{its:Array Yj}{n:Nat}{sl:Array (Option Yj)}{vs:List V}(h:K.lookup a=Wv ⟨.type "tuple",od,.seq its n,sl⟩)(hz:its.size<=sizeLine)(r:Zm vs its.toList):SqT K H a vs:=
 .inr ⟨_,its,n,h,rfl,rfl,hz,r⟩
end IV
end
section
namespace IV
open PySem L2 PyProof.Rows
structure Chk(kl:Kl)(fs:List Str)(x q:Str)(fd:Fd)(st:Stmt):Prop where
 sc:FnScope fd.N fd.ps (ZR st)
 hb:∀(kV doc pm:Yj) (an:Option Yi) (cdv ct:Yj) (us:List Yj),us.length=fd.ps.length->bindArgs (PySem.W.fnOf x q (Zdf st) (ZbK st) (ZR st) .none kV doc pm an cdv ct) ⟨us,[]⟩=pure (fd.ps.zip us)
 ck:chkSs ⟨fd.N,ZR st,fs,Wx,kl⟩ fd.body (ZbK st)=Wx
variable {K:Yk}{h:YG}{mg:Str->Option Yj}{kl:Kl}{fs:List Str}{x q C:Str}{fd:Fd}{st:Stmt}{ca:Yi}{P:Pg}
theorem Chk.bd(c:Chk kl fs x q fd st){f:Yi}{fdd:FuncData}(F:Fun K x q st f fdd):BodyOk K kl fs x q fd st f fdd:=⟨F,c.sc,c.hb,c.ck⟩
def ZF(K:Yk)(x:Str)(st:Stmt):Prop:=∃f fdd,Yl K Yd x=Wv (Wv (.ref f))/\Fun K x x st f fdd
def Zkh(K:Yk)(ca:Yi)(x q:Str)(st:Stmt):Prop:=∃f fdd,YJ K (.ref ca) x=Wv (Wv (.ref f))/\PySem.W.isFn K (.ref f)=Wx/\Wf K (.ref f)=Wx/\Fun K x q st f fdd
theorem Zd(X:K.In h)(G:h.Ns Yd mg)(d:ZF K x st)(c:Chk kl fs x x fd st):∃st f fdd,DefOk K mg kl fs x fd st f fdd:=by obtain⟨f,fdd,a,F⟩:=d;exact⟨st,f,fdd,c.bd F,YO X G a⟩
theorem Ze6(X:K.In h)(G:h.Ns Yd mg)(y:Yl K Yd C=Wv (Wv (.ref ca)))(cl:Cls K ca)(d:Zkh K ca x q st)(c:Chk kl (P.tb.map (·.1)) x q fd st)(e:P.look (mnm C x)=Wv fd):∃a f fdd fd st q,mg C=Wv (.ref a)/\Cls K a/\Meth K a x f/\P.look (mnm C x)=Wv fd/\BodyOk K kl (P.tb.map (·.1)) x q fd st f fdd:=by obtain⟨f,fdd,u1,u2,u3,F⟩:=d;exact⟨ca,f,fdd,fd,st,q,YO X G y,cl,⟨u1,u2,u3⟩,e,c.bd F⟩
theorem ZrQ(X:K.In h)(G:h.Ns Yd mg)(y:Yl K Yd C=Wv (Wv (.ref ca)))(m:PySem.W.makesIn K ca=Wx)(k:Wf K (.ref ca)=Wx)(d:Zkh K ca (O "__init__") q st)(c:Chk kl (P.tb.map (·.1)) (O "__init__") q fd st)(e:P.look (mnm C (O "__init__"))=Wv fd):∃a f fdd fd st q,mg C=Wv (.ref a)/\Mk K a f/\P.look (mnm C (O "__init__"))=Wv fd/\BodyOk K kl (P.tb.map (·.1)) (O "__init__") q fd st f fdd:=by obtain⟨f,fdd,u1,u2,u3,F⟩:=d;exact⟨ca,f,fdd,fd,st,q,YO X G y,⟨m,u1,u2,k⟩,e,c.bd F⟩
end IV
end
section
set_option tactic.hygienic false
namespace IV
open PySem L2
theorem Zhb{a b:String}(h:Str.ofString a=Str.ofString b):a=b:=by
 have e:∀s:String,(Str.ofString s).cps.toList=s.toList.map Char.toNat:=λs=>by show(cpsOfBytes 0 0 s.toByteArray.data.toList).toArray.toList=_;rw[cpsOfBytes_string]
 have h1:=congrArg (λs:Str=>s.cps.toList) h;simp only[e]at h1;have h2:a.toList=b.toList:=by
  have inj:∀{x y:Char},x.toNat=y.toNat->x=y:=λ{x y} q=>by have:x.val=y.val:=UInt32.toNat_inj.mp q;exact Char.ext this
  exact(List.map_inj_right λx y q=>inj q).mp h1
 exact String.toList_inj.mp h2
@[simp] theorem ofString_eq(a b:String):(Str.ofString a=Str.ofString b)↔a=b:=⟨Zhb,λh=>h ▸ rfl⟩
@[simp] theorem Zpu(a b:String):(Str.ofString a==Str.ofString b)=(a==b):=by rw[Bool.eq_iff_iff];simp
def Un{γ:Type}(k:γ):Type:=Unit
noncomputable def un{γ:Type}{k:γ}:Un k:=()
noncomputable def R.bnd{α β:Type}(r:R α)(k:α->Hd->R β)(u:Un k:=un):R β:=r.bind k
@[simp] theorem Zk{α β:Type}{a:α}{h:Hd}{k:α->Hd->R β}{u:Un k}:R.bnd (.ok a h) k u=k a h:=rfl
@[simp] theorem ZuK{α β:Type}{k:α->Hd->R β}{u:Un k}:R.bnd (R.bad:R α) k u=.bad:=rfl
section
variable {T:Tb}{S:Ev}{h:Hd}
@[simp] theorem bind_ok{α β:Type}{a:α}{h:Hd}{k:α->Hd->R β}:(R.ok a h).bind k=k a h:=rfl
@[simp] theorem bind_bad{α β:Type}{k:α->Hd->R β}:(R.bad:R α).bind k=.bad:=rfl
@[simp] theorem ofO_some{α:Type}{a:α}{h:Hd}:R.ofO (Wv a) h=.ok a h:=rfl
@[simp] theorem Zlr{α:Type}{a:α}{h:Hd}:(R.ok a h).plain=.ok a h:=rfl
@[simp] theorem Zep{i}:ev T (.var i) S h=R.ofO (S[i]?).join h:=rfl
@[simp] theorem Zj5{d}:ev T (.cst d) S h=.ok d h:=rfl
@[simp] theorem ZnK{x}:ev T (.glo x) S h=R.ofO (T.G x) h:=rfl
@[simp] theorem Zj7{op a b}:ev T (.bin op a b) S h=(ev T a S h).bnd λx h1=>(ev T b S h1).bnd λy h2=>opB op x y h2:=rfl
@[simp] theorem Zj6{op a b}:ev T (.cmp op a b) S h=(ev T a S h).bnd λx h1=>(ev T b S h1).bnd λy h2=>opC T.GD op x y h2:=rfl
@[simp] theorem ZvD{a}:ev T (.neg a) S h=(ev T a S h).bnd λx h1=>match x with
 |.int i=>.ok (.int (-i)) h1
 |_=>.bad:=rfl
@[simp] theorem ZvY{a}:ev T (.nt a) S h=(ev T a S h).bnd λx h1=>match x with
 |.bl b=>.ok (.bl (!b)) h1
 |_=>.bad:=rfl
@[simp] theorem ZuJ{es}:ev T (.ands es) S h=evAnd T es S h:=rfl
@[simp] theorem ZvC{es}:ev T (.ors es) S h=evOr T es S h:=rfl
@[simp] theorem ZsC{e}:evAnd T (.cons e .nil) S h=ev T e S h:=rfl
@[simp] theorem ZsB{e e' r}:evAnd T (.cons e (.cons e' r)) S h=(ev T e S h).bnd λx h1=>match x with
 |.bl Wx=>evAnd T (.cons e' r) S h1
 |.bl Wy=>.ok (.bl Wy) h1
 |_=>.bad:=rfl
@[simp] theorem Zum{e}:evOr T (.cons e .nil) S h=ev T e S h:=rfl
@[simp] theorem Zul{e e' r}:evOr T (.cons e (.cons e' r)) S h=(ev T e S h).bnd λx h1=>match x with
 |.bl Wx=>.ok (.bl Wx) h1
 |.bl Wy=>evOr T (.cons e' r) S h1
 |_=>.bad:=rfl
@[simp] theorem ZvG{c a b}:ev T (.ite c a b) S h=(tst T c S h).bnd λc h1=>if c then ev T a S h1 else ev T b S h1:=rfl
@[simp] theorem Ze7{es}:ev T (.tupl es) S h=(evs T es S h).bnd λxs h1=>if xs.length<=sizeLine then .ok (.tup xs) h1 else .bad:=rfl
@[simp] theorem ZkU{es}:ev T (.lstl es) S h=(evs T es S h).bnd λxs h1=>if xs.length<=sizeLine then ZcH (.lst xs) h1 else .bad:=rfl
@[simp] theorem ZiK{a i}:ev T (.ix a i) S h=(ev T a S h).bnd λx h1=>(ev T i S h1).bnd λy h2=>Z8 T.GD x y h2:=rfl
@[simp] theorem ZnI{a lo hi}:ev T (.sl a lo hi) S h=(ev T a S h).bnd λx h1=>(evo T lo S h1).bnd λl h2=>(evo T hi S h2).bnd λu h3=>Zif x l u h3:=rfl
@[simp] theorem Zsg{f es}:ev T (.blt f es) S h=(evs T es S h).bnd λxs h1=>ZaQ T.GD f xs h1:=rfl
@[simp] theorem Zhv{f es}:ev T (.call f es) S h=(evs T es S h).bnd λxs h1=>T.C f xs h1:=rfl
@[simp] theorem Ze8{m o es}:ev T (.meth m o es) S h=(ev T o S h).bnd λx h1=>if Zb8 x h1 then(evs T es S h1).bnd λxs h2=>Z9 m x xs h2 else .bad:=rfl
@[simp] theorem Zhu{NC js it g c e}:ev T (.comp NC js it g c e) S h=(evi T it S h).bnd λw h1=>(Zo w.src g (tsto T c) (ev T e) w.xs (Zby js S) [] h1).bnd λxs h2=>ZcH (.lst xs) h2:=rfl
@[simp] theorem ZuI{e d}:ev T (.maxd e d) S h=(ev T e S h).bnd λx h1=>(ev T d S h1).bnd λy h2=>Zk2 x y h2:=rfl
@[simp] theorem Zuk{ps}:ev T (.dictl ps) S h=(evs T ps S h).bnd λxs h1=>match ZcN xs with
 |some kvs=>if kvs.length<=15 then ZcH (.dic (ZdA [] kvs)) h1 else .bad
 |none=>.bad:=rfl
@[simp] theorem ZvH{Cs o f}:ev T (.att Cs o f) S h=(ev T o S h).bnd λx h1=>Zgc Cs f x h1:=rfl
@[simp] theorem Zui{C es}:ev T (.mk C es) S h=(evs T es S h).bnd λxs h1=>Znc T.C C xs h1:=rfl
@[simp] theorem ZnJ{C m o es}:ev T (.mcl C m o es) S h=(ev T o S h).bnd λx h1=>match ZY x h1 with
 |some (C',fs)=>if C'=C/\fs.lookup m=Ww then(evs T es S h1).bnd λxs h2=>T.C (mnm C m) (x::xs) h2 else .bad
 |none=>.bad:=rfl
@[simp] theorem ZuH{e}:ev T (.trev e) S h=(ev T e S h).bnd λx h1=>ZqC x h1:=rfl
@[simp] theorem ZvE{e}:ev T (.lrv e) S h=(ev T e S h).bnd λx h1=>Zut x h1:=rfl
@[simp] theorem ZvB{o e}:ev T (.tix o e) S h=(ev T o S h).bnd λx h1=>if Zt5 x then(ev T e S h1).bnd λy h2=>Zus x y h2 else .bad:=rfl
@[simp] theorem ZvF{o e}:ev T (.lix o e) S h=(ev T o S h).bnd λx h1=>if Zb8 x h1 then(ev T e S h1).bnd λy h2=>Zuu x y h2 else .bad:=rfl
@[simp] theorem Zse{a b}:ev T (.lin a b) S h=(ev T a S h).bnd λx h1=>(ev T b S h1).bnd λy h2=>ZeY x y h2:=rfl
@[simp] theorem ZsF{Cs o f e}:xs1 T (.seta Cs o f e) S h=(ev T e S h).bnd λd h1=>(ev T o S h1).bnd λx h2=>(ZgX Cs f x d h2).bnd λ_ h3=>.ok (.nx,S) h3:=rfl
@[simp] theorem ZsG{Cs o f e}:xs1 T (.auga Cs o f e) S h=(ev T o S h).bnd λx h1=>(Zgc Cs f x h1).bnd λv h2=>(ev T e S h2).bnd λy h3=>match v,y with
 |.int a,.int b=>if (ZY x h1).map (·.1)=(ZY x h3).map (·.1)then(ZgX Cs f x (.int (a+b)) h3).bnd λ_ h4=>.ok (.nx,S) h4 else .bad
 |_,_=>.bad:=rfl
@[simp] theorem Zd5:evs T .nil S h=.ok [] h:=rfl
@[simp] theorem Za7{e es}:evs T (.cons e es) S h=(ev T e S h).bnd λx h1=>(evs T es S h1).bnd λxs h2=>.ok (x::xs) h2:=rfl
@[simp] theorem Zug:evo T Ww S h=.ok Ww h:=rfl
@[simp] theorem ZnH{e}:evo T (Wv e) S h=(ev T e S h).bnd λx h1=>match x with
 |.int i=>.ok (Wv i) h1
 |_=>.bad:=rfl
@[simp] theorem ZgR{e}:tst T (.ex e) S h=(ev T e S h).bnd λx h1=>R.ofO (Zcm T.GD x h1) h1:=rfl
@[simp] theorem ZhT{ts}:tst T (.ands ts) S h=tstAnd T ts S h:=rfl
@[simp] theorem Zko{ts}:tst T (.ors ts) S h=tstOr T ts S h:=rfl
@[simp] theorem ZqO{a}:tst T (.nt a) S h=(tst T a S h).bnd λc h1=>.ok (!c) h1:=rfl
@[simp] theorem ZqP{t}:tstAnd T (.one t) S h=tst T t S h:=rfl
@[simp] theorem Zev{t ts}:tstAnd T (.cons t ts) S h=(tst T t S h).bnd λc h1=>if c then tstAnd T ts S h1 else .ok Wy h1:=rfl
@[simp] theorem Zsy{t}:tstOr T (.one t) S h=tst T t S h:=rfl
@[simp] theorem Zff{t ts}:tstOr T (.cons t ts) S h=(tst T t S h).bnd λc h1=>if c then .ok Wx h1 else tstOr T ts S h1:=rfl
@[simp] theorem Zla:tsto T Ww S h=.ok Wx h:=rfl
@[simp] theorem Zsx{t}:tsto T (Wv t) S h=tst T t S h:=rfl
@[simp] theorem Zsd{e}:evi T (.pl e) S h=(ev T e S h).bnd λx h1=>R.ofO (Zal x h1) h1:=rfl
@[simp] theorem ZpT{e}:evi T (.rng e) S h=(ev T e S h).bnd λx h1=>match x with
 |.int j=>if ZaV j then .ok ⟨Ww,Zaz 0 j.toNat⟩ h1 else .bad
 |_=>.bad:=rfl
@[simp] theorem ZpV{e}:evi T (.enu e) S h=(ev T e S h).bnd λx h1=>R.ofO ((Zkl x h1).map λw=>⟨w.src,ZcC w.xs⟩) h1:=rfl
@[simp] theorem ZpU{e}:evi T (.rev e) S h=(ev T e S h).bnd λx h1=>R.ofO ((Zgi x h1).map λw=>⟨w.src,w.xs.reverse⟩) h1:=rfl
@[simp] theorem ZuF{e}:evi T (.en1 e) S h=(ev T e S h).bnd λx h1=>match x with
 |.tup xs=>.ok ⟨Ww,ZnO xs⟩ h1
 |_=>.bad:=rfl
@[simp] theorem ZuG{e}:evi T (.en0 e) S h=(ev T e S h).bnd λx h1=>match x with
 |.tup xs=>.ok ⟨Ww,ZcC xs⟩ h1
 |_=>.bad:=rfl
@[simp] theorem ZvA{e}:evi T (.dk e) S h=(ev T e S h).bnd λx h1=>Zuc x h1:=rfl
@[simp] theorem Ze0{e}:xs1 T (.ret e) S h=(ev T e S h).bnd λx h1=>.ok (.rt x,S) h1:=rfl
@[simp] theorem ZeZ{g e}:xs1 T (.set g e) S h=(ev T e S h).bnd λx h1=>(R.ofO (Zbz g x S) h1).bnd λρ1 h2=>.ok (.nx,ρ1) h2:=rfl
@[simp] theorem ZuA{o i e}:xs1 T (.put o i e) S h=(ev T e S h).bnd λx h1=>(ev T o S h1).bnd λy h2=>(ev T i S h2).bnd λz h3=>(ZbH y z x h3).bnd λ_ h4=>.ok (.nx,S) h4:=rfl
@[simp] theorem Zki{e}:xs1 T (.drp e) S h=(ev T e S h).bnd λ_ h1=>.ok (.nx,S) h1:=rfl
@[simp] theorem Ze1{c a b}:xs1 T (.iff c a b) S h=(tst T c S h).bnd λt h1=>if t then xs2 T a S h1 else xs2 T b S h1:=rfl
@[simp] theorem Zuz{c b}:xs1 T (.whl c b) S h=ZN (tst T c) (xs2 T b) T.L S h:=rfl
@[simp] theorem Zl5{g it b}:xs1 T (.forr g it b) S h=(evi T it S h).bnd λw h1=>ZP w.src g (xs2 T b) w.xs S h1:=rfl
@[simp] theorem Zoh:xs2 T .nil S h=.ok (.nx,S) h:=rfl
@[simp] theorem Zb1{s r}:xs2 T (.cons s r) S h=(xs1 T s S h).bnd λp h1=>match p with
 |(.nx,ρ1)=>xs2 T r ρ1 h1
 |p=>.ok p h1:=rfl
theorem Zb{s:Sx}{r:Sxs}{ρ1:Ev}{h1:Hd}(e:xs1 T s S h=.ok (.nx,ρ1) h1):xs2 T (.cons s r) S h=xs2 T r ρ1 h1:=by rw[Zb1,e];rfl
theorem Zf{s:Sx}{r:Sxs}{ρ1:Ev}{h1:Hd}{d:D}(e:xs1 T s S h=.ok (.rt d,ρ1) h1):xs2 T (.cons s r) S h=.ok (.rt d,ρ1) h1:=by rw[Zb1,e];rfl
@[simp] theorem Zp8{i d}:Zbz (.nm i) d S=Wv (S.set i (Wv d)):=rfl
@[simp] theorem Zn7{i j a b}:Zbz (.two i j) (.tup [a,b]) S=Wv ((S.set i (Wv a)).set j (Wv b)):=rfl
@[simp] theorem Zu7{d:D}:Zh (.ok (.rt d,S) h)=.ok d h:=rfl
@[simp] theorem Zu8:Zh (.ok (.nx,S) h)=.ok .non h:=rfl
end
@[simp] theorem Zgn{xs:List D}{h:Hd}:seqOf (.tup xs) h=Wv xs:=rfl
@[simp] theorem ZtH{f:Int->Int->Bool}{i j:Int}{h:Hd}:Zg9 f (.int i) (.int j) h=.ok (.bl (f i j)) h:=rfl
section
variable {GD:Str->Option (List (Key×D))}{h:Hd}
@[simp] theorem Zm4{x y}:opC GD .Eq x y h=ZbS Wy x y h:=rfl
@[simp] theorem Zvm{x y}:opC GD .NotEq x y h=ZbS Wx x y h:=rfl
@[simp] theorem Zvn{i j}:opC GD .Lt (.int i) (.int j) h=.ok (.bl (Wz (i<j))) h:=rfl
@[simp] theorem Zvo{i j}:opC GD .LtE (.int i) (.int j) h=.ok (.bl (Wz (i<=j))) h:=rfl
@[simp] theorem Zvp{i j}:opC GD .Gt (.int i) (.int j) h=.ok (.bl (Wz (j<i))) h:=rfl
@[simp] theorem Zvq{i j}:opC GD .GtE (.int i) (.int j) h=.ok (.bl (Wz (j<=i))) h:=rfl
@[simp] theorem Zm3{x}:opC GD .Is x .non h=.ok (.bl (Wz (x=.non))) h:=rfl
@[simp] theorem ZtJ{x}:opC GD .IsNot x .non h=.ok (.bl (!Wz (x=.non))) h:=rfl
@[simp] theorem ZsA{s n}:opC GD .In (.str s) (.kd n) h=match GD n with
 |some kvs=>.ok (.bl (Zay kvs (.inr s)).isSome) h
 |none=>.bad:=by
 show Zbh GD Wy (.str s) (.kd n) h=_;unfold Zbh;simp only[seqOf,lstOf,dicOf,keyOf];cases GD n<;>rfl
@[simp] theorem Zha{s n}:opC GD .NotIn (.str s) (.kd n) h=match GD n with
 |some kvs=>.ok (.bl (!(Zay kvs (.inr s)).isSome)) h
 |none=>.bad:=by
 show Zbh GD Wx (.str s) (.kd n) h=_;unfold Zbh;simp only[seqOf,lstOf,dicOf,keyOf];cases GD n<;>rfl
theorem Zfc(ss:List Str):(ss.map D.str).all D.flat=Wx:=by rw[OC];intro x hx;obtain⟨s,_,rfl⟩:=List.mem_map.mp hx;rfl
theorem any_words(ss:List Str)(x:Str):((ss.map D.str).any λz=>eqF z (.str x))=Wz (x∈ss):=by
 induction ss with
 |nil=>rfl
 |cons s r ih=>
  rw[Op,We,ih];show((s==x) || Wz (x∈r))=_;by_cases e:s=x
  . subst e;simp
  . have:(s==x)=Wy:=by simpa using e
    rw[this];have e':¬ x=s:=λq=>e q.symm;simp[e']
theorem Zcn{ss:List Str}{x:Str}:opC GD .In (.str x) (.tup (ss.map .str)) h=.ok (.bl (Wz (x∈ss))) h:=by show Zbh GD Wy (.str x) (.tup (ss.map .str)) h=_;unfold Zbh;rw[Zgn];simp only[Zfc,any_words];rfl
theorem ZeT{ss:List Str}{x:Str}:opC GD .NotIn (.str x) (.tup (ss.map .str)) h=.ok (.bl (!Wz (x∈ss))) h:=by show Zbh GD Wx (.str x) (.tup (ss.map .str)) h=_;unfold Zbh;rw[Zgn];simp only[Zfc,any_words];rfl
@[simp] theorem ZtG{xs i}:Z8 GD (.tup xs) (.int i) h=R.ofO (atI xs i) h:=rfl
@[simp] theorem ZuD{xs i}:Z8 GD (.ro xs) (.int i) h=R.ofO (atI xs i) h:=rfl
@[simp] theorem Zpl{n s}:Z8 GD (.kd n) (.str s) h=match GD n with
 |some kvs=>R.ofO (Zay kvs (.inr s)) h
 |none=>.bad:=rfl
theorem ZG{i k xs}(e:h[i]? = Wv (.lst xs)):Z8 GD (.ref i) (.int k) h=R.ofO (atI xs k) h:=by unfold Z8;simp only[seqOf,lstOf,e]
@[simp] theorem Zuv{α:Type}{x:α}{l:List α}:atI (x::l) 0=Wv x:=by simp[atI,ixN]
theorem Zcz{α:Type}{l:List α}{k:Nat}:atI l (k:Int)=l[k]? := by
 unfold atI ixN;by_cases hk:k<l.length
 . simp[hk]
 . simp[hk]
@[simp] theorem Zv1{α:Type}{x y:α}{l:List α}:atI (x::y::l) 1=Wv y:=Zcz (k:=1)
@[simp] theorem Zv0{α:Type}{x y z:α}{l:List α}:atI (x::y::z::l) 2=Wv z:=Zcz (k:=2)
@[simp] theorem ZvZ{α:Type}{x y z w:α}{l:List α}:atI (x::y::z::w::l) 3=Wv w:=Zcz (k:=3)
theorem Zoa{α:Type}{l:List α}{x:α}:atI (l++[x]) (-1)=Wv x:=by
 unfold atI ixN;rw[if_neg (by decide),if_pos (by simp;omega)];have:(-1+((l++[x]).length:Int)).toNat=l.length:=by simp;omega
 simp only[Yz,this];simp
@[simp] theorem ZtF{xs l u}:Zif (.tup xs) l u h=.ok (.tup (cutD xs l u)) h:=rfl
@[simp] theorem ZsD{x:D}{l:List D}:cutD (x::l) (Wv 1) Ww=l:=by simp[cutD,HT.sIx]
@[simp] theorem Zkp{b}:Zcm GD (.bl b) h=Wv b:=rfl
@[simp] theorem ZsU{i}:Zcm GD (.int i) h=Wv (i != 0):=rfl
@[simp] theorem ZsS{xs}:Zcm GD (.tup xs) h=Wv (!xs.isEmpty):=rfl
@[simp] theorem ZsT:Zcm GD .non h=Wv Wy:=rfl
@[simp] theorem Zpp{i j}:opB .Add (.int i) (.int j) h=.ok (.int (i+j)) h:=rfl
@[simp] theorem ZuE{i j}:opB .Sub (.int i) (.int j) h=.ok (.int (i - j)) h:=rfl
theorem ZL{i j:Int}(hj:0<j):opB .Mod (.int i) (.int j) h=.ok (.int (i % j)) h:=if_pos hj
theorem Zco{i j:Int}(hj:0<j/\j<1073741824):opB .FloorDiv (.int i) (.int j) h=.ok (.int (i / j)) h:=if_pos hj
theorem Zc9{i j:Int}(hj:i.natAbs<2 ^ 2000/\j.natAbs<2 ^ 2000):opB .Mult (.int i) (.int j) h=.ok (.int (i * j)) h:=if_pos hj
theorem Zc8{xs ys:List D}(hl:xs.length+ys.length<=sizeLine):opB .Add (.tup xs) (.tup ys) h=.ok (.tup (xs++ys)) h:=if_pos hl
@[simp] theorem Zm1{n:Bool}{x y:Str}:ZbS n (.str x) (.str y) h=.ok (.bl (if n then !Wz (x=y)else Wz (x=y))) h:=by
 have e:YQ (.str x) (.str y)=Wz (x=y):=by show(x==y)=_;rw[Bool.beq_eq_decide_eq]
 have q:ZbS n (.str x) (.str y) h=if min (PyData.str x).depth (PyData.str y).depth<=1100 then .ok (.bl (if n then !YQ (.str x) (.str y)else YQ (.str x) (.str y))) h else .bad:=rfl;rw[q,if_pos (by simp[PyData.depth]),e]
@[simp] theorem Zm2{n:Bool}{x y:Int}:ZbS n (.int x) (.int y) h=.ok (.bl (if n then !Wz (x=y)else Wz (x=y))) h:=by
 have e:YQ (.int x) (.int y)=Wz (x=y):=by show(x==y)=_;rw[Bool.beq_eq_decide_eq]
 have q:ZbS n (.int x) (.int y) h=if min (PyData.int x).depth (PyData.int y).depth<=1100 then .ok (.bl (if n then !YQ (.int x) (.int y)else YQ (.int x) (.int y))) h else .bad:=rfl;rw[q,if_pos (by simp[PyData.depth]),e]
end
@[simp] theorem Zsz{xs:List D}(h:xs.length<=1000):xs.length<=sizeLine:=OE h (by decide)
theorem Zc{P:Pg}{n:Nat}{f:Str}{fd:Fd}{ds:List D}{h:Hd}(e:P.tb.lookup f=Wv fd)(hl:ds.length=fd.ps.length):run P (n+1) f ds h=Zh (xs2 ⟨P.G,P.GD,run P n,P.L⟩ fd.body (Zq fd.N ds) h):=by rw[run,show P.look f=Wv fd by unfold Pg.look;rw[e]];simp only;rw[if_pos hl]
theorem Zdy{P:Pg}{n:Nat}{f:Str}{fd:Fd}{ds:List D}{h:Hd}(hn:P.tb.lookup f=Ww)(e:P.ms.lookup f=Wv fd)(hl:ds.length=fd.ps.length):run P (n+1) f ds h=Zh (xs2 ⟨P.G,P.GD,run P n,P.L⟩ fd.body (Zq fd.N ds) h):=by rw[run,show P.look f=Wv fd by unfold Pg.look;rw[hn];exact e];simp only;rw[if_pos hl]
section
variable {h:Hd}{x y z w:DO}{r:List DO}
@[simp] theorem ZdL:(h++x::r)[h.length]? = Wv x:=by simp
@[simp] theorem Zv4:(h++x::y::r)[h.length+1]? = Wv y:=by simp
@[simp] theorem Zv3:(h++x::y::z::r)[h.length+2]? = Wv z:=by simp
@[simp] theorem Zv2:(h++x::y::z::w::r)[h.length+3]? = Wv w:=by simp
@[simp] theorem Ztr{o:DO}:(h++x::r).set h.length o=h++o::r:=by simp
@[simp] theorem ZvX{o:DO}:(h++x::y::r).set (h.length+1) o=h++x::o::r:=by simp
@[simp] theorem ZvW{o:DO}:(h++x::y::z::r).set (h.length+2) o=h++x::y::o::r:=by simp
end
@[simp] theorem Zpv{o:DO}{h:Hd}:ZcH o h=.ok (.ref h.length) (h++[o]):=rfl
section
variable {h:Hd}
theorem ZdZ{i:Nat}{ys:List D}{d:D}(e:h[i]? = Wv (.lst ys))(hz:ys.length<sizeLine):Z9 .app (.ref i) [d] h=.ok .non (h.set i (.lst (ys++[d]))):=by simp only[Z9,e,Zek,ZjD];rw[if_pos hz]
theorem ZfH{i:Nat}{ys:List D}{d:D}(e:h[i]? = Wv (.lst (ys++[d]))):Z9 .pop (.ref i) [] h=.ok d (h.set i (.lst ys)):=by simp only[Z9,e,Zek,Zpy];simp
theorem Zar{i:Nat}{ys:List D}(e:h[i]? = Wv (.lst ys)):Zb8 (.ref i) h=Wx:=by simp[Zb8,e]
theorem Zoo{GD:Str->Option (List (Key×D))}{i:Nat}{ys:List D}(e:h[i]? = Wv (.lst ys)):Zcm GD (.ref i) h=Wv (!ys.isEmpty):=by simp[Zcm,e]
@[simp] theorem Zud{g:Tg}{body:Ev->Hd->R (Fl×Ev)}{S:Ev}:ZP Ww g body [] S h=.ok (.nx,S) h:=rfl
theorem Zas{g:Tg}{body:Ev->Hd->R (Fl×Ev)}{d:D}{ds:List D}{S:Ev}:ZP Ww g body (d::ds) S h=match Zbz g d S with
 |none=>.bad
 |some ρ1=>(body ρ1 h).bnd λp h2=>match p with
  |(.nx,ρ2)=>ZP Ww g body ds ρ2 h2
  |(.ct,ρ2)=>ZP Ww g body ds ρ2 h2
  |(.bk,ρ2)=>.ok (.nx,ρ2) h2
  |(.rt d,ρ2)=>.ok (.rt d,ρ2) h2:=rfl
theorem ZE{src:Option (Nat×List D)}{g:Tg}{test:Ev->Hd->R Bool}{elt:Ev->Hd->R D}{d:D}{ds:List D}{S:Ev}{acc:List D}:Zo src g test elt (d::ds) S acc h=if Wk.stays src h/\acc.length<sizeLine then match Zbz g d S with
 |none=>.bad
 |some ρ1=>(test ρ1 h).bnd λb h1=>if b then(elt ρ1 h1).bnd λx h2=>Zo src g test elt ds S (acc++[x]) h2 else Zo src g test elt ds S acc h1
 else .bad:=rfl
theorem Zaq{test:Ev->Hd->R Bool}{body:Ev->Hd->R (Fl×Ev)}{n:Nat}{S:Ev}:ZN test body (n+1) S h=(test S h).bnd λb h1=>if b then(body S h1).bnd λp h2=>match p with
 |(.nx,ρ2)=>ZN test body n ρ2 h2
 |(.ct,ρ2)=>ZN test body n ρ2 h2
 |(.bk,ρ2)=>.ok (.nx,ρ2) h2
 |(.rt d,ρ2)=>.ok (.rt d,ρ2) h2
 else .ok (.nx,S) h1:=rfl
end
inductive Wd where
 |add|sub|mul|lt
 deriving DecidableEq
noncomputable def Wd.s:Wd->Str
 |.add=>O "+"
 |.sub=>O "-"
 |.mul=>O "*"
 |.lt=>O "<"
inductive T where
 |num (n:Int)|name (x:Str)|fn (x:Str) (e:T)|rcc (f x:Str) (e:T)|call (f a:T)|iff (c t e:T)|op (w:Wd) (a b:T)
noncomputable def T.d:T->D
 |.num n=>.tup [.str (O "num"),.int n]
 |.name x=>.tup [.str (O "name"),.str x]
 |.fn x e=>.tup [.str (O "fn"),.str x,e.d]
 |.rcc f x e=>.tup [.str (O "rec"),.str f,.str x,e.d]
 |.call f a=>.tup [.str (O "call"),f.d,a.d]
 |.iff c t e=>.tup [.str (O "if"),c.d,t.d,e.d]
 |.op w a b=>.tup [.str w.s,a.d,b.d]
noncomputable def T.parts:T->List T
 |.num _|.name _=>[]
 |.fn _ e|.rcc _ _ e=>[e]
 |.call f a=>[f,a]
 |.iff c t e=>[c,t,e]
 |.op _ a b=>[a,b]
noncomputable def T.places:T->List T
 |.num n=>[.num n]
 |.name x=>[.name x]
 |.fn x e=>.fn x e::e.places
 |.rcc f x e=>.rcc f x e::e.places
 |.call f a=>.call f a::(f.places++a.places)
 |.iff c t e=>.iff c t e::(c.places++(t.places++e.places))
 |.op w a b=>.op w a b::(a.places++b.places)
noncomputable def T.size(t:T):Nat:=t.places.length
theorem T.places_parts(t:T):t.places=t::t.parts.flatMap T.places:=by cases t<;>simp[T.places,T.parts]
end IV
end
section
namespace IV
open PySem L2
section
variable {U:Tb}{S:Ev}{h h1:Hd}{f:Str}{as:List D}{r:R D}
noncomputable abbrev Tb.say(U:Tb)(r:R D):Tb:=⟨U.G,U.GD,λ_ _ _=>r,U.L⟩
theorem Z2{s:Sx}{y:R (Fl×Ev)}(e:U.C f as h1=r)(q:xs1 U s S h=xs1 (U.say (U.C f as h1)) s S h)(z:xs1 (U.say r) s S h=y):xs1 U s S h=y:=by rw[q,e,z]
theorem Zw{c:Tx}{a b:Sxs}(e:tst U c S h=.ok Wx h1):xs1 U (.iff c a b) S h=xs2 U a S h1:=by rw[Ze1,e];rfl
theorem Zx{c:Tx}{a b:Sxs}(e:tst U c S h=.ok Wy h1):xs1 U (.iff c a b) S h=xs2 U b S h1:=by rw[Ze1,e];rfl
theorem ZV{e:Ex}{d:D}(q:ev U e S h=.ok d h1):xs1 U (.ret e) S h=.ok (.rt d,S) h1:=by rw[Ze0,q];rfl
theorem Zn{i:Nat}{e:Ex}{d:D}(q:ev U e S h=.ok d h1):xs1 U (.set (.nm i) e) S h=.ok (.nx,S.set i (Wv d)) h1:=by rw[ZeZ,q];rfl
theorem ZdE{g:Tg}{it:Ix}{b:Sxs}{w:Wk}(q:evi U it S h=.ok w h1):xs1 U (.forr g it b) S h=ZP w.src g (xs2 U b) w.xs S h1:=by rw[Zl5,q];rfl
theorem ZB{op:Operator}{a b:Ex}{x y:D}{h2:Hd}(p:ev U a S h=.ok x h1)(q:ev U b S h1=.ok y h2):ev U (.bin op a b) S h=opB op x y h2:=by rw[Zj7,p];simp only[Zk,q]
theorem ZD{op:CmpOp}{a b:Ex}{x y:D}{h2:Hd}(p:ev U a S h=.ok x h1)(q:ev U b S h1=.ok y h2):ev U (.cmp op a b) S h=opC U.GD op x y h2:=by rw[Zj6,p];simp only[Zk,q]
theorem ZcU{e:Ex}{b:Bool}(q:ev U e S h=.ok (.bl b) h1):tst U (.ex e) S h=.ok b h1:=by rw[ZgR,q];rfl
theorem Zr{b c:Bool}{y:R Bool}(q:y=.ok b h1)(e:b=c):y=.ok c h1:=e ▸ q
noncomputable def hdS:Sxs->Sx
 |.cons s _=>s
 |.nil=>.pas
noncomputable def tlS:Sxs->Sxs
 |.cons _ r=>r
 |.nil=>.nil
theorem rt1{ss:Sxs}{ρ1:Ev}{d:D}{h2:Hd}(e:xs1 U (hdS ss) S h=.ok (.rt d,ρ1) h2)(hs:ss=.cons (hdS ss) (tlS ss)):Zh (xs2 U ss S h)=.ok d h2:=by rw[hs,Zf e];rfl
theorem nx1{ss:Sxs}{ρ1:Ev}{h2:Hd}(e:xs1 U (hdS ss) S h=.ok (.nx,ρ1) h2)(hs:ss=.cons (hdS ss) (tlS ss)):xs2 U ss S h=xs2 U (tlS ss) ρ1 h2:=by rw[hs,Zb e];rfl
theorem Za{a:Ex}{es:Exs}{x:D}{xs:List D}{h2:Hd}(p:ev U a S h=.ok x h1)(q:evs U es S h1=.ok xs h2):evs U (.cons a es) S h=.ok (x::xs) h2:=by rw[Za7,p,Zk,q];rfl
theorem Zsf{g:Str}{es:Exs}{xs:List D}(p:evs U es S h=.ok xs h1):ev U (.call g es) S h=U.C g xs h1:=by rw[Zhv,p];rfl
theorem Zn3{es:Exs}{e:Ex}{xs:List D}{z:Int}{d:D}(a:atI xs z=Wv d)(p:evs U es S h=.ok xs h)(q:ev U e S (h++[.lst xs])=.ok (.int z) (h++[.lst xs]))(hz:xs.length<=1000):ev U (.ix (.lstl es) e) S h=.ok d (h++[.lst xs]):=by rw[ZiK,ZkU,p,Zk,if_pos (OE hz (by decide)),Zpv,Zk,q,Zk,ZG (xs:=xs) (by simp),a];rfl
theorem Zj{g:Str}{es:Exs}{xs:List D}{y:R D}(e:U.C g xs h1=y)(p:evs U es S h=.ok xs h1):ev U (.call g es) S h=y:=(Zsf p).trans e
theorem ZaN{es:Exs}{xs:List D}(p:evs U es S h=.ok xs h1)(hz:xs.length<=1000):ev U (.tupl es) S h=.ok (.tup xs) h1:=by rw[Ze7,p,Zk,if_pos (OE hz (by decide))]
theorem Znv{e:Ex}{x:D}(p:ev U e S h=.ok x h1)(n:x≠.non):tst U (.ex (.cmp .Is e (.cst .non))) S h=.ok Wy h1:=ZcU ((ZD p rfl).trans (by rw[Zm3,decide_eq_false n]))
theorem ZlP{e:Ex}(p:ev U e S h=.ok .non h1):tst U (.ex (.cmp .Is e (.cst .non))) S h=.ok Wx h1:=ZcU ((ZD p rfl).trans (by rw[Zm3,decide_eq_true rfl]))
theorem Zbx{a b:Ex}{x y:Str}{h2:Hd}(p:ev U a S h=.ok (.str x) h1)(q:ev U b S h1=.ok (.str y) h2):tst U (.ex (.cmp .Eq a b)) S h=.ok (Wz (x=y)) h2:=ZcU ((ZD p q).trans (by rw[Zm4,Zm1];rfl))
theorem ZfX{a b:Ex}{x y:Int}{h2:Hd}(p:ev U a S h=.ok (.int x) h1)(q:ev U b S h1=.ok (.int y) h2):tst U (.ex (.cmp .Eq a b)) S h=.ok (Wz (x=y)) h2:=ZcU ((ZD p q).trans (by rw[Zm4,Zm2];rfl))
theorem ZA{a b:Ex}{x y:D}{h2:Hd}(p:ev U a S h=.ok x h1)(q:ev U b S h1=.ok y h2):ev U (.ix a b) S h=Z8 U.GD x y h2:=by rw[ZiK,p,Zk,q,Zk]
theorem ZqG{a b:Tx}{c:Bool}{h2:Hd}(p:tst U a S h=.ok Wx h1)(q:tst U b S h1=.ok c h2):tst U (.ands (.cons a (.one b))) S h=.ok c h2:=by rw[ZhT,Zev,p];exact q
theorem Zuw{a b:Tx}(p:tst U a S h=.ok Wy h1):tst U (.ands (.cons a (.one b))) S h=.ok Wy h1:=by rw[ZhT,Zev,p];rfl
theorem Ztz{a b:Tx}(p:tst U a S h=.ok Wx h1):tst U (.ors (.cons a (.one b))) S h=.ok Wx h1:=by rw[Zko,Zff,p];rfl
theorem ZmZ{a b:Tx}{c:Bool}{h2:Hd}(p:tst U a S h=.ok Wy h1)(q:tst U b S h1=.ok c h2):tst U (.ors (.cons a (.one b))) S h=.ok c h2:=by rw[Zko,Zff,p];exact q
theorem Zn4{β:Type}(A:Tb->β){y:β}(e:U.C f as h1=r)(q:A U=A (U.say (U.C f as h1)))(z:A (U.say r)=y):A U=y:=by rw[q,e,z]
end
end IV
end
section
set_option tactic.hygienic false
namespace Gn
open PySem L2 IV
noncomputable def ZbA:Sxs:=(.cons (.iff (.ex (.cmp .NotIn (.ix (.var 0) (.cst (.int 0))) (.glo (O "FORMS")))) (.cons (.ret (.tupl .nil)) .nil) .nil) (.cons (.ret (.sl (.var 0) (Wv (.bin .Add (.cst (.int 1)) (.ix (.ix (.glo (O "FORMS")) (.ix (.var 0) (.cst (.int 0)))) (.cst (.int 0))))) Ww)) .nil))
noncomputable def Zbr:Fd:=⟨[(O "E")],[(O "E")],ZbA⟩
noncomputable def Zi0:Sxs:=(.cons (.set (.nm 1) (.lstl .nil)) (.cons (.set (.nm 2) (.lstl (.cons (.var 0) .nil))) (.cons (.whl (.ex (.var 2)) (.cons (.set (.nm 3) (.meth .pop (.var 2) .nil)) (.cons (.drp (.meth .app (.var 1) (.cons (.var 3) .nil))) (.cons (.forr (.nm 4) (.rev (.call (O "parts_of") (.cons (.var 3) .nil))) (.cons (.drp (.meth .app (.var 2) (.cons (.var 4) .nil))) .nil)) .nil)))) (.cons (.ret (.var 1)) .nil))))
noncomputable def Zbq:Fd:=⟨[(O "E")],[(O "E"),(O "found"),(O "waiting"),(O "place"),(O "part")],Zi0⟩
noncomputable def ZbX:Sxs:=(.cons (.iff (.ex (.cmp .Lt (.var 1) (.blt .len (.cons (.var 0) .nil)))) (.cons (.ret (.ix (.var 0) (.var 1))) .nil) .nil) (.cons (.ret (.cst (.int 0))) .nil))
noncomputable def ZC:Fd:=⟨[(O "_law_script"),(O "_law_k")],[(O "_law_script"),(O "_law_k")],ZbX⟩
noncomputable def ZeP:Sxs:=(.cons (.set (.nm 2) (.bin .Add (.bin .Pow (.cst (.int 10)) (.cst (.int 30))) (.cst (.int 57)))) (.cons (.set (.nm 3) (.bin .Mult (.bin .Mod (.var 0) (.var 2)) (.cst (.int 271828182845904523536028747135)))) (.cons (.set (.nm 3) (.bin .Add (.var 3) (.bin .Mult (.bin .Mult (.var 1) (.var 1)) (.cst (.int 314159265358979323846264338327))))) (.cons (.ret (.bin .Mod (.bin .Add (.var 3) (.cst (.int 577215664901532860606512090082))) (.var 2))) .nil))))
noncomputable def Zav:Fd:=⟨[(O "_law_cell"),(O "_law_k")],[(O "_law_cell"),(O "_law_k"),(O "_law_big"),(O "_law_number_here")],ZeP⟩
noncomputable def ZdI:Sxs:=(.cons (.set (.nm 1) (.ix (.var 0) (.cst (.int 1)))) (.cons (.put (.var 0) (.cst (.int 1)) (.bin .Add (.var 1) (.cst (.int 1)))) (.cons (.iff (.ex (.cmp .Lt (.var 1) (.blt .len (.cons (.ix (.var 0) (.cst (.int 0))) .nil)))) (.cons (.ret (.ix (.ix (.var 0) (.cst (.int 0))) (.var 1))) .nil) .nil) (.cons (.ret (.call (O "_law_mixed") (.cons (.var 1) (.cons (.cst (.int 7)) .nil)))) .nil))))
noncomputable def Zan:Fd:=⟨[(O "_law_state")],[(O "_law_state"),(O "_law_at")],ZdI⟩
noncomputable def ZeO:Sxs:=(.cons (.set (.nm 1) (.cst (.str (O "abcdefghijklmnopqrstuvwxyz")))) (.cons (.set (.nm 2) (.bin .Add (.cst (.int 1)) (.bin .Mod (.var 0) (.cst (.int 8))))) (.cons (.set (.nm 3) (.bin .Mod (.bin .FloorDiv (.var 0) (.cst (.int 8))) (.var 2))) (.cons (.set (.nm 4) (.bin .FloorDiv (.var 0) (.cst (.int 64)))) (.cons (.set (.nm 5) (.cst (.str (O "")))) (.cons (.forr (.nm 6) (.rng (.cst (.int 8))) (.cons (.set (.nm 5) (.bin .Add (.var 5) (.ix (.var 1) (.bin .Mod (.var 4) (.cst (.int 26)))))) (.cons (.set (.nm 4) (.bin .FloorDiv (.var 4) (.cst (.int 26)))) .nil))) (.cons (.set (.nm 7) (.lstl .nil)) (.cons (.forr (.nm 6) (.rng (.cst (.int 5))) (.cons (.set (.nm 8) (.ix (.var 1) (.bin .Mod (.bin .Add (.var 4) (.bin .Mult (.cst (.int 5)) (.var 6))) (.cst (.int 26))))) (.cons (.set (.nm 9) (.bin .Add (.bin .Add (.sl (.var 5) Ww (Wv (.var 3))) (.var 8)) (.sl (.var 5) (Wv (.bin .Add (.var 3) (.cst (.int 1)))) (Wv (.var 2))))) (.cons (.iff (.ex (.cmp .Eq (.bin .Mod (.bin .FloorDiv (.var 4) (.cst (.int 26))) (.cst (.int 4))) (.cst (.int 1)))) (.cons (.set (.nm 9) (.sl (.var 5) Ww (Wv (.bin .Sub (.cst (.int 8)) (.var 6))))) .nil) .nil) (.cons (.iff (.ex (.cmp .In (.var 9) (.tupl (.cons (.cst (.str (O "fn"))) (.cons (.cst (.str (O "rec"))) (.cons (.cst (.str (O "call"))) (.cons (.cst (.str (O "if"))) .nil))))))) (.cons (.set (.nm 9) (.bin .Mult (.cst (.str (O "q"))) (.blt .len (.cons (.var 9) .nil)))) .nil) .nil) (.cons (.drp (.meth .app (.var 7) (.cons (.var 9) .nil))) .nil)))))) (.cons (.ret (.var 7)) .nil)))))))))
noncomputable def Zau:Fd:=⟨[(O "_law_number_here")],[(O "_law_number_here"),(O "_law_letters"),(O "_law_long"),(O "_law_place"),(O "_law_rest"),(O "_law_base"),(O "_law_k"),(O "_law_found"),(O "_law_sign"),(O "_law_word")],ZeO⟩
noncomputable def ZeN:Sxs:=(.cons (.set (.nm 2) (.dictl .nil)) (.cons (.forr (.two 3 4) (.pl (.var 0)) (.cons (.put (.var 2) (.var 3) (.var 4)) .nil)) (.cons (.ret (.comp [(O "_law_name"),(O "_law_wish"),(O "_law_known")] [Ww,Wv 1,Wv 2] (.pl (.blt .srt (.cons (.var 2) .nil))) (.nm 0) (Wv (.ex (.cmp .Eq (.ix (.var 2) (.var 0)) (.var 1)))) (.var 0))) .nil)))
noncomputable def Zat:Fd:=⟨[(O "_law_scope"),(O "_law_wish")],[(O "_law_scope"),(O "_law_wish"),(O "_law_known"),(O "_law_name"),(O "_law_held")],ZeN⟩
noncomputable def ZbL:Sxs:=(.cons (.iff (.ex (.cmp .Eq (.var 0) (.cst (.str (O "n"))))) (.cons (.ret (.tupl (.cons (.cst (.str (O "num"))) (.cons (.ix (.lstl (.cons (.cst (.int 0)) (.cons (.cst (.int 1)) (.cons (.cst (.int 2)) (.cons (.bin .Mod (.bin .FloorDiv (.var 1) (.cst (.int 7))) (.cst (.int 1000000))) .nil))))) (.bin .Mod (.var 1) (.cst (.int 4)))) .nil)))) .nil) .nil) (.cons (.iff (.ex (.cmp .Eq (.var 0) (.cst (.str (O "f"))))) (.cons (.ret (.tupl (.cons (.cst (.str (O "fn"))) (.cons (.cst (.str (O "w"))) (.cons (.tupl (.cons (.cst (.str (O "-"))) (.cons (.tupl (.cons (.cst (.str (O "name"))) (.cons (.cst (.str (O "w"))) .nil))) (.cons (.tupl (.cons (.cst (.str (O "num"))) (.cons (.bin .Mod (.var 1) (.cst (.int 3))) .nil))) .nil)))) .nil))))) .nil) .nil) (.cons (.ret (.tupl (.cons (.cst (.str (O "fn"))) (.cons (.cst (.str (O "w"))) (.cons (.tupl (.cons (.cst (.str (O "call"))) (.cons (.tupl (.cons (.cst (.str (O "name"))) (.cons (.cst (.str (O "w"))) .nil))) (.cons (.tupl (.cons (.cst (.str (O "num"))) (.cons (.bin .Mod (.var 1) (.cst (.int 5))) .nil))) .nil)))) .nil))))) .nil)))
noncomputable def ZT:Fd:=⟨[(O "_law_wish"),(O "_law_number_here")],[(O "_law_wish"),(O "_law_number_here")],ZbL⟩
noncomputable def ZaU:Sx:=(.set (.nm 6) (.ix (.var 4) (.bin .Mod (.var 1) (.cst (.int 5)))))
noncomputable def Z6:Sx:=(.iff (.ex (.cmp .Eq (.var 0) (.cst (.str (O "g"))))) (.cons (.ret (.tupl (.cons (.cst (.str (O "fn"))) (.cons (.var 6) (.cons (.call (O "_law_any") (.cons (.cst (.str (O "n"))) (.cons (.bin .Add (.var 2) (.lstl (.cons (.tupl (.cons (.var 6) (.cons (.cst (.str (O "f"))) .nil))) .nil))) (.cons (.var 3) (.cons (.var 4) (.cons (.var 5) .nil)))))) .nil))))) .nil) .nil)
noncomputable def Z5:Sx:=(.iff (.ex (.cmp .Eq (.bin .Mod (.bin .FloorDiv (.var 1) (.cst (.int 5))) (.cst (.int 3))) (.cst (.int 0)))) (.cons (.ret (.tupl (.cons (.cst (.str (O "fn"))) (.cons (.var 6) (.cons (.call (O "_law_any") (.cons (.cst (.str (O "n"))) (.cons (.bin .Add (.var 2) (.lstl (.cons (.tupl (.cons (.var 6) (.cons (.cst (.str (O "n"))) .nil))) .nil))) (.cons (.var 3) (.cons (.var 4) (.cons (.var 5) .nil)))))) .nil))))) .nil) .nil)
noncomputable def ZaT:Sx:=(.set (.nm 7) (.ix (.var 4) (.bin .Mod (.bin .Add (.bin .Add (.bin .Mod (.var 1) (.cst (.int 5))) (.cst (.int 1))) (.bin .Mod (.bin .FloorDiv (.var 1) (.cst (.int 15))) (.cst (.int 4)))) (.cst (.int 5)))))
noncomputable def ZaS:Sx:=(.set (.nm 8) (.bin .Add (.var 2) (.lstl (.cons (.tupl (.cons (.var 7) (.cons (.cst (.str (O "f"))) .nil))) (.cons (.tupl (.cons (.var 6) (.cons (.cst (.str (O "n"))) .nil))) .nil)))))
noncomputable def ZaR:Sx:=(.set (.nm 9) (.tupl (.cons (.cst (.str (O "call"))) (.cons (.tupl (.cons (.cst (.str (O "name"))) (.cons (.var 7) .nil))) (.cons (.tupl (.cons (.cst (.str (O "-"))) (.cons (.tupl (.cons (.cst (.str (O "name"))) (.cons (.var 6) .nil))) (.cons (.tupl (.cons (.cst (.str (O "num"))) (.cons (.cst (.int 1)) .nil))) .nil)))) .nil)))))
noncomputable def Z4:Sx:=(.iff (.ex (.cmp .Eq (.bin .Mod (.bin .FloorDiv (.var 1) (.cst (.int 60))) (.cst (.int 3))) (.cst (.int 0)))) (.cons (.set (.nm 9) (.call (O "_law_any") (.cons (.cst (.str (O "n"))) (.cons (.var 8) (.cons (.var 3) (.cons (.var 4) (.cons (.var 5) .nil))))))) .nil) (.cons (.iff (.ex (.cmp .Eq (.bin .Mod (.bin .FloorDiv (.var 1) (.cst (.int 60))) (.cst (.int 3))) (.cst (.int 1)))) (.cons (.set (.nm 9) (.tupl (.cons (.ix (.lstl (.cons (.cst (.str (O "+"))) (.cons (.cst (.str (O "*"))) .nil))) (.bin .Mod (.bin .FloorDiv (.var 1) (.cst (.int 180))) (.cst (.int 2)))) (.cons (.call (O "_law_any") (.cons (.cst (.str (O "n"))) (.cons (.var 8) (.cons (.var 3) (.cons (.var 4) (.cons (.bin .Sub (.var 5) (.cst (.int 1))) .nil)))))) (.cons (.var 9) .nil))))) .nil) .nil) .nil))
noncomputable def Z3:Sx:=(.ret (.tupl (.cons (.cst (.str (O "rec"))) (.cons (.var 7) (.cons (.var 6) (.cons (.tupl (.cons (.cst (.str (O "if"))) (.cons (.tupl (.cons (.cst (.str (O "name"))) (.cons (.var 6) .nil))) (.cons (.var 9) (.cons (.call (O "_law_any") (.cons (.cst (.str (O "n"))) (.cons (.var 8) (.cons (.var 3) (.cons (.var 4) (.cons (.bin .Sub (.var 5) (.cst (.int 1))) .nil)))))) .nil))))) .nil))))))
noncomputable def Zf4:Sxs:=(.cons ZaU (.cons Z6 (.cons Z5 (.cons ZaT (.cons ZaS (.cons ZaR (.cons Z4 (.cons Z3 .nil))))))))
noncomputable def Z0:Fd:=⟨[(O "_law_wish"),(O "_law_rest"),(O "_law_scope"),(O "_law_state"),(O "_law_names_here"),(O "_law_room")],[(O "_law_wish"),(O "_law_rest"),(O "_law_scope"),(O "_law_state"),(O "_law_names_here"),(O "_law_room"),(O "_law_x"),(O "_law_f"),(O "_law_inner"),(O "_law_again")],Zf4⟩
noncomputable def Zc2:Sx:=(.set (.nm 5) (.bin .Mod (.var 0) (.cst (.int 6))))
noncomputable def ZbC:Sx:=(.iff (.ex (.cmp .Eq (.var 5) (.cst (.int 0)))) (.cons (.ret (.call (O "_law_plain") (.cons (.cst (.str (O "n"))) (.cons (.bin .FloorDiv (.var 0) (.cst (.int 6))) .nil)))) .nil) .nil)
noncomputable def ZbB:Sx:=(.iff (.ex (.cmp .Lt (.var 5) (.cst (.int 3)))) (.cons (.set (.nm 6) (.call (O "_law_any") (.cons (.cst (.str (O "n"))) (.cons (.var 1) (.cons (.var 2) (.cons (.var 3) (.cons (.var 4) .nil))))))) (.cons (.ret (.tupl (.cons (.ix (.lstl (.cons (.cst (.str (O "+"))) (.cons (.cst (.str (O "-"))) (.cons (.cst (.str (O "*"))) (.cons (.cst (.str (O "<"))) .nil))))) (.bin .Mod (.bin .FloorDiv (.var 0) (.cst (.int 6))) (.cst (.int 4)))) (.cons (.var 6) (.cons (.call (O "_law_any") (.cons (.cst (.str (O "n"))) (.cons (.var 1) (.cons (.var 2) (.cons (.var 3) (.cons (.var 4) .nil)))))) .nil))))) .nil)) .nil)
noncomputable def Zc1:Sx:=(.set (.nm 7) (.ix (.lstl (.cons (.cst (.str (O "f"))) (.cons (.cst (.str (O "f"))) (.cons (.cst (.str (O "g"))) .nil)))) (.bin .Sub (.var 5) (.cst (.int 3)))))
noncomputable def Zc0:Sx:=(.set (.nm 8) (.call (O "_law_any") (.cons (.var 7) (.cons (.var 1) (.cons (.var 2) (.cons (.var 3) (.cons (.var 4) .nil)))))))
noncomputable def ZcZ:Sx:=(.ret (.tupl (.cons (.cst (.str (O "call"))) (.cons (.var 8) (.cons (.call (O "_law_any") (.cons (.ix (.dictl (.cons (.cst (.str (O "f"))) (.cons (.cst (.str (O "n"))) (.cons (.cst (.str (O "g"))) (.cons (.cst (.str (O "f"))) .nil))))) (.var 7)) (.cons (.var 1) (.cons (.var 2) (.cons (.var 3) (.cons (.var 4) .nil)))))) .nil)))))
noncomputable def Zcv:Sxs:=(.cons Zc2 (.cons ZbC (.cons ZbB (.cons Zc1 (.cons Zc0 (.cons ZcZ .nil))))))
noncomputable def ZaE:Fd:=⟨[(O "_law_rest"),(O "_law_scope"),(O "_law_state"),(O "_law_names_here"),(O "_law_room")],[(O "_law_rest"),(O "_law_scope"),(O "_law_state"),(O "_law_names_here"),(O "_law_room"),(O "_law_way"),(O "_law_one"),(O "_law_wish"),(O "_law_fun")],Zcv⟩
noncomputable def Zbd:Sx:=(.put (.var 2) (.cst (.int 2)) (.bin .Sub (.ix (.var 2) (.cst (.int 2))) (.cst (.int 1))))
noncomputable def Zbc:Sx:=(.set (.nm 5) (.call (O "_law_next") (.cons (.var 2) .nil)))
noncomputable def ZU:Sx:=(.iff (.ex (.cmp .Eq (.bin .Mod (.var 5) (.cst (.int 29))) (.cst (.int 0)))) (.cons (.set (.nm 0) (.ix (.lstl (.cons (.cst (.str (O "n"))) (.cons (.cst (.str (O "f"))) (.cons (.cst (.str (O "g"))) .nil)))) (.bin .Mod (.bin .FloorDiv (.var 5) (.cst (.int 29))) (.cst (.int 3))))) .nil) .nil)
noncomputable def Zbb:Sx:=(.set (.nm 6) (.bin .FloorDiv (.var 5) (.cst (.int 87))))
noncomputable def Zba:Sx:=(.set (.nm 7) (.call (O "_law_there") (.cons (.var 1) (.cons (.var 0) .nil))))
noncomputable def Za9:Sx:=(.iff (.ands (.cons (.ex (.cmp .NotEq (.var 7) (.lstl .nil))) (.one (.ex (.cmp .Eq (.bin .Mod (.var 6) (.cst (.int 3))) (.cst (.int 0))))))) (.cons (.ret (.tupl (.cons (.cst (.str (O "name"))) (.cons (.ix (.var 7) (.bin .Mod (.bin .FloorDiv (.var 6) (.cst (.int 3))) (.blt .len (.cons (.var 7) .nil)))) .nil)))) .nil) .nil)
noncomputable def Zax:Sx:=(.iff (.ors (.cons (.ex (.cmp .Lt (.var 4) (.cst (.int 1)))) (.one (.ex (.cmp .Lt (.ix (.var 2) (.cst (.int 2))) (.cst (.int 0))))))) (.cons (.ret (.call (O "_law_plain") (.cons (.var 0) (.cons (.bin .FloorDiv (.var 6) (.cst (.int 3))) .nil)))) .nil) .nil)
noncomputable def ZbM:Sx:=(.set (.nm 6) (.bin .FloorDiv (.var 6) (.cst (.int 30))))
noncomputable def Za8:Sx:=(.iff (.ex (.cmp .Eq (.bin .Mod (.var 6) (.cst (.int 8))) (.cst (.int 0)))) (.cons (.set (.nm 8) (.call (O "_law_any") (.cons (.cst (.str (O "n"))) (.cons (.var 1) (.cons (.var 2) (.cons (.var 3) (.cons (.bin .Sub (.var 4) (.cst (.int 1))) .nil))))))) (.cons (.set (.nm 9) (.call (O "_law_any") (.cons (.var 0) (.cons (.var 1) (.cons (.var 2) (.cons (.var 3) (.cons (.bin .Sub (.var 4) (.cst (.int 1))) .nil))))))) (.cons (.ret (.tupl (.cons (.cst (.str (O "if"))) (.cons (.var 8) (.cons (.var 9) (.cons (.call (O "_law_any") (.cons (.var 0) (.cons (.var 1) (.cons (.var 2) (.cons (.var 3) (.cons (.bin .Sub (.var 4) (.cst (.int 1))) .nil)))))) .nil)))))) .nil))) .nil)
noncomputable def ZaK:Sx:=(.iff (.ex (.cmp .Eq (.var 0) (.cst (.str (O "n"))))) (.cons (.ret (.call (O "_law_number") (.cons (.bin .FloorDiv (.var 6) (.cst (.int 8))) (.cons (.var 1) (.cons (.var 2) (.cons (.var 3) (.cons (.bin .Sub (.var 4) (.cst (.int 1))) .nil))))))) .nil) .nil)
noncomputable def Zbj:Sx:=(.ret (.call (O "_law_function") (.cons (.var 0) (.cons (.bin .FloorDiv (.var 6) (.cst (.int 8))) (.cons (.var 1) (.cons (.var 2) (.cons (.var 3) (.cons (.bin .Sub (.var 4) (.cst (.int 1))) .nil))))))))
noncomputable def ZlY:Sxs:=(.cons Zbd (.cons Zbc (.cons ZU (.cons Zbb (.cons Zba (.cons Za9 (.cons Zax (.cons ZbM (.cons Za8 (.cons ZaK (.cons Zbj .nil)))))))))))
noncomputable def ZaP:Fd:=⟨[(O "_law_wish"),(O "_law_scope"),(O "_law_state"),(O "_law_names_here"),(O "_law_room")],[(O "_law_wish"),(O "_law_scope"),(O "_law_state"),(O "_law_names_here"),(O "_law_room"),(O "_law_number_here"),(O "_law_rest"),(O "_law_there_here"),(O "_law_asked_of"),(O "_law_first")],ZlY⟩
noncomputable def ZcY:Sxs:=(.cons (.ret (.bin .Add (.cst (.int 1)) (.blt .sum (.cons (.comp [(O "_law_part")] [Ww] (.pl (.var 0)) (.nm 0) (Wv (.ex (.blt .isi (.cons (.var 0) (.cons (.cst (.ty "tuple")) .nil))))) (.call (O "_law_width") (.cons (.var 0) .nil))) .nil)))) .nil)
noncomputable def ZZ:Fd:=⟨[(O "_law_told")],[(O "_law_told")],ZcY⟩
noncomputable def ZdJ:Sxs:=(.cons (.ret (.maxd (.comp [(O "_law_part")] [Ww] (.pl (.var 0)) (.nm 0) (Wv (.ex (.blt .isi (.cons (.var 0) (.cons (.cst (.ty "tuple")) .nil))))) (.bin .Add (.cst (.int 1)) (.call (O "_law_deep") (.cons (.var 0) .nil)))) (.cst (.int 0)))) .nil)
noncomputable def Zao:Fd:=⟨[(O "_law_told")],[(O "_law_told")],ZdJ⟩
noncomputable def Zak:Sx:=(.set (.nm 2) (.comp [(O "_law_k"),(O "_law_cell")] [Ww,Ww] (.enu (.sl (.var 0) (Wv (.var 1)) Ww)) (.two 0 1) Ww (.call (O "_law_mixed") (.cons (.var 1) (.cons (.bin .Add (.var 0) (.cst (.int 2))) .nil)))))
noncomputable def ZcG:Sx:=(.set (.nm 3) (.lstl (.cons (.var 2) (.cons (.cst (.int 0)) (.cons (.cst (.int 26)) .nil)))))
noncomputable def ZcF:Sx:=(.set (.nm 4) (.call (O "_law_names") (.cons (.call (O "_law_next") (.cons (.var 3) .nil)) .nil)))
noncomputable def ZcE:Sx:=(.set (.nm 5) (.call (O "_law_any") (.cons (.cst (.str (O "n"))) (.cons (.lstl .nil) (.cons (.var 3) (.cons (.var 4) (.cons (.cst (.int 7)) .nil)))))))
noncomputable def Zbg:Sx:=(.forr (.nm 6) (.rng (.cst (.int 2))) (.cons (.iff (.ex (.cmp .Lt (.call (O "_law_width") (.cons (.var 5) .nil)) (.cst (.int 50)))) (.cons (.put (.var 3) (.cst (.int 2)) (.cst (.int 12))) (.cons (.set (.nm 5) (.tupl (.cons (.cst (.str (O "+"))) (.cons (.var 5) (.cons (.call (O "_law_any") (.cons (.cst (.str (O "n"))) (.cons (.lstl .nil) (.cons (.var 3) (.cons (.var 4) (.cons (.cst (.int 6)) .nil)))))) .nil))))) .nil)) .nil) .nil))
noncomputable def Zbf:Sx:=(.iff (.ors (.cons (.ex (.cmp .Gt (.call (O "_law_width") (.cons (.var 5) .nil)) (.cst (.int 100)))) (.one (.ex (.cmp .Gt (.call (O "_law_deep") (.cons (.var 5) .nil)) (.cst (.int 20))))))) (.cons (.set (.nm 5) (.call (O "_law_plain") (.cons (.cst (.str (O "n"))) (.cons (.call (O "_law_next") (.cons (.var 3) .nil)) .nil)))) .nil) .nil)
noncomputable def ZcD:Sx:=(.ret (.var 5))
noncomputable def Zgh:Sxs:=(.cons Zak (.cons ZcG (.cons ZcF (.cons ZcE (.cons Zbg (.cons Zbf (.cons ZcD .nil)))))))
noncomputable def Zac:Fd:=⟨[(O "_law_script"),(O "_law_start")],[(O "_law_script"),(O "_law_start"),(O "_law_cells"),(O "_law_state"),(O "_law_names_here"),(O "_law_told"),(O "_law_k")],Zgh⟩
noncomputable def Zca:List (Key×D):=[(.inr (O "fn"),.tup [.int 1,.int 1]),(.inr (O "rec"),.tup [.int 2,.int 1]),(.inr (O "call"),.tup [.int 0,.int 2]),(.inr (O "if"),.tup [.int 0,.int 3]),(.inr (O "+"),.tup [.int 0,.int 2]),(.inr (O "-"),.tup [.int 0,.int 2]),(.inr (O "*"),.tup [.int 0,.int 2]),(.inr (O "<"),.tup [.int 0,.int 2])]
structure Tre(P:Pg):Prop where
 parts:P.tb.lookup (O "parts_of")=Wv Zbr
 g:P.G (O "FORMS")=Wv (.kd (O "FORMS"))
 gd:P.GD (O "FORMS")=Wv Zca
 big:1000000<=P.L
theorem ZbI{P:Pg}(H:Tre P){U:Tb}(hU:U.G=P.G/\U.GD=P.GD){S:Ev}{e:Ex}{w:Str}{h:Hd}{x:Option D}(q:ev U e S h=.ok (.str w) h)(f:Zay Zca (.inr w)=x):tst U (.ex (.cmp .NotIn e (.glo (O "FORMS")))) S h=.ok (!x.isSome) h:=by
 have g:ev U (.glo (O "FORMS")) S h=.ok (.kd (O "FORMS")) h:=by rw[ZnK,hU.1,H.g];rfl
 refine ZcU ((ZD q g).trans ?_);rw[Zha,hU.2,H.gd];simp only[f]
theorem ZkT{P:Pg}(H:Tre P){U:Tb}(hU:U.G=P.G/\U.GD=P.GD){S:Ev}{e:Ex}{w:Str}{h:Hd}{x:D}(q:ev U e S h=.ok (.str w) h)(f:Zay Zca (.inr w)=Wv x):ev U (.ix (.glo (O "FORMS")) e) S h=.ok x h:=by
 have g:ev U (.glo (O "FORMS")) S h=.ok (.kd (O "FORMS")) h:=by rw[ZnK,hU.1,H.g];rfl
 rw[ZiK,g,Zk,q,Zk,Zpl,hU.2,H.gd];simp only[f];rfl
theorem Zdt{U:Tb}{S:Ev}{w:Str}{ds:List D}{h:Hd}:ev U (.ix (.var 0) (.cst (.int 0))) (Wv (.tup (.str w::ds))::S) h=.ok (.str w) h:=by show R.ofO (atI (D.str w::ds) 0) h=_;rw[Zuv];rfl
theorem Zj1{P:Pg}(H:Tre P){U:Tb}(hU:U.G=P.G/\U.GD=P.GD){w:Str}{ds:List D}{h:Hd}{a b:Int}(e:Zay Zca (.inr w)=Wv (.tup [.int a,.int b])):ev U (.bin .Add (.cst (.int 1)) (.ix (.ix (.glo (O "FORMS")) (.ix (.var 0) (.cst (.int 0)))) (.cst (.int 0)))) [Wv (.tup (.str w::ds))] h=.ok (.int (1+a)) h:=by refine(ZB (x:=.int 1) (y:=.int a) rfl ?_).trans rfl;rw[ZiK,ZkT H hU Zdt e];rfl
theorem Zhs{U:Tb}{S:Ev}{e:Ex}{l:Int}{h:Hd}(q:ev U e S h=.ok (.int l) h):evo U (Wv e) S h=.ok (Wv l) h:=by rw[ZnH,q];rfl
theorem Zmm{U:Tb}{S:Ev}{a:Ex}{lo hi:Option Ex}{x:D}{l u:Option Int}{h:Hd}(p:ev U a S h=.ok x h)(q:evo U lo S h=.ok l h)(r:evo U hi S h=.ok u h):ev U (.sl a lo hi) S h=Zif x l u h:=by simp only[ZnI,p,Zk,q,r]
theorem Zie{P:Pg}(H:Tre P)(n:Nat)(h:Hd)(w:Str)(ds:List D)(e:Zay Zca (.inr w)=Ww):run P (n+1) (O "parts_of") [.tup (.str w::ds)] h=.ok (.tup []) h:=by rw[Zc H.parts rfl];show Zh (xs2 (P.tbl n) ZbA [Wv (.tup (.str w::ds))] h)=_;rw[ZbA,Zf ((Zw (ZbI H ⟨rfl,rfl⟩ Zdt e)).trans (Zf (ZV (d:=.tup []) rfl)))];rfl
theorem Zb6{P:Pg}(H:Tre P)(n:Nat)(h:Hd)(w:Str)(ds:List D)(a b:Int)(e:Zay Zca (.inr w)=Wv (.tup [.int a,.int b])):run P (n+1) (O "parts_of") [.tup (.str w::ds)] h=.ok (.tup (cutD (.str w::ds) (Wv (1+a)) Ww)) h:=by
 rw[Zc H.parts rfl];show Zh (xs2 (P.tbl n) ZbA [Wv (.tup (.str w::ds))] h)=_;have q:=Zj1 H (U:=P.tbl n) ⟨rfl,rfl⟩ (ds:=ds) (h:=h) e;have r:ev (P.tbl n) (.sl (.var 0) (Wv (.bin .Add (.cst (.int 1)) (.ix (.ix (.glo (O "FORMS")) (.ix (.var 0) (.cst (.int 0)))) (.cst (.int 0))))) Ww) [Wv (.tup (.str w::ds))] h=.ok (.tup (cutD (.str w::ds) (Wv (1+a)) Ww)) h:=by exact(Zmm (a:=.var 0) (x:=.tup (.str w::ds)) rfl (Zhs q) rfl).trans rfl
 rw[ZbA,Zb ((Zx (ZbI H ⟨rfl,rfl⟩ Zdt e)).trans rfl),Zf (ZV r)];rfl
theorem Zg0{P:Pg}(H:Tre P)(n:Nat)(t:T)(h:Hd):run P (n+1) (O "parts_of") [t.d] h=.ok (.tup (t.parts.map T.d)) h:=by
 cases t with
 |num z=>exact Zie H n h (O "num") _ rfl
 |name x=>exact Zie H n h (O "name") _ rfl
 |fn x e=>exact Zb6 H n h (O "fn") _ 1 1 rfl
 |rcc f x e=>exact Zb6 H n h (O "rec") _ 2 1 rfl
 |call f a=>exact Zb6 H n h (O "call") _ 0 2 rfl
 |iff c a b=>exact Zb6 H n h (O "if") _ 0 3 rfl
 |op w a b=>exact Zb6 H n h w.s _ 0 2 (by cases w<;>rfl)
theorem ZeJ{U:Tb}{h:Hd}{F:List D}{E:D}(p:Option D):∀(ps:List D) (W:List D) (q:Option D),W.length+ps.length<=1000000->∃q',
 ZP Ww (.nm 4) (xs2 U (.cons (.drp (.meth .app (.var 2) (.cons (.var 4) .nil))) .nil)) ps [Wv E,Wv (.ref h.length),Wv (.ref (h.length+1)),p,q] (h++[.lst F,.lst W])
  = .ok (.nx,[Wv E,Wv (.ref h.length),Wv (.ref (h.length+1)),p,q']) (h++[.lst F,.lst (W++ps)])
 |[],W,q,hz=>⟨q,by simp⟩
 |d::ds,W,q,hz=>by
  obtain⟨q',e⟩:=ZeJ (U:=U) (h:=h) (F:=F) (E:=E) p ds (W++[d]) (Wv d) (by simp at hz ⊢;omega);refine⟨q',?_⟩;have hz2:W.length<sizeLine:=by simp at hz;rw[YC];omega
  rw[Zas];simp[Zb8,Z9,Zek,ZjD,hz2,e]
theorem Zjs(t:T):1<=t.places.length:=by rw[T.places_parts];simp
theorem Zds:∀W:List T,W.length<=(W.flatMap T.places).length
 |[]=>by simp
 |t::W=>by have:=Zjs t;have:=Zds W;rw[List.flatMap_cons,OA,Os];omega
theorem Zio{P:Pg}(H:Tre P){h:Hd}{E:D}(n:Nat):∀(fuel:Nat) (W:List T) (F:List D) (p q:Option D),(W.flatMap T.places).length<fuel->F.length+(W.flatMap T.places).length<=900000->∃p' q',
 ZN (tst ⟨P.G,P.GD,run P (n+1),P.L⟩ (.ex (.var 2))) (xs2 ⟨P.G,P.GD,run P (n+1),P.L⟩ (.cons (.set (.nm 3) (.meth .pop (.var 2) .nil)) (.cons (.drp (.meth .app (.var 1) (.cons (.var 3) .nil))) (.cons (.forr (.nm 4) (.rev (.call (O "parts_of") (.cons (.var 3) .nil))) (.cons (.drp (.meth .app (.var 2) (.cons (.var 4) .nil))) .nil)) .nil))))
  fuel [Wv E,Wv (.ref h.length),Wv (.ref (h.length+1)),p,q] (h++[.lst F,.lst (W.map T.d).reverse])
  = .ok (.nx,[Wv E,Wv (.ref h.length),Wv (.ref (h.length+1)),p',q']) (h++[.lst (F++(W.flatMap T.places).map T.d),.lst []])
 |0,W,F,p,q,h1,h2=>by omega
 |fuel+1,[],F,p,q,h1,h2=>⟨p,q,by rw[Zaq];simp[Zcm]⟩
 |fuel+1,t::W,F,p,q,h1,h2=>by
  have e0:((t::W).flatMap T.places)=t::((t.parts++W).flatMap T.places):=by rw[List.flatMap_cons,T.places_parts t,List.flatMap_append];simp
  rw[e0]at h1 h2 ⊢;have hp:t.parts.length<=3:=by cases t<;>simp[T.parts]
  simp only[Os]at h1 h2;have h3:=Zds (t.parts++W);rw[OA]at h3;obtain⟨q1,e1⟩:=ZeJ (U:=⟨P.G,P.GD,run P (n+1),P.L⟩) (h:=h) (F:=F++[t.d]) (E:=E) (Wv t.d) (t.parts.map T.d).reverse (W.map T.d).reverse q (by simp;omega);obtain⟨p',q',e2⟩:=Zio H (h:=h) (E:=E) n fuel (t.parts++W) (F++[t.d]) (Wv t.d) q1 (by omega) (by rw[OA,List.length_singleton];omega);refine⟨p',q',?_⟩;have hz2:F.length<sizeLine:=by rw[YC];omega
  rw[Zaq];simp[Zcm,Zb8,Z9,Zek,ZjD,Zpy,hz2,Zg0 H,Zgi,e1];simpa using e2
theorem Zmx{P:Pg}(H:Tre P)(hp:P.tb.lookup (O "places")=Wv Zbq)(n:Nat)(t:T)(h:Hd)(hz:t.size<=800000):run P (n+2) (O "places") [t.d] h=.ok (.ref h.length) (h++[.lst (t.places.map T.d),.lst []]):=by rw[Zc hp (by rfl)];obtain⟨p',q',e⟩:=Zio H (h:=h) (E:=t.d) n P.L [t] [] Ww Ww (by have:=H.big;unfold T.size at hz;simp;omega) (by unfold T.size at hz;simp;omega);simp at e;simp[Zbq,Zi0,Zq,YC,e]
end Gn
end
section
set_option tactic.hygienic false
set_option exponentiation.threshold 3000
namespace Gn
open PySem L2 IV
def Up(i:Nat)(h h':Hd):Prop:=h.length<=h'.length/\∀m,m<h.length->m≠i->h'[m]? = h[m]?
theorem Up.refl{i:Nat}{h:Hd}:Up i h h:=⟨Oq _,λ_ _ _=>rfl⟩
theorem Up.trans{i:Nat}{a b c:Hd}(x:Up i a b)(y:Up i b c):Up i a c:=⟨OE x.1 y.1,λm h1 h2=>(y.2 m (O4 h1 x.1) h2).trans (x.2 m h1 h2)⟩
theorem Up.set{i:Nat}{h:Hd}{o:DO}:Up i h (h.set i o):=⟨by simp,λm _ h2=>by rw[Oc (YL h2)]⟩
theorem Up.app{i:Nat}{h g:Hd}:Up i h (h++g):=⟨by simp,λm h1 _=>Oe h1⟩
theorem ZH{h:Hd}{i:Nat}{o:DO}(e:h[i]? = Wv o):i<h.length:=(Ob.mp e).1
theorem Up.at{i m:Nat}{h h':Hd}{o:DO}(u:Up i h h')(e:h[m]? = Wv o)(ne:m≠i):h'[m]? = Wv o:=(u.2 m (ZH e) ne).trans e
def Alk(P:Pg)(f:Str)(fd:Fd):Prop:=∃ps N,ps.length=fd.ps.length/\N.length=fd.N.length/\P.tb.lookup f=Wv ⟨ps,N,fd.body⟩
theorem Alk.same{P:Pg}{f:Str}{fd:Fd}(e:P.tb.lookup f=Wv fd):Alk P f fd:=⟨fd.ps,fd.N,rfl,rfl,e⟩
theorem Ze3{P:Pg}{n:Nat}{f:Str}{fd:Fd}{ds:List D}{h:Hd}(e:Alk P f fd)(hl:ds.length=fd.ps.length):run P (n+1) f ds h=Zh (xs2 ⟨P.G,P.GD,run P n,P.L⟩ fd.body (Zq fd.N ds) h):=by obtain⟨ps,N,h1,h2,e⟩:=e;rw[Zc e (hl.trans h1.symm)];unfold Zq;rw[h2]
structure Mkr(P:Pg):Prop where
 mixed:P.tb.lookup (O "_law_mixed")=Wv Zav
 next:P.tb.lookup (O "_law_next")=Wv Zan
 names:P.tb.lookup (O "_law_names")=Wv Zau
 there:P.tb.lookup (O "_law_there")=Wv Zat
 plain:P.tb.lookup (O "_law_plain")=Wv ZT
 function:Alk P (O "_law_function") Z0
 number:Alk P (O "_law_number") ZaE
 any:Alk P (O "_law_any") ZaP
 width:P.tb.lookup (O "_law_width")=Wv ZZ
 deep:P.tb.lookup (O "_law_deep")=Wv Zao
 program:Alk P (O "_law_program") Zac
structure Gen(P:Pg):Prop extends Tre P,Mkr P
noncomputable def big:Int:=1000000000000000000000000000057
noncomputable def mixed(c k:Int):Int:=(c % big * 271828182845904523536028747135+k * k * 314159265358979323846264338327+577215664901532860606512090082) % big
theorem ZO{i:Int}(h:-(2 ^ 128)<i)(h2:i<2 ^ 128):i.natAbs<2 ^ 2000:=by
 have:i.natAbs<2 ^ 128:=by omega
 exact O4 this (Nat.pow_le_pow_right (by decide) (by decide))
theorem Zld{k:Int}(hk:-(2 ^ 60)<k/\k<2 ^ 60):0<=k * k/\k * k<2 ^ 120:=by
 have a:k.natAbs<2 ^ 60:=by omega
 have b:k.natAbs * k.natAbs<2 ^ 60 * 2 ^ 60:=Nat.mul_lt_mul'' a a;have c2:((k.natAbs * k.natAbs:Nat):Int)=k * k:=Int.natAbs_mul_self;rw[<- c2];constructor
 . omega
 . have:((k.natAbs * k.natAbs:Nat):Int)<((2 ^ 60 * 2 ^ 60:Nat):Int):=Int.ofNat_lt.mpr b;exact this
theorem Zg1{P:Pg}(H:Mkr P)(n:Nat)(c k:Int)(h:Hd)(hk:-(2 ^ 60)<k/\k<2 ^ 60):run P (n+1) (O "_law_mixed") [.int c,.int k] h=.ok (.int (mixed c k)) h:=by
 rw[Zc H.mixed rfl];have hp:opB .Pow (.int 10) (.int 30) h=.ok (.int 1000000000000000000000000000000) h:=by show(if (0:Int)<=30/\(30:Int)<=1000000/\(10:Int).natAbs<2 ^ 64 then R.ok (D.int (10 ^ (30:Int).toNat)) h else R.bad)=_;rw[if_pos (by decide)];rfl
 have h1:0<=c % 1000000000000000000000000000057/\c % 1000000000000000000000000000057<1000000000000000000000000000057:=⟨Int.emod_nonneg _ (by decide),Int.emod_lt_of_pos _ (by decide)⟩
 have hkk:=Zld hk;have e1:opB .Mod (.int c) (.int 1000000000000000000000000000057) h=.ok (.int (c % 1000000000000000000000000000057)) h:=ZL (by decide);have e2:opB .Mult (.int (c % 1000000000000000000000000000057)) (.int 271828182845904523536028747135) h=.ok (.int (c % 1000000000000000000000000000057 * 271828182845904523536028747135)) h:=Zc9 ⟨ZO (by omega) (by omega),ZO (by decide) (by decide)⟩;have e3:opB .Mult (.int k) (.int k) h=.ok (.int (k * k)) h:=Zc9 ⟨ZO (by omega) (by omega),ZO (by omega) (by omega)⟩;have e4:opB .Mult (.int (k * k)) (.int 314159265358979323846264338327) h=.ok (.int (k * k * 314159265358979323846264338327)) h:=Zc9 ⟨ZO (by omega) (by omega),ZO (by decide) (by decide)⟩;have e5:opB .Mod (.int (c % 1000000000000000000000000000057 * 271828182845904523536028747135+k * k * 314159265358979323846264338327+577215664901532860606512090082)) (.int 1000000000000000000000000000057) h=.ok (.int (mixed c k)) h:=ZL (by decide);simp[Zav,ZeP,Zq,hp,e1,e2,e3,e4,e5]
def St3(h:Hd)(i j:Nat)(cs:List Int)(at' b:Int):Prop:=h[i]? = Wv (.lst [.ref j,.int at',.int b])/\h[j]? = Wv (.lst (cs.map .int))/\i≠j
theorem Zjn{P:Pg}(H:Mkr P)(n:Nat){h:Hd}{i j:Nat}{cs:List Int}{a b:Int}(st:St3 h i j cs a b)(ha:0<=a/\a<2 ^ 50):∃v,run P (n+2) (O "_law_next") [.ref i] h=.ok (.int v) (h.set i (.lst [.ref j,.int (a+1),.int b]))/\(v∈cs\/v=mixed a 7):=by
 obtain⟨h1,h2,ne⟩:=st;rw[Zc H.next rfl];have i1:=ZH h1;have i2:(h.set i (.lst [.ref j,.int (a+1),.int b]))[i]? = Wv (.lst [.ref j,.int (a+1),.int b]):=by rw[Ol i1]
 have i3:(h.set i (.lst [.ref j,.int (a+1),.int b]))[j]? = Wv (.lst (cs.map .int)):=by rw[Oc ne];exact h2
 have hput:ZbH (.ref i) (.int 1) (.int (a+1)) h=.ok () (h.set i (.lst [.ref j,.int (a+1),.int b])):=by simp only[ZbH,h1];rfl
 have hlen:ZaQ P.GD .len [.ref j] (h.set i (.lst [.ref j,.int (a+1),.int b]))=.ok (.int cs.length) (h.set i (.lst [.ref j,.int (a+1),.int b])):=by simp only[ZaQ,Zi5,seqOf,lstOf,i3];simp
 by_cases hc:a<cs.length
 . obtain⟨k,rfl⟩:∃k:Nat,a=k:=⟨a.toNat,by omega⟩
   have hk:k<cs.length:=by omega
   refine⟨cs[k],?_,.inl (List.getElem_mem hk)⟩;have hat:atI (cs.map D.int) (k:Int)=Wv (.int cs[k]):=by rw[IV.Zcz,On,Og hk];rfl
   simp[Zan,ZdI,Zq,ZG h1,hput,ZG i2,hlen,hk,ZG i3,hat]
 . refine⟨mixed a 7,?_,.inr rfl⟩;simp[Zan,ZdI,Zq,ZG h1,hput,ZG i2,hlen,hc,Zg1 H n a 7 _ (by decide)]
def Cl:List Str->T->Prop
 |_,.num n=>0<=n/\n<1000000
 |sc,.name x=>x∈sc
 |sc,.fn x e=>Cl (x::sc) e
 |sc,.rcc f x e=>Cl (x::f::sc) e/\f≠x
 |sc,.call f a=>Cl sc f/\Cl sc a
 |sc,.iff c t e=>Cl sc c/\Cl sc t/\Cl sc e
 |sc,.op _ a b=>Cl sc a/\Cl sc b
noncomputable def dep:T->Nat
 |.num _|.name _=>0
 |.fn _ e|.rcc _ _ e=>dep e+1
 |.call f a=>max (dep f) (dep a)+1
 |.iff c t e=>max (dep c) (max (dep t) (dep e))+1
 |.op _ a b=>max (dep a) (dep b)+1
theorem at4{a b c d:Int}(k:Int)(h0:0<=k)(h4:k<4):∃v,atI [D.int a,.int b,.int c,.int d] k=Wv (.int v)/\(v=a\/v=b\/v=c\/v=d):=by
 have:k=0\/k=1\/k=2\/k=3:=by omega
 rcases this with rfl|rfl|rfl|rfl
 . exact⟨a,by simp,.inl rfl⟩
 . exact⟨b,by simp,.inr (.inl rfl)⟩
 . exact⟨c,by simp,.inr (.inr (.inl rfl))⟩
 . exact⟨d,by simp,.inr (.inr (.inr rfl))⟩
theorem ZgZ{P:Pg}(H:Mkr P)(n:Nat)(w:Str)(v:Int)(h:Hd)(sc:List Str):∃t g,run P (n+1) (O "_law_plain") [.str w,.int v] h=.ok (T.d t) (h++g)/\Cl sc t/\dep t<=2/\t.size<=4:=by
 rw[Zc H.plain rfl];have m4:opB .Mod (.int v) (.int 4)=λh=>.ok (.int (v % 4)) h:=by funext h;exact ZL (by decide)
 have m3:opB .Mod (.int v) (.int 3)=λh=>.ok (.int (v % 3)) h:=by funext h;exact ZL (by decide)
 have m5:opB .Mod (.int v) (.int 5)=λh=>.ok (.int (v % 5)) h:=by funext h;exact ZL (by decide)
 have d7:opB .FloorDiv (.int v) (.int 7)=λh=>.ok (.int (v / 7)) h:=by funext h;exact Zco (by decide)
 have mm:opB .Mod (.int (v / 7)) (.int 1000000)=λh=>.ok (.int (v / 7 % 1000000)) h:=by funext h;exact ZL (by decide)
 by_cases w1:w=O "n"
 . obtain⟨u,e,hu⟩:=at4 (a:=0) (b:=1) (c:=2) (d:=v / 7 % 1000000) (v % 4) (by omega) (by omega);refine⟨.num u,[.lst [.int 0,.int 1,.int 2,.int (v / 7 % 1000000)]],?_,by show 0<=u/\u<1000000;omega,by show 0<=2;omega,by show 1<=4;omega⟩;have ix:Z8 P.GD (.ref h.length) (.int (v % 4)) (h++[.lst [.int 0,.int 1,.int 2,.int (v / 7 % 1000000)]])=R.ofO (atI [.int 0,.int 1,.int 2,.int (v / 7 % 1000000)] (v % 4)) _:=ZG ZdL;simp[ZT,ZbL,Zq,w1,m4,d7,mm,YC,ix,e,T.d]
 . by_cases w2:w=O "f"
   . refine⟨.fn (O "w") (.op .sub (.name (O "w")) (.num (v % 3))),[],?_,?_,by simp only[dep];omega,by show 4<=4;omega⟩
     . simp[ZT,ZbL,Zq,w2,m3,YC,T.d,Wd.s]
     . exact⟨Oi,by show 0<=v % 3/\v % 3<1000000;omega⟩
   . refine⟨.fn (O "w") (.call (.name (O "w")) (.num (v % 5))),[],?_,?_,by simp only[dep];omega,by show 4<=4;omega⟩
     . simp[ZT,ZbL,Zq,w1,w2,m5,YC,T.d]
     . exact⟨Oi,by show 0<=v % 5/\v % 5<1000000;omega⟩
noncomputable def Zt:Str:=O "abcdefghijklmnopqrstuvwxyz"
theorem Zin:Zt.length=26:=by decide +kernel
theorem ZjF:Yp Zt=Wx:=by decide +kernel
def Wl(n:Nat)(x:Str):Prop:=Yp x=Wx/\x.length<=n
noncomputable def ltr(k:Int):Nat:=Zt.cps.toList.getD k.toNat 0
noncomputable def lt1(k:Int):Str:=⟨#[ltr k]⟩
theorem ZjG{GD:Str->Option (List (Key×D))}{h:Hd}(k:Int)(h0:0<=k)(h1:k<26):Z8 GD (.str Zt) (.int k) h=.ok (.str (lt1 k)) h/\Wl 1 (lt1 k):=by
 obtain⟨m,rfl⟩:∃m:Nat,k=m:=⟨k.toNat,by omega⟩
 have hl:Zt.cps.toList.length=26:=by decide +kernel
 have hm:m<Zt.cps.toList.length:=by omega
 have el:ltr m=Zt.cps.toList[m]:=by show Zt.cps.toList.getD (m:Int).toNat 0=_;rw[Int.toNat_natCast,List.getD_eq_getElem?_getD,Og hm];rfl
 have e:atI Zt.cps.toList (m:Int)=Wv Zt.cps.toList[m]:=by rw[IV.Zcz,Og hm]
 unfold lt1;rw[el];refine⟨?_,Zjx ZjF (List.getElem_mem hm),by show(#[Zt.cps.toList[m]]:Array Nat).size<=1;simp⟩;have q:Z8 GD (.str Zt) (.int (m:Int)) h=if Zt.length<=sizeLine then R.ofO ((atI Zt.cps.toList (m:Int)).map λc=>.str ⟨#[c]⟩) h else .bad:=rfl;rw[q,if_pos (by rw[Zin,YC];decide),e];rfl
theorem len_cat{x y:Str}:(x++y).length=x.length+y.length:=by show(x.cps++y.cps).size=_;rw[Array.size_append];rfl
theorem Zd9{x y:Str}{a b:Nat}{h:Hd}(hx:Wl a x)(hy:Wl b y)(hz:a+b<=1000):opB .Add (.str x) (.str y) h=.ok (.str (x++y)) h/\Wl (a+b) (x++y):=by have hl:(x++y).length=x.length+y.length:=len_cat;refine⟨if_pos (by rw[YC];have:=hx.2;have:=hy.2;omega),Zgy hx.1 hy.1,by rw[hl];have:=hx.2;have:=hy.2;omega⟩
theorem Znl{U:Tb}{h:Hd}{a l p f sg wd:Option D}:∀(ks:List Int) (r:Int) (x:Str) (m:Nat) (k:Option D),Wl m x->x.length=m->m+ks.length<=100->∃r' x' k',Wl (m+ks.length) x'/\x'.length=m+ks.length /\
 ZP Ww (.nm 6) (xs2 U (.cons (.set (.nm 5) (.bin .Add (.var 5) (.ix (.var 1) (.bin .Mod (.var 4) (.cst (.int 26)))))) (.cons (.set (.nm 4) (.bin .FloorDiv (.var 4) (.cst (.int 26)))) .nil))) (ks.map D.int) [a,Wv (.str Zt),l,p,Wv (.int r),Wv (.str x),k,f,sg,wd] h
  = .ok (.nx,[a,Wv (.str Zt),l,p,Wv (.int r'),Wv (.str x'),k',f,sg,wd]) h
 |[],r,x,m,k,hx,hn,hm=>⟨r,x,k,hx,hn,rfl⟩
 |c::cs,r,x,m,k,hx,hn,hm=>by
  obtain⟨e1,hy⟩:=ZjG (GD:=U.GD) (h:=h) (r % 26) (by omega) (by omega);obtain⟨e2,hxy⟩:=Zd9 (h:=h) hx hy (by simp at hm;omega);obtain⟨r',x',k',h1,h2,e3⟩:=Znl (U:=U) (h:=h) (a:=a) (l:=l) (p:=p) (f:=f) (sg:=sg) (wd:=wd) cs (r / 26) (x++lt1 (r % 26)) (m+1) (Wv (.int c)) hxy (by rw[len_cat,hn];rfl) (by simp at hm ⊢;omega);have hcl:m+(c::cs).length=m+1+cs.length:=by rw[Os];omega
  refine⟨r',x',k',by rw[hcl];exact h1,by rw[hcl];exact h2,?_⟩;have e4:opB .Mod (.int r) (.int 26) h=.ok (.int (r % 26)) h:=ZL (by decide);have e5:opB .FloorDiv (.int r) (.int 26) h=.ok (.int (r / 26)) h:=Zco (by decide);rw[Op,Zas];simp[e4,e1,e2,e5,e3]
theorem Zq4(x:Str)(l u:Option Int):(Yq x l u).length<=x.length:=by
 unfold Yq;split
 . exact Oq _
 . show((Builtin.Str.strSliceIndices l u 1 x.length).filterMap (x.cps[·]?)).toArray.size<=_;rw[Of];refine OE (List.length_filterMap_le _ _) ?_;unfold Builtin.Str.strSliceIndices;refine PySem.sliceRange_length_le _ _ _ _ (λ_=>?_) (λz=>absurd (by decide) z);cases l<;>cases u<;>simp<;>omega
theorem Zc6{x:Str}{m:Nat}{h:Hd}(hx:Wl m x)(hm:m<=1000)(l u:Option Int):Zif (.str x) l u h=.ok (.str (Yq x l u)) h/\Wl m (Yq x l u):=by refine⟨if_pos (by rw[YC];have:=hx.2;omega),Zm7 hx.1 (Zfl _ _ _),?_⟩;have:=hx.2;have q:(Yq x l u).length<=x.length:=Zq4 x l u;omega
theorem in4{GD:Str->Option (List (Key×D))}{h:Hd}{x:Str}:opC GD .In (.str x) (.tup [.str (O "fn"),.str (O "rec"),.str (O "call"),.str (O "if")]) h=.ok (.bl (Wz (x∈[O "fn",O "rec",O "call",O "if"]))) h:=Zcn (ss:=[O "fn",O "rec",O "call",O "if"])
theorem len_str{GD:Str->Option (List (Key×D))}{h:Hd}{x:Str}{m:Nat}(hx:Wl m x)(hm:m<=1000):ZaQ GD .len [.str x] h=.ok (.int x.length) h:=by show(if x.length<=sizeLine then _ else _)=_;exact if_pos (by rw[YC];have:=hx.2;omega)
theorem Zqm{x:Str}{h:Hd}{m:Nat}(hx:Wl m x)(hm:m<=1000):opB .Mult (.str (O "q")) (.int x.length) h=.ok (.str (Zeh (O "q") x.length)) h/\Wl m (Zeh (O "q") x.length):=by
 have hq:(O "q").length=1:=by decide +kernel
 have:=hx.2;refine⟨if_pos ⟨by omega,by omega,by rw[hq];decide⟩,Zm8 (by decide +kernel) _,?_⟩;rw[ZdV,hq];omega
noncomputable def nmW(b:Str)(l p r c:Int):Str:=if r / 26 % 4=1 then Yq b Ww (Wv (8 - c))else Yq b Ww (Wv p)++lt1 ((r+5 * c) % 26)++Yq b (Wv (p+1)) (Wv l)
noncomputable def nmQ(w:Str):Str:=if w∈[O "fn",O "rec",O "call",O "if"]then Zeh (O "q") w.length else w
noncomputable def nm(b:Str)(l p r c:Int):Str:=nmQ (nmW b l p r c)
theorem Znb{b:Str}(hb:Wl 8 b)(l p r c:Int):Wl 20 (nmW b l p r c):=by
 unfold nmW;split
 . have q:=(Zc6 (h:=[]) hb (by decide) Ww (Wv (8 - c))).2;exact⟨q.1,by have:=q.2;omega⟩
 . have q1:=(Zc6 (h:=[]) hb (by decide) Ww (Wv p)).2;have q2:=(ZjG (GD:=λ_=>Ww) (h:=[]) ((r+5 * c) % 26) (by omega) (by omega)).2;have q3:=(Zc6 (h:=[]) hb (by decide) (Wv (p+1)) (Wv l)).2;have q:=(Zd9 (h:=[]) (Zd9 (h:=[]) q1 q2 (by decide)).2 q3 (by decide)).2;exact⟨q.1,by have:=q.2;omega⟩
theorem ZtL{b:Str}(hb:Wl 8 b)(l p r c:Int):Wl 20 (nm b l p r c):=by
 unfold nm nmQ;split
 . exact(Zqm (h:=[]) (Znb hb l p r c) (by decide)).2
 . exact Znb hb l p r c
theorem ZkM{U:Tb}{h:Hd}{a:Option D}{l p r:Int}{b:Str}(hb:Wl 8 b):∀(ks:List Int) (fo:List Str) (k sg wd:Option D),fo.length+ks.length<=100->(∀c∈ks,0<=c/\c<100)->∃k' sg' wd',
 ZP Ww (.nm 6) (xs2 U (.cons (.set (.nm 8) (.ix (.var 1) (.bin .Mod (.bin .Add (.var 4) (.bin .Mult (.cst (.int 5)) (.var 6))) (.cst (.int 26))))) (.cons (.set (.nm 9) (.bin .Add (.bin .Add (.sl (.var 5) Ww (Wv (.var 3))) (.var 8)) (.sl (.var 5) (Wv (.bin .Add (.var 3) (.cst (.int 1)))) (Wv (.var 2))))) (.cons (.iff (.ex (.cmp .Eq (.bin .Mod (.bin .FloorDiv (.var 4) (.cst (.int 26))) (.cst (.int 4))) (.cst (.int 1)))) (.cons (.set (.nm 9) (.sl (.var 5) Ww (Wv (.bin .Sub (.cst (.int 8)) (.var 6))))) .nil) .nil) (.cons (.iff (.ex (.cmp .In (.var 9) (.tupl (.cons (.cst (.str (O "fn"))) (.cons (.cst (.str (O "rec"))) (.cons (.cst (.str (O "call"))) (.cons (.cst (.str (O "if"))) .nil))))))) (.cons (.set (.nm 9) (.bin .Mult (.cst (.str (O "q"))) (.blt .len (.cons (.var 9) .nil)))) .nil) .nil) (.cons (.drp (.meth .app (.var 7) (.cons (.var 9) .nil))) .nil))))))
  (ks.map D.int) [a,Wv (.str Zt),Wv (.int l),Wv (.int p),Wv (.int r),Wv (.str b),k,Wv (.ref h.length),sg,wd] (h++[.lst (fo.map .str)])
  = .ok (.nx,[a,Wv (.str Zt),Wv (.int l),Wv (.int p),Wv (.int r),Wv (.str b),k',Wv (.ref h.length),sg',wd']) (h++[.lst ((fo++ks.map (nm b l p r)).map .str)])
 |[],fo,k,sg,wd,h2,h3=>⟨k,sg,wd,by simp⟩
 |c::cs,fo,k,sg,wd,h2,h3=>by
  have hc:=h3 c (by simp);obtain⟨e1,hy⟩:=ZjG (GD:=U.GD) (h:=h++[.lst (fo.map .str)]) ((r+5 * c) % 26) (by omega) (by omega);have m5:opB .Mult (.int 5) (.int c) (h++[.lst (fo.map .str)])=.ok (.int (5 * c)) (h++[.lst (fo.map .str)]):=Zc9 ⟨ZO (by decide) (by decide),ZO (by omega) (by omega)⟩;have m26:opB .Mod (.int (r+5 * c)) (.int 26) (h++[.lst (fo.map .str)])=.ok (.int ((r+5 * c) % 26)) (h++[.lst (fo.map .str)]):=ZL (by decide);obtain⟨f1,w1⟩:=Zc6 (h:=h++[.lst (fo.map .str)]) hb (by decide) Ww (Wv p);obtain⟨f2,w2⟩:=Zc6 (h:=h++[.lst (fo.map .str)]) hb (by decide) (Wv (p+1)) (Wv l);obtain⟨f3,w3⟩:=Zc6 (h:=h++[.lst (fo.map .str)]) hb (by decide) Ww (Wv (8 - c));obtain⟨c1,v1⟩:=Zd9 (h:=h++[.lst (fo.map .str)]) w1 hy (by decide);obtain⟨c2,v2⟩:=Zd9 (h:=h++[.lst (fo.map .str)]) v1 w2 (by decide);have d26:opB .FloorDiv (.int r) (.int 26) (h++[.lst (fo.map .str)])=.ok (.int (r / 26)) (h++[.lst (fo.map .str)]):=Zco (by decide);have m4:opB .Mod (.int (r / 26)) (.int 4) (h++[.lst (fo.map .str)])=.ok (.int (r / 26 % 4)) (h++[.lst (fo.map .str)]):=ZL (by decide);have hz:fo.length<16777216:=by simp at h2;omega
  generalize hy':lt1 ((r+5 * c) % 26)=y at *;have fin:∀(wd1:Str),Wl 20 wd1->(xs2 U (.cons (.iff (.ex (.cmp .In (.var 9) (.tupl (.cons (.cst (.str (O "fn"))) (.cons (.cst (.str (O "rec"))) (.cons (.cst (.str (O "call"))) (.cons (.cst (.str (O "if"))) .nil))))))) (.cons (.set (.nm 9) (.bin .Mult (.cst (.str (O "q"))) (.blt .len (.cons (.var 9) .nil)))) .nil) .nil) (.cons (.drp (.meth .app (.var 7) (.cons (.var 9) .nil))) .nil))
   [a,Wv (.str Zt),Wv (.int l),Wv (.int p),Wv (.int r),Wv (.str b),Wv (.int c),Wv (.ref h.length),Wv (.str y),Wv (.str wd1)] (h++[.lst (fo.map .str)]))
   = .ok (.nx,[a,Wv (.str Zt),Wv (.int l),Wv (.int p),Wv (.int r),Wv (.str b),Wv (.int c),Wv (.ref h.length),Wv (.str y),Wv (.str (nmQ wd1))]) (h++[.lst (fo.map .str++[.str (nmQ wd1)])]):=by
   intro wd1 hw;unfold nmQ;obtain⟨eq,wq⟩:=Zqm (h:=h++[.lst (fo.map .str)]) hw (by decide);by_cases hin:wd1∈[O "fn",O "rec",O "call",O "if"]
   . rw[if_pos hin];have i4:=in4 (GD:=U.GD) (h:=h++[.lst (fo.map .str)]) (x:=wd1);rw[decide_eq_true hin]at i4;simp only[Zb1,Ze1,ZgR,Zj6,Zep,Ze7,Za7,Zd5,Zj5,O0,OJ,Option.join_some,ofO_some,Zk,bind_ok];rw[if_pos (by rw[YC];decide)];simp only[Zk,bind_ok,i4,Zkp,ofO_some,if_true];simp[len_str hw,eq,Zb8,Z9,Zek,ZjD,YC,hz]
   . rw[if_neg hin];have i4:=in4 (GD:=U.GD) (h:=h++[.lst (fo.map .str)]) (x:=wd1);rw[decide_eq_false hin]at i4;simp only[Zb1,Ze1,ZgR,Zj6,Zep,Ze7,Za7,Zd5,Zj5,O0,OJ,Option.join_some,ofO_some,Zk,bind_ok];rw[if_pos (by rw[YC];decide)];simp only[Zk,bind_ok,i4,Zkp,ofO_some];simp[Zb8,Z9,Zek,ZjD,YC,hz]
  have go:xs2 U (.cons (.set (.nm 8) (.ix (.var 1) (.bin .Mod (.bin .Add (.var 4) (.bin .Mult (.cst (.int 5)) (.var 6))) (.cst (.int 26))))) (.cons (.set (.nm 9) (.bin .Add (.bin .Add (.sl (.var 5) Ww (Wv (.var 3))) (.var 8)) (.sl (.var 5) (Wv (.bin .Add (.var 3) (.cst (.int 1)))) (Wv (.var 2))))) (.cons (.iff (.ex (.cmp .Eq (.bin .Mod (.bin .FloorDiv (.var 4) (.cst (.int 26))) (.cst (.int 4))) (.cst (.int 1)))) (.cons (.set (.nm 9) (.sl (.var 5) Ww (Wv (.bin .Sub (.cst (.int 8)) (.var 6))))) .nil) .nil) (.cons (.iff (.ex (.cmp .In (.var 9) (.tupl (.cons (.cst (.str (O "fn"))) (.cons (.cst (.str (O "rec"))) (.cons (.cst (.str (O "call"))) (.cons (.cst (.str (O "if"))) .nil))))))) (.cons (.set (.nm 9) (.bin .Mult (.cst (.str (O "q"))) (.blt .len (.cons (.var 9) .nil)))) .nil) .nil) (.cons (.drp (.meth .app (.var 7) (.cons (.var 9) .nil))) .nil)))))
   [a,Wv (.str Zt),Wv (.int l),Wv (.int p),Wv (.int r),Wv (.str b),Wv (.int c),Wv (.ref h.length),sg,wd] (h++[.lst (fo.map .str)])
   = .ok (.nx,[a,Wv (.str Zt),Wv (.int l),Wv (.int p),Wv (.int r),Wv (.str b),Wv (.int c),Wv (.ref h.length),Wv (.str y),Wv (.str (nm b l p r c))]) (h++[.lst (fo.map .str++[.str (nm b l p r c)])]):=by
   unfold nm nmW;rw[hy'];by_cases hr:r / 26 % 4=1
   . have q2:=fin _ ⟨w3.1,by have:=w3.2;omega⟩;rw[if_pos hr,<- q2];simp[m5,m26,e1,f1,c1,f2,c2,d26,m4,hr,f3]
   . have q2:=fin _ ⟨v2.1,by have:=v2.2;omega⟩;rw[if_neg hr,<- q2];simp[m5,m26,e1,f1,c1,f2,c2,d26,m4,hr]
  obtain⟨k',sg',wd',e3⟩:=ZkM (U:=U) (h:=h) (a:=a) (l:=l) (p:=p) (r:=r) hb cs (fo++[nm b l p r c]) (Wv (.int c)) (Wv (.str y)) (Wv (.str (nm b l p r c))) (by simp at h2 ⊢;omega) (λz hz=>h3 z (by simp[hz]));refine⟨k',sg',wd',?_⟩;rw[Op,Zas];simp only[Zp8,List.set_cons_succ,List.set_cons_zero];rw[go];simp only[Zk,bind_ok];have:(fo++[nm b l p r c]).map D.str=fo.map .str++[.str (nm b l p r c)]:=by simp
  rw[<- this,e3];simp
theorem ZrZ:∀k∈[[102,110],[114,101,99],[99,97,108,108],[105,102]],∀l∈[[102,110],[114,101,99],[99,97,108,108],[105,102],YK k.length 113],k=l\/k.length≠l.length\/∀i,i<4->∃j,j<4/\j≠i/\k[j]?≠l[j]? := by decide +kernel
theorem ZkO{b:List Nat}{x y:Nat}(ne:x≠y)(a:List Nat)(h:a++x::b∈[[102,110],[114,101,99],[99,97,108,108],[105,102]]):a++y::b ∉ [[102,110],[114,101,99],[99,97,108,108],[105,102]]/\a++y::b≠YK (a++x::b).length 113:=by
 have l4:(a++x::b).length<=4:=by
  have:∀k∈[[102,110],[114,101,99],[99,97,108,108],[105,102]],k.length<=4:=by decide
  exact this _ h
 have sl:(a++x::b).length=(a++y::b).length:=by simp
 have no:∀l∈[[102,110],[114,101,99],[99,97,108,108],[105,102],YK (a++x::b).length 113],a++y::b≠l:=λl hl e=>by
  rcases ZrZ _ h l hl with q|q|q
  . rw[<- e]at q;exact ne (List.cons.inj (List.append_cancel_left q)).1
  . exact q (by rw[<- e];exact sl)
  . obtain⟨j,_,nj,d⟩:=q a.length (by simp at l4;omega);rw[<- e]at d;rcases Nat.lt_or_ge j a.length with z|z
    . exact d (by rw[Oe z,Oe z])
    . rw[Om z,Om z]at d;obtain⟨m,hm⟩:∃m,j - a.length=m+1:=⟨j - a.length - 1,by omega⟩
      rw[hm]at d;exact d rfl
 refine⟨λm=>no _ (Ys [YK (a++x::b).length 113] m) rfl,no _ (Ov [[102,110],[114,101,99],[99,97,108,108],[105,102]] (Ox.mpr rfl))⟩
theorem Znm{w:Str}:w∈[O "fn",O "rec",O "call",O "if"]↔w.cps.toList∈[[102,110],[114,101,99],[99,97,108,108],[105,102]]:=by
 have e:[[102,110],[114,101,99],[99,97,108,108],[105,102]]=[O "fn",O "rec",O "call",O "if"].map (·.cps.toList):=by decide +kernel
 rw[e];refine⟨λh=>List.mem_map_of_mem h,λh=>?_⟩;obtain⟨v,hv,q⟩:=List.mem_map.mp h;have:v=w:=by obtain⟨⟨v⟩⟩:=v;obtain⟨⟨w⟩⟩:=w;cases q;rfl
 exact this ▸ hv
theorem Zh5:∀n,(Zeh (O "q") n).cps.toList=YK n 113
 |n=>by
  have:∀(n:Nat) (a:Array Nat),((YK n (O "q").cps).foldl (·++·) a).toList=a.toList++YK n 113:=by
   intro n;induction n with
   |zero=>intro a;simp
   |succ n ih=>intro a;rw[List.replicate_succ,Wr,ih,Array.toList_append,Oz,List.replicate_succ];rfl
  have q:=this n #[];simpa[Zeh]using q
theorem nq{a b:List Nat}{x y:Nat}{v w:Str}(hv:v.cps.toList=a++x::b)(hw:w.cps.toList=a++y::b)(ne:x≠y):nmQ v≠nmQ w:=by
 have hl:v.length=(a++x::b).length/\w.length=(a++y::b).length:=by rw[<- hv,<- hw];exact⟨by simp[Str.length],by simp[Str.length]⟩
 unfold nmQ;intro e;have e':=congrArg (·.cps.toList) e;simp only[Znm]at e';split at e'
 . rename_i kv;rw[hv]at kv;obtain⟨k1,k2⟩:=ZkO ne a kv;rw[if_neg (by rw[hw];exact k1),Zh5,hw,hl.1]at e';exact k2 e'.symm
 . split at e'
   . rename_i kw;rw[hw]at kw;obtain⟨k1,k2⟩:=ZkO (YL ne) a kw;rw[Zh5,hv,hl.2]at e';exact k2 e'
   . rw[hv,hw]at e';have:=List.append_cancel_left e';exact ne (List.cons.inj this).1
theorem ZkG(w:Str):(nmQ w).length=w.length:=by
 unfold nmQ;split
 . rw[ZdV,show(O "q").length=1 by decide +kernel,Nat.mul_one]
 . rfl
theorem ZpA:∀i j:Fin 26,ltr (i.val:Int)=ltr (j.val:Int)->i=j:=by decide +kernel
theorem ZtM{b:Str}{l p r:Int}(hb:b.length=8){c d:Int}(hc:0<=c/\c<5)(hd:0<=d/\d<5)(ne:c≠d):nm b l p r c≠nm b l p r d:=by
 unfold nm nmW;split
 . intro e;have e':=congrArg Str.length e;have len:∀ z:Int,0<=z/\z<5->(Yq b Ww (Wv (8 - z))).length=(8 - z).toNat:=fun z hz=>by
     have h8:b.cps.toList.length=8:=by simpa [Str.length] using hb
     rw [StrLaws.sliceText_to ⟨by omega,by omega⟩];show (List.take (8 - z - 0).toNat (List.drop 0 b.cps.toList)).toArray.size=_;rw [Of,List.length_take,List.drop_zero,h8];omega
   rw [ZkG,ZkG,len c hc,len d hd] at e';omega
 . refine nq (a:=(Yq b Ww (Wv p)).cps.toList) (b:=(Yq b (Wv (p+1)) (Wv l)).cps.toList) (x:=ltr ((r+5 * c) % 26)) (y:=ltr ((r+5 * d) % 26)) ?_ ?_ ?_
   . show (_++#[ltr ((r+5 * c) % 26)]++_:Array Nat).toList=_;simp
   . show (_++#[ltr ((r+5 * d) % 26)]++_:Array Nat).toList=_;simp
   . intro e;have q:=ZpA ⟨((r+5 * c) % 26).toNat,by omega⟩ ⟨((r+5 * d) % 26).toNat,by omega⟩ (by
       show ltr (((r+5 * c) % 26).toNat:Int)=ltr (((r+5 * d) % 26).toNat:Int);rw [Int.toNat_of_nonneg (by omega),Int.toNat_of_nonneg (by omega)];exact e)
     have q:=Fin.mk.inj q;omega
theorem Zna{b:Str}{l p r:Int}(hb:b.length=8):(([0,1,2,3,4]:List Int).map (nm b l p r)).Nodup:=by
 refine List.pairwise_map.mpr (List.Pairwise.imp_of_mem (R:=λx y=>x≠y) (λ{x y} hx hy ne=>ZtM hb ?_ ?_ ne) (by decide))
 . simp at hx;omega
 . simp at hy;omega
theorem ZoI{P:Pg}(H:Mkr P)(n:Nat)(v:Int)(h:Hd):∃ns:List Str,ns.length=5/\(∀x∈ns,Wl 20 x)/\ns.Nodup/\run P (n+1) (O "_law_names") [.int v] h=.ok (.ref h.length) (h++[.lst (ns.map .str)]):=by
 rw[Zc H.names rfl];have u8:Zaz 0 8=[0,1,2,3,4,5,6,7].map D.int:=by rfl
 have u5:Zaz 0 5=[0,1,2,3,4].map D.int:=by rfl
 have m8:opB .Mod (.int v) (.int 8) h=.ok (.int (v % 8)) h:=ZL (by decide);have d8:opB .FloorDiv (.int v) (.int 8) h=.ok (.int (v / 8)) h:=Zco (by decide);have mp:opB .Mod (.int (v / 8)) (.int (1+v % 8)) h=.ok (.int (v / 8 % (1+v % 8))) h:=ZL (by omega);have d64:opB .FloorDiv (.int v) (.int 64) h=.ok (.int (v / 64)) h:=Zco (by decide);obtain⟨r',b,k',hb,hb8,e1⟩:=Znl (U:=⟨P.G,P.GD,run P n,P.L⟩) (h:=h) (a:=Wv (.int v)) (l:=Wv (.int (1+v % 8))) (p:=Wv (.int (v / 8 % (1+v % 8)))) (f:=Ww) (sg:=Ww) (wd:=Ww) [0,1,2,3,4,5,6,7] (v / 64) (O "") 0 Ww ⟨by decide +kernel,by decide +kernel⟩ (by decide +kernel) (by decide);obtain⟨k2,sg',wd',e2⟩:=ZkM (U:=⟨P.G,P.GD,run P n,P.L⟩) (h:=h) (a:=Wv (.int v)) (l:=1+v % 8) (p:=v / 8 % (1+v % 8)) (r:=r') hb [0,1,2,3,4] [] k' Ww Ww (by decide) (by decide);refine⟨[0,1,2,3,4].map (nm b (1+v % 8) (v / 8 % (1+v % 8)) r'),rfl,λx hx=>?_,Zna hb8,?_⟩
 . obtain⟨c,_,rfl⟩:=List.mem_map.mp hx;exact ZtL hb _ _ _ _
 generalize nm b (1+v % 8) (v / 8 % (1+v % 8)) r'=F at e2 ⊢;simp only[Oy,OB]at e2;have s8:ZaV 8=Wx:=by decide
 have s5:ZaV 5=Wx:=by decide
 unfold Zt at e1 e2;rw[<- u8]at e1;rw[<- u5]at e2
 try simp at e1
 try simp at e2
 simp[Zau,ZeO,Zq,m8,d8,mp,d64,s8,s5,e1,e2,YC]
end Gn
end
section
set_option tactic.hygienic false
namespace Gn
open PySem L2 IV
noncomputable abbrev Scp:=List (Str×Str)
noncomputable def pairOf(p:Str×Str):D:=.tup [.str p.1,.str p.2]
def Zl3(h:Hd)(k:Nat)(sc:Scp):Prop:=h[k]? = Wv (.lst (sc.map pairOf))
structure KnOk(sc:Scp)(kn:List (Key×D)):Prop where
 key:∀p∈kn,∃x,p.1=YE x/\x∈sc.map (·.1)
 val:∀p∈kn,∃s,p.2=D.str s
theorem Zia{kn:List (Key×D)}{k:Key}{v:D}{p:Key×D}(h:p∈putD kn k v):p∈kn\/p=(k,v):=by
 unfold putD at h;split at h
 . obtain⟨q,hq,e⟩:=List.mem_map.mp h;split at e
   . rename_i ek;right;rw[<- e,ek]
   . left;rw[<- e];exact hq
 . rcases OD.mp h with z|z
   . exact .inl z
   . exact .inr (Ox.mp z)
theorem ZmF{kn:List (Key×D)}{k:Key}{v:D}:(putD kn k v).length<=kn.length+1:=by unfold putD;split<;>simp
theorem ZoS{h:Hd}{kn:List (Key×D)}{x:Str}{v:D}(hz:kn.length<1000):ZbH (.ref h.length) (.str x) v (h++[.dic kn])=.ok () (h++[.dic (putD kn (.inr x) v)]):=by simp only[ZbH,ZdL,keyOf];rw[if_pos (by rw[YC];omega)];simp
theorem ZkL{U:Tb}{h:Hd}{k:Nat}{sc0:Scp}{w:Option D}(hs:Zl3 h k sc0):∀(sc:Scp) (kn:List (Key×D)) (a b:Option D),(∀p∈sc,p∈sc0)->KnOk sc0 kn->kn.length+sc.length<=500->∃kn' a' b',KnOk sc0 kn'/\kn'.length<=kn.length+sc.length /\
 ZP (Wv (k,sc0.map pairOf)) (.two 3 4) (xs2 U (.cons (.put (.var 2) (.var 3) (.var 4)) .nil)) (sc.map pairOf) [Wv (.ref k),w,Wv (.ref h.length),a,b] (h++[.dic kn])
  = .ok (.nx,[Wv (.ref k),w,Wv (.ref h.length),a',b']) (h++[.dic kn'])
 |[],kn,a,b,h1,h2,h3=>by
  refine⟨kn,a,b,h2,by simp,?_⟩;have:(h++[DO.dic kn])[k]? = Wv (.lst (sc0.map pairOf)):=by rw[Oe (ZH hs)];exact hs
  simp[ZP,Wk.stays,this]
 |(x,s)::sc,kn,a,b,h1,h2,h3=>by
  simp only[Os]at h3;have st:(h++[DO.dic kn])[k]? = Wv (.lst (sc0.map pairOf)):=by rw[Oe (ZH hs)];exact hs
  have hk:KnOk sc0 (putD kn (.inr x) (.str s)):=by
   refine⟨λp hp=>?_,λp hp=>?_⟩
   . rcases Zia hp with z|rfl
     . exact h2.key p z
     . exact⟨x,rfl,List.mem_map.mpr ⟨(x,s),h1 _ (by simp),rfl⟩⟩
   . rcases Zia hp with z|rfl
     . exact h2.val p z
     . exact⟨s,rfl⟩
  have pl:=ZmF (kn:=kn) (k:=.inr x) (v:=.str s);obtain⟨kn',a',b',q1,q2,e⟩:=ZkL (U:=U) (w:=w) hs sc (putD kn (.inr x) (.str s)) (Wv (.str x)) (Wv (.str s)) (λp hp=>h1 p (by simp[hp])) hk (by omega);refine⟨kn',a',b',q1,by simp only[Os];omega,?_⟩;rw[Op,ZP];simp only[Wk.stays,st,decide_true,if_true];have e2:=ZoS (h:=h) (kn:=kn) (x:=x) (v:=.str s) (by omega);simp[pairOf,e2];simpa[pairOf]using e
theorem find_key{kn:List (Key×D)}{x:Str}(hx:YE x∈kn.map (·.1)):∃v,Zay kn (.inr x)=Wv v/\(YE x,v)∈kn:=by
 induction kn with
 |nil=>simp at hx
 |cons p r ih=>
  unfold Zay;by_cases e:p.1=YE x
  . refine⟨p.2,?_,?_⟩
    . simp[Ws,e]
    . rw[<- e];exact Oi
  . obtain⟨v,h1,h2⟩:=ih (by simpa[YL e]using hx);refine⟨v,?_,Oh _ h2⟩;simpa[Ws,e,Zay]using h1
theorem ZkP{sc:Scp}:∀{kn:List (Key×D)},(∀p∈kn,∃x,p.1=YE x/\x∈sc.map (·.1))->∃ss,Zdc kn=Wv ss/\ss.length=kn.length/\(∀x∈ss,x∈sc.map (·.1)/\YE x∈kn.map (·.1))
 |[],_=>⟨[],rfl,rfl,by simp⟩
 |(k,v)::r,h=>by
  obtain⟨x,e,hx⟩:=h (k,v) (by simp);cases e;obtain⟨ss,e1,e2,e3⟩:=ZkP (kn:=r) λp hp=>h p (by simp[hp]);refine⟨x::ss,by rw[Zdc,e1];rfl,by simp[e2],λy hy=>?_⟩;rcases O3.mp hy with rfl|hy
  . exact⟨hx,by simp⟩
  . exact⟨(e3 y hy).1,by simp[(e3 y hy).2]⟩
theorem ZjJ{U:Tb}{h:Hd}{kn:List (Key×D)}{w:Str}{so:List Str}(hv:∀p∈kn,∃s,p.2=D.str s):∀(xs:List Str) (acc:List Str),(∀x∈xs,YE x∈kn.map (·.1))->acc.length+xs.length<=1000->∃ys,(∀y∈ys,y∈xs) /\
 Zo (Wv (h.length+1,so.map D.str)) (.nm 0) (tsto U (Wv (.ex (.cmp .Eq (.ix (.var 2) (.var 0)) (.var 1))))) (ev U (.var 0)) (xs.map D.str) [Ww,Wv (.str w),Wv (.ref h.length)] (acc.map .str) (h++[.dic kn,.lst (so.map .str)])
  = .ok ((acc++ys).map .str) (h++[.dic kn,.lst (so.map .str)])
 |[],acc,h1,h2=>⟨[],by simp,by simp[Zo,Wk.stays]⟩
 |x::xs,acc,h1,h2=>by
  simp only[Os]at h2;obtain⟨v,e1,hm⟩:=find_key (h1 x (by simp));obtain⟨s,rfl⟩:∃s,v=D.str s:=hv _ hm;have ix:Z8 U.GD (.ref h.length) (.str x) (h++[.dic kn,.lst (so.map .str)])=.ok (.str s) (h++[.dic kn,.lst (so.map .str)]):=by simp[Z8,dicOf,e1]
  have hz:acc.length<sizeLine:=by rw[YC];omega
  by_cases hw:s=w
  . obtain⟨ys,q1,q2⟩:=ZjJ (U:=U) (h:=h) (w:=w) (so:=so) hv xs (acc++[x]) (λy hy=>h1 y (by simp[hy])) (by simp;omega);refine⟨x::ys,λy hy=>?_,?_⟩
    . rcases O3.mp hy with rfl|hy
      . simp
      . simp[q1 y hy]
    . rw[Op,ZE];simp at q2;simp[Wk.stays,hz,ix,hw,q2]
  . obtain⟨ys,q1,q2⟩:=ZjJ (U:=U) (h:=h) (w:=w) (so:=so) hv xs acc (λy hy=>h1 y (by simp[hy])) (by omega);refine⟨ys,λy hy=>by simp[q1 y hy],?_⟩;rw[Op,ZE];simp at q2;simp[Wk.stays,hz,ix,hw,q2]
theorem ZoG{P:Pg}(H:Mkr P)(n:Nat){h:Hd}{k:Nat}{sc:Scp}(w:Str)(hs:Zl3 h k sc)(hl:sc.length<=60)(hok:∀p∈sc,Yp p.1=Wx):∃(ys:List Str) (g:Hd),(∀y∈ys,y∈sc.map (·.1))/\g.length=2 /\
 run P (n+1) (O "_law_there") [.ref k,.str w] h=.ok (.ref (h.length+2)) (h++g++[.lst (ys.map .str)]):=by
 rw[Zc H.there rfl];obtain⟨kn,a',b',hk,hkl,e1⟩:=ZkL (U:=⟨P.G,P.GD,run P n,P.L⟩) (w:=Wv (.str w)) hs sc [] Ww Ww (λ_ hp=>hp) ⟨by simp,by simp⟩ (by simp;omega);obtain⟨ss,e2,e3,e4⟩:=ZkP hk.key;have all:ss.all Yp=Wx:=by rw[OC];intro x hx;obtain⟨p,hp,rfl⟩:=List.mem_map.mp (e4 x hx).1;exact hok p hp
 have perm:=Zc5 ss;obtain⟨ys,q1,q2⟩:=ZjJ (U:=⟨P.G,P.GD,run P n,P.L⟩) (h:=h) (kn:=kn) (w:=w) (so:=Zb3 ss) hk.val (Zb3 ss) [] (λx hx=>(e4 x (perm.mem_iff.mp hx)).2) (by rw[perm.length_eq];simp at hkl ⊢;omega);refine⟨ys,[.dic kn,.lst ((Zb3 ss).map .str)],λy hy=>(e4 y (perm.mem_iff.mp (q1 y hy))).1,rfl,?_⟩;have hsrt:ZaQ P.GD .srt [.ref h.length] (h++[.dic kn])=.ok (.ref (h.length+1)) (h++[.dic kn,.lst ((Zb3 ss).map .str)]):=by show Zea P.GD [.ref h.length] (h++[.dic kn])=_;simp only[Zea,dicOf,ZdL,Yz,e2];rw[if_pos ⟨by simp at hkl;omega,all⟩];simp
 have hw1:Zal (.ref k) (h++[DO.dic []])=Wv ⟨Wv (k,sc.map pairOf),sc.map pairOf⟩:=by
  have:(h++[DO.dic []])[k]? = Wv (.lst (sc.map pairOf)):=by rw[Oe (ZH hs)];exact hs
  simp[Zal,this]
 have hw2:Zal (.ref (h.length+1)) (h++[DO.dic kn,.lst ((Zb3 ss).map .str)])=Wv ⟨Wv (h.length+1,(Zb3 ss).map .str),(Zb3 ss).map .str⟩:=by simp[Zal]
 simp at q2 e1;simp[Zat,ZeN,Zq,ZcN,ZdA,hw1,e1,hsrt,hw2,Zby,q2]
end Gn
end
section
namespace Gn
open PySem L2 IV
structure Ctx(cs:List Int)(ns:List Str)(h:Hd)(i j m k:Nat)(sc:Scp)(a b:Int):Prop where
 st:St3 h i j cs a b
 nm:h[m]? = Wv (.lst (ns.map .str))
 n5:ns.length=5
 nok:∀x∈ns,Wl 20 x
 nd:ns.Nodup
 sca:Zl3 h k sc
 sco:∀p∈sc,Wl 20 p.1
 im:i≠m
 ik:i≠k
 ab:0<=a
variable {P:Pg}{cs:List Int}{ns:List Str}{h h':Hd}{i j m k:Nat}{sc:Scp}{a b a' b':Int}
theorem Ctx.up(c:Ctx cs ns h i j m k sc a b)(u:Up i h h')(st:St3 h' i j cs a' b')(ab:0<=a'):Ctx cs ns h' i j m k sc a' b':=⟨st,u.at c.nm (YL c.im),c.n5,c.nok,c.nd,u.at c.sca (YL c.ik),c.sco,c.im,c.ik,ab⟩
theorem St3.app{g:Hd}(s:St3 h i j cs a b):St3 (h++g) i j cs a b:=⟨by rw[Oe (ZH s.1)];exact s.1,by rw[Oe (ZH s.2.1)];exact s.2.1,s.2.2⟩
theorem Ctx.app{g:Hd}(c:Ctx cs ns h i j m k sc a b):Ctx cs ns (h++g) i j m k sc a b:=c.up Up.app c.st.app c.ab
theorem Ctx.name(c:Ctx cs ns h i j m k sc a b){GD:Str->Option (List (Key×D))}(v:Int)(h0:0<=v)(h5:v<5):∃x,Z8 GD (.ref m) (.int v) h=.ok (.str x) h/\Wl 20 x/\ns[v.toNat]? = Wv x:=by
 obtain⟨q,rfl⟩:∃q:Nat,v=q:=⟨v.toNat,by omega⟩
 have hq:q<ns.length:=by have:=c.n5;omega
 refine⟨ns[q],?_,c.nok _ (List.getElem_mem hq),Og hq⟩;rw[ZG c.nm,IV.Zcz,On,Og hq];rfl
noncomputable def A(r:Nat):Int:=4 ^ (r+1)
theorem Zi9(r:Nat):0<A r:=Int.pow_pos (by decide)
theorem Zsw(r:Nat):A (r+1)=4 * A r:=by unfold A;rw[Int.pow_succ];omega
inductive Made(cs:List Int)(h:Hd)(i j:Nat)(sc:Scp)(a mx:Int)(dm:Nat)(r:R D):Prop
 |mk (t:T) (h':Hd) (a' b':Int) (e:r=.ok (T.d t) h') (u:Up i h h') (s:St3 h' i j cs a' b') (l1:a<=a') (l2:a'<=a+mx) (c:Cl (sc.map (·.1)) t) (p:dep t<=dm)
def Zk4(P:Pg)(r n0:Nat):Prop:=∀(n:Nat) (cs:List Int) (ns:List Str) (h:Hd) (i j m k:Nat) (sc:Scp) (a b:Int) (w:Str) (room:Int),room<=r->Ctx cs ns h i j m k sc a b->sc.length+2 * r<=50->a+A r<2 ^ 50 ->
 Made cs h i j sc a (A r) (3 * r+3) (run P (n+n0) (O "_law_any") [.str w,.ref k,.ref i,.ref m,.int room] h)
theorem Zod(H:Mkr P)(n:Nat)(c:Ctx cs ns h i j m k sc a b)(w:Str)(room:Int)(hl:sc.length<=50)(ha:a<2 ^ 50)(T1 T2 T3:Option D):∃(v:Int) (w':Str) (ys:List Str) (h':Hd) (l:Nat),
 xs2 ⟨P.G,P.GD,run P (n+2),P.L⟩ (.cons Zbd (.cons Zbc (.cons ZU (.cons Zbb (.cons Zba .nil))))) [Wv (.str w),Wv (.ref k),Wv (.ref i),Wv (.ref m),Wv (.int room),T1,T2,T3,Ww,Ww] h
  = .ok (.nx,[Wv (.str w'),Wv (.ref k),Wv (.ref i),Wv (.ref m),Wv (.int room),Wv (.int v),Wv (.int (v / 87)),Wv (.ref l),Ww,Ww]) h'/\Up i h h'/\Ctx cs ns h' i j m k sc (a+1) (b - 1)/\h'[l]? = Wv (.lst (ys.map .str))/\(∀y∈ys,y∈sc.map (·.1)):=by
 have i1:=c.st.1;have lt:=ZH i1;have p1:ZbH (.ref i) (.int 2) (.int (b - 1)) h=.ok () (h.set i (.lst [.ref j,.int a,.int (b - 1)])):=by simp only[ZbH,i1];rfl
 have s1:St3 (h.set i (.lst [.ref j,.int a,.int (b - 1)])) i j cs a (b - 1):=⟨by rw[Ol lt],by rw[Oc c.st.2.2];exact c.st.2.1,c.st.2.2⟩
 have c1:=c.up Up.set s1 c.ab;obtain⟨v,e2,_⟩:=Zjn H n s1 ⟨c.ab,ha⟩;have lt1:i<(h.set i (.lst [.ref j,.int a,.int (b - 1)])).length:=by simpa using lt
 have s2:St3 ((h.set i (.lst [.ref j,.int a,.int (b - 1)])).set i (.lst [.ref j,.int (a+1),.int (b - 1)])) i j cs (a+1) (b - 1):=⟨by rw[Ol lt1],by rw[Oc c.st.2.2];exact s1.2.1,c.st.2.2⟩
 have c2:=c1.up Up.set s2 (by have:=c.ab;omega);generalize hh2:(h.set i (.lst [.ref j,.int a,.int (b - 1)])).set i (.lst [.ref j,.int (a+1),.int (b - 1)])=h2 at e2 s2 c2;have u2:Up i h h2:=hh2 ▸ Up.set.trans Up.set;have m29:∀h,opB .Mod (.int v) (.int 29) h=.ok (.int (v % 29)) h:=λh=>ZL (by decide);have d29:∀h,opB .FloorDiv (.int v) (.int 29) h=.ok (.int (v / 29)) h:=λh=>Zco (by decide);have m3:∀h,opB .Mod (.int (v / 29)) (.int 3) h=.ok (.int (v / 29 % 3)) h:=λh=>ZL (by decide);have d87:∀h,opB .FloorDiv (.int v) (.int 87) h=.ok (.int (v / 87)) h:=λh=>Zco (by decide);have hix:Z8 P.GD (.ref i) (.int 2) h=.ok (.int b) h:=by rw[ZG i1];simp
 have step3:∃(w':Str) (h3:Hd),xs1 ⟨P.G,P.GD,run P (n+2),P.L⟩ ZU [Wv (.str w),Wv (.ref k),Wv (.ref i),Wv (.ref m),Wv (.int room),Wv (.int v),T2,T3,Ww,Ww] h2
  = .ok (.nx,[Wv (.str w'),Wv (.ref k),Wv (.ref i),Wv (.ref m),Wv (.int room),Wv (.int v),T2,T3,Ww,Ww]) h3/\Up i h2 h3/\Ctx cs ns h3 i j m k sc (a+1) (b - 1):=by
  by_cases hv:v % 29=0
  . have q:v / 29 % 3=0\/v / 29 % 3=1\/v / 29 % 3=2:=by omega
    have ix:∀z:Int,Z8 P.GD (.ref h2.length) (.int z) (h2++[.lst [.str (O "n"),.str (O "f"),.str (O "g")]])=R.ofO (atI [.str (O "n"),.str (O "f"),.str (O "g")] z) _:=λz=>ZG ZdL;rcases q with q|q|q
    . exact⟨O "n",h2++[.lst [.str (O "n"),.str (O "f"),.str (O "g")]],by simp[ZU,m29,hv,d29,m3,YC,ix,q],Up.app,c2.app⟩
    . exact⟨O "f",h2++[.lst [.str (O "n"),.str (O "f"),.str (O "g")]],by simp[ZU,m29,hv,d29,m3,YC,ix,q],Up.app,c2.app⟩
    . exact⟨O "g",h2++[.lst [.str (O "n"),.str (O "f"),.str (O "g")]],by simp[ZU,m29,hv,d29,m3,YC,ix,q],Up.app,c2.app⟩
  . exact⟨w,h2,by simp[ZU,m29,hv],Up.refl,c2⟩
 obtain⟨w',h3,e3,u3,c3⟩:=step3;obtain⟨ys,g,hy,hg,e5⟩:=ZoG H (n+1) w' c3.sca (by omega) (λp hp=>(c3.sco p hp).1);refine⟨v,w',ys,h3++g++[.lst (ys.map .str)],h3.length+2,?_,(u2.trans u3).trans (Up.app.trans Up.app),c3.app.app,?_,hy⟩
 . have x1:xs1 ⟨P.G,P.GD,run P (n+2),P.L⟩ Zbd [Wv (.str w),Wv (.ref k),Wv (.ref i),Wv (.ref m),Wv (.int room),T1,T2,T3,Ww,Ww] h=.ok (.nx,[Wv (.str w),Wv (.ref k),Wv (.ref i),Wv (.ref m),Wv (.int room),T1,T2,T3,Ww,Ww]) (h.set i (.lst [.ref j,.int a,.int (b - 1)])):=by simp[Zbd,hix,p1]
   have x2:xs1 ⟨P.G,P.GD,run P (n+2),P.L⟩ Zbc [Wv (.str w),Wv (.ref k),Wv (.ref i),Wv (.ref m),Wv (.int room),T1,T2,T3,Ww,Ww] (h.set i (.lst [.ref j,.int a,.int (b - 1)]))=.ok (.nx,[Wv (.str w),Wv (.ref k),Wv (.ref i),Wv (.ref m),Wv (.int room),Wv (.int v),T2,T3,Ww,Ww]) h2:=by simp[Zbc,e2]
   have x4:∀q,xs1 ⟨P.G,P.GD,run P (n+2),P.L⟩ Zbb [Wv (.str w'),Wv (.ref k),Wv (.ref i),Wv (.ref m),Wv (.int room),Wv (.int v),q,T3,Ww,Ww] h3=.ok (.nx,[Wv (.str w'),Wv (.ref k),Wv (.ref i),Wv (.ref m),Wv (.int room),Wv (.int v),Wv (.int (v / 87)),T3,Ww,Ww]) h3:=by intro q;simp[Zbb,d87]
   have x5:xs1 ⟨P.G,P.GD,run P (n+2),P.L⟩ Zba [Wv (.str w'),Wv (.ref k),Wv (.ref i),Wv (.ref m),Wv (.int room),Wv (.int v),Wv (.int (v / 87)),T3,Ww,Ww] h3=.ok (.nx,[Wv (.str w'),Wv (.ref k),Wv (.ref i),Wv (.ref m),Wv (.int room),Wv (.int v),Wv (.int (v / 87)),Wv (.ref (h3.length+2)),Ww,Ww]) (h3++g++[.lst (ys.map .str)]):=by simp only[Zba,ZeZ,Zhv,Za7,Zd5,Zep,O0,OJ,Option.join_some,ofO_some,Zk,bind_ok,e5];rfl
   simp only[Zb1,x1,Zk,bind_ok,x2,e3,x4,x5,Zoh]
 . have:h3.length+2=(h3++g).length:=by simp[hg]
   rw[this];simp
end Gn
end
section
set_option tactic.hygienic false
namespace Gn
open PySem L2 IV
variable {P:Pg}{cs:List Int}{ns:List Str}{h h':Hd}{i j m k:Nat}{sc:Scp}{a b a' b':Int}
theorem Cl.mono{sc sc':List Str}:∀ {t:T},(∀ x∈sc,x∈sc')->Cl sc t->Cl sc' t
 | .num n,_,c=>c
 | .name x,s,c=>s x c
 | .fn x e,s,c=>Cl.mono (t:=e) (fun y hy=>by
     rcases O3.mp hy with z|z
     . rw [z];exact Oi
     . exact Oh _ (s y z)) c
 | .rcc f x e,s,c=>⟨Cl.mono (t:=e) (fun y hy=>by
     rcases O3.mp hy with z|z
     . rw [z];exact Oi
     . rcases O3.mp z with q|q
       . rw [q];exact Oh _ Oi
       . exact Oh _ (Oh _ (s y q))) c.1,c.2⟩
 | .call f e,s,c=>⟨Cl.mono s c.1,Cl.mono s c.2⟩
 | .iff p q r,s,c=>⟨Cl.mono s c.1,Cl.mono s c.2.1,Cl.mono s c.2.2⟩
 | .op w p q,s,c=>⟨Cl.mono s c.1,Cl.mono s c.2⟩
noncomputable def Zok(z:Int):Wd:=if z=0 then .add else if z=1 then .sub else if z=2 then .mul else .lt
theorem wd4(z:Int)(h0:0<=z)(h4:z<4):atI [D.str (O "+"),.str (O "-"),.str (O "*"),.str (O "<")] z=Wv (.str (Zok z).s):=by
 have:z=0\/z=1\/z=2\/z=3:=by omega
 rcases this with rfl|rfl|rfl|rfl<;>simp[Zok,Wd.s]
noncomputable def me(rest:Int)(k i m:Nat)(room:Int)(a b c d:Option D):Ev:=[Wv (.int rest),Wv (.ref k),Wv (.ref i),Wv (.ref m),Wv (.int room),a,b,c,d]
theorem ZrM(H:Mkr P){r n0:Nat}(ih:Zk4 P r n0)(hn:1<=n0)(n:Nat)(c:Ctx cs ns h i j m k sc a b)(rest:Int)(room:Int)(hr:room<=r)(hl:sc.length+2 * r<=50)(ha:a+2 * A r<2 ^ 50):
 Made cs h i j sc a (2 * A r) (3 * r+4) (run P (n+n0+1) (O "_law_number") [.int rest,.ref k,.ref i,.ref m,.int room] h):=by
 have Ap:=Zi9 r;rw[Ze3 H.number rfl];show Made cs h i j sc a (2 * A r) (3 * r+4) (Zh (xs2 (P.tbl (n+n0)) Zcv (me rest k i m room Ww Ww Ww Ww) h));have x1:∀h,xs1 (P.tbl (n+n0)) Zc2 (me rest k i m room Ww Ww Ww Ww) h=.ok (.nx,me rest k i m room (Wv (.int (rest % 6))) Ww Ww Ww) h:=λh=>rfl;rw[Zcv,Zb (x1 h)];obtain⟨n1,e1⟩:∃n1,n+n0=n1+1:=⟨n+n0 - 1,by omega⟩
 by_cases h0:rest % 6=0
 . obtain⟨t,g,e2,ct,pt⟩:=ZgZ H n1 (O "n") (rest / 6) h (sc.map (·.1));refine⟨t,h++g,a,b,?_,Up.app,c.st.app,by omega,by omega,ct,by omega⟩;rw[<- e1]at e2;have x2:xs1 (P.tbl (n+n0)) ZbC (me rest k i m room (Wv (.int (rest % 6))) Ww Ww Ww) h=.ok (.rt t.d,me rest k i m room (Wv (.int (rest % 6))) Ww Ww Ww) (h++g):=(Zw (Zr (ZfX rfl rfl) (decide_eq_true h0))).trans (Zf (Z2 e2 rfl rfl));rw[Zf x2];rfl
 . have x2:xs1 (P.tbl (n+n0)) ZbC (me rest k i m room (Wv (.int (rest % 6))) Ww Ww Ww) h=.ok (.nx,me rest k i m room (Wv (.int (rest % 6))) Ww Ww Ww) h:=(Zx (Zr (ZfX rfl rfl) (decide_eq_false h0))).trans rfl;rw[Zb x2];have lt:tst (P.tbl (n+n0)) (.ex (.cmp .Lt (.var 5) (.cst (.int 3)))) (me rest k i m room (Wv (.int (rest % 6))) Ww Ww Ww) h=.ok (Wz (rest % 6<3)) h:=rfl;by_cases h3:rest % 6<3
   . obtain⟨t1,g1,a1,b1,e2,u1,s1,l1,l2,c1,p1⟩:=ih n cs ns h i j m k sc a b (O "n") room hr c hl (by omega);have cc:=c.up u1 s1 (by have:=c.ab;omega);obtain⟨t2,g2,a2,b2,e3,u2,s2,l3,l4,c2,p2⟩:=ih n cs ns (g1++[.lst [.str (O "+"),.str (O "-"),.str (O "*"),.str (O "<")]]) i j m k sc a1 b1 (O "n") room hr cc.app hl (by omega);refine⟨.op (Zok (rest / 6 % 4)) t1 t2,g2,a2,b2,?_,u1.trans (Up.app.trans u2),s2,by omega,by omega,⟨c1,c2⟩,by simp only[dep];omega⟩;have w4:=wd4 (rest / 6 % 4) (by omega) (by omega);have x3:xs1 (P.tbl (n+n0)) ZbB (me rest k i m room (Wv (.int (rest % 6))) Ww Ww Ww) h=.ok (.rt (T.op (Zok (rest / 6 % 4)) t1 t2).d,me rest k i m room (Wv (.int (rest % 6))) (Wv t1.d) Ww Ww) g2:=by refine(Zw (Zr lt (decide_eq_true h3))).trans ?_;refine(Zb (ρ1:=me rest k i m room (Wv (.int (rest % 6))) (Wv t1.d) Ww Ww) (h1:=g1) (Z2 e2 rfl rfl)).trans ?_;exact Zf (ZV (ZaN (Za (Zn3 w4 rfl rfl (by simp)) (Za rfl (Za (Zj e3 rfl) rfl))) (by simp)))
     rw[Zf x3];rfl
   . have w3:∃ws,(ws=O "f" \/ ws=O "g")/\atI [D.str (O "f"),.str (O "f"),.str (O "g")] (rest % 6 - 3)=Wv (.str ws):=by
      have:rest % 6 - 3=0\/rest % 6 - 3=1\/rest % 6 - 3=2:=by omega
      rcases this with q|q|q<;>rw[q]<;>simp
     obtain⟨ws,hws,w3⟩:=w3;obtain⟨t1,g1,a1,b1,e2,u1,s1,l1,l2,c1,p1⟩:=ih n cs ns (h++[.lst [.str (O "f"),.str (O "f"),.str (O "g")]]) i j m k sc a b ws room hr c.app hl (by omega);have cc:=c.app.up u1 s1 (by have:=c.ab;omega);have dd:∃ws',Z8 P.GD (.ref g1.length) (.str ws) (g1++[.dic [(.inr (O "f"),.str (O "n")),(.inr (O "g"),.str (O "f"))]])=.ok (.str ws') (g1++[.dic [(.inr (O "f"),.str (O "n")),(.inr (O "g"),.str (O "f"))]]):=by
      rcases hws with rfl|rfl
      . exact⟨O "n",by simp[Z8,dicOf,Zay]⟩
      . exact⟨O "f",by simp[Z8,dicOf,Zay]⟩
     obtain⟨ws',dd⟩:=dd;obtain⟨t2,g2,a2,b2,e3,u2,s2,l3,l4,c2,p2⟩:=ih n cs ns (g1++[.dic [(.inr (O "f"),.str (O "n")),(.inr (O "g"),.str (O "f"))]]) i j m k sc a1 b1 ws' room hr cc.app hl (by omega);refine⟨.call t1 t2,g2,a2,b2,?_,Up.app.trans (u1.trans (Up.app.trans u2)),s2,by omega,by omega,⟨c1,c2⟩,by simp only[dep];omega⟩;have x3:xs1 (P.tbl (n+n0)) ZbB (me rest k i m room (Wv (.int (rest % 6))) Ww Ww Ww) h=.ok (.nx,me rest k i m room (Wv (.int (rest % 6))) Ww Ww Ww) h:=(Zx (Zr lt (decide_eq_false h3))).trans rfl;have x4:xs1 (P.tbl (n+n0)) Zc1 (me rest k i m room (Wv (.int (rest % 6))) Ww Ww Ww) h=.ok (.nx,me rest k i m room (Wv (.int (rest % 6))) Ww (Wv (.str ws)) Ww) (h++[.lst [.str (O "f"),.str (O "f"),.str (O "g")]]):=Zn (i:=7) (Zn3 w3 rfl rfl (by simp));have x5:xs1 (P.tbl (n+n0)) Zc0 (me rest k i m room (Wv (.int (rest % 6))) Ww (Wv (.str ws)) Ww) (h++[.lst [.str (O "f"),.str (O "f"),.str (O "g")]])=.ok (.nx,me rest k i m room (Wv (.int (rest % 6))) Ww (Wv (.str ws)) (Wv t1.d)) g1:=Z2 e2 rfl rfl;have p6:ev (P.tbl (n+n0)) (.ix (.dictl (.cons (.cst (.str (O "f"))) (.cons (.cst (.str (O "n"))) (.cons (.cst (.str (O "g"))) (.cons (.cst (.str (O "f"))) .nil))))) (.var 7)) (me rest k i m room (Wv (.int (rest % 6))) Ww (Wv (.str ws)) (Wv t1.d)) g1=.ok (.str ws') (g1++[.dic [(.inr (O "f"),.str (O "n")),(.inr (O "g"),.str (O "f"))]]):=dd;have x6:xs1 (P.tbl (n+n0)) ZcZ (me rest k i m room (Wv (.int (rest % 6))) Ww (Wv (.str ws)) (Wv t1.d)) g1=.ok (.rt (T.call t1 t2).d,me rest k i m room (Wv (.int (rest % 6))) Ww (Wv (.str ws)) (Wv t1.d)) g2:=ZV (ZaN (Za rfl (Za rfl (Za ((Zsf (Za p6 rfl)).trans e3) rfl))) (by simp));rw[Zb x3,Zb x4,Zb x5,Zf x6];rfl
end Gn
end
section
set_option tactic.hygienic false
namespace Gn
open PySem L2 IV
variable {P:Pg}{cs:List Int}{ns:List Str}{h h':Hd}{i j m k:Nat}{sc:Scp}{a b a' b':Int}
theorem Ctx.wider(c:Ctx cs ns h i j m k sc a b)(more:Scp)(hm:∀p∈more,Wl 20 p.1):Ctx cs ns (h++[.lst (more.map pairOf),.lst ((sc++more).map pairOf)]) i j m (h.length+1) (sc++more) a b:=by
 have c1:=c.app (g:=[.lst (more.map pairOf),.lst ((sc++more).map pairOf)]);refine⟨c1.st,c1.nm,c1.n5,c1.nok,c1.nd,by unfold Zl3;simp,λp hp=>?_,c1.im,?_,c1.ab⟩
 . rcases OD.mp hp with z|z
   . exact c.sco p z
   . exact hm p z
 . have:=ZH c.st.1;omega
theorem Zhz(c:Ctx cs ns h i j m k sc a b)(more:Scp)(hz:sc.length+more.length<=100):opB .Add (.ref k) (.ref h.length) (h++[.lst (more.map pairOf)])=.ok (.ref (h.length+1)) (h++[.lst (more.map pairOf),.lst ((sc++more).map pairOf)]):=by
 have hk:(h++[DO.lst (more.map pairOf)])[k]? = Wv (.lst (sc.map pairOf)):=by rw[Oe (ZH c.sca)];exact c.sca
 simp only[opB,Zl1,hk,ZdL];rw[if_pos (by simp;rw[YC];omega)];simp
theorem Zs7{sc:Scp}{x s:Str}:∀y∈(sc++[(x,s)]).map (·.1),y∈x::sc.map (·.1):=λy hy=>by
 rw[List.map_append]at hy;rcases OD.mp hy with z|z
 . exact Oh _ z
 . have:y=x:=by simpa using z
   rw[this];exact Oi
theorem unlike{ns:List Str}(n5:ns.length=5)(nd:ns.Nodup){x f:Str}{rest:Int}(ax:ns[(rest % 5).toNat]? = Wv x)(af:ns[((rest % 5+1+rest / 15 % 4) % 5).toNat]? = Wv f):f≠x:=λe=>by have q:=(List.getElem?_inj (i:=(rest % 5).toNat) (j:=((rest % 5+1+rest / 15 % 4) % 5).toNat) (by rw[n5];omega) nd).mp (by rw[ax,af,e]);omega
noncomputable def fe(w:Str)(rest:Int)(k i m:Nat)(room:Int)(a b c d:Option D):Ev:=[Wv (.str w),Wv (.int rest),Wv (.ref k),Wv (.ref i),Wv (.ref m),Wv (.int room),a,b,c,d]
theorem Zuf{N:Nat}{s:Str}{w:Str}{rest:Int}{room:Int}{x:Str}{t1:T}{g1 h1:Hd}(hc:opB .Add (.ref k) (.ref h.length) (h++[.lst ([(x,s)].map pairOf)])=.ok (.ref (h.length+1)) h1)(e1:run P N (O "_law_any") [.str (O "n"),.ref (h.length+1),.ref i,.ref m,.int room] h1=.ok t1.d g1):ev (P.tbl N) (.tupl (.cons (.cst (.str (O "fn"))) (.cons (.var 6) (.cons (.call (O "_law_any") (.cons (.cst (.str (O "n"))) (.cons (.bin .Add (.var 2) (.lstl (.cons (.tupl (.cons (.var 6) (.cons (.cst (.str s)) .nil))) .nil))) (.cons (.var 3) (.cons (.var 4) (.cons (.var 5) .nil)))))) .nil)))) (fe w rest k i m room (Wv (.str x)) Ww Ww Ww) h=.ok (T.fn x t1).d g1:=by have b:ev (P.tbl N) (.bin .Add (.var 2) (.lstl (.cons (.tupl (.cons (.var 6) (.cons (.cst (.str s)) .nil))) .nil))) (fe w rest k i m room (Wv (.str x)) Ww Ww Ww) h=.ok (.ref (h.length+1)) h1:=(ZB (x:=.ref k) (y:=.ref h.length) (h1:=h) (h2:=h++[.lst ([(x,s)].map pairOf)]) rfl rfl).trans hc;exact ZaN (Za rfl (Za rfl (Za ((Zsf (Za rfl (Za b rfl))).trans e1) rfl))) (by simp)
theorem Zsa(H:Mkr P){r n0:Nat}(ih:Zk4 P r n0)(n:Nat)(c:Ctx cs ns h i j m k sc a b)(w:Str)(rest:Int)(room:Int)(hr:room<=r)(hl:sc.length+2+2 * r<=50)(ha:a+2 * A r<2 ^ 50):
 Made cs h i j sc a (2 * A r) (3 * r+6) (run P (n+n0+1) (O "_law_function") [.str w,.int rest,.ref k,.ref i,.ref m,.int room] h):=by
 have Ap:=Zi9 r;have hab:=c.ab;rw[Ze3 H.function rfl];obtain⟨x,ex,wx,ax⟩:=c.name (GD:=P.GD) (rest % 5) (by clear ih ha hab hl hr;omega) (by clear ih ha hab hl hr;omega);show Made cs h i j sc a (2 * A r) (3 * r+6) (Zh (xs2 (P.tbl (n+n0)) (.cons ZaU (.cons Z6 (.cons Z5 (.cons ZaT (.cons ZaS (.cons ZaR (.cons Z4 (.cons Z3 .nil)))))))) (fe w rest k i m room Ww Ww Ww Ww) h));have x1:xs1 (P.tbl (n+n0)) ZaU (fe w rest k i m room Ww Ww Ww Ww) h=.ok (.nx,fe w rest k i m room (Wv (.str x)) Ww Ww Ww) h:=by exact Zn (i:=6) ex
 rw[Zb x1];by_cases hg:w=O "g"
 . have hc:=Zhz c [(x,O "f")] (by simp;omega);obtain⟨t1,g1,a1,b1,e1,u1,s1,l1,l2,c1,p1⟩:=ih n cs ns _ i j m (h.length+1) (sc++[(x,O "f")]) a b (O "n") room hr (c.wider [(x,O "f")] (by simp[wx])) (by simp;omega) (by omega);refine⟨.fn x t1,g1,a1,b1,?_,Up.app.trans u1,s1,l1,by omega,Cl.mono (t:=t1) Zs7 c1,by simp only[dep];omega⟩;have e:xs1 (P.tbl (n+n0)) Z6 (fe w rest k i m room (Wv (.str x)) Ww Ww Ww) h=.ok (.rt (T.fn x t1).d,fe w rest k i m room (Wv (.str x)) Ww Ww Ww) g1:=by subst hg;exact(Zw rfl).trans (Zf (ZV (Zuf hc e1)))
   rw[Zf e];rfl
 have x2:xs1 (P.tbl (n+n0)) Z6 (fe w rest k i m room (Wv (.str x)) Ww Ww Ww) h=.ok (.nx,fe w rest k i m room (Wv (.str x)) Ww Ww Ww) h:=by exact(Zx (Zr (Zbx rfl rfl) (decide_eq_false hg))).trans rfl
 rw[Zb x2];by_cases h3:rest / 5 % 3=0
 . have hc:=Zhz c [(x,O "n")] (by simp;omega);obtain⟨t1,g1,a1,b1,e1,u1,s1,l1,l2,c1,p1⟩:=ih n cs ns _ i j m (h.length+1) (sc++[(x,O "n")]) a b (O "n") room hr (c.wider [(x,O "n")] (by simp[wx])) (by simp;omega) (by omega);refine⟨.fn x t1,g1,a1,b1,?_,Up.app.trans u1,s1,l1,by omega,Cl.mono (t:=t1) Zs7 c1,by simp only[dep];omega⟩;have e:xs1 (P.tbl (n+n0)) Z5 (fe w rest k i m room (Wv (.str x)) Ww Ww Ww) h=.ok (.rt (T.fn x t1).d,fe w rest k i m room (Wv (.str x)) Ww Ww Ww) g1:=(Zw (Zr (ZfX (x:=rest / 5 % 3) rfl rfl) (decide_eq_true h3))).trans (Zf (ZV (Zuf hc e1)));rw[Zf e];rfl
 have x3:xs1 (P.tbl (n+n0)) Z5 (fe w rest k i m room (Wv (.str x)) Ww Ww Ww) h=.ok (.nx,fe w rest k i m room (Wv (.str x)) Ww Ww Ww) h:=by exact(Zx (Zr (ZfX (x:=rest / 5 % 3) rfl rfl) (decide_eq_false h3))).trans rfl
 obtain⟨f,ef,wf,af⟩:=c.name (GD:=P.GD) ((rest % 5+1+rest / 15 % 4) % 5) (by clear ih ha hab hl hr;omega) (by clear ih ha hab hl hr;omega);have nfx:f≠x:=unlike c.n5 c.nd ax af;have x4:xs1 (P.tbl (n+n0)) ZaT (fe w rest k i m room (Wv (.str x)) Ww Ww Ww) h=.ok (.nx,fe w rest k i m room (Wv (.str x)) (Wv (.str f)) Ww Ww) h:=by exact Zn (i:=7) ef
 have hc:=Zhz c [(f,O "f"),(x,O "n")] (by simp;omega);have cw:=c.wider [(f,O "f"),(x,O "n")] (by simp[wx,wf]);have sub:∀y∈(sc++[(f,O "f"),(x,O "n")]).map (·.1),y∈x::f::sc.map (·.1):=λy hy=>by simp at hy ⊢;rcases hy with z|z|z<;>simp[z]
 generalize hh1:(h++[DO.lst ([(f,O "f"),(x,O "n")].map pairOf),.lst ((sc++[(f,O "f"),(x,O "n")]).map pairOf)])=h1 at hc cw;have ug:Up i h h1:=by rw[<- hh1];exact Up.app
 have hl1:h1.length=h.length+2:=by rw[<- hh1];simp
 have x5:xs1 (P.tbl (n+n0)) ZaS (fe w rest k i m room (Wv (.str x)) (Wv (.str f)) Ww Ww) h=.ok (.nx,fe w rest k i m room (Wv (.str x)) (Wv (.str f)) (Wv (.ref (h.length+1))) Ww) h1:=by exact Zn (i:=8) ((ZB (x:=.ref k) (y:=.ref h.length) (h1:=h) (h2:=h++[.lst ([(f,O "f"),(x,O "n")].map pairOf)]) rfl rfl).trans hc)
 have x6:xs1 (P.tbl (n+n0)) ZaR (fe w rest k i m room (Wv (.str x)) (Wv (.str f)) (Wv (.ref (h.length+1))) Ww) h1=.ok (.nx,fe w rest k i m room (Wv (.str x)) (Wv (.str f)) (Wv (.ref (h.length+1))) (Wv (T.call (.name f) (.op .sub (.name x) (.num 1))).d)) h1:=by exact rfl
 rw[Zb x3,Zb x4,Zb x5,Zb x6];generalize hsc:sc++[(f,O "f"),(x,O "n")]=sc1 at cw sub hh1;have hsl:sc1.length=sc.length+2:=by rw[<- hsc];simp
 clear x1 x2 x3 x4 x5 x6 hc hh1 hsc ex ef;have last:∀(t1:T) (g1:Hd) (a1 b1:Int),Up i h1 g1->St3 g1 i j cs a1 b1->a<=a1->a1<=a+A r->Cl (x::f::sc.map (·.1)) t1->dep t1<=3 * r+4 ->
  xs1 (P.tbl (n+n0)) Z4 (fe w rest k i m room (Wv (.str x)) (Wv (.str f)) (Wv (.ref (h.length+1))) (Wv (T.call (.name f) (.op .sub (.name x) (.num 1))).d)) h1=.ok (.nx,fe w rest k i m room (Wv (.str x)) (Wv (.str f)) (Wv (.ref (h.length+1))) (Wv t1.d)) g1 ->
  Made cs h i j sc a (2 * A r) (3 * r+6) (Zh (xs2 (P.tbl (n+n0)) (.cons Z4 (.cons Z3 .nil)) (fe w rest k i m room (Wv (.str x)) (Wv (.str f)) (Wv (.ref (h.length+1))) (Wv (T.call (.name f) (.op .sub (.name x) (.num 1))).d)) h1)):=by
  intro t1 g1 a1 b1 u1 s1 l1 l2 c1 p1 x7;rw[Zb x7];obtain⟨t2,g2,a2,b2,e2,u2,s2,l3,l4,c2,p2⟩:=ih n cs ns g1 i j m (h.length+1) sc1 a1 b1 (O "n") (room - 1) (by clear ha;omega) (cw.up u1 s1 (by clear hl ha hr;omega)) (by clear ha hr;omega) (by clear hl hr;omega);refine⟨.rcc f x (.iff (.name x) t1 t2),g2,a2,b2,?_,ug.trans (u1.trans u2),s2,Int.le_trans l1 l3,by clear hl hr ha;omega,⟨⟨Oi,c1,Cl.mono sub c2⟩,nfx⟩,by simp only[dep];clear hl hr ha;omega⟩;have e:xs1 (P.tbl (n+n0)) Z3 (fe w rest k i m room (Wv (.str x)) (Wv (.str f)) (Wv (.ref (h.length+1))) (Wv t1.d)) g1=.ok (.rt (T.rcc f x (.iff (.name x) t1 t2)).d,fe w rest k i m room (Wv (.str x)) (Wv (.str f)) (Wv (.ref (h.length+1))) (Wv t1.d)) g2:=by exact ZV (ZaN (Za rfl (Za rfl (Za rfl (Za (ZaN (Za rfl (Za rfl (Za rfl (Za (Zj e2 rfl) rfl)))) (by simp)) rfl)))) (by simp))
  rw[Zf e];rfl
 by_cases q0:rest / 60 % 3=0
 . obtain⟨t1,g1,a1,b1,e1,u1,s1,l1,l2,c1,p1⟩:=ih n cs ns h1 i j m (h.length+1) sc1 a b (O "n") room hr cw (by clear ha hr;omega) (by clear hl hr;omega);refine last t1 g1 a1 b1 u1 s1 l1 l2 (Cl.mono sub c1) (by omega) ?_;exact(Zw (Zr (ZfX (x:=rest / 60 % 3) rfl rfl) (decide_eq_true q0))).trans (Zb (Z2 e1 rfl rfl))
 . by_cases q1:rest / 60 % 3=1
   . have w2:∃wd:Wd,atI [D.str (O "+"),.str (O "*")] (rest / 180 % 2)=Wv (.str wd.s):=by
      have:rest / 180 % 2=0\/rest / 180 % 2=1:=by clear ih ha hl hr q0 q1;omega
      rcases this with z|z<;>rw[z]
      . exact⟨.add,by simp[Wd.s]⟩
      . exact⟨.mul,by simp[Wd.s]⟩
     obtain⟨wd,w2⟩:=w2;obtain⟨t1,g1,a1,b1,e1,u1,s1,l1,l2,c1,p1⟩:=ih n cs ns _ i j m (h.length+1) sc1 a b (O "n") (room - 1) (by clear ha;omega) (cw.app (g:=[.lst [.str (O "+"),.str (O "*")]])) (by clear ha hr;omega) (by clear hl hr;omega);refine last (.op wd t1 (.call (.name f) (.op .sub (.name x) (.num 1)))) g1 a1 b1 (Up.app.trans u1) s1 l1 l2 ⟨Cl.mono sub c1,Oh _ Oi,Oi,by show(0:Int)<=1/\(1:Int)<1000000;decide⟩ (by simp only[dep];clear hl hr ha;omega) ?_;exact(Zx (Zr (ZfX (x:=rest / 60 % 3) rfl rfl) (decide_eq_false q0))).trans (Zb ((Zw (Zr (ZfX (x:=rest / 60 % 3) rfl rfl) (decide_eq_true q1))).trans (Zb (Zn (i:=9) (ZaN (Za (Zn3 w2 rfl rfl (by simp)) (Za (Zj e1 rfl) rfl)) (by simp))))))
   . refine last (.call (.name f) (.op .sub (.name x) (.num 1))) h1 a b Up.refl cw.st (Int.le_refl _) (by omega) ⟨Oh _ Oi,Oi,by show(0:Int)<=1/\(1:Int)<1000000;decide⟩ (by simp only[dep];omega) ?_;exact(Zx (Zr (ZfX (x:=rest / 60 % 3) rfl rfl) (decide_eq_false q0))).trans (Zb ((Zx (Zr (ZfX (x:=rest / 60 % 3) rfl rfl) (decide_eq_false q1))).trans rfl))
end Gn
end
section
set_option tactic.hygienic false
namespace Gn
open PySem L2 IV
variable {P:Pg}{cs:List Int}{ns:List Str}{h h':Hd}{i j m k:Nat}{sc:Scp}{a b a' b':Int}
theorem Zkz(rd:Nat->Option PyData):∀ys:List Str,D.pys rd (ys.map D.str)=Wv (ys.map PyData.str)
 |[]=>rfl
 |y::ys=>by rw[Op,D.pys,Zkz rd ys];rfl
theorem ZrO{l:Nat}{ys:List Str}(e:h[l]? = Wv (.lst (ys.map .str))):ZbS Wx (.ref l) (.ref h.length) (h++[.lst []])=.ok (.bl (!ys.isEmpty)) (h++[.lst []]):=by
 have e1:(h++[DO.lst []])[l]? = Wv (.lst (ys.map .str)):=by rw[Oe (ZH e)];exact e
 have p1:ZeS (h++[.lst []]) (.ref l)=Wv (.list (ys.map .str)):=by show ZeR (h++[.lst []]) 4 l=_;rw[ZeR,e1];simp[Zkz]
 have p2:ZeS (h++[DO.lst []]) (.ref h.length)=Wv (.list []):=by show ZeR (h++[.lst []]) 4 h.length=_;rw[ZeR,ZdL];rfl
 unfold IV.ZbS;rw[p1,p2];simp only;have d0:min (PyData.list (ys.map .str)).depth (PyData.list []).depth<=1100:=by
  have:(PyData.list []).depth<=1:=by decide +kernel
  omega
 rw[if_pos d0];cases ys with
 |nil=>rfl
 |cons y r=>rfl
theorem Zz{U:Tb}{R:Sxs}{ρ':Ev}{h':Hd}{s:Sx}{A B_:Sxs}{S:Ev}{h:Hd}(e:xs2 U (.cons s A) S h=.ok (.nx,ρ') h')(q:∀ρ1 h1,xs2 U A ρ1 h1=.ok (.nx,ρ') h'->xs2 U B_ ρ1 h1=xs2 U R ρ' h'):xs2 U (.cons s B_) S h=xs2 U R ρ' h':=by
 rw[Zb1]at e ⊢;cases r1:xs1 U s S h with
 |bad=>rw[r1]at e;cases e
 |exc c h1=>rw[r1]at e;cases e
 |ok p h1=>
  rw[r1]at e;obtain⟨fl,ρ1⟩:=p;cases fl with
  |nx=>exact q ρ1 h1 e
  |bk=>cases e
  |ct=>cases e
  |rt d=>cases e
theorem ZsE{U:Tb}{s1 s2 s3 s4 s5:Sx}{S ρ':Ev}{h h':Hd}(R:Sxs)(e:xs2 U (.cons s1 (.cons s2 (.cons s3 (.cons s4 (.cons s5 .nil))))) S h=.ok (.nx,ρ') h'):xs2 U (.cons s1 (.cons s2 (.cons s3 (.cons s4 (.cons s5 R))))) S h=xs2 U R ρ' h':=Zz e λ_ _ e=>Zz e λ_ _ e=>Zz e λ_ _ e=>Zz e λ_ _ e=>Zz e λ_ _ e=>by cases e;rfl
noncomputable def ae(w:Str)(k i m:Nat)(room v q:Int)(l:Nat)(a b:Option D):Ev:=[Wv (.str w),Wv (.ref k),Wv (.ref i),Wv (.ref m),Wv (.int room),Wv (.int v),Wv (.int q),Wv (.ref l),a,b]
theorem any_gen(H:Mkr P)(n1:Nat)(c:Ctx cs ns h i j m k sc a b)(w:Str)(room:Int)(mx:Int)(dm:Nat)(hdm:2<=dm)(hl:sc.length<=50)(ha:a<2 ^ 50)(hmx:1<=mx)
 (rc:1<=room->∃r n0 n',room - 1<=(r:Nat)/\Zk4 P r n0/\n1+2=n'+n0+1/\1<=n0/\sc.length+2+2 * r<=50/\1+3 * A r<=mx/\a+mx<2 ^ 50/\3 * r+6<=dm) :
 Made cs h i j sc a mx dm (run P (n1+3) (O "_law_any") [.str w,.ref k,.ref i,.ref m,.int room] h):=by
 have hab:=c.ab;rw[Ze3 H.any rfl];obtain⟨v,w',ys,h5,l,e5,u5,c5,hy,hys⟩:=Zod H n1 c w room hl ha Ww Ww Ww;have st:Zq ZaP.N [.str w,.ref k,.ref i,.ref m,.int room]=[Wv (.str w),Wv (.ref k),Wv (.ref i),Wv (.ref m),Wv (.int room),Ww,Ww,Ww,Ww,Ww]:=rfl;rw[st,show ZaP.body=.cons Zbd (.cons Zbc (.cons ZU (.cons Zbb (.cons Zba (.cons Za9 (.cons Zax (.cons ZbM (.cons Za8 (.cons ZaK (.cons Zbj .nil))))))))))from rfl,ZsE _ e5];show Made cs h i j sc a mx dm (Zh (xs2 (P.tbl (n1+2)) (.cons Za9 (.cons Zax (.cons ZbM (.cons Za8 (.cons ZaK (.cons Zbj .nil)))))) (ae w' k i m room v (v / 87) l Ww Ww) h5));have nn:=ZrO hy;have t1:tst (P.tbl (n1+2)) (.ex (.cmp .NotEq (.var 7) (.lstl .nil))) (ae w' k i m room v (v / 87) l Ww Ww) h5=.ok (!ys.isEmpty) (h5++[.lst []]):=ZcU ((ZD (x:=.ref l) (y:=.ref h5.length) (h1:=h5) (h2:=h5++[DO.lst []]) rfl rfl).trans nn);have t2:∀h,tst (P.tbl (n1+2)) (.ex (.cmp .Eq (.bin .Mod (.var 6) (.cst (.int 3))) (.cst (.int 0)))) (ae w' k i m room v (v / 87) l Ww Ww) h=.ok (Wz (v / 87 % 3=0)) h:=λh=>ZfX rfl rfl;have t8:∀h,tst (P.tbl (n1+2)) (.ex (.cmp .Eq (.bin .Mod (.var 6) (.cst (.int 8))) (.cst (.int 0)))) (ae w' k i m room v (v / 87 / 30) l Ww Ww) h=.ok (Wz (v / 87 / 30 % 8=0)) h:=λh=>ZfX rfl rfl;by_cases hn:ys.isEmpty=Wy/\v / 87 % 3=0
 ·
  have hp:0<ys.length:=by
   cases ys with
   |nil=>simp at hn
   |cons y r=>simp
  have ix:opB .Mod (.int (v / 87 / 3)) (.int ys.length) (h5++[.lst []])=.ok (.int (v / 87 / 3 % ys.length)) (h5++[.lst []]):=ZL (by omega);have hb:(0:Int)<=v / 87 / 3 % ys.length/\v / 87 / 3 % ys.length<ys.length:=⟨Int.emod_nonneg _ (by omega),Int.emod_lt_of_pos _ (by omega)⟩
  obtain⟨q,hq⟩:∃q:Nat,v / 87 / 3 % ys.length=q:=⟨(v / 87 / 3 % ys.length).toNat,by omega⟩
  have hql:q<ys.length:=by omega
  have hl5:(h5++[DO.lst []])[l]? = Wv (.lst (ys.map .str)):=by rw[Oe (ZH hy)];exact hy
  have len:ZaQ P.GD .len [.ref l] (h5++[.lst []])=.ok (.int ys.length) (h5++[.lst []]):=by simp only[ZaQ,Zi5,seqOf,lstOf,hl5];simp
  have at5:Z8 P.GD (.ref l) (.int (q:Int)) (h5++[.lst []])=.ok (.str ys[q]) (h5++[.lst []]):=by rw[ZG hl5,IV.Zcz,On,Og hql];rfl
  refine⟨.name ys[q],h5++[.lst []],a+1,b - 1,?_,u5.trans Up.app,c5.st.app,by omega,by omega,hys _ (List.getElem_mem hql),Yy _⟩;have x6:xs1 (P.tbl (n1+2)) Za9 (ae w' k i m room v (v / 87) l Ww Ww) h5=.ok (.rt (T.name ys[q]).d,(ae w' k i m room v (v / 87) l Ww Ww)) (h5++[.lst []]):=by have el:ev (P.tbl (n1+2)) (.blt .len (.cons (.var 7) .nil)) (ae w' k i m room v (v / 87) l Ww Ww) (h5++[.lst []])=.ok (.int ys.length) (h5++[.lst []]):=len;have ei:ev (P.tbl (n1+2)) (.bin .Mod (.bin .FloorDiv (.var 6) (.cst (.int 3))) (.blt .len (.cons (.var 7) .nil))) (ae w' k i m room v (v / 87) l Ww Ww) (h5++[.lst []])=.ok (.int (q:Int)) (h5++[.lst []]):=(ZB (x:=.int (v / 87 / 3)) rfl el).trans (ix.trans (by rw[hq]));rw[hn.1]at t1;exact(Zw (ZqG t1 (Zr (t2 _) (decide_eq_true hn.2)))).trans (Zf (ZV (ZaN (Za rfl (Za ((ZA (x:=.ref l) rfl ei).trans at5) rfl)) (by simp))))
  rw[Zf x6];rfl
 . have x6:xs1 (P.tbl (n1+2)) Za9 (ae w' k i m room v (v / 87) l Ww Ww) h5
    = .ok (.nx,(ae w' k i m room v (v / 87) l Ww Ww)) (h5++[.lst []]):=by
    cases q:ys.isEmpty with
    |true=>rw[q]at t1;exact(Zx (Zuw t1)).trans rfl
    |false=>rw[q]at t1;have h3:¬ v / 87 % 3=0:=λz=>hn ⟨q,z⟩;exact(Zx (ZqG t1 (Zr (t2 _) (decide_eq_false h3)))).trans rfl
   have c6:=c5.app (g:=[.lst []]);have u6:=u5.trans (Up.app (i:=i) (g:=[.lst []]));clear t1 nn;generalize hh6:h5++[.lst []]=h6 at x6 c6 u6;rw[Zb x6];have ix2:Z8 P.GD (.ref i) (.int 2) h6=.ok (.int (b - 1)) h6:=by rw[ZG c6.st.1];simp
   have r1:tst (P.tbl (n1+2)) (.ex (.cmp .Lt (.var 4) (.cst (.int 1)))) (ae w' k i m room v (v / 87) l Ww Ww) h6=.ok (Wz (room<1)) h6:=rfl;have r2:tst (P.tbl (n1+2)) (.ex (.cmp .Lt (.ix (.var 2) (.cst (.int 2))) (.cst (.int 0)))) (ae w' k i m room v (v / 87) l Ww Ww) h6=.ok (Wz (b - 1<0)) h6:=ZcU ((ZD (y:=.int 0) (h2:=h6) ((ZA (x:=.ref i) (y:=.int 2) rfl rfl).trans ix2) rfl).trans rfl);obtain⟨t,g,ep,ct,pt⟩:=ZgZ H (n1+1) w' (v / 87 / 3) h6 (sc.map (·.1));by_cases hr:room<1
   . refine⟨t,h6++g,a+1,b - 1,?_,u6.trans Up.app,c6.st.app,by omega,by omega,ct,by omega⟩;have x7:xs1 (P.tbl (n1+2)) Zax (ae w' k i m room v (v / 87) l Ww Ww) h6=.ok (.rt t.d,(ae w' k i m room v (v / 87) l Ww Ww)) (h6++g):=(Zw (Ztz (Zr r1 (decide_eq_true hr)))).trans (Zf (Z2 ep rfl rfl));rw[Zf x7];rfl
   . by_cases hb:b - 1<0
     . refine⟨t,h6++g,a+1,b - 1,?_,u6.trans Up.app,c6.st.app,by omega,by omega,ct,by omega⟩;have x7:xs1 (P.tbl (n1+2)) Zax (ae w' k i m room v (v / 87) l Ww Ww) h6=.ok (.rt t.d,(ae w' k i m room v (v / 87) l Ww Ww)) (h6++g):=(Zw (ZmZ (Zr r1 (decide_eq_false hr)) (Zr r2 (decide_eq_true hb)))).trans (Zf (Z2 ep rfl rfl));rw[Zf x7];rfl
     . obtain⟨r,n0,n',q1,ih,q2,q3,q4,q5,q6,q7⟩:=rc (by omega);have Ap:=Zi9 r;have x7:xs1 (P.tbl (n1+2)) Zax (ae w' k i m room v (v / 87) l Ww Ww) h6
        = .ok (.nx,(ae w' k i m room v (v / 87) l Ww Ww)) h6:=by
        exact(Zx (ZmZ (Zr r1 (decide_eq_false hr)) (Zr r2 (decide_eq_false hb)))).trans rfl
       have x8:xs1 (P.tbl (n1+2)) ZbM (ae w' k i m room v (v / 87) l Ww Ww) h6
        = .ok (.nx,(ae w' k i m room v (v / 87 / 30) l Ww Ww)) h6:=by
        exact rfl
       rw[Zb x7,Zb x8];by_cases h8:v / 87 / 30 % 8=0
       . obtain⟨t1,g1,a1,b1,e1,u1,s1,l1,l2,c1,p1⟩:=ih (n'+1) cs ns h6 i j m k sc (a+1) (b - 1) (O "n") (room - 1) q1 c6 (by omega) (by omega);have cc1:=c6.up u1 s1 (by omega);obtain⟨t2,g2,a2,b2,e2,u2,s2,l3,l4,c2,p2⟩:=ih (n'+1) cs ns g1 i j m k sc a1 b1 w' (room - 1) q1 cc1 (by omega) (by omega);have cc2:=cc1.up u2 s2 (by omega);obtain⟨t3,g3,a3,b3,e3,u3,s3,l5,l6,c3,p3⟩:=ih (n'+1) cs ns g2 i j m k sc a2 b2 w' (room - 1) q1 cc2 (by omega) (by omega);rw[show n'+1+n0=n1+2 by omega]at e1 e2 e3;refine⟨.iff t1 t2 t3,g3,a3,b3,?_,u6.trans (u1.trans (u2.trans u3)),s3,by omega,by omega,⟨c1,c2,c3⟩,by simp only[dep];omega⟩;have x9:xs1 (P.tbl (n1+2)) Za8 (ae w' k i m room v (v / 87 / 30) l Ww Ww) h6=.ok (.rt (T.iff t1 t2 t3).d,(ae w' k i m room v (v / 87 / 30) l (Wv t1.d) (Wv t2.d))) g3:=by refine(Zw (Zr (t8 _) (decide_eq_true h8))).trans ?_;refine(Zb (ρ1:=ae w' k i m room v (v / 87 / 30) l (Wv t1.d) Ww) (h1:=g1) (Z2 e1 rfl rfl)).trans ?_;refine(Zb (ρ1:=ae w' k i m room v (v / 87 / 30) l (Wv t1.d) (Wv t2.d)) (h1:=g2) (Z2 e2 rfl rfl)).trans ?_;exact Zf (Z2 e3 rfl rfl)
         rw[Zf x9];rfl
       . have x9:xs1 (P.tbl (n1+2)) Za8 (ae w' k i m room v (v / 87 / 30) l Ww Ww) h6=.ok (.nx,(ae w' k i m room v (v / 87 / 30) l Ww Ww)) h6:=(Zx (Zr (t8 _) (decide_eq_false h8))).trans rfl;rw[Zb x9];by_cases hw:w'=O "n"
         . obtain⟨t1,g1,a1,b1,e1,u1,s1,l1,l2,c1,p1⟩:=ZrM H ih q3 n' c6 (v / 87 / 30 / 8) (room - 1) q1 (by omega) (by omega);rw[<- q2]at e1;refine⟨t1,g1,a1,b1,?_,u6.trans u1,s1,by omega,by omega,c1,by omega⟩;have x10:xs1 (P.tbl (n1+2)) ZaK (ae w' k i m room v (v / 87 / 30) l Ww Ww) h6=.ok (.rt t1.d,(ae w' k i m room v (v / 87 / 30) l Ww Ww)) g1:=(Zw (Zr (Zbx rfl rfl) (decide_eq_true hw))).trans (Zf (Z2 e1 rfl rfl));rw[Zf x10];rfl
         . obtain⟨t1,g1,a1,b1,e1,u1,s1,l1,l2,c1,p1⟩:=Zsa H ih n' c6 w' (v / 87 / 30 / 8) (room - 1) q1 (by omega) (by omega);rw[<- q2]at e1;refine⟨t1,g1,a1,b1,?_,u6.trans u1,s1,by omega,by omega,c1,by omega⟩;have x10:xs1 (P.tbl (n1+2)) ZaK (ae w' k i m room v (v / 87 / 30) l Ww Ww) h6=.ok (.nx,(ae w' k i m room v (v / 87 / 30) l Ww Ww)) h6:=(Zx (Zr (Zbx rfl rfl) (decide_eq_false hw))).trans rfl;have x11:xs1 (P.tbl (n1+2)) Zbj (ae w' k i m room v (v / 87 / 30) l Ww Ww) h6=.ok (.rt t1.d,(ae w' k i m room v (v / 87 / 30) l Ww Ww)) g1:=Z2 e1 rfl rfl;rw[Zb x10,Zf x11];rfl
theorem Zoc(H:Mkr P):∀r:Nat,Zk4 P r (2 * r+3)
 |0=>λn cs ns h i j m k sc a b w room hr c hl ha=>by have:=any_gen H n c w room (A 0) 3 (by decide) (by omega) (by have:=Zi9 0;omega) (by decide) (λz=>by omega);exact this
 |r+1=>λn cs ns h i j m k sc a b w room hr c hl ha=>by have Ap:=Zi9 r;have As:=Zsw r;have:=any_gen H (n+2 * r+2) c w room (A (r+1)) (3 * (r+1)+3) (by omega) (by omega) (by omega) (by omega) (λ_=>⟨r,2 * r+3,n,by omega,Zoc H r,by omega,by omega,by omega,by omega,by omega,by omega⟩);rw[show n+(2 * (r+1)+3)=n+2 * r+2+3 by omega];exact this
end Gn
end
section
namespace Gn
open PySem L2 IV
noncomputable def front:T->List D
 |.num n=>[.str (O "num"),.int n]
 |.name x=>[.str (O "name"),.str x]
 |.fn x _=>[.str (O "fn"),.str x]
 |.rcc f x _=>[.str (O "rec"),.str f,.str x]
 |.call _ _=>[.str (O "call")]
 |.iff _ _ _=>[.str (O "if")]
 |.op w _ _=>[.str w.s]
theorem ZnS(t:T):t.d=.tup (front t++t.parts.map T.d):=by cases t<;>rfl
noncomputable def Zhm:D->Bool
 |.str _|.int _=>Wx
 |_=>Wy
theorem Zj0(t:T):∀d∈front t,Zhm d=Wx:=by cases t<;>simp[front,Zhm]
theorem Znu{GD:Str->Option (List (Key×D))}{d:D}{h:Hd}(hf:Zhm d=Wx):ZaQ GD .isi [d,.ty "tuple"] h=.ok (.bl Wy) h:=by
 cases d with
 |str x=>rfl
 |int x=>rfl
 |_=>cases hf
theorem ZpK{GD:Str->Option (List (Key×D))}{xs:List D}{h:Hd}:ZaQ GD .isi [.tup xs,.ty "tuple"] h=.ok (.bl Wx) h:=rfl
noncomputable abbrev isT:Tx:=.ex (.blt .isi (.cons (.var 0) (.cons (.cst (.ty "tuple")) .nil)))
theorem Zf1{U:Tb}{e:Ex}{h:Hd}{acc rest:List D}:∀ds:List D,(∀d∈ds,Zhm d=Wx)->acc.length<sizeLine->Zo Ww (.nm 0) (tsto U (Wv isT)) (ev U e) (ds++rest) [Ww] acc h=Zo Ww (.nm 0) (tsto U (Wv isT)) (ev U e) rest [Ww] acc h
 |[],_,_=>rfl
 |d::ds,hd,hz=>by have:=Znu (GD:=U.GD) (h:=h) (hd d (by simp));rw[List.cons_append,ZE];simp[Wk.stays,hz,this];exact Zf1 ds (λx hx=>hd x (by simp[hx])) hz
theorem ZfZ{U:Tb}{e:Ex}{f:T->Int}:∀(ts:List T) (acc:List D) (h:Hd),(∀t∈ts,∀h,∃g,ev U e [Wv t.d] h=.ok (.int (f t)) (h++g))->acc.length+ts.length<=1000->∃g,Zo Ww (.nm 0) (tsto U (Wv isT)) (ev U e) (ts.map T.d) [Ww] acc h=.ok (acc++ts.map λt=>.int (f t)) (h++g)
 |[],acc,h,_,_=>⟨[],by simp[Zo,Wk.stays]⟩
 |t::ts,acc,h,ht,hz=>by
  simp only[Os]at hz;obtain⟨g1,e1⟩:=ht t (by simp) h;obtain⟨g2,e2⟩:=ZfZ (U:=U) (e:=e) (f:=f) ts (acc++[.int (f t)]) (h++g1) (λx hx=>ht x (by simp[hx])) (by simp;omega);refine⟨g1++g2,?_⟩;have hz2:acc.length<sizeLine:=by rw[YC];omega
  have it:ZaQ U.GD .isi [t.d,.ty "tuple"] h=.ok (.bl Wx) h:=by rw[ZnS];exact ZpK
  rw[Op,ZE];simp[Wk.stays,hz2,it,e1,e2]
theorem Zd7{U:Tb}{e:Ex}{f:T->Int}(t:T)(h:Hd)(ht:∀s∈t.parts,∀h,∃g,ev U e [Wv s.d] h=.ok (.int (f s)) (h++g)):∃g,Zo Ww (.nm 0) (tsto U (Wv isT)) (ev U e) (front t++t.parts.map T.d) [Ww] [] h=.ok (t.parts.map λs=>.int (f s)) (h++g):=by obtain⟨g,e1⟩:=ZfZ (f:=f) t.parts [] h ht (by cases t<;>simp[T.parts]);refine⟨g,?_⟩;rw[Zf1 _ (Zj0 t) (by rw[YC];simp),e1];simp
theorem ints_map(f:T->Int):∀ts:List T,intsOf (ts.map λs=>D.int (f s))=Wv (ts.map f)
 |[]=>rfl
 |t::ts=>by rw[Op,intsOf,ints_map f ts];rfl
variable {P:Pg}
theorem Zkt(t:T):(t.size:Int)=1+(t.parts.map λs=>(s.size:Int)).sum:=by
 unfold T.size;rw[T.places_parts];have:∀ts:List T,((ts.flatMap T.places).length:Int)=(ts.map λs=>(s.places.length:Int)).sum:=by
  intro ts;induction ts with
  |nil=>rfl
  |cons t ts ih=>rw[List.flatMap_cons,OA,Op,OI,<- ih];omega
 rw[Os,<- this];omega
theorem Zd6{t s:T}(hs:s∈t.parts):dep s<dep t:=by
 cases t<;>simp[T.parts]at hs<;>simp only[dep]
 . subst hs;omega
 . subst hs;omega
 . rcases hs with rfl|rfl<;>omega
 . rcases hs with rfl|rfl|rfl<;>omega
 . rcases hs with rfl|rfl<;>omega
theorem ZoE (H:Mkr P):∀ (d n:Nat) (t:T) (h:Hd),dep t<=d->∃ g,run P (n+d+1) (O "_law_width") [t.d] h=.ok (.int t.size) (h++g):=by
 intro d;induction d with
 | zero =>
   intro n t h hd;rw [Zc H.width rfl];obtain ⟨g,e⟩:=Zd7 (U:=⟨P.G,P.GD,run P (n+0),P.L⟩) (e:=.call (O "_law_width") (.cons (.var 0) .nil)) (f:=fun s=>(s.size:Int)) t h (fun s hs=>by have:=Zd6 hs;omega);refine ⟨g++[.lst (t.parts.map fun s=>.int s.size)],?_⟩;rw [Zkt,ZnS];have sm:ZaQ P.GD .sum [.ref (h++g).length] (h++g++[.lst (t.parts.map fun s=>D.int s.size)])=.ok (.int (t.parts.map fun s=>(s.size:Int)).sum) (h++g++[.lst (t.parts.map fun s=>D.int s.size)]):=by
     simp only [ZaQ,ZlZ,lstOf,ZdL,Yz,ints_map];rfl
   simp at sm e;simp [ZZ,ZcY,Zq,Zal,Zby,e,sm]
 | succ d ih =>
   intro n t h hd;rw [Zc H.width rfl];obtain ⟨g,e⟩:=Zd7 (U:=⟨P.G,P.GD,run P (n+(d+1)),P.L⟩) (e:=.call (O "_law_width") (.cons (.var 0) .nil)) (f:=fun s=>(s.size:Int)) t h (fun s hs h1=>by
     have:=Zd6 hs;obtain ⟨g,e⟩:=ih n s h1 (by omega);refine ⟨g,?_⟩;have e':run P (n+(d+1)) (O "_law_width") [s.d] h1=.ok (.int s.size) (h1++g):=e;simp [e'])
   refine ⟨g++[.lst (t.parts.map fun s=>.int s.size)],?_⟩;rw [Zkt,ZnS];have sm:ZaQ P.GD .sum [.ref (h++g).length] (h++g++[.lst (t.parts.map fun s=>D.int s.size)])=.ok (.int (t.parts.map fun s=>(s.size:Int)).sum) (h++g++[.lst (t.parts.map fun s=>D.int s.size)]):=by
     simp only [ZaQ,ZlZ,lstOf,ZdL,Yz,ints_map];rfl
   simp at sm e;simp [ZZ,ZcY,Zq,Zal,Zby,e,sm]
end Gn
end
section
namespace Gn
open PySem L2 IV
variable {P:Pg}
theorem max2(x y:Nat):(if (1+(y:Int)) > 1+x then 1+(y:Int)else 1+x)=((max x y+1:Nat):Int):=by split<;>omega
theorem Zsl(t:T):ZcQ (t.parts.map λs=>1+(dep s:Int)) 0=dep t:=by
 cases t with
 |num n=>rfl
 |name x=>rfl
 |fn x e=>simp[T.parts,ZcQ,dep];omega
 |rcc f x e=>simp[T.parts,ZcQ,dep];omega
 |call f a=>simp only[T.parts,ZcQ,dep,Op,Oy,Wr,List.foldl_nil];rw[max2]
 |op w f a=>simp only[T.parts,ZcQ,dep,Op,Oy,Wr,List.foldl_nil];rw[max2]
 |iff c t e=>simp only[T.parts,ZcQ,dep,Op,Oy,Wr,List.foldl_nil];rw[max2];split<;>omega
theorem Zre (H:Mkr P):∀ (d n:Nat) (t:T) (h:Hd),dep t<=d->∃ g,run P (n+d+1) (O "_law_deep") [t.d] h=.ok (.int (dep t)) (h++g):=by
 have fin:∀ (t:T) (h g:Hd),Zk2 (.ref (h++g).length) (.int 0) (h++g++[.lst (t.parts.map fun s=>D.int (1+(dep s:Int)))])=.ok (.int (dep t)) (h++g++[.lst (t.parts.map fun s=>D.int (1+(dep s:Int)))]):=by
   intro t h g;have q:intsOf (t.parts.map fun s=>D.int (1+(dep s:Int)))=Wv (t.parts.map fun s=>1+(dep s:Int)):=ints_map (fun s=>1+(dep s:Int)) t.parts;simp only [Zk2,lstOf,ZdL,Yz,q,Yv,Zsl,ofO_some]
 intro d;induction d with
 | zero =>
   intro n t h hd;rw [Zc H.deep rfl];obtain ⟨g,e⟩:=Zd7 (U:=⟨P.G,P.GD,run P (n+0),P.L⟩) (e:=.bin .Add (.cst (.int 1)) (.call (O "_law_deep") (.cons (.var 0) .nil))) (f:=fun s=>1+(dep s:Int)) t h (fun s hs=>by have:=Zd6 hs;omega);refine ⟨g++[.lst (t.parts.map fun s=>.int (1+(dep s:Int)))],?_⟩;have sm:=fin t h g;rw [ZnS];simp at sm e;simp [Zao,ZdJ,Zq,Zal,Zby,e,sm]
 | succ d ih =>
   intro n t h hd;rw [Zc H.deep rfl];obtain ⟨g,e⟩:=Zd7 (U:=⟨P.G,P.GD,run P (n+(d+1)),P.L⟩) (e:=.bin .Add (.cst (.int 1)) (.call (O "_law_deep") (.cons (.var 0) .nil))) (f:=fun s=>1+(dep s:Int)) t h (fun s hs h1=>by
     have:=Zd6 hs;obtain ⟨g,e⟩:=ih n s h1 (by omega);refine ⟨g,?_⟩;have e':run P (n+(d+1)) (O "_law_deep") [s.d] h1=.ok (.int (dep s)) (h1++g):=e;simp [e'])
   refine ⟨g++[.lst (t.parts.map fun s=>.int (1+(dep s:Int)))],?_⟩;have sm:=fin t h g;rw [ZnS];simp at sm e;simp [Zao,ZdJ,Zq,Zal,Zby,e,sm]
theorem Zf0(H:Mkr P){n:Nat}{h:Hd}{k:Nat}{xs0:List D}(hk:h[k]? = Wv (.lst xs0)):∀(xs:List Int) (j:Nat) (acc:List Int),acc.length+xs.length<=1000->j+xs.length<=1000->∃cs:List Int,cs.length=acc.length+xs.length /\
 Zo (Wv (k,xs0)) (.two 0 1) (tsto ⟨P.G,P.GD,run P (n+1),P.L⟩ Ww) (ev ⟨P.G,P.GD,run P (n+1),P.L⟩ (.call (O "_law_mixed") (.cons (.var 1) (.cons (.bin .Add (.var 0) (.cst (.int 2))) .nil)))) (xs.mapIdx λq x=>D.tup [.int ((q+j:Nat):Int),.int x]) [Ww,Ww] (acc.map .int) h
  = .ok (cs.map .int) h
 |[],j,acc,_,_=>⟨acc,by simp,by simp[Zo,Wk.stays,hk]⟩
 |x::xs,j,acc,h1,h2=>by
  simp only[Os]at h1 h2;obtain⟨cs,q1,q2⟩:=Zf0 H hk xs (j+1) (acc++[mixed x ((j:Int)+2)]) (by simp;omega) (by omega);refine⟨cs,by simp at q1;simp;omega,?_⟩;have e1:=Zg1 H n x ((j:Int)+2) h ⟨by omega,by omega⟩;have hz:acc.length<sizeLine:=by rw[YC];omega
  have ei:(λ(q:Nat) (x:Int)=>D.tup [.int ((q+1+j:Nat):Int),.int x])=λq x=>D.tup [.int ((q+(j+1):Nat):Int),.int x]:=by funext q x;rw[show q+1+j=q+(j+1) by omega]
  rw[List.mapIdx_cons,ZE];simp only[Wk.stays,hk,decide_true,true_and,Yu,hz,if_true,Zn7,List.set_cons_zero,List.set_cons_succ,Zla,Zlr,Zk,bind_ok,Zhv,Za7,Zd5,Zep,O0,OJ,Option.join_some,ofO_some,Zj7,Zj5,Zpp,Nat.zero_add,e1];rw[ei];have:=q2;rw[List.map_append]at this;exact this
end Gn
end
section
namespace IV
open PySem L2
section
variable {U:Tb}{S:Ev}{h h1 h2 h3:Hd}
theorem Zht{m:Mf}{o:Ex}{es:Exs}{i:Nat}{ys xs:List D}{r:R D}(p:ev U o S h=.ok (.ref i) h1)(l:h1[i]? = Wv (.lst ys))(q:evs U es S h1=.ok xs h2)(e:Z9 m (.ref i) xs h2=r):ev U (.meth m o es) S h=r:=by rw[Ze8,p,Zk,Zar l,if_pos rfl,q];exact e
theorem ZeL{e:Ex}{d:D}(q:ev U e S h=.ok d h1):xs1 U (.drp e) S h=.ok (.nx,S) h1:=by rw[Zki,q];rfl
theorem ZbJ{C m:Str}{o:Ex}{es:Exs}{i:Nat}{fs:List (Str×D)}{xs:List D}{r:R D}(p:ev U o S h=.ok (.ref i) h1)(l:h1[i]? = Wv (.ins C fs))(f:fs.lookup m=Ww)(q:evs U es S h1=.ok xs h2)(e:U.C (mnm C m) (.ref i::xs) h2=r):ev U (.mcl C m o es) S h=r:=by rw[ZnJ,p,Zk,show ZY (.ref i) h1=Wv (C,fs) by simp[ZY,l]];simp only[f,and_self,if_true,q];exact e
theorem ZiL{NC:List Str}{js:List (Option Nat)}{it:Ix}{g:Tg}{c:Option Tx}{e:Ex}{w:Wk}{xs:List D}(p:evi U it S h=.ok w h1)(q:Zo w.src g (tsto U c) (ev U e) w.xs (Zby js S) [] h1=.ok xs h2):ev U (.comp NC js it g c e) S h=.ok (.ref h2.length) (h2++[.lst xs]):=by rw[Zhu,p,Zk,q];rfl
theorem Zsc{e:Ex}{xs:List D}(p:ev U e S h=.ok (.tup xs) h1):evi U (.rev e) S h=.ok ⟨Ww,xs.reverse⟩ h1:=by rw[ZpU,p];rfl
theorem ZdF{e:Ex}{xs:List D}(p:ev U e S h=.ok (.tup xs) h1):evi U (.pl e) S h=.ok ⟨Ww,xs⟩ h1:=by rw[Zsd,p];rfl
theorem Zj4{es:Exs}{xs:List D}(p:evs U es S h=.ok xs h1)(hz:xs.length<=1000):ev U (.lstl es) S h=.ok (.ref h1.length) (h1++[.lst xs]):=by rw[ZkU,p,Zk,if_pos (OE hz (by decide))];rfl
theorem Zsh{f:Bf}{es:Exs}{xs:List D}{r:R D}(p:evs U es S h=.ok xs h1)(q:ZaQ U.GD f xs h1=r):ev U (.blt f es) S h=r:=by rw[Zsg,p];exact q
theorem ZtW{GD:Str->Option (List (Key×D))}{i:Nat}{ys:List D}(e:h[i]? = Wv (.lst ys)):ZaQ GD .len [.ref i] h=.ok (.int ys.length) h:=by simp only[ZaQ,Zi5,seqOf,lstOf,e];rfl
theorem Zqd{e:Ex}{i:Nat}{ys:List D}(p:ev U e S h=.ok (.ref i) h1)(l:h1[i]? = Wv (.lst ys)):tst U (.ex e) S h=.ok (!ys.isEmpty) h1:=by rw[ZgR,p,Zk,Zoo l];rfl
theorem Ze2{test:Ev->Hd->R Bool}{body:Ev->Hd->R (Fl×Ev)}{n:Nat}{ρ1:Ev}(e:test S h=.ok Wx h1)(q:body S h1=.ok (.nx,ρ1) h2):ZN test body (n+1) S h=ZN test body n ρ1 h2:=by rw[Zaq,e,Zk,if_pos rfl,q];rfl
theorem Zkk{test:Ev->Hd->R Bool}{body:Ev->Hd->R (Fl×Ev)}{n:Nat}(e:test S h=.ok Wy h1):ZN test body (n+1) S h=.ok (.nx,S) h1:=by rw[Zaq,e];rfl
theorem Zt9{a b:Ex}{x y:Int}(p:ev U a S h=.ok (.int x) h1)(q:ev U b S h1=.ok (.int y) h2):tst U (.ex (.cmp .Gt a b)) S h=.ok (Wz (y<x)) h2:=ZcU (ZD p q)
theorem ZtV{a b:Ex}{x y:Int}(p:ev U a S h=.ok (.int x) h1)(q:ev U b S h1=.ok (.int y) h2):tst U (.ex (.cmp .Lt a b)) S h=.ok (Wz (x<y)) h2:=ZcU (ZD p q)
theorem Zen{g:Tg}{body:Ev->Hd->R (Fl×Ev)}{d:D}{ds:List D}{ρ1 ρ2:Ev}(b:Zbz g d S=Wv ρ1)(q:body ρ1 h=.ok (.nx,ρ2) h2):ZP Ww g body (d::ds) S h=ZP Ww g body ds ρ2 h2:=by rw[Zas,b];simp only;rw[q];rfl
theorem ZhR{test:Ev->Hd->R Bool}{body:Ev->Hd->R (Fl×Ev)}{n:Nat}{ρ1:Ev}{d:D}(e:test S h=.ok Wx h1)(q:body S h1=.ok (.rt d,ρ1) h2):ZN test body (n+1) S h=.ok (.rt d,ρ1) h2:=by rw[Zaq,e,Zk,if_pos rfl,q];rfl
theorem Zsb{g:Tg}{body:Ev->Hd->R (Fl×Ev)}{d x:D}{ds:List D}{ρ1 ρ2:Ev}(b:Zbz g d S=Wv ρ1)(q:body ρ1 h=.ok (.rt x,ρ2) h2):ZP Ww g body (d::ds) S h=.ok (.rt x,ρ2) h2:=by rw[Zas,b];simp only;rw[q];rfl
variable {c:Str}
theorem ZcJ{s:Sx}{r:Sxs}(q:xs1 U s S h=.exc c h1):xs2 U (.cons s r) S h=.exc c h1:=by rw[xs2,q];rfl
theorem ZiN{e:Ex}(q:ev U e S h=.exc c h1):xs1 U (.drp e) S h=.exc c h1:=by rw[Zki,q];rfl
theorem Zmn{i:Nat}{e:Ex}(q:ev U e S h=.exc c h1):xs1 U (.set (.nm i) e) S h=.exc c h1:=by rw[ZeZ,q];rfl
theorem Ztd{e:Ex}{d:D}(q:ev U e S h=.ok d h1):xs1 U (.rai c e) S h=.exc c h1:=by rw[xs1,q];rfl
theorem Zoj{test:Ev->Hd->R Bool}{body:Ev->Hd->R (Fl×Ev)}{n:Nat}(e:test S h=.ok Wx h1)(q:body S h1=.exc c h2):ZN test body (n+1) S h=.exc c h2:=by rw[Zaq,e,Zk,if_pos rfl,q];rfl
theorem ZnC{g:Tg}{body:Ev->Hd->R (Fl×Ev)}{d:D}{ds:List D}{ρ1:Ev}(b:Zbz g d S=Wv ρ1)(q:body ρ1 h=.exc c h2):ZP Ww g body (d::ds) S h=.exc c h2:=by rw[Zas,b];simp only;rw[q];rfl
theorem ZiJ{a:Ex}{es:Exs}(p:ev U a S h=.exc c h1):evs U (.cons a es) S h=.exc c h1:=by rw[Za7,p];rfl
theorem Zhr{a:Ex}{es:Exs}{x:D}(p:ev U a S h=.ok x h1)(q:evs U es S h1=.exc c h2):evs U (.cons a es) S h=.exc c h2:=by rw[Za7,p,Zk,q];rfl
theorem Zqp{es:Exs}(p:evs U es S h=.exc c h1):ev U (.tupl es) S h=.exc c h1:=by rw[Ze7,p];rfl
theorem Zuh{C m:Str}{o:Ex}{es:Exs}{i:Nat}{fs:List (Str×D)}(p:ev U o S h=.ok (.ref i) h1)(l:h1[i]? = Wv (.ins C fs))(f:fs.lookup m=Ww)(q:evs U es S h1=.exc c h2):ev U (.mcl C m o es) S h=.exc c h2:=by rw[ZnJ,p,Zk,show ZY (.ref i) h1=Wv (C,fs) by simp[ZY,l]];simp only[f,and_self,if_true,q];rfl
theorem ZqQ{f:Str}{es:Exs}{i:Nat}{xs:List D}{d:D}(p:evs U es S h=.ok xs h1)(q:U.C f xs h1=.ok d h2):xs1 U (.trs i f es c) S h=.ok (.nx,S.set i (Wv d)) h2:=by rw[xs1,p];show Zf2 c i S (U.C f xs h1)=_;rw[q];rfl
theorem ZsR{f:Str}{es:Exs}{i:Nat}{xs:List D}(p:evs U es S h=.ok xs h1)(q:U.C f xs h1=.exc c h2):xs1 U (.trs i f es c) S h=.ok (.nx,S.set i (Wv .non)) h2:=by rw[xs1,p];show Zf2 c i S (U.C f xs h1)=_;rw[q];simp[Zf2]
end
end IV
end
section
set_option tactic.hygienic false
namespace Gn
open PySem L2 IV
variable {P:Pg}{cs:List Int}{ns:List Str}{h h':Hd}{i j m:Nat}{a b:Int}
theorem Zoe(H:Mkr P)(r N:Nat)(hN:2 * r+3<=N){k:Nat}{sc:Scp}(c:Ctx cs ns h i j m k sc a b)(w:Str)(room:Int)(hr:room<=r)(hl:sc.length+2 * r<=50)(ha:a+A r<2 ^ 50):
 Made cs h i j sc a (A r) (3 * r+3) (run P N (O "_law_any") [.str w,.ref k,.ref i,.ref m,.int room] h):=by
 have:=Zoc H r (N - (2 * r+3)) cs ns h i j m k sc a b w room hr c hl ha;rw[show N - (2 * r+3)+(2 * r+3)=N by omega]at this;exact this
theorem ZhQ(H:Mkr P)(N:Nat)(t:T)(h:Hd)(hd:dep t<N):∃g,run P N (O "_law_width") [t.d] h=.ok (.int t.size) (h++g):=by obtain⟨g,e⟩:=ZoE H (dep t) (N - dep t - 1) t h (Oq _);rw[show N - dep t - 1+dep t+1=N by omega]at e;exact⟨g,e⟩
theorem ZpX(H:Mkr P)(N:Nat)(t:T)(h:Hd)(hd:dep t<N):∃g,run P N (O "_law_deep") [t.d] h=.ok (.int (dep t)) (h++g):=by obtain⟨g,e⟩:=Zre H (dep t) (N - dep t - 1) t h (Oq _);rw[show N - dep t - 1+dep t+1=N by omega]at e;exact⟨g,e⟩
theorem Ctx.bare{k:Nat}{sc:Scp}(c:Ctx cs ns h i j m k sc a b):Ctx cs ns (h++[.lst []]) i j m h.length [] a b:=by have c1:=c.app (g:=[.lst []]);refine⟨c1.st,c1.nm,c1.n5,c1.nok,c1.nd,by unfold Zl3;simp,by simp,c1.im,?_,c1.ab⟩;have:=ZH c.st.1;omega
noncomputable def vp(ro:D)(st:Int)(o2 o3 o4 o5 o6:Option D):Ev:=[Wv ro,Wv (.int st),o2,o3,o4,o5,o6]
noncomputable def ZpB:Sxs:=(.cons (.iff (.ex (.cmp .Lt (.call (O "_law_width") (.cons (.var 5) .nil)) (.cst (.int 50)))) (.cons (.put (.var 3) (.cst (.int 2)) (.cst (.int 12))) (.cons (.set (.nm 5) (.tupl (.cons (.cst (.str (O "+"))) (.cons (.var 5) (.cons (.call (O "_law_any") (.cons (.cst (.str (O "n"))) (.cons (.lstl .nil) (.cons (.var 3) (.cons (.var 4) (.cons (.cst (.int 6)) .nil)))))) .nil))))) .nil)) .nil) .nil)
inductive Turned(cs:List Int)(ns:List Str)(h:Hd)(i j m k:Nat)(sc:Scp)(a:Int)(dm:Nat)(S:Option D->Ev)(r:R (Fl×Ev)):Prop
 |mk (t:T) (h':Hd) (a' b':Int) (e:r=.ok (.nx,S (Wv t.d)) h') (c:Cl [] t) (d:dep t<=dm) (u:Up i h h') (x:Ctx cs ns h' i j m k sc a' b') (l:a'<=a+65536)
theorem turn(H:Mkr P){N:Nat}(hN:40<=N){k:Nat}{sc:Scp}(c:Ctx cs ns h i j m k sc a b){t:T}(ct:Cl [] t)(hd:dep t<=30)(ha:a<2 ^ 45)(ro:D)(st:Int)(o2 o6:Option D):Turned cs ns h i j m k sc a (max (dep t) 21+1) (λo=>vp ro st o2 (Wv (.ref i)) (Wv (.ref m)) o o6)
 (xs2 (P.tbl N) ZpB (vp ro st o2 (Wv (.ref i)) (Wv (.ref m)) (Wv t.d) o6) h):=by
 have A6:A 6=16384:=by decide
 obtain⟨g,ew⟩:=ZhQ H N t h (by omega);have c1:=c.app (g:=g);have te:tst (P.tbl N) (.ex (.cmp .Lt (.call (O "_law_width") (.cons (.var 5) .nil)) (.cst (.int 50)))) (vp ro st o2 (Wv (.ref i)) (Wv (.ref m)) (Wv t.d) o6) h=.ok (Wz ((t.size:Int)<50)) (h++g):=ZtV (Zj ew rfl) rfl;by_cases hw:(t.size:Int)<50
 . have p1:ZbH (.ref i) (.int 2) (.int 12) (h++g)=.ok () ((h++g).set i (.lst [.ref j,.int a,.int 12])):=by simp only[ZbH,c1.st.1];rfl
   have s1:St3 ((h++g).set i (.lst [.ref j,.int a,.int 12])) i j cs a 12:=⟨by rw[Ol (ZH c1.st.1)],by rw[Oc c1.st.2.2];exact c1.st.2.1,c1.st.2.2⟩
   obtain⟨h2,p1,u1,c2⟩:∃h2,ZbH (.ref i) (.int 2) (.int 12) (h++g)=.ok () h2/\Up i h h2/\Ctx cs ns h2 i j m k sc a 12:=⟨_,p1,Up.app.trans Up.set,c1.up Up.set s1 c.ab⟩
   obtain⟨t1,h3,a1,b1,e1,u3,s3,l1,l2,c3,p3⟩:=Zoe H 6 N (by omega) c2.bare (O "n") 6 (by decide) (by simp) (by rw[A6];omega);have u4:=u1.trans ((Up.app (i:=i) (g:=[.lst []])).trans u3);have x1:xs1 (P.tbl N) (.put (.var 3) (.cst (.int 2)) (.cst (.int 12))) (vp ro st o2 (Wv (.ref i)) (Wv (.ref m)) (Wv t.d) o6) (h++g)=.ok (.nx,vp ro st o2 (Wv (.ref i)) (Wv (.ref m)) (Wv t.d) o6) h2:=by show R.bnd (ZbH (.ref i) (.int 2) (.int 12) (h++g)) _=_;rw[p1];rfl
   refine⟨.op .add t t1,h3,a1,b1,?_,⟨ct,c3⟩,by simp only[dep];omega,u4,c.up u4 s3 (by have:=c.ab;omega),by rw[A6]at l2;omega⟩;refine(Zb ((Zw (Zr te (decide_eq_true hw))).trans ((Zb x1).trans ((Zb (Zn (ZaN (Za rfl (Za rfl (Za (Zj e1 (Za rfl (Za (Zj4 rfl (by simp)) rfl))) rfl))) (by simp)))).trans rfl)))).trans rfl
 . exact⟨t,h++g,a,b,(Zb ((Zx (Zr te (decide_eq_false hw))).trans rfl)).trans rfl,ct,by omega,Up.app,c1,by omega⟩
theorem Zti(zs:List Int)(st:Int)(hz:zs.length<=100):∃ys:List Int,ys.length<=100/\∀h:Hd,Zif (.ro (zs.map D.int)) (Wv st) Ww h=.ok (.ref h.length) (h++[.lst (ys.map .int)]):=by
 refine⟨(zs.drop (HT.sIx zs.length 0 (Wv st))).take (HT.sIx zs.length zs.length Ww - HT.sIx zs.length 0 (Wv st)),?_,λh=>?_⟩
 . rw[List.length_take,List.length_drop];omega
 . show ZcH (.lst (cutD (zs.map D.int) (Wv st) Ww)) h=_;simp[cutD,List.map_drop,List.map_take]
inductive Begun(h:Hd)(S:Option D->Option D->Option D->Ev)(r:Sxs->R (Fl×Ev))(U:Tb):Prop
 |mk (cs:List Int) (ns:List Str) (h':Hd) (i j m:Nat) (e:∀s,r s=xs2 U s (S (Wv (.ref j)) (Wv (.ref i)) (Wv (.ref m))) h') (c:Ctx cs ns (h'++[.lst []]) i j m h'.length [] 1 26) (l:h.length<=i) (u:Up i h h')
theorem Zrr(H:Mkr P){N:Nat}(hN:40<=N)(zs:List Int)(st:Int)(h:Hd)(hz:zs.length<=100):Begun h (λo2 o3 o4=>vp (.ro (zs.map .int)) st o2 o3 o4 Ww Ww) (λs=>xs2 (P.tbl N) (.cons Zak (.cons ZcG (.cons ZcF s))) (vp (.ro (zs.map .int)) st Ww Ww Ww Ww Ww) h) (P.tbl N):=by
 obtain⟨N,rfl⟩:∃N3,N=N3+2:=⟨N - 2,by omega⟩
 obtain⟨ys,hyl,osl⟩:=Zti zs st hz;obtain⟨cs,hcl,ec⟩:=Zf0 H (n:=N+1) (h:=h++[.lst (ys.map .int)]) (k:=h.length) (xs0:=ys.map .int) (by simp) ys 0 [] (by simp;omega) (by omega);have en:ZcC (ys.map D.int)=ys.mapIdx λq x=>D.tup [.int ((q+0:Nat):Int),.int x]:=by unfold ZcC;apply List.ext_getElem?;intro q;simp[List.getElem?_mapIdx];cases ys[q]?<;>rfl
 have ei:evi (P.tbl (N+2)) (.enu (.sl (.var 0) (Wv (.var 1)) Ww)) (vp (.ro (zs.map .int)) st Ww Ww Ww Ww Ww) h=.ok ⟨Wv (h.length,ys.map .int),ZcC (ys.map D.int)⟩ (h++[.lst (ys.map .int)]):=by rw[ZpV,show ev (P.tbl (N+2)) (.sl (.var 0) (Wv (.var 1)) Ww) (vp (.ro (zs.map .int)) st Ww Ww Ww Ww Ww) h=.ok (.ref h.length) (h++[.lst (ys.map .int)])from osl h,Zk];simp[Zkl]
 rw[<- en]at ec;have x1:xs1 (P.tbl (N+2)) Zak (vp (.ro (zs.map .int)) st Ww Ww Ww Ww Ww) h=.ok (.nx,vp (.ro (zs.map .int)) st (Wv (.ref (h++[DO.lst (ys.map .int)]).length)) Ww Ww Ww Ww) (h++[.lst (ys.map .int)]++[.lst (cs.map .int)]):=Zn (ZiL ei ec);generalize D.ro (zs.map .int)=ro at *;obtain⟨h1,j,u1,k1,lj,x1⟩:∃(h1:Hd) (j:Nat),Up h1.length h h1/\h1[j]? = Wv (.lst (cs.map .int))/\j<h1.length/\xs1 (P.tbl (N+2)) Zak (vp ro st Ww Ww Ww Ww Ww) h=.ok (.nx,vp ro st (Wv (.ref j)) Ww Ww Ww Ww) h1:=⟨_,_,Up.app.trans Up.app,ZdL,by simp,x1⟩
 have s2:St3 (h1++[.lst [.ref j,.int 0,.int 26]]) h1.length j cs 0 26:=⟨ZdL,by rw[Oe lj];exact k1,by omega⟩
 obtain⟨v,e3,_⟩:=Zjn H N s2 (by decide);rw[Ztr]at e3;obtain⟨ns,n5,nok,nnd,e4⟩:=ZoI H (N+1) v (h1++[.lst [.ref j,.int 1,.int 26]]);have hle:=u1.1;refine⟨cs,ns,h1++[.lst [.ref j,.int 1,.int 26]]++[.lst (ns.map .str)],h1.length,j,(h1++[DO.lst [.ref j,.int 1,.int 26]]).length,λs=>?_,⟨⟨by simp,by simp[Oe lj,k1],by omega⟩,by simp,n5,nok,nnd,by unfold Zl3;simp,by simp,by simp,by simp,by decide⟩,hle,?_⟩
 . exact(Zb x1).trans ((Zb (Zn (Zj4 (Za rfl (Za rfl (Za rfl rfl))) (by simp)))).trans ((Zb (Zn (Zj e4 (Za (Zj e3 rfl) rfl)))).trans rfl))
 . rw[Oz];exact⟨by simp;omega,λm a n=>by rw[Oe (by omega)];exact u1.2 m a n⟩
inductive Sixth(h:Hd)(i:Nat)(S:Option D->Ev)(r:R (Fl×Ev)):Prop
 |mk (t:T) (h':Hd) (e:r=.ok (.nx,S (Wv t.d)) h') (c:Cl [] t) (s:t.size<=100) (d:dep t<=20) (u:Up i h h')
theorem Zrq(H:Mkr P){N:Nat}(hN:40<=N){k:Nat}{sc:Scp}(c:Ctx cs ns h i j m k sc a b){t:T}(ct:Cl [] t)(hd:dep t<=26)(ha:a<2 ^ 50)(ro:D)(st:Int)(o2 o4 o6:Option D):Sixth h i (λo=>vp ro st o2 (Wv (.ref i)) o4 o o6) (xs1 (P.tbl N) Zbf (vp ro st o2 (Wv (.ref i)) o4 (Wv t.d) o6) h):=by
 obtain⟨g1,ew⟩:=ZhQ H N t h (by omega);obtain⟨g2,ed⟩:=ZpX H N t (h++g1) (by omega);have tw:tst (P.tbl N) (.ex (.cmp .Gt (.call (O "_law_width") (.cons (.var 5) .nil)) (.cst (.int 100)))) (vp ro st o2 (Wv (.ref i)) o4 (Wv t.d) o6) h=.ok (Wz ((100:Int)<t.size)) (h++g1):=Zt9 (Zj ew rfl) rfl;have td:tst (P.tbl N) (.ex (.cmp .Gt (.call (O "_law_deep") (.cons (.var 5) .nil)) (.cst (.int 20)))) (vp ro st o2 (Wv (.ref i)) o4 (Wv t.d) o6) (h++g1)=.ok (Wz ((20:Int)<dep t)) (h++g1++g2):=Zt9 (Zj ed rfl) rfl;have plain:∀{q:Sxs} (g:Hd),∃t' h',xs2 (P.tbl N) (.cons (.set (.nm 5) (.call (O "_law_plain") (.cons (.cst (.str (O "n"))) (.cons (.call (O "_law_next") (.cons (.var 3) .nil)) .nil)))) .nil) (vp ro st o2 (Wv (.ref i)) o4 (Wv t.d) o6) (h++g)=.ok (.nx,vp ro st o2 (Wv (.ref i)) o4 (Wv (T.d t')) o6) h'/\Cl [] t'/\dep t'<=2/\t'.size<=4/\Up i h h':=λg=>by
  obtain⟨N,rfl⟩:∃N3,N=N3+2:=⟨N - 2,by omega⟩
  obtain⟨v,e8,_⟩:=Zjn H N (c.app (g:=g)).st ⟨c.ab,ha⟩;obtain⟨tp,gp,e9,q1,q2,q3⟩:=ZgZ H (N+1) (O "n") v ((h++g).set i (.lst [.ref j,.int (a+1),.int b])) [];exact⟨tp,_,(Zb (Zn (Zj e9 (Za rfl (Za (Zj e8 rfl) rfl))))).trans rfl,q1,q2,q3,(Up.app.trans Up.set).trans Up.app⟩
 by_cases hw:(100:Int)<t.size
 . obtain⟨t',h',e,q1,q2,q3,u⟩:=plain (q:=.nil) g1;exact⟨t',h',(Zw (Ztz (Zr tw (decide_eq_true hw)))).trans e,q1,by omega,by omega,u⟩
 . have tw':=Zr tw (decide_eq_false hw);by_cases hq:(20:Int)<dep t
   . obtain⟨t',h',e,q1,q2,q3,u⟩:=plain (q:=.nil) (g1++g2);rw[<- Oz]at e;exact⟨t',h',(Zw (ZmZ tw' (Zr td (decide_eq_true hq)))).trans e,q1,by omega,by omega,u⟩
   . exact⟨t,_,(Zx (ZmZ tw' (Zr td (decide_eq_false hq)))).trans rfl,ct,by omega,by omega,Up.app.trans Up.app⟩
theorem Zlj(H:Mkr P){N:Nat}(hN:40<=N)(zs:List Int)(st:Int)(h:Hd)(hz:zs.length<=100):∃t h',run P (N+1) (O "_law_program") [.ro (zs.map .int),.int st] h=.ok (T.d t) h'/\Cl [] t/\t.size<=100/\dep t<=20/\h.length<=h'.length/\∀q,q<h.length->h'[q]? = h[q]? := by
 rw[Ze3 H.program rfl];have A7:A 7=65536:=by decide
 cases Zrr H hN zs st h hz with
 |mk cs ns h3 i j m e3 c4 li u3=>
 cases Zoe H 7 N (by omega) c4 (O "n") 7 (by decide) (by decide) (by rw[A7];decide)with
 |mk t4 h4 a4 b4 e5 u4 s4 l1 l2 ct4 d4=>
 rw[A7]at l2;cases turn H hN (c4.up u4 s4 (by omega)) ct4 (by omega) (by omega) (.ro (zs.map .int)) st (Wv (.ref j)) (Wv (.int 0))with
 |mk t5 h5 a5 b5 e6 ct5 d5 u5 c6 l4=>
 cases turn H hN c6 ct5 (by omega) (by omega) (.ro (zs.map .int)) st (Wv (.ref j)) (Wv (.int 1))with
 |mk t6 h6 a6 b6 e7 ct6 d6 u6 c7 l6=>
 cases Zrq H hN c7 ct6 (by omega) (by omega) (.ro (zs.map .int)) st (Wv (.ref j)) (Wv (.ref m)) (Wv (.int 1))with
 |mk t hh x6 ct sz dt u=>
 have u8:=(u3.trans ((Up.app (i:=i) (g:=[.lst []])).trans ((u4.trans u5).trans u6))).trans u;refine⟨t,hh,?_,ct,sz,dt,u8.1,λq hq=>u8.2 q hq (by omega)⟩;have x5:xs1 (P.tbl N) Zbg (vp (.ro (zs.map .int)) st (Wv (.ref j)) (Wv (.ref i)) (Wv (.ref m)) (Wv t4.d) Ww) h4=.ok (.nx,vp (.ro (zs.map .int)) st (Wv (.ref j)) (Wv (.ref i)) (Wv (.ref m)) (Wv t6.d) (Wv (.int 1))) h6:=(ZdE (w:=⟨Ww,[.int 0,.int 1]⟩) rfl).trans ((Zen rfl e6).trans ((Zen rfl e7).trans rfl));exact(congrArg Zh ((e3 (.cons ZcE (.cons Zbg (.cons Zbf (.cons ZcD .nil))))).trans ((Zb (Zn (Zj e5 (Za rfl (Za (Zj4 rfl (by simp)) rfl))))).trans ((Zb x5).trans ((Zb x6).trans rfl))))).trans rfl
end Gn
end
section
namespace Rw
open PySem L2 IV Gn
noncomputable def Z1:Sxs:=(.cons (.forr (.two 2 3) (.pl (.var 1)) (.cons (.iff (.ex (.cmp .Eq (.var 2) (.var 0))) (.cons (.ret (.var 3)) .nil) .nil) .nil)) (.cons (.ret (.cst .non)) .nil))
noncomputable def Zap:Fd:=⟨[(O "name"),(O "around")],[(O "name"),(O "around"),(O "known"),(O "thing")],Z1⟩
noncomputable def Zct:Sxs:=(.cons (.iff (.ex (.cmp .Eq (.ix (.var 0) (.cst (.int 0))) (.cst (.str (O "num"))))) (.cons (.ret (.var 0)) .nil) .nil) (.cons (.iff (.ex (.cmp .Eq (.ix (.var 0) (.cst (.int 0))) (.cst (.str (O "name"))))) (.cons (.ret (.call (O "bound_to") (.cons (.ix (.var 0) (.cst (.int 1))) (.cons (.var 1) .nil)))) .nil) .nil) (.cons (.ret (.tupl (.cons (.cst (.str (O "clo"))) (.cons (.var 0) (.cons (.var 1) .nil))))) .nil)))
noncomputable def Zbo:Fd:=⟨[(O "E"),(O "around")],[(O "E"),(O "around")],Zct⟩
noncomputable def ZgL:Sxs:=(.cons (.ret (.ix (.call (O "parts_of") (.cons (.ix (.var 0) (.cst (.int 1))) .nil)) (.cst (.int 0)))) .nil)
noncomputable def Zcg:Fd:=⟨[(O "W")],[(O "W")],ZgL⟩
noncomputable def Zck:Sxs:=(.cons (.iff (.ex (.cmp .Eq (.ix (.ix (.var 0) (.cst (.int 1))) (.cst (.int 0))) (.cst (.str (O "fn"))))) (.cons (.ret (.bin .Add (.tupl (.cons (.tupl (.cons (.ix (.ix (.var 0) (.cst (.int 1))) (.cst (.int 1))) (.cons (.var 1) .nil))) .nil)) (.ix (.var 0) (.cst (.int 2))))) .nil) .nil) (.cons (.ret (.bin .Add (.tupl (.cons (.tupl (.cons (.ix (.ix (.var 0) (.cst (.int 1))) (.cst (.int 2))) (.cons (.var 1) .nil))) (.cons (.tupl (.cons (.ix (.ix (.var 0) (.cst (.int 1))) (.cst (.int 1))) (.cons (.var 0) .nil))) .nil))) (.ix (.var 0) (.cst (.int 2))))) .nil))
noncomputable def Zce:Fd:=⟨[(O "W"),(O "V")],[(O "W"),(O "V")],Zck⟩
noncomputable def ZeX:Sxs:=(.cons (.iff (.ex (.cmp .Is (.var 0) (.cst .non))) (.cons (.ret (.tupl (.cons (.cst (.str (O "stuck"))) .nil))) .nil) .nil) (.cons (.ret (.tupl (.cons (.cst (.str (O "loud"))) (.cons (.var 0) .nil)))) .nil))
noncomputable def ZW:Fd:=⟨[(O "state")],[(O "state")],ZeX⟩
noncomputable def Zi4:Sxs:=(.cons (.iff (.ex (.cmp .NotEq (.ix (.var 0) (.cst (.int 0))) (.cst (.str (O "num"))))) (.cons (.ret (.cst .non)) .nil) .nil) (.cons (.ret (.ite (.ex (.cmp .Eq (.ix (.var 0) (.cst (.int 1))) (.cst (.int 0)))) (.var 2) (.var 1))) .nil))
noncomputable def Zcf:Fd:=⟨[(O "C"),(O "T"),(O "E")],[(O "C"),(O "T"),(O "E")],Zi4⟩
noncomputable def ZS:Sxs:=(.cons (.iff (.ors (.cons (.ex (.cmp .NotEq (.ix (.var 1) (.cst (.int 0))) (.cst (.str (O "num"))))) (.one (.ex (.cmp .NotEq (.ix (.var 2) (.cst (.int 0))) (.cst (.str (O "num")))))))) (.cons (.ret (.cst .non)) .nil) .nil) (.cons (.iff (.ex (.cmp .Eq (.var 0) (.cst (.str (O "<"))))) (.cons (.ret (.tupl (.cons (.cst (.str (O "num"))) (.cons (.ite (.ex (.cmp .Lt (.ix (.var 1) (.cst (.int 1))) (.ix (.var 2) (.cst (.int 1))))) (.cst (.int 1)) (.cst (.int 0))) .nil)))) .nil) .nil) (.cons (.iff (.ex (.cmp .Eq (.var 0) (.cst (.str (O "+"))))) (.cons (.ret (.tupl (.cons (.cst (.str (O "num"))) (.cons (.bin .Mod (.bin .Add (.ix (.var 1) (.cst (.int 1))) (.ix (.var 2) (.cst (.int 1)))) (.glo (O "BEYOND"))) .nil)))) .nil) .nil) (.cons (.iff (.ex (.cmp .Eq (.var 0) (.cst (.str (O "-"))))) (.cons (.ret (.tupl (.cons (.cst (.str (O "num"))) (.cons (.bin .Mod (.bin .Sub (.ix (.var 1) (.cst (.int 1))) (.ix (.var 2) (.cst (.int 1)))) (.glo (O "BEYOND"))) .nil)))) .nil) .nil) (.cons (.ret (.tupl (.cons (.cst (.str (O "num"))) (.cons (.bin .Mod (.bin .Mult (.ix (.var 1) (.cst (.int 1))) (.ix (.var 2) (.cst (.int 1)))) (.glo (O "BEYOND"))) .nil)))) .nil)))))
noncomputable def Zcb:Fd:=⟨[(O "word"),(O "first"),(O "second")],[(O "word"),(O "first"),(O "second")],ZS⟩
mutual
inductive Th where
 |num (n:Int)|clo (E:T) (ar:Ar)
inductive Ar where
 |nil|cons (x:Str) (v:Th) (r:Ar)
end
mutual
noncomputable def Th.d:Th->D
 |.num n=>.tup [.str (O "num"),.int n]
 |.clo E ar=>.tup [.str (O "clo"),E.d,.tup ar.ds]
noncomputable def Ar.ds:Ar->List D
 |.nil=>[]
 |.cons x v r=>.tup [.str x,v.d]::r.ds
end
inductive Wt where
 |arg (A:T) (ar:Ar)|fn (V:Th)|iff (t e:T) (ar:Ar)|right (w:Wd) (F:T) (ar:Ar)|left (w:Wd) (V:Th)
inductive Sta where
 |go (E:T) (ar:Ar) (rest:List Wt)|back (V:Th) (rest:List Wt)
inductive Ans where
 |quiet (s:Sta)|loud (s:Sta)|value|stuck
noncomputable def Ar.get(x:Str):Ar->Option Th
 |.nil=>Ww
 |.cons y v r=>if y=x then Wv v else r.get x
noncomputable def Ar.len:Ar->Nat
 |.nil=>0
 |.cons _ _ r=>r.len+1
theorem Ar.ds_len:∀ar:Ar,ar.ds.length=ar.len
 |.nil=>by simp[Ar.ds,Ar.len]
 |.cons x v r=>by simp[Ar.ds,Ar.len,Ar.ds_len r]
noncomputable def thD:Option Th->D
 |none=>.non
 |some v=>v.d
structure Thg(P:Pg):Prop extends Gen P where
 bound_to:P.tb.lookup (O "bound_to")=Wv Zap
 thing_of:P.tb.lookup (O "thing_of")=Wv Zbo
 body_of:P.tb.lookup (O "body_of")=Wv Zcg
 entered:P.tb.lookup (O "entered")=Wv Zce
 loud_or_stuck:P.tb.lookup (O "loud_or_stuck")=Wv ZW
 chosen:P.tb.lookup (O "chosen")=Wv Zcf
 worked:P.tb.lookup (O "worked")=Wv Zcb
 once:P.G (O "AT_ONCE")=Wv (.tup [.str (O "num"),.str (O "name"),.str (O "fn"),.str (O "rec")])
 beyond:P.G (O "BEYOND")=Wv (.int 1000000)
variable {P:Pg}{h:Hd}
theorem ZkN{U:Tb}{x:Str}{A:Option D}:∀(ar:Ar) (k v:Option D),∃k' v',ZP Ww (.two 2 3) (xs2 U (.cons (.iff (.ex (.cmp .Eq (.var 2) (.var 0))) (.cons (.ret (.var 3)) .nil) .nil) .nil)) ar.ds [Wv (.str x),A,k,v] h
 = match ar.get x with
  |some th=>.ok (.rt th.d,[Wv (.str x),A,k',v']) h
  |none=>.ok (.nx,[Wv (.str x),A,k',v']) h
 |.nil,k,v=>⟨k,v,rfl⟩
 |.cons y th r,k,v=>by
  by_cases e:y=x
  . refine⟨Wv (.str y),Wv th.d,?_⟩;rw[Ar.ds,Zas];simp[Ar.get,e]
  . obtain⟨k',v',q⟩:=ZkN (U:=U) (x:=x) (A:=A) r (Wv (.str y)) (Wv th.d);refine⟨k',v',?_⟩;rw[Ar.ds,Zas];simp[Ar.get,e,q]
theorem Zg5(H:Thg P)(n:Nat)(x:Str)(ar:Ar):run P (n+1) (O "bound_to") [.str x,.tup ar.ds] h=.ok (thD (ar.get x)) h:=by
 rw[Zc H.bound_to rfl];obtain⟨k',v',q⟩:=ZkN (h:=h) (U:=⟨P.G,P.GD,run P n,P.L⟩) (x:=x) (A:=Wv (.tup ar.ds)) ar Ww Ww;cases e:ar.get x with
 |none=>rw[e]at q;show Zh (xs2 (P.tbl n) Z1 [Wv (.str x),Wv (.tup ar.ds),Ww,Ww] h)=_;rw[nx1 (U:=P.tbl n) (ss:=Z1) (ρ1:=[Wv (.str x),Wv (.tup ar.ds),k',v']) (h2:=h) ((ZdE rfl).trans q) rfl];rfl
 |some th=>rw[e]at q;exact rt1 (U:=P.tbl n) (ss:=Z1) (S:=[Wv (.str x),Wv (.tup ar.ds),Ww,Ww]) ((ZdE rfl).trans q) rfl
theorem ZmA(H:Thg P)(n:Nat)(V:Th)(T E:D):run P (n+1) (O "chosen") [V.d,T,E] h=.ok (match V with|.num z=>if z=0 then E else T|_=>.non) h:=by
 rw[Zc H.chosen (by cases V<;>rfl)];cases V with
 |num z=>by_cases e:z=0<;>simp[Zcf,Zi4,Zq,Th.d,e]
 |clo E ar=>exact rfl
noncomputable def wk(w:Wd)(a b:Int):Int:=match w with
 |.lt=>if a<b then 1 else 0
 |.add=>(a+b) % 1000000
 |.sub=>(a - b) % 1000000
 |.mul=>a * b % 1000000
noncomputable def wkD(w:Wd):Th->Th->D
 |.num a,.num b=>(Th.num (wk w a b)).d
 |_,_=>.non
theorem Zk5(hw:P.tb.lookup (O "worked")=Wv Zcb)(hb:P.G (O "BEYOND")=Wv (.int 1000000))(n:Nat)(w:Wd){x y:Int}(hx:0<=x/\x<1000000)(hy:0<=y/\y<1000000):run P (n+1) (O "worked") [.str w.s,(T.num x).d,(T.num y).d] h=.ok (T.num (wk w x y)).d h:=by
 rw[Zc hw (by rfl)];have gb:∀S,ev (P.tbl n) (.glo (O "BEYOND")) S h=.ok (.int 1000000) h:=λS=>by show R.ofO (P.G (O "BEYOND")) h=_;rw[hb];rfl
 have m2:opB .Mult (.int x) (.int y) h=.ok (.int (x * y)) h:=Zc9 ⟨ZO (by omega) (by omega),ZO (by omega) (by omega)⟩;have fin:∀(S:Ev) (e:Ex) (z:Int),ev (P.tbl n) e S h=.ok (.int z) h->xs1 (P.tbl n) (.ret (.tupl (.cons (.cst (.str (O "num"))) (.cons (.bin .Mod e (.glo (O "BEYOND"))) .nil)))) S h=.ok (.rt (T.num (z % 1000000)).d,S) h:=λS e z q=>ZV (ZaN (Za rfl (Za ((ZB q (gb S)).trans (ZL (by decide))) rfl)) (by simp))
 show Zh (xs2 (P.tbl n) ZS [Wv (.str w.s),Wv (T.num x).d,Wv (T.num y).d] h)=_;rw[nx1 (U:=P.tbl n) (ss:=ZS) (ρ1:=[Wv (.str w.s),Wv (T.num x).d,Wv (T.num y).d]) (h2:=h) rfl rfl];cases w with
 |lt=>by_cases e:x<y<;>simp[ZS,tlS,T.d,Wd.s,wk,e,YC]
 |add=>rw[nx1 (U:=P.tbl n) (ss:=tlS ZS) (ρ1:=[Wv (.str Wd.add.s),Wv (T.num x).d,Wv (T.num y).d]) (h2:=h) rfl rfl];exact rt1 (U:=P.tbl n) (ss:=tlS (tlS ZS)) ((Zw rfl).trans (Zf (fin _ _ (x+y) rfl))) rfl
 |sub=>rw[nx1 (U:=P.tbl n) (ss:=tlS ZS) (ρ1:=[Wv (.str Wd.sub.s),Wv (T.num x).d,Wv (T.num y).d]) (h2:=h) rfl rfl,nx1 (U:=P.tbl n) (ss:=tlS (tlS ZS)) (ρ1:=[Wv (.str Wd.sub.s),Wv (T.num x).d,Wv (T.num y).d]) (h2:=h) rfl rfl];exact rt1 (U:=P.tbl n) (ss:=tlS (tlS (tlS ZS))) ((Zw rfl).trans (Zf (fin _ _ (x - y) rfl))) rfl
 |mul=>rw[nx1 (U:=P.tbl n) (ss:=tlS ZS) (ρ1:=[Wv (.str Wd.mul.s),Wv (T.num x).d,Wv (T.num y).d]) (h2:=h) rfl rfl,nx1 (U:=P.tbl n) (ss:=tlS (tlS ZS)) (ρ1:=[Wv (.str Wd.mul.s),Wv (T.num x).d,Wv (T.num y).d]) (h2:=h) rfl rfl,nx1 (U:=P.tbl n) (ss:=tlS (tlS (tlS ZS))) (ρ1:=[Wv (.str Wd.mul.s),Wv (T.num x).d,Wv (T.num y).d]) (h2:=h) rfl rfl];exact rt1 (U:=P.tbl n) (ss:=tlS (tlS (tlS (tlS ZS)))) (fin _ _ (x * y) m2) rfl
theorem Zmu(H:Thg P)(n:Nat)(w:Wd)(V W:Th)(hv:∀z,V=.num z->0<=z/\z<1000000)(hw:∀z,W=.num z->0<=z/\z<1000000):
 run P (n+1) (O "worked") [.str w.s,V.d,W.d] h=.ok (wkD w V W) h:=by
 cases V with
 |clo E ar=>rw[Zc H.worked (by cases W<;>rfl)];exact rfl
 |num a=>
  cases W with
  |clo E ar=>rw[Zc H.worked (by rfl)];exact rfl
  |num b=>exact Zk5 H.worked H.beyond n w (hv a rfl) (hw b rfl)
end Rw
end
section
namespace Rw
open PySem L2 IV Gn
variable {P:Pg}{h:Hd}
noncomputable def isFn:T->Bool
 |.fn _ _|.rcc _ _ _=>Wx
 |_=>Wy
noncomputable def Ar.keys:Ar->List Str
 |.nil=>[]
 |.cons x _ r=>x::r.keys
theorem Ar.get_some{x:Str}:∀{ar:Ar},x∈ar.keys->∃v,ar.get x=Wv v
 |.nil,h=>by simp[Ar.keys]at h
 |.cons y v r,h=>by
  by_cases e:y=x
  . exact⟨v,by simp[Ar.get,e]⟩
  . have:x∈r.keys:=by
     simp[Ar.keys]at h;rcases h with z|z
     . exact absurd z.symm e
     . exact z
    obtain⟨u,q⟩:=Ar.get_some this;exact⟨u,by simp[Ar.get,e,q]⟩
mutual
def Zb0:Th->Prop
 |.num n=>0<=n/\n<1000000
 |.clo E ar=>isFn E=Wx/\Cl ar.keys E/\ArOk ar
def ArOk:Ar->Prop
 |.nil=>True
 |.cons _ v r=>Zb0 v/\ArOk r
end
noncomputable def thing(E:T)(ar:Ar):Option Th:=match E with
 |.num n=>Wv (.num n)
 |.name x=>ar.get x
 |.fn x e=>Wv (.clo (.fn x e) ar)
 |.rcc f x e=>Wv (.clo (.rcc f x e) ar)
 |_=>Ww
noncomputable def step:Sta->Ans
 |.go E ar rest=>match E with
  |.call F A=>.quiet (.go F ar (.arg A ar::rest))
  |.iff C t e=>.quiet (.go C ar (.iff t e ar::rest))
  |.op w x y=>.quiet (.go x ar (.right w y ar::rest))
  |E=>match thing E ar with
   |some v=>.quiet (.back v rest)
   |none=>.stuck
 |.back V rest=>match rest with
  |[]=>.value
  |.arg A ar::r=>.quiet (.go A ar (.fn V::r))
  |.right w F ar::r=>.quiet (.go F ar (.left w V::r))
  |.fn W::r=>match W with
   |.clo (.fn x e) ar=>.loud (.go e (.cons x V ar) r)
   |.clo (.rcc f x e) ar=>.loud (.go e (.cons x V (.cons f (.clo (.rcc f x e) ar) ar)) r)
   |_=>.stuck
  |.iff t e ar::r=>match V with
   |.num z=>.loud (.go (if z=0 then e else t) ar r)
   |_=>.stuck
  |.left w W::r=>match W,V with
   |.num a,.num b=>.loud (.back (.num (wk w a b)) r)
   |_,_=>.stuck
theorem ZoF(H:Thg P)(n:Nat)(E:T)(ar:Ar)(v:Th)(e:thing E ar=Wv v):run P (n+2) (O "thing_of") [E.d,.tup ar.ds] h=.ok v.d h:=by
 rw[Zc H.thing_of (by cases E<;>rfl)];cases E with
 |num z=>cases e;exact rfl
 |name x=>have q:=Zg5 H n (h:=h) x ar;rw[show ar.get x=Wv v from e]at q;show Zh (xs2 (P.tbl (n+1)) Zct [Wv (T.name x).d,Wv (.tup ar.ds)] h)=_;rw[nx1 (U:=P.tbl (n+1)) (ss:=Zct) (ρ1:=[Wv (T.name x).d,Wv (.tup ar.ds)]) (h2:=h) rfl rfl];exact rt1 (U:=P.tbl (n+1)) (ss:=tlS Zct) (Z2 q rfl rfl) rfl
 |fn x b=>cases e;exact rfl
 |rcc f x b=>cases e;exact rfl
 |_=>cases e
theorem Zpr(w:Str):opC P.GD .In (.str w) (.tup [.str (O "num"),.str (O "name"),.str (O "fn"),.str (O "rec")]) h=.ok (.bl (Wz (w∈[O "num",O "name",O "fn",O "rec"]))) h:=Zcn (ss:=[O "num",O "name",O "fn",O "rec"])
theorem ZvK(d:D)(ds:List D)(hz:ds.length<=1000000):opB .Add (.tup [d]) (.tup ds) h=.ok (.tup (d::ds)) h:=Zc8 (by rw[YC];simp;omega)
end Rw
end
section
set_option maxHeartbeats 2000000
namespace Rw
open PySem L2 IV Gn
variable {P:Pg}{h:Hd}
def ZcI:Wt->Prop
 |.arg A ar=>Cl ar.keys A/\ArOk ar
 |.fn V=>Zb0 V
 |.iff t e ar=>Cl ar.keys t/\Cl ar.keys e/\ArOk ar
 |.right _ F ar=>Cl ar.keys F/\ArOk ar
 |.left _ V=>Zb0 V
def Zdh:Sta->Prop
 |.go E ar rest=>Cl ar.keys E/\ArOk ar/\∀w∈rest,ZcI w
 |.back V rest=>Zb0 V/\∀w∈rest,ZcI w
theorem ZmB(H:Thg P)(n:Nat)(E e:T)(ar:Ar)(he:E.parts=[e]):run P (n+2) (O "body_of") [(Th.clo E ar).d] h=.ok e.d h:=by rw[Zc H.body_of rfl];have q:=Zg0 H.toTre n E h;rw[he]at q;exact rt1 (U:=P.tbl (n+1)) (ss:=ZgL) (S:=[Wv (Th.clo E ar).d]) (Z2 q rfl rfl) rfl
theorem Zgu(H:Thg P)(n:Nat)(E e:T)(ar ar':Ar)(V:Th)(hz:ar.len<=1000000)(he:(∃x,E=.fn x e/\ar'=.cons x V ar)\/∃f x,E=.rcc f x e/\ar'=.cons x V (.cons f (.clo E ar) ar)):run P (n+1) (O "entered") [(Th.clo E ar).d,V.d] h=.ok (.tup ar'.ds) h:=by
 rw[Zc H.entered rfl];have hl:ar.ds.length<=1000000:=by rw[Ar.ds_len];exact hz
 rcases he with ⟨x,rfl,rfl⟩|⟨f,x,rfl,rfl⟩
 . exact rt1 (U:=P.tbl n) (ss:=Zck) (S:=[Wv (Th.clo (.fn x e) ar).d,Wv V.d]) ((Zw rfl).trans (Zf (ZV ((ZB (x:=.tup [.tup [.str x,V.d]]) (y:=.tup ar.ds) rfl rfl).trans (ZvK _ ar.ds hl))))) rfl
 . show Zh (xs2 (P.tbl n) Zck [Wv (Th.clo (.rcc f x e) ar).d,Wv V.d] h)=_;rw[nx1 (U:=P.tbl n) (ss:=Zck) (ρ1:=[Wv (Th.clo (.rcc f x e) ar).d,Wv V.d]) (h2:=h) rfl rfl];exact rt1 (U:=P.tbl n) (ss:=tlS Zck) (ZV ((ZB (x:=.tup [.tup [.str x,V.d],.tup [.str f,(Th.clo (.rcc f x e) ar).d]]) (y:=.tup ar.ds) rfl rfl).trans (Zc8 (by rw[YC];simp;omega)))) rfl
end Rw
end
section
namespace IV
open PySem L2
mutual
noncomputable def D.pure:D->Bool
 |.non|.bl _|.int _|.str _=>Wx
 |.tup xs=>D.pures xs
 |_=>Wy
noncomputable def D.pures:List D->Bool
 |[]=>Wx
 |x::xs=>D.pure x&&D.pures xs
end
mutual
noncomputable def D.dp:D->Nat
 |.tup xs=>D.dps xs+1
 |_=>0
noncomputable def D.dps:List D->Nat
 |[]=>0
 |x::xs=>max (D.dp x) (D.dps xs)
end
mutual
theorem Zg6{rd:Nat->Option PyData}:∀d:D,d.pure=Wx->∃p,D.py rd d=Wv p/\p.depth<=d.dp/\YQ p p=Wx
 |.non,_=>⟨.none,rfl,Oq _,rfl⟩
 |.bl b,_=>⟨.bool b,rfl,Oq _,by simp[YQ]⟩
 |.int b,_=>⟨.int b,rfl,Oq _,by simp[YQ]⟩
 |.str b,_=>⟨.str b,rfl,Oq _,by simp[YQ]⟩
 |.tup xs,h=>by
  obtain⟨ps,e1,e2,e3⟩:=pys_same (rd:=rd) xs (by simpa[D.pure]using h);refine⟨.tuple ps,by simp[D.py,e1],?_,?_⟩
  . simp only[PyData.depth,D.dp];omega
  . simpa[YQ]using e3
 |.ref _,h=>by cases h
 |.ty _,h=>by cases h
 |.ro _,h=>by cases h
 |.kd _,h=>by cases h
theorem pys_same{rd:Nat->Option PyData}:∀ds:List D,D.pures ds=Wx->∃ps,D.pys rd ds=Wv ps/\PyData.depthAll ps<=D.dps ds/\PyData.eqvAll ps ps=Wx
 |[],_=>⟨[],rfl,Oq _,by simp[PyData.eqvAll]⟩
 |x::xs,h=>by
  rw[D.pures,Oa]at h;obtain⟨p,a1,a2,a3⟩:=Zg6 (rd:=rd) x h.1;obtain⟨ps,b1,b2,b3⟩:=pys_same (rd:=rd) xs h.2;refine⟨p::ps,by simp[D.pys,a1,b1],?_,?_⟩
  . simp only[PyData.depthAll,D.dps];omega
  . simp[PyData.eqvAll,a3,b3]
end
theorem ZlA{n:Bool}{d:D}{h:Hd}(hp:d.pure=Wx)(hd:d.dp<=1100):ZbS n d d h=.ok (.bl (!n)) h:=by obtain⟨p,e1,e2,e3⟩:=Zg6 (rd:=ZeR h 4) d hp;unfold ZbS;rw[show ZeS h d=Wv p from e1];simp only;rw[if_pos (by omega),e3];cases n<;>rfl
end IV
end
section
namespace Rw
open PySem L2 IV Gn
theorem T.pure_d:∀t:T,t.d.pure=Wx
 |.num _=>rfl
 |.name _=>rfl
 |.fn _ e=>by simp[T.d,D.pure,D.pures,T.pure_d e]
 |.rcc _ _ e=>by simp[T.d,D.pure,D.pures,T.pure_d e]
 |.call f a=>by simp[T.d,D.pure,D.pures,T.pure_d f,T.pure_d a]
 |.iff c t e=>by simp[T.d,D.pure,D.pures,T.pure_d c,T.pure_d t,T.pure_d e]
 |.op _ f a=>by simp[T.d,D.pure,D.pures,T.pure_d f,T.pure_d a]
theorem T.dp_d:∀t:T,t.d.dp=dep t+1
 |.num _=>rfl
 |.name _=>rfl
 |.fn _ e=>by simp[T.d,D.dp,D.dps,T.dp_d e,dep]
 |.rcc _ _ e=>by simp[T.d,D.dp,D.dps,T.dp_d e,dep]
 |.call f a=>by simp[T.d,D.dp,D.dps,T.dp_d f,T.dp_d a,dep]
 |.iff c t e=>by simp[T.d,D.dp,D.dps,T.dp_d c,T.dp_d t,T.dp_d e,dep]
 |.op _ f a=>by simp[T.d,D.dp,D.dps,T.dp_d f,T.dp_d a,dep]
mutual
theorem Th.pure_d:∀v:Th,v.d.pure=Wx
 |.num _=>rfl
 |.clo E ar=>by simp[Th.d,D.pure,D.pures,T.pure_d,Ar.pure_d ar]
theorem Ar.pure_d:∀ar:Ar,D.pures ar.ds=Wx
 |.nil=>rfl
 |.cons x v r=>by simp[Ar.ds,D.pures,D.pure,Th.pure_d v,Ar.pure_d r]
end
theorem ZgO{x:Str}{v:Th}:∀{ar:Ar},ArOk ar->ar.get x=Wv v->Zb0 v
 |.nil,_,h=>by simp[Ar.get]at h
 |.cons y u r,a,h=>by
  by_cases e:y=x
  . simp[Ar.get,e]at h;subst h;exact a.1
  . simp[Ar.get,e]at h;exact ZgO a.2 h
theorem ZsH(w:Wd)(a b:Int):0<=wk w a b/\wk w a b<1000000:=by
 cases w<;>simp only[wk]
 . omega
 . omega
 . exact⟨Int.emod_nonneg _ (by decide),Int.emod_lt_of_pos _ (by decide)⟩
 . split<;>omega
theorem Zaf{α:Type}{p:α->Prop}{x:α}{xs:List α}(a:p x)(b:∀y∈xs,p y):∀y∈x::xs,p y:=by
 intro y hy;rcases O3.mp hy with rfl|hy
 . exact a
 . exact b y hy
end Rw
end
section
namespace Dm
open PySem L2 IV Gn Rw
noncomputable def ZhN:Sxs:=(.cons (.ret (.tupl (.cons (.tupl .nil) (.cons (.tupl .nil) (.cons (.tupl (.cons (.var 0) .nil)) (.cons (.tupl .nil) .nil)))))) .nil)
noncomputable def ZaF:Fd:=⟨[(O "E")],[(O "E")],ZhN⟩
noncomputable def ZiZ:Sxs:=(.cons (.iff (.nt (.ex (.var 1))) (.cons (.ret (.tupl (.cons (.cst (.str (O "value"))) .nil))) .nil) .nil) (.cons (.set (.nm 2) (.ix (.var 1) (.cst (.int 0)))) (.cons (.ret (.tupl (.cons (.cst (.str (O "quiet"))) (.cons (.tupl (.cons (.bin .Add (.ix (.var 2) (.cst (.int 0))) (.sl (.var 0) (Wv (.neg (.cst (.int 1)))) Ww)) (.cons (.ix (.var 2) (.cst (.int 1))) (.cons (.ix (.var 2) (.cst (.int 2))) (.cons (.sl (.var 1) (Wv (.cst (.int 1))) Ww) .nil))))) .nil)))) .nil)))
noncomputable def Za2:Fd:=⟨[(O "stack"),(O "dump")],[(O "stack"),(O "dump"),(O "below")],ZiZ⟩
noncomputable def Zgf:Sxs:=(.cons (.iff (.ex (.cmp .Eq (.ix (.var 0) (.cst (.int 0))) (.cst (.str (O "call"))))) (.cons (.ret (.tupl (.cons (.ix (.var 0) (.cst (.int 1))) (.cons (.ix (.var 0) (.cst (.int 2))) (.cons (.tupl (.cons (.cst (.str (O "apply"))) .nil)) .nil))))) .nil) .nil) (.cons (.iff (.ex (.cmp .Eq (.ix (.var 0) (.cst (.int 0))) (.cst (.str (O "if"))))) (.cons (.ret (.tupl (.cons (.ix (.var 0) (.cst (.int 1))) (.cons (.tupl (.cons (.cst (.str (O "choose"))) (.cons (.ix (.var 0) (.cst (.int 2))) (.cons (.ix (.var 0) (.cst (.int 3))) .nil)))) .nil)))) .nil) .nil) (.cons (.ret (.tupl (.cons (.ix (.var 0) (.cst (.int 1))) (.cons (.ix (.var 0) (.cst (.int 2))) (.cons (.tupl (.cons (.cst (.str (O "work"))) (.cons (.ix (.var 0) (.cst (.int 0))) .nil))) .nil))))) .nil)))
noncomputable def Zaa:Fd:=⟨[(O "E")],[(O "E")],Zgf⟩
noncomputable def Zgg:Sxs:=(.cons (.set (.nm 1) (.ix (.ix (.var 0) (.cst (.int 2))) (.cst (.int 0)))) (.cons (.set (.nm 2) (.sl (.ix (.var 0) (.cst (.int 2))) (Wv (.cst (.int 1))) Ww)) (.cons (.iff (.ex (.cmp .In (.ix (.var 1) (.cst (.int 0))) (.glo (O "AT_ONCE")))) (.cons (.ret (.tupl (.cons (.bin .Add (.ix (.var 0) (.cst (.int 0))) (.tupl (.cons (.call (O "thing_of") (.cons (.var 1) (.cons (.ix (.var 0) (.cst (.int 1))) .nil))) .nil))) (.cons (.ix (.var 0) (.cst (.int 1))) (.cons (.var 2) (.cons (.ix (.var 0) (.cst (.int 3))) .nil)))))) .nil) .nil) (.cons (.ret (.tupl (.cons (.ix (.var 0) (.cst (.int 0))) (.cons (.ix (.var 0) (.cst (.int 1))) (.cons (.bin .Add (.call (O "taken_apart") (.cons (.var 1) .nil)) (.var 2)) (.cons (.ix (.var 0) (.cst (.int 3))) .nil)))))) .nil))))
noncomputable def Zab:Fd:=⟨[(O "state")],[(O "state"),(O "E"),(O "todo")],Zgg⟩
noncomputable def Zet:Sxs:=(.cons (.set (.nm 4) (.ix (.var 0) (.neg (.cst (.int 2))))) (.cons (.iff (.ex (.cmp .Eq (.ix (.var 4) (.cst (.int 0))) (.cst (.str (O "num"))))) (.cons (.ret (.cst .non)) .nil) .nil) (.cons (.ret (.tupl (.cons (.tupl .nil) (.cons (.call (O "entered") (.cons (.var 4) (.cons (.ix (.var 0) (.neg (.cst (.int 1)))) .nil))) (.cons (.tupl (.cons (.call (O "body_of") (.cons (.var 4) .nil)) .nil)) (.cons (.bin .Add (.tupl (.cons (.tupl (.cons (.sl (.var 0) Ww (Wv (.neg (.cst (.int 2))))) (.cons (.var 1) (.cons (.var 2) .nil)))) .nil)) (.var 3)) .nil)))))) .nil)))
noncomputable def Zch:Fd:=⟨[(O "stack"),(O "around"),(O "todo"),(O "dump")],[(O "stack"),(O "around"),(O "todo"),(O "dump"),(O "W")],Zet⟩
noncomputable def Zes:Sxs:=(.cons (.set (.nm 5) (.call (O "chosen") (.cons (.ix (.var 1) (.neg (.cst (.int 1)))) (.cons (.ix (.var 0) (.cst (.int 1))) (.cons (.ix (.var 0) (.cst (.int 2))) .nil))))) (.cons (.iff (.ex (.cmp .Is (.var 5) (.cst .non))) (.cons (.ret (.cst .non)) .nil) .nil) (.cons (.ret (.tupl (.cons (.sl (.var 1) Ww (Wv (.neg (.cst (.int 1))))) (.cons (.var 2) (.cons (.bin .Add (.tupl (.cons (.var 5) .nil)) (.var 3)) (.cons (.var 4) .nil)))))) .nil)))
noncomputable def Zcd:Fd:=⟨[(O "order"),(O "stack"),(O "around"),(O "todo"),(O "dump")],[(O "order"),(O "stack"),(O "around"),(O "todo"),(O "dump"),(O "E")],Zes⟩
noncomputable def ZdH:Sxs:=(.cons (.set (.nm 5) (.call (O "worked") (.cons (.ix (.var 0) (.cst (.int 1))) (.cons (.ix (.var 1) (.neg (.cst (.int 2)))) (.cons (.ix (.var 1) (.neg (.cst (.int 1)))) .nil))))) (.cons (.iff (.ex (.cmp .Is (.var 5) (.cst .non))) (.cons (.ret (.cst .non)) .nil) .nil) (.cons (.ret (.tupl (.cons (.bin .Add (.sl (.var 1) Ww (Wv (.neg (.cst (.int 2))))) (.tupl (.cons (.var 5) .nil))) (.cons (.var 2) (.cons (.var 3) (.cons (.var 4) .nil)))))) .nil)))
noncomputable def Zbp:Fd:=⟨[(O "order"),(O "stack"),(O "around"),(O "todo"),(O "dump")],[(O "order"),(O "stack"),(O "around"),(O "todo"),(O "dump"),(O "N")],ZdH⟩
noncomputable def Zaw:Sxs:=(.cons (.iff (.ex (.cmp .Eq (.ix (.var 0) (.cst (.int 0))) (.cst (.str (O "apply"))))) (.cons (.set (.nm 5) (.call (O "applied") (.cons (.var 1) (.cons (.var 2) (.cons (.var 3) (.cons (.var 4) .nil)))))) .nil) (.cons (.iff (.ex (.cmp .Eq (.ix (.var 0) (.cst (.int 0))) (.cst (.str (O "choose"))))) (.cons (.set (.nm 5) (.call (O "gone_on") (.cons (.var 0) (.cons (.var 1) (.cons (.var 2) (.cons (.var 3) (.cons (.var 4) .nil))))))) .nil) (.cons (.set (.nm 5) (.call (O "reckoned") (.cons (.var 0) (.cons (.var 1) (.cons (.var 2) (.cons (.var 3) (.cons (.var 4) .nil))))))) .nil)) .nil)) (.cons (.ret (.call (O "loud_or_stuck") (.cons (.var 5) .nil))) .nil))
noncomputable def Za3:Fd:=⟨[(O "order"),(O "stack"),(O "around"),(O "todo"),(O "dump")],[(O "order"),(O "stack"),(O "around"),(O "todo"),(O "dump"),(O "state")],Zaw⟩
noncomputable def Zi1:Sxs:=(.cons (.set (.nm 1) (.ix (.var 0) (.cst (.int 2)))) (.cons (.iff (.nt (.ex (.var 1))) (.cons (.ret (.call (O "taken_off") (.cons (.ix (.var 0) (.cst (.int 0))) (.cons (.ix (.var 0) (.cst (.int 3))) .nil)))) .nil) .nil) (.cons (.iff (.ex (.cmp .In (.ix (.ix (.var 1) (.cst (.int 0))) (.cst (.int 0))) (.glo (O "ORDERS")))) (.cons (.ret (.call (O "loud_step") (.cons (.ix (.var 1) (.cst (.int 0))) (.cons (.ix (.var 0) (.cst (.int 0))) (.cons (.ix (.var 0) (.cst (.int 1))) (.cons (.sl (.var 1) (Wv (.cst (.int 1))) Ww) (.cons (.ix (.var 0) (.cst (.int 3))) .nil))))))) .nil) .nil) (.cons (.ret (.tupl (.cons (.cst (.str (O "quiet"))) (.cons (.call (O "quiet_state") (.cons (.var 0) .nil)) .nil)))) .nil))))
noncomputable def Za4:Fd:=⟨[(O "state")],[(O "state"),(O "todo")],Zi1⟩
noncomputable def ZhE:Sxs:=(.cons (.ret (.bin .Mult (.cst (.int 2)) (.blt .sum (.cons (.comp [(O "item")] [Ww] (.pl (.var 0)) (.nm 0) (Wv (.ex (.cmp .NotIn (.ix (.var 0) (.cst (.int 0))) (.glo (O "ORDERS"))))) (.blt .len (.cons (.call (O "places") (.cons (.var 0) .nil)) .nil))) .nil)))) .nil)
noncomputable def ZaC:Fd:=⟨[(O "todo")],[(O "todo")],ZhE⟩
noncomputable def Zi3:Sxs:=(.cons (.ret (.bin .Add (.call (O "measure_of") (.cons (.ix (.var 0) (.cst (.int 2))) .nil)) (.blt .sum (.cons (.comp [(O "level")] [Ww] (.pl (.ix (.var 0) (.cst (.int 3)))) (.nm 0) Ww (.bin .Add (.call (O "measure_of") (.cons (.ix (.var 0) (.cst (.int 2))) .nil)) (.cst (.int 1)))) .nil)))) .nil)
noncomputable def Za6:Fd:=⟨[(O "state")],[(O "state")],Zi3⟩
structure Dmp(P:Pg):Prop extends Thg P where
 dump_begun:P.tb.lookup (O "dump_begun")=Wv ZaF
 taken_off:P.tb.lookup (O "taken_off")=Wv Za2
 taken_apart:P.tb.lookup (O "taken_apart")=Wv Zaa
 quiet_state:P.tb.lookup (O "quiet_state")=Wv Zab
 applied:P.tb.lookup (O "applied")=Wv Zch
 gone_on:P.tb.lookup (O "gone_on")=Wv Zcd
 reckoned:P.tb.lookup (O "reckoned")=Wv Zbp
 loud_step:P.tb.lookup (O "loud_step")=Wv Za3
 dump_step:P.tb.lookup (O "dump_step")=Wv Za4
 orders:P.G (O "ORDERS")=Wv (.tup [.str (O "apply"),.str (O "work"),.str (O "choose")])
inductive It where
 |ex (E:T)|app|work (w:Wd)|cho (t e:T)
noncomputable def It.d:It->D
 |.ex E=>E.d
 |.app=>.tup [.str (O "apply")]
 |.work w=>.tup [.str (O "work"),.str w.s]
 |.cho t e=>.tup [.str (O "choose"),t.d,e.d]
noncomputable def sd(rs:List Th):List D:=(rs.map Th.d).reverse
theorem ZK(v:Th)(rs:List Th):sd (v::rs)=sd rs++[v.d]:=by simp[sd]
theorem Zjk(rs:List Th):(sd rs).length=rs.length:=by simp[sd]
structure Lv where
 st:List Th
 ar:Ar
 todo:List It
noncomputable def Lv.d(l:Lv):D:=.tup [.tup (sd l.st),.tup l.ar.ds,.tup (l.todo.map It.d)]
structure Sta where
 st:List Th
 ar:Ar
 todo:List It
 dump:List Lv
noncomputable def Sta.d(s:Sta):D:=.tup [.tup (sd s.st),.tup s.ar.ds,.tup (s.todo.map It.d),.tup (s.dump.map Lv.d)]
inductive Ans where
 |quiet (s:Sta)|loud (s:Sta)|value|stuck
noncomputable def Ans.d:Ans->D
 |.quiet s=>.tup [.str (O "quiet"),s.d]
 |.loud s=>.tup [.str (O "loud"),s.d]
 |.value=>.tup [.str (O "value")]
 |.stuck=>.tup [.str (O "stuck")]
noncomputable def apart:T->List It
 |.call F A=>[.ex F,.ex A,.app]
 |.iff C t e=>[.ex C,.cho t e]
 |.op w x y=>[.ex x,.ex y,.work w]
 |_=>[]
noncomputable def quiet(E:T)(st:List Th)(ar:Ar)(r:List It)(dump:List Lv):Sta:=match thing E ar with
 |some v=>⟨v::st,ar,r,dump⟩
 |none=>⟨st,ar,apart E++r,dump⟩
noncomputable def call(W V:Th)(st:List Th)(ar:Ar)(r:List It)(dump:List Lv):Ans:=match W with
 |.clo (.fn x e) ar'=>.loud ⟨[],.cons x V ar',[.ex e],⟨st,ar,r⟩::dump⟩
 |.clo (.rcc f x e) ar'=>.loud ⟨[],.cons x V (.cons f (.clo (.rcc f x e) ar') ar'),[.ex e],⟨st,ar,r⟩::dump⟩
 |_=>.stuck
noncomputable def choose(V:Th)(t e:T)(st:List Th)(ar:Ar)(r:List It)(dump:List Lv):Ans:=match V with
 |.num z=>.loud ⟨st,ar,.ex (if z=0 then e else t)::r,dump⟩
 |_=>.stuck
noncomputable def reckon(w:Wd)(W V:Th)(st:List Th)(ar:Ar)(r:List It)(dump:List Lv):Ans:=match W,V with
 |.num a,.num b=>.loud ⟨.num (wk w a b)::st,ar,r,dump⟩
 |_,_=>.stuck
noncomputable def step(s:Sta):Ans:=match s.todo with
 |[]=>match s.dump with
  |[]=>.value
  |l::r=>match s.st with
   |v::_=>.quiet ⟨v::l.st,l.ar,l.todo,r⟩
   |[]=>.stuck
 |.ex E::r=>.quiet (quiet E s.st s.ar r s.dump)
 |.app::r=>match s.st with
  |V::W::st=>call W V st s.ar r s.dump
  |_=>.stuck
 |.cho t e::r=>match s.st with
  |V::st=>choose V t e st s.ar r s.dump
  |_=>.stuck
 |.work w::r=>match s.st with
  |V::W::st=>reckon w W V st s.ar r s.dump
  |_=>.stuck
variable {P:Pg}{h:Hd}
theorem ZqE{xs:List D}{v:D}:atI (xs++[v]) (-1)=Wv v:=Zoa
theorem ZqD{xs:List D}{w v:D}:atI (xs++[w]++[v]) (-2)=Wv w:=by
 unfold atI ixN;rw[if_neg (by decide),if_pos (by simp;omega)];have:(-2+((xs++[w]++[v]).length:Int)).toNat=xs.length:=by simp;omega
 simp only[Yz,this];simp
theorem Zsm{xs:List D}{v:D}:cutD (xs++[v]) Ww (Wv (-1))=xs:=by simp[cutD,HT.sIx,show(-1+((xs.length:Int)+1)).toNat=xs.length by omega]
theorem ZnT{xs:List D}{w v:D}:cutD (xs++[w]++[v]) Ww (Wv (-2))=xs:=by simp[cutD,HT.sIx,show(-2+((xs.length:Int)+2)).toNat=xs.length by omega]
theorem Zsn{xs:List D}{v:D}:cutD (xs++[v]) (Wv (-1)) Ww=[v]:=by simp[cutD,HT.sIx,show(-1+((xs.length:Int)+1)).toNat=xs.length by omega]
theorem Zje{E:T}{ar:Ar}(hc:Cl ar.keys E)(e:thing E ar=Ww):(∃F A,E=.call F A)\/(∃C t f,E=.iff C t f)\/∃w x y,E=.op w x y:=by
 cases E with
 |call F A=>exact .inl ⟨F,A,rfl⟩
 |iff C t f=>exact .inr (.inl ⟨C,t,f,rfl⟩)
 |op w x y=>exact .inr (.inr ⟨w,x,y,rfl⟩)
 |name x=>obtain⟨v,q⟩:=Ar.get_some (show x∈ar.keys from hc);rw[show thing (.name x) ar=Wv v from q]at e;cases e
 |_=>cases e
theorem Zl0(E:T):(apart E).length<=3:=by cases E<;>simp[apart]
end Dm
end
section
namespace Dm
open PySem L2 IV Gn Rw
variable {P:Pg}{h:Hd}
theorem cat{xs ys:List D}(hz:xs.length+ys.length<=1000000):opB .Add (.tup xs) (.tup ys) h=.ok (.tup (xs++ys)) h:=Zc8 (by rw[YC];omega)
theorem Zgx(w:Str):opC P.GD .In (.str w) (.tup [.str (O "apply"),.str (O "work"),.str (O "choose")]) h=.ok (.bl (Wz (w∈[O "apply",O "work",O "choose"]))) h:=Zcn (ss:=[O "apply",O "work",O "choose"])
theorem Zju(w:Str):opC P.GD .NotIn (.str w) (.tup [.str (O "apply"),.str (O "work"),.str (O "choose")]) h=.ok (.bl (!Wz (w∈[O "apply",O "work",O "choose"]))) h:=ZeT (ss:=[O "apply",O "work",O "choose"])
noncomputable def off(v:Th):List Lv->Ans
 |[]=>.value
 |l::r=>.quiet ⟨v::l.st,l.ar,l.todo,r⟩
section
variable {U:Tb}{S:Ev}{h1:Hd}
theorem Zgd{c:Tx}{e:Ex}{b r:Sxs}(t:tst U c S h=.ok Wx h):Zh (xs2 U (.cons (.iff c (.cons (.ret e) .nil) b) r) S h)=ev U e S h:=by rw[xs2,Zw t,xs2,Ze0];cases ev U e S h<;>rfl
theorem ZeW{c:Tx}{a r:Sxs}(t:tst U c S h=.ok Wy h):Zh (xs2 U (.cons (.iff c a .nil) r) S h)=Zh (xs2 U r S h):=by rw[xs2,Zx t];rfl
theorem Zhp{e:Ex}{r:Sxs}:Zh (xs2 U (.cons (.ret e) r) S h)=ev U e S h:=by rw[xs2,Ze0];cases ev U e S h<;>rfl
theorem le1{n:Nat}(e:Nat.ble n 1000=Wx):n<=1000:=Nat.le_of_ble_eq_true e
theorem Zq2{a:Ex}{x:D}{xs:List D}(p:ev U a S h=.ok (.tup (x::xs)) h1):ev U (.sl a (Wv (.cst (.int 1))) Ww) S h=.ok (.tup xs) h1:=by rw[ZnI,p];simp
theorem Znt{GD:Str->Option (List (Key×D))}{x:D}{xs:List D}:Z8 GD (.tup (x::xs)) (.int 0) h=.ok x h:=by simp
theorem Zq5{a:Ex}{xs:List D}{k:Int}(p:ev U a S h=.ok (.tup xs) h1):ev U (.sl a Ww (Wv (.neg (.cst (.int k))))) S h=.ok (.tup (cutD xs Ww (Wv (-k)))) h1:=by rw[ZnI,p];rfl
end
theorem Ztg(H:Dmp P)(n:Nat)(v:Th)(st:List Th)(dump:List Lv)(hz:∀l∈dump,l.st.length<=1000):run P (n+1) (O "taken_off") [.tup (sd (v::st)),.tup (dump.map Lv.d)] h=.ok (off v dump).d h:=by
 rw[Zc H.taken_off (by rfl)];cases dump with
 |nil=>exact(Zgd (U:=P.tbl n) rfl).trans rfl
 |cons l r=>
  have c1:opB .Add (.tup (sd l.st)) (.tup [v.d]) h=.ok (.tup (sd (v::l.st))) h:=by rw[ZK];exact cat (by rw[Zjk];have:=hz l (.head _);simp;omega)
  have sl:ev (P.tbl n) (.sl (.var 0) (Wv (.neg (.cst (.int 1)))) Ww) [Wv (.tup (sd (v::st))),Wv (.tup ((l::r).map Lv.d)),Wv l.d] h=.ok (.tup [v.d]) h:=by show R.ok (D.tup (cutD (sd (v::st)) (Wv (-1)) Ww)) h=_;rw[ZK,Zsn]
  exact(ZeW (U:=P.tbl n) rfl).trans ((congrArg Zh (Zb (Zn (d:=l.d) ((ZA (x:=.tup (l.d::r.map Lv.d)) rfl rfl).trans Znt)))).trans (Zhp.trans (ZaN (Za rfl (Za (ZaN (Za ((ZB rfl sl).trans c1) (Za rfl (Za rfl (Za (Zq2 rfl) rfl)))) (le1 rfl)) rfl)) (le1 rfl))))
theorem ZoO(H:Dmp P)(n:Nat)(E:T)(ar:Ar)(hc:Cl ar.keys E)(e:thing E ar=Ww):run P (n+1) (O "taken_apart") [E.d] h=.ok (.tup ((apart E).map It.d)) h:=by
 rw[Zc H.taken_apart (by rfl)];rcases Zje hc e with ⟨F,A,rfl⟩|⟨C,t,f,rfl⟩|⟨w,x,y,rfl⟩
 . exact(Zgd (U:=P.tbl n) (Zr (Zbx rfl rfl) (by decide))).trans rfl
 . exact(ZeW (U:=P.tbl n) (Zr (Zbx rfl rfl) (by decide))).trans ((Zgd (Zr (Zbx rfl rfl) (by decide))).trans rfl)
 . exact(ZeW (U:=P.tbl n) (Zr (Zbx (x:=w.s) rfl rfl) (by cases w<;>decide))).trans ((ZeW (Zr (Zbx (x:=w.s) rfl rfl) (by cases w<;>decide))).trans (Zhp.trans rfl))
noncomputable def hd:T->Str
 |.num _=>O "num"
 |.name _=>O "name"
 |.fn _ _=>O "fn"
 |.rcc _ _ _=>O "rec"
 |.call _ _=>O "call"
 |.iff _ _ _=>O "if"
 |.op w _ _=>w.s
noncomputable def tl:T->List D
 |.num n=>[.int n]
 |.name x=>[.str x]
 |.fn x e=>[.str x,e.d]
 |.rcc f x e=>[.str f,.str x,e.d]
 |.call f a=>[f.d,a.d]
 |.iff c t e=>[c.d,t.d,e.d]
 |.op _ a b=>[a.d,b.d]
theorem ZpY(E:T):E.d=.tup (.str (hd E)::tl E):=by cases E<;>rfl
theorem Zps{E:T}{ar:Ar}(hc:Cl ar.keys E):Wz (hd E∈[O "num",O "name",O "fn",O "rec"])=(thing E ar).isSome:=by
 cases E with
 |name x=>obtain⟨v,q⟩:=Ar.get_some (show x∈ar.keys from hc);rw[show thing (.name x) ar=Wv v from q];rfl
 |op w a b=>cases w<;>rfl
 |_=>rfl
theorem Zei(E:T):Wz (hd E∈[O "apply",O "work",O "choose"])=Wy:=by
 cases E with
 |op w a b=>cases w<;>rfl
 |_=>rfl
theorem Zm6(H:Dmp P)(n:Nat){E:T}{ar:Ar}(hc:Cl ar.keys E){e:Ex}{S:Ev}(p:ev (P.tbl n) e S h=.ok E.d h):tst (P.tbl n) (.ex (.cmp .In (.ix e (.cst (.int 0))) (.glo (O "AT_ONCE")))) S h=.ok (thing E ar).isSome h:=by
 have oi:=Zpr (P:=P) (h:=h) (hd E);rw[Zps hc]at oi;have eg:ev (P.tbl n) (.glo (O "AT_ONCE")) S h=.ok (.tup [.str (O "num"),.str (O "name"),.str (O "fn"),.str (O "rec")]) h:=by show R.ofO (P.G (O "AT_ONCE")) h=_;rw[H.once];exact rfl
 exact ZcU ((ZD (x:=.str (hd E)) ((ZA p rfl).trans (by rw[ZpY];simp)) eg).trans oi)
theorem ZoH(H:Dmp P)(n:Nat)(E:T)(st:List Th)(ar:Ar)(r:List It)(dump:List Lv)(hc:Cl ar.keys E)(h1:st.length<=1000)(h2:r.length<=1000):run P (n+3) (O "quiet_state") [Sta.d ⟨st,ar,.ex E::r,dump⟩] h=.ok (quiet E st ar r dump).d h:=by
 rw[Zc H.quiet_state (by rfl)];refine(congrArg Zh ((Zb (Zn (U:=P.tbl (n+2)) (h1:=h) (d:=E.d) ((ZA (x:=.tup (E.d::r.map It.d)) rfl rfl).trans Znt))).trans (Zb (Zn (U:=P.tbl (n+2)) (d:=.tup (r.map It.d)) (Zq2 (x:=E.d) rfl))))).trans ?_;cases e:thing E ar with
 |some v=>have c1:opB .Add (.tup (sd st)) (.tup [v.d]) h=.ok (.tup (sd st++[v.d])) h:=cat (by rw[Zjk];simp;omega);rw[show quiet E st ar r dump=⟨v::st,ar,r,dump⟩ by unfold quiet;rw[e]];refine(Zgd (Zr (Zm6 H (n+2) hc rfl) (by rw[e];rfl))).trans ?_;exact(ZaN (Za ((ZB rfl (ZaN (Za (Zj (ZoF H.toThg n (h:=h) E ar v e) rfl) rfl) (le1 rfl))).trans c1) (Za rfl (Za rfl (Za rfl rfl)))) (le1 rfl)).trans (by rw[<- ZK];rfl)
 |none=>have c2:=cat (h:=h) (xs:=(apart E).map It.d) (ys:=r.map It.d) (by have:=Zl0 E;simp;omega);rw[show quiet E st ar r dump=⟨st,ar,apart E++r,dump⟩ by unfold quiet;rw[e]];refine(ZeW (Zr (Zm6 H (n+2) hc rfl) (by rw[e];rfl))).trans (Zhp.trans ?_);exact(ZaN (Za rfl (Za rfl (Za ((ZB (Zj (ZoO H (n+1) (h:=h) E ar hc e) rfl) rfl).trans c2) (Za rfl rfl)))) (le1 rfl)).trans (by rw[<- List.map_append];rfl)
theorem los(H:Dmp P)(n:Nat)(s:Sta):run P (n+1) (O "loud_or_stuck") [s.d] h=.ok (Ans.loud s).d h:=by rw[Zc H.loud_or_stuck (by rfl)];exact(ZeW (U:=P.tbl n) (Znv rfl (λz=>by cases z))).trans (Zhp.trans rfl)
theorem ZpC(H:Dmp P)(n:Nat):run P (n+1) (O "loud_or_stuck") [.non] h=.ok Ans.stuck.d h:=by rw[Zc H.loud_or_stuck (by rfl)];exact(Zgd (U:=P.tbl n) (ZlP rfl)).trans rfl
noncomputable def v5(i:It)(st:List Th)(ar:Ar)(r:List It)(dump:List Lv)(o:Option D):Ev:=[Wv i.d,Wv (.tup (sd st)),Wv (.tup ar.ds),Wv (.tup (r.map It.d)),Wv (.tup (dump.map Lv.d)),o]
theorem ZjE{n:Nat}{i:It}{st:List Th}{ar:Ar}{r:List It}{dump:List Lv}{x:D}{a:Ans}(p:xs1 (P.tbl n) (hdS Zaw) (v5 i st ar r dump Ww) h=.ok (.nx,v5 i st ar r dump (Wv x)) h)(q:run P n (O "loud_or_stuck") [x] h=.ok a.d h):Zh (xs2 (P.tbl n) Zaw (v5 i st ar r dump Ww) h)=.ok a.d h:=(congrArg Zh (nx1 p rfl)).trans (Zhp.trans (Zj q rfl))
theorem Ztk(H:Dmp P)(n:Nat)(W V:Th)(st:List Th)(ar:Ar)(r:List It)(dump:List Lv)(okW:Zb0 W)(hW:∀E ar,W=.clo E ar->ar.len<=1000000)(hd:dump.length<=1000):run P (n+4) (O "loud_step") [It.app.d,.tup (sd (V::W::st)),.tup ar.ds,.tup (r.map It.d),.tup (dump.map Lv.d)] h=.ok (call W V st ar r dump).d h:=by
 rw[Zc H.loud_step (by rfl)];have ap:∀(s:D) (a:Ans),run P (n+3) (O "applied") [.tup (sd (V::W::st)),.tup ar.ds,.tup (r.map It.d),.tup (dump.map Lv.d)] h=.ok s h->run P (n+3) (O "loud_or_stuck") [s] h=.ok a.d h->Zh (xs2 (P.tbl (n+3)) Zaw (v5 .app (V::W::st) ar r dump Ww) h)=.ok a.d h:=λs a e1 e2=>ZjE ((Zw (Zr (Zbx rfl rfl) (by decide))).trans ((Zb (Zn (Zj e1 rfl))).trans rfl)) e2
 have a2:∀S:Ev,(S[0]?).join=Wv (.tup (sd (V::W::st)))->ev (P.tbl (n+2)) (.ix (.var 0) (.neg (.cst (.int 2)))) S h=.ok W.d h:=λS e=>by refine(ZA (x:=.tup (sd (V::W::st))) (by rw[Zep,e];rfl) rfl).trans ?_;rw[ZK,ZK];show R.ofO (atI (sd st++[W.d]++[V.d]) (-2)) h=_;rw[ZqD];rfl
 have a1:∀S:Ev,(S[0]?).join=Wv (.tup (sd (V::W::st)))->ev (P.tbl (n+2)) (.ix (.var 0) (.neg (.cst (.int 1)))) S h=.ok V.d h:=λS e=>by refine(ZA (x:=.tup (sd (V::W::st))) (by rw[Zep,e];rfl) rfl).trans ?_;rw[ZK];show R.ofO (atI (sd (W::st)++[V.d]) (-1)) h=_;rw[ZqE];rfl
 have a3:cutD (sd (V::W::st)) Ww (Wv (-2))=sd st:=by rw[ZK,ZK,ZnT]
 have cd:∀x:D,opB .Add (.tup [x]) (.tup (dump.map Lv.d)) h=.ok (.tup (x::dump.map Lv.d)) h:=λx=>cat (by simp;omega);have x1:xs2 (P.tbl (n+2)) Zet [Wv (.tup (sd (V::W::st))),Wv (.tup ar.ds),Wv (.tup (r.map It.d)),Wv (.tup (dump.map Lv.d)),Ww] h=xs2 (P.tbl (n+2)) (tlS Zet) [Wv (.tup (sd (V::W::st))),Wv (.tup ar.ds),Wv (.tup (r.map It.d)),Wv (.tup (dump.map Lv.d)),Wv W.d] h:=nx1 (Zn (a2 _ rfl)) rfl;have go:∀(E e:T) (ar' ar2:Ar),W=.clo E ar'->run P (n+2) (O "body_of") [W.d] h=.ok e.d h->run P (n+2) (O "entered") [W.d,V.d] h=.ok (.tup ar2.ds) h->run P (n+3) (O "applied") [.tup (sd (V::W::st)),.tup ar.ds,.tup (r.map It.d),.tup (dump.map Lv.d)] h=.ok (Sta.d ⟨[],ar2,[.ex e],⟨st,ar,r⟩::dump⟩) h:=λE e ar' ar2 eW q1 q2=>by rw[Zc H.applied (by rfl)];refine(congrArg Zh x1).trans ((ZeW (Zr (Zbx (x:=O "clo") (by rw[eW];rfl) rfl) (by decide))).trans (Zhp.trans ?_));exact ZaN (Za rfl (Za (Zj q2 (Za rfl (Za (a1 _ rfl) rfl))) (Za (ZaN (Za (Zj q1 rfl) rfl) (le1 rfl)) (Za ((ZB (ZaN (Za (ZaN (Za ((Zq5 rfl).trans (by rw[show -(2:Int)=-2 from rfl,a3])) (Za rfl (Za rfl rfl))) (le1 rfl)) rfl) (le1 rfl)) rfl).trans (cd _)) rfl)))) (le1 rfl)
 cases W with
 |num z=>refine ap .non .stuck ?_ (ZpC H (n+2));rw[Zc H.applied (by rfl)];exact(congrArg Zh x1).trans ((Zgd (Zr (Zbx (x:=O "num") rfl rfl) (by decide))).trans rfl)
 |clo E ar'=>
  have hl:ar'.len<=1000000:=hW E ar' rfl;cases E with
  |fn x e=>exact ap _ (.loud _) (go _ e ar' (.cons x V ar') rfl (ZmB H.toThg n (h:=h) (.fn x e) e ar' rfl) (Zgu H.toThg (n+1) (h:=h) (.fn x e) e ar' (.cons x V ar') V hl (.inl ⟨x,rfl,rfl⟩))) (los H (n+2) _)
  |rcc f x e=>exact ap _ (.loud _) (go _ e ar' (.cons x V (.cons f (.clo (.rcc f x e) ar') ar')) rfl (ZmB H.toThg n (h:=h) (.rcc f x e) e ar' rfl) (Zgu H.toThg (n+1) (h:=h) (.rcc f x e) e ar' (.cons x V (.cons f (.clo (.rcc f x e) ar') ar')) V hl (.inr ⟨f,x,rfl,rfl⟩))) (los H (n+2) _)
  |_=>exact absurd okW.1 (by simp[isFn])
theorem ZuO(t:T):t.d≠.non:=λz=>by cases t<;>cases z
theorem Zs9{n:Nat}{i:It}{V:Th}{st:List Th}{ar:Ar}{r:List It}{dump:List Lv}{o:Option D}:ev (P.tbl n) (.ix (.var 1) (.neg (.cst (.int 1)))) (v5 i (V::st) ar r dump o) h=.ok V.d h:=by refine(ZA (x:=.tup (sd (V::st))) (y:=.int (-1)) rfl rfl).trans ?_;rw[ZK];show R.ofO (atI (sd st++[V.d]) (-1)) h=_;rw[ZqE];rfl
theorem Ztj(H:Dmp P)(n:Nat)(V:Th)(t e:T)(st:List Th)(ar:Ar)(r:List It)(dump:List Lv)(h2:r.length<=1000):run P (n+3) (O "loud_step") [(It.cho t e).d,.tup (sd (V::st)),.tup ar.ds,.tup (r.map It.d),.tup (dump.map Lv.d)] h=.ok (choose V t e st ar r dump).d h:=by
 rw[Zc H.loud_step (by rfl)];have ap:∀(s:D) (a:Ans),run P (n+2) (O "gone_on") [(It.cho t e).d,.tup (sd (V::st)),.tup ar.ds,.tup (r.map It.d),.tup (dump.map Lv.d)] h=.ok s h->run P (n+2) (O "loud_or_stuck") [s] h=.ok a.d h->Zh (xs2 (P.tbl (n+2)) Zaw (v5 (.cho t e) (V::st) ar r dump Ww) h)=.ok a.d h:=λs a e1 e2=>ZjE ((Zx (Zr (Zbx rfl rfl) (by decide))).trans ((Zb ((Zw (Zr (Zbx rfl rfl) (by decide))).trans ((Zb (Zn (Zj e1 rfl))).trans rfl))).trans rfl)) e2
 have x1:∀c:D,run P (n+1) (O "chosen") [V.d,t.d,e.d] h=.ok c h->xs2 (P.tbl (n+1)) Zes (v5 (.cho t e) (V::st) ar r dump Ww) h=xs2 (P.tbl (n+1)) (tlS Zes) (v5 (.cho t e) (V::st) ar r dump (Wv c)) h:=λc q=>nx1 (Zn (Zj q (Za Zs9 rfl))) rfl;have q:=ZmA H.toThg n (h:=h) V t.d e.d;cases V with
 |num z=>
  have q:run P (n+1) (O "chosen") [(Th.num z).d,t.d,e.d] h=.ok (if z=0 then e else t).d h:=q.trans (by show R.ok (if z=0 then e.d else t.d) h=_;split<;>rfl);have cd:opB .Add (.tup [(if z=0 then e else t).d]) (.tup (r.map It.d)) h=.ok (.tup ((if z=0 then e else t).d::r.map It.d)) h:=cat (by simp;omega);have a3:cutD (sd (Th.num z::st)) Ww (Wv (-1))=sd st:=by rw[ZK,Zsm]
  show _=R.ok (Ans.loud ⟨st,ar,.ex (if z=0 then e else t)::r,dump⟩).d h;generalize (if z=0 then e else t)=y at q cd;refine ap (Sta.d ⟨st,ar,.ex y::r,dump⟩) (.loud _) ?_ (los H (n+1) _);rw[Zc H.gone_on (by rfl)];exact(congrArg Zh (x1 _ q)).trans ((ZeW (Znv rfl (ZuO y))).trans (Zhp.trans (ZaN (Za ((Zq5 rfl).trans (by rw[show -(1:Int)=-1 from rfl,a3])) (Za rfl (Za ((ZB (ZaN (Za rfl rfl) (le1 rfl)) rfl).trans cd) (Za rfl rfl)))) (le1 rfl))))
 |clo E ar2=>refine ap .non .stuck ?_ (ZpC H (n+1));rw[Zc H.gone_on (by rfl)];exact(congrArg Zh (x1 _ q)).trans ((Zgd (ZlP rfl)).trans rfl)
theorem Zq8(H:Dmp P)(n:Nat)(w:Wd)(W V:Th)(st:List Th)(ar:Ar)(r:List It)(dump:List Lv)(okW:Zb0 W)(okV:Zb0 V)(h2:st.length<=1000):run P (n+3) (O "loud_step") [(It.work w).d,.tup (sd (V::W::st)),.tup ar.ds,.tup (r.map It.d),.tup (dump.map Lv.d)] h=.ok (reckon w W V st ar r dump).d h:=by
 rw[Zc H.loud_step (by rfl)];have ap:∀(s:D) (a:Ans),run P (n+2) (O "reckoned") [(It.work w).d,.tup (sd (V::W::st)),.tup ar.ds,.tup (r.map It.d),.tup (dump.map Lv.d)] h=.ok s h->run P (n+2) (O "loud_or_stuck") [s] h=.ok a.d h->Zh (xs2 (P.tbl (n+2)) Zaw (v5 (.work w) (V::W::st) ar r dump Ww) h)=.ok a.d h:=λs a e1 e2=>ZjE ((Zx (Zr (Zbx rfl rfl) (by decide))).trans ((Zb ((Zx (Zr (Zbx rfl rfl) (by decide))).trans ((Zb (Zn (Zj e1 rfl))).trans rfl))).trans rfl)) e2
 have a2:ev (P.tbl (n+1)) (.ix (.var 1) (.neg (.cst (.int 2)))) (v5 (.work w) (V::W::st) ar r dump Ww) h=.ok W.d h:=by refine(ZA (x:=.tup (sd (V::W::st))) (y:=.int (-2)) rfl rfl).trans ?_;rw[ZK,ZK];show R.ofO (atI (sd st++[W.d]++[V.d]) (-2)) h=_;rw[ZqD];rfl
 have a3:cutD (sd (V::W::st)) Ww (Wv (-2))=sd st:=by rw[ZK,ZK,ZnT]
 have q:=Zmu H.toThg n (h:=h) w W V (λz e=>by subst e;exact okW) (λz e=>by subst e;exact okV);have x1:xs2 (P.tbl (n+1)) ZdH (v5 (.work w) (V::W::st) ar r dump Ww) h=xs2 (P.tbl (n+1)) (tlS ZdH) (v5 (.work w) (V::W::st) ar r dump (Wv (wkD w W V))) h:=nx1 (Zn (Zj q (Za rfl (Za a2 (Za Zs9 rfl))))) rfl;have stuck:wkD w W V=.non->run P (n+2) (O "reckoned") [(It.work w).d,.tup (sd (V::W::st)),.tup ar.ds,.tup (r.map It.d),.tup (dump.map Lv.d)] h=.ok .non h:=λe1=>by rw[Zc H.reckoned (by rfl)];rw[e1]at x1;exact(congrArg Zh x1).trans ((Zgd (ZlP rfl)).trans rfl)
 cases W with
 |clo E ar=>exact ap .non .stuck (stuck rfl) (ZpC H (n+1))
 |num x=>
  cases V with
  |clo E ar=>exact ap .non .stuck (stuck rfl) (ZpC H (n+1))
  |num y=>
   have cd:opB .Add (.tup (sd st)) (.tup [(Th.num (wk w x y)).d]) h=.ok (.tup (sd (.num (wk w x y)::st))) h:=by rw[ZK];exact cat (by rw[Zjk];simp;omega)
   refine ap (Sta.d ⟨.num (wk w x y)::st,ar,r,dump⟩) (.loud _) ?_ (los H (n+1) _);rw[Zc H.reckoned (by rfl)];exact(congrArg Zh x1).trans ((ZeW (Znv rfl (λz=>by cases z))).trans (Zhp.trans (ZaN (Za ((ZB ((Zq5 rfl).trans (by rw[show -(2:Int)=-2 from rfl,a3])) (ZaN (Za rfl rfl) (le1 rfl))).trans cd) (Za rfl (Za rfl (Za rfl rfl)))) (le1 rfl))))
end Dm
end
section
namespace Tm
open PySem L2 IV
noncomputable def Zah:Sxs:=(.cons (.iff (.ex (.cmp .NotIn (.ix (.var 0) (.cst (.int 0))) (.glo (O "FORMS")))) (.cons (.ret (.tupl .nil)) .nil) .nil) (.cons (.ret (.sl (.var 0) (Wv (.cst (.int 1))) (Wv (.bin .Add (.cst (.int 1)) (.ix (.ix (.glo (O "FORMS")) (.ix (.var 0) (.cst (.int 0)))) (.cst (.int 0))))))) .nil))
noncomputable def Zae:Fd:=⟨[(O "E")],[(O "E")],Zah⟩
noncomputable def ZbD:Sxs:=(.cons (.iff (.ex (.cmp .NotIn (.ix (.var 0) (.cst (.int 0))) (.glo (O "FORMS")))) (.cons (.ret (.var 0)) .nil) .nil) (.cons (.ret (.sl (.var 0) Ww (Wv (.bin .Add (.cst (.int 1)) (.ix (.ix (.glo (O "FORMS")) (.ix (.var 0) (.cst (.int 0)))) (.cst (.int 0))))))) .nil))
noncomputable def Zbu:Fd:=⟨[(O "E")],[(O "E")],ZbD⟩
noncomputable def Zag:Sxs:=(.cons (.iff (.ex (.cmp .NotIn (.ix (.var 0) (.cst (.int 0))) (.glo (O "FORMS")))) (.cons (.ret (.cst (.int 0))) .nil) .nil) (.cons (.ret (.ix (.ix (.glo (O "FORMS")) (.ix (.var 0) (.cst (.int 0)))) (.cst (.int 1)))) .nil))
noncomputable def Zad:Fd:=⟨[(O "front")],[(O "front")],Zag⟩
noncomputable def Zk1:Sxs:=(.cons (.set (.nm 1) (.lstl .nil)) (.cons (.forr (.nm 2) (.rev (.var 0)) (.cons (.set (.nm 3) (.comp [(O "k"),(O "done")] [Ww,Wv 1] (.rng (.call (O "count_parts") (.cons (.var 2) .nil))) (.nm 0) Ww (.meth .pop (.var 1) .nil))) (.cons (.drp (.meth .app (.var 1) (.cons (.bin .Add (.var 2) (.blt .tup (.cons (.var 3) .nil))) .nil))) .nil))) (.cons (.ret (.ix (.var 1) (.cst (.int 0)))) .nil)))
noncomputable def Zde:Fd:=⟨[(O "fronts")],[(O "fronts"),(O "done"),(O "front"),(O "parts")],Zk1⟩
noncomputable def Z1:Sxs:=(.cons (.forr (.two 2 3) (.pl (.var 1)) (.cons (.iff (.ex (.cmp .Eq (.var 2) (.var 0))) (.cons (.ret (.var 3)) .nil) .nil) .nil)) (.cons (.ret (.cst .non)) .nil))
noncomputable def Zap:Fd:=⟨[(O "name"),(O "around")],[(O "name"),(O "around"),(O "known"),(O "thing")],Z1⟩
noncomputable def Zn8:Sxs:=(.cons (.iff (.ex (.cmp .Eq (.ix (.var 0) (.cst (.int 0))) (.cst (.str (O "clo"))))) (.cons (.ret (.sl (.var 0) (Wv (.cst (.int 1))) Ww)) .nil) .nil) (.cons (.ret (.tupl (.cons (.var 0) (.cons (.tupl .nil) .nil)))) .nil))
noncomputable def ZcT:Fd:=⟨[(O "thing")],[(O "thing")],Zn8⟩
noncomputable def Zkd:Sxs:=(.cons (.iff (.ex (.cmp .NotEq (.ix (.var 0) (.cst (.int 0))) (.cst (.str (O "name"))))) (.cons (.ret (.cst .non)) .nil) .nil) (.cons (.ret (.call (O "bound_to") (.cons (.ix (.var 0) (.cst (.int 1))) (.cons (.var 1) .nil)))) .nil))
noncomputable def Zam:Fd:=⟨[(O "place"),(O "around")],[(O "place"),(O "around")],Zkd⟩
noncomputable def ZiY:Sxs:=(.cons (.ret (.bin .Add (.blt .tup (.cons (.comp [(O "name")] [Ww] (.pl (.call (O "bound_names") (.cons (.var 0) .nil))) (.nm 0) Ww (.tupl (.cons (.var 0) (.cons (.cst .non) .nil)))) .nil)) (.var 1))) .nil)
noncomputable def Zcc:Fd:=⟨[(O "place"),(O "around")],[(O "place"),(O "around")],ZiY⟩
noncomputable def Zc3:Sxs:=(.cons (.seta [(O "Pen")] (.var 0) (O "most") (.var 1)) (.cons (.seta [(O "Pen")] (.var 0) (O "used") (.cst (.int 0))) .nil))
noncomputable def ZQ:Fd:=⟨[(O "self"),(O "most")],[(O "self"),(O "most")],Zc3⟩
noncomputable def Zkc(x:Sx):Sxs:=(.cons (.iff (.ex (.cmp .Eq (.att [(O "Pen")] (.var 0) (O "used")) (.att [(O "Pen")] (.var 0) (O "most")))) (.cons x .nil) .nil) (.cons (.auga [(O "Pen")] (.var 0) (O "used") (.cst (.int 1))) .nil))
noncomputable def Zj2(x:Sx):Fd:=⟨[(O "self")],[(O "self")],Zkc x⟩
noncomputable def Zcy:Sxs:=(.cons (.set (.nm 3) (.lstl .nil)) (.cons (.set (.nm 4) (.lstl (.cons (.tupl (.cons (.var 1) (.cons (.var 2) .nil))) .nil))) (.cons (.whl (.ex (.var 4)) (.cons (.set (.nm 5) (.meth .pop (.var 4) .nil)) (.cons (.set (.nm 6) (.call (O "meant_by") (.cons (.ix (.var 5) (.cst (.int 0))) (.cons (.ix (.var 5) (.cst (.int 1))) .nil)))) (.cons (.iff (.ex (.cmp .Is (.var 6) (.cst .non))) (.cons (.drp (.mcl (O "Pen") (O "take_place") (.var 0) .nil)) (.cons (.drp (.meth .app (.var 3) (.cons (.call (O "front_of") (.cons (.ix (.var 5) (.cst (.int 0))) .nil)) .nil))) (.cons (.set (.nm 7) (.call (O "within") (.cons (.ix (.var 5) (.cst (.int 0))) (.cons (.ix (.var 5) (.cst (.int 1))) .nil)))) (.cons (.drp (.meth .ext (.var 4) (.cons (.comp [(O "part"),(O "inner")] [Ww,Wv 7] (.rev (.call (O "parts_of") (.cons (.ix (.var 5) (.cst (.int 0))) .nil))) (.nm 0) Ww (.tupl (.cons (.var 0) (.cons (.var 1) .nil)))) .nil))) .nil)))) (.cons (.drp (.meth .app (.var 4) (.cons (.call (O "opened") (.cons (.var 6) .nil)) .nil))) .nil)) .nil)))) (.cons (.ret (.call (O "built") (.cons (.var 3) .nil))) .nil))))
noncomputable def ZaH:Fd:=⟨[(O "self"),(O "E"),(O "around")],[(O "self"),(O "E"),(O "around"),(O "fronts"),(O "waiting"),(O "pair"),(O "thing"),(O "inner")],Zcy⟩
structure Trb(P:Pg):Prop extends Gn.Tre P where
 bound_names:P.tb.lookup (O "bound_names")=Wv Zae
 front_of:P.tb.lookup (O "front_of")=Wv Zbu
 count_parts:P.tb.lookup (O "count_parts")=Wv Zad
 built:P.tb.lookup (O "built")=Wv Zde
 bound_to:P.tb.lookup (O "bound_to")=Wv Zap
 opened:P.tb.lookup (O "opened")=Wv ZcT
 meant_by:P.tb.lookup (O "meant_by")=Wv Zam
 within:P.tb.lookup (O "within")=Wv Zcc
 n_Pen___init__:P.tb.lookup (mnm (O "Pen") (O "__init__"))=Ww
 Pen___init__:P.ms.lookup (mnm (O "Pen") (O "__init__"))=Wv ZQ
 n_Pen_take_place:P.tb.lookup (mnm (O "Pen") (O "take_place"))=Ww
 tk:∃x,P.ms.lookup (mnm (O "Pen") (O "take_place"))=Wv (Zj2 x)
 n_Pen_filled:P.tb.lookup (mnm (O "Pen") (O "filled"))=Ww
 Pen_filled:P.ms.lookup (mnm (O "Pen") (O "filled"))=Wv ZaH
end Tm
end
section
namespace Tm
open PySem L2 IV
variable {P:Pg}{h:Hd}
section
variable {w:Wd}
@[simp] theorem ZuM:(w.s=O "num")↔False:=by cases w<;>simp[Wd.s]
@[simp] theorem ZuB:(w.s=O "name")↔False:=by cases w<;>simp[Wd.s]
@[simp] theorem ZuC:(w.s=O "call")↔False:=by cases w<;>simp[Wd.s]
@[simp] theorem ZvU:(w.s=O "if")↔False:=by cases w<;>simp[Wd.s]
@[simp] theorem ZvV:(w.s=O "fn")↔False:=by cases w<;>simp[Wd.s]
@[simp] theorem ZuL:(w.s=O "rec")↔False:=by cases w<;>simp[Wd.s]
@[simp] theorem Zfd:Zay Gn.Zca (.inr w.s)=Wv (.tup [.int 0,.int 2]):=by cases w<;>rfl
end
noncomputable def bnd:T->List Str
 |.fn x _=>[x]
 |.rcc f x _=>[f,x]
 |_=>[]
noncomputable def fr:T->List D
 |.num n=>[.str (O "num"),.int n]
 |.name x=>[.str (O "name"),.str x]
 |.fn x _=>[.str (O "fn"),.str x]
 |.rcc f x _=>[.str (O "rec"),.str f,.str x]
 |.call _ _=>[.str (O "call")]
 |.iff _ _ _=>[.str (O "if")]
 |.op w _ _=>[.str w.s]
theorem ZvI(t:T):t.d=.tup (fr t++t.parts.map T.d):=by cases t<;>rfl
theorem Zg5(H:Trb P)(n:Nat)(t:T)(h:Hd):run P (n+1) (O "bound_names") [t.d] h=.ok (.tup ((bnd t).map .str)) h:=by
 have no:∀(w:Str) (ds:List D),Zay Gn.Zca (.inr w)=Ww->run P (n+1) (O "bound_names") [.tup (.str w::ds)] h=.ok (.tup []) h:=λw ds e=>by rw[Zc H.bound_names rfl];show Zh (xs2 (P.tbl n) Zah [Wv (.tup (.str w::ds))] h)=_;rw[Zah,Zf ((Zw (Gn.ZbI H.toTre ⟨rfl,rfl⟩ Gn.Zdt e)).trans (Zf (ZV (d:=.tup []) rfl)))];rfl
 have yes:∀(w:Str) (ds:List D) (a b:Int),Zay Gn.Zca (.inr w)=Wv (.tup [.int a,.int b])->run P (n+1) (O "bound_names") [.tup (.str w::ds)] h=.ok (.tup (cutD (.str w::ds) (Wv 1) (Wv (1+a)))) h:=λw ds a b e=>by rw[Zc H.bound_names rfl];show Zh (xs2 (P.tbl n) Zah [Wv (.tup (.str w::ds))] h)=_;have q:=Gn.Zj1 H.toTre (U:=P.tbl n) ⟨rfl,rfl⟩ (ds:=ds) (h:=h) e;have r:ev (P.tbl n) (.sl (.var 0) (Wv (.cst (.int 1))) (Wv (.bin .Add (.cst (.int 1)) (.ix (.ix (.glo (O "FORMS")) (.ix (.var 0) (.cst (.int 0)))) (.cst (.int 0)))))) [Wv (.tup (.str w::ds))] h=.ok (.tup (cutD (.str w::ds) (Wv 1) (Wv (1+a)))) h:=(Gn.Zmm (a:=.var 0) (x:=.tup (.str w::ds)) rfl rfl (Gn.Zhs q)).trans rfl;rw[Zah,Zb ((Zx (Gn.ZbI H.toTre ⟨rfl,rfl⟩ Gn.Zdt e)).trans rfl),Zf (ZV r)];rfl
 cases t with
 |num z=>exact no (O "num") _ rfl
 |name x=>exact no (O "name") _ rfl
 |fn x e=>exact yes (O "fn") _ 1 1 rfl
 |rcc f x e=>exact yes (O "rec") _ 2 1 rfl
 |call f a=>exact yes (O "call") _ 0 2 rfl
 |iff c a b=>exact yes (O "if") _ 0 3 rfl
 |op w a b=>exact yes w.s _ 0 2 Zfd
theorem ZiH(H:Trb P)(n:Nat)(h:Hd)(w:Str)(ds:List D)(e:Zay Gn.Zca (.inr w)=Ww):run P (n+1) (O "front_of") [.tup (.str w::ds)] h=.ok (.tup (.str w::ds)) h:=by rw[Zc H.front_of rfl];show Zh (xs2 (P.tbl n) ZbD [Wv (.tup (.str w::ds))] h)=_;rw[ZbD,Zf ((Zw (Gn.ZbI H.toTre ⟨rfl,rfl⟩ Gn.Zdt e)).trans (Zf (ZV (d:=.tup (.str w::ds)) rfl)))];rfl
theorem Zb9(H:Trb P)(n:Nat)(h:Hd)(w:Str)(ds:List D)(a b:Int)(e:Zay Gn.Zca (.inr w)=Wv (.tup [.int a,.int b])):run P (n+1) (O "front_of") [.tup (.str w::ds)] h=.ok (.tup (cutD (.str w::ds) Ww (Wv (1+a)))) h:=by rw[Zc H.front_of rfl];show Zh (xs2 (P.tbl n) ZbD [Wv (.tup (.str w::ds))] h)=_;have q:=Gn.Zj1 H.toTre (U:=P.tbl n) ⟨rfl,rfl⟩ (ds:=ds) (h:=h) e;have r:ev (P.tbl n) (.sl (.var 0) Ww (Wv (.bin .Add (.cst (.int 1)) (.ix (.ix (.glo (O "FORMS")) (.ix (.var 0) (.cst (.int 0)))) (.cst (.int 0)))))) [Wv (.tup (.str w::ds))] h=.ok (.tup (cutD (.str w::ds) Ww (Wv (1+a)))) h:=(Gn.Zmm (a:=.var 0) (x:=.tup (.str w::ds)) rfl rfl (Gn.Zhs q)).trans rfl;rw[ZbD,Zb ((Zx (Gn.ZbI H.toTre ⟨rfl,rfl⟩ Gn.Zdt e)).trans rfl),Zf (ZV r)];rfl
theorem ZoJ(H:Trb P)(n:Nat)(t:T)(h:Hd):run P (n+1) (O "front_of") [t.d] h=.ok (.tup (fr t)) h:=by
 cases t with
 |num z=>exact ZiH H n h (O "num") _ rfl
 |name x=>exact ZiH H n h (O "name") _ rfl
 |fn x e=>exact Zb9 H n h (O "fn") _ 1 1 rfl
 |rcc f x e=>exact Zb9 H n h (O "rec") _ 2 1 rfl
 |call f a=>exact Zb9 H n h (O "call") _ 0 2 rfl
 |iff c a b=>exact Zb9 H n h (O "if") _ 0 3 rfl
 |op w a b=>exact Zb9 H n h w.s _ 0 2 Zfd
theorem ZoM(H:Trb P)(n:Nat)(t:T)(h:Hd):run P (n+1) (O "count_parts") [.tup (fr t)] h=.ok (.int t.parts.length) h:=by
 have no:∀(w:Str) (ds:List D),Zay Gn.Zca (.inr w)=Ww->run P (n+1) (O "count_parts") [.tup (.str w::ds)] h=.ok (.int 0) h:=λw ds e=>by rw[Zc H.count_parts rfl];show Zh (xs2 (P.tbl n) Zag [Wv (.tup (.str w::ds))] h)=_;rw[Zag,Zf ((Zw (Gn.ZbI H.toTre ⟨rfl,rfl⟩ Gn.Zdt e)).trans (Zf (ZV (d:=.int 0) rfl)))];rfl
 have yes:∀(w:Str) (ds:List D) (a b:Int),Zay Gn.Zca (.inr w)=Wv (.tup [.int a,.int b])->run P (n+1) (O "count_parts") [.tup (.str w::ds)] h=.ok (.int b) h:=λw ds a b e=>by
  rw[Zc H.count_parts rfl];show Zh (xs2 (P.tbl n) Zag [Wv (.tup (.str w::ds))] h)=_;have r:ev (P.tbl n) (.ix (.ix (.glo (O "FORMS")) (.ix (.var 0) (.cst (.int 0)))) (.cst (.int 1))) [Wv (.tup (.str w::ds))] h=.ok (.int b) h:=by rw[ZiK,Gn.ZkT H.toTre ⟨rfl,rfl⟩ Gn.Zdt e];rfl
  rw[Zag,Zb ((Zx (Gn.ZbI H.toTre ⟨rfl,rfl⟩ Gn.Zdt e)).trans rfl),Zf (ZV r)];rfl
 cases t with
 |num z=>exact no (O "num") _ rfl
 |name x=>exact no (O "name") _ rfl
 |fn x e=>exact yes (O "fn") _ 1 1 rfl
 |rcc f x e=>exact yes (O "rec") _ 2 1 rfl
 |call f a=>exact yes (O "call") _ 0 2 rfl
 |iff c a b=>exact yes (O "if") _ 0 3 rfl
 |op w a b=>exact yes w.s _ 0 2 Zfd
noncomputable abbrev Ar:=List (Str×Option T)
noncomputable def get:Ar->Str->Option T
 |[],_=>Ww
 |(y,v)::r,x=>if y=x then v else get r x
noncomputable abbrev En:=List (Str×Option Rw.Th)
noncomputable def edd(p:Str×Option Rw.Th):D:=.tup [.str p.1,Rw.thD p.2]
noncomputable def ZdG:En->Str->Option Rw.Th
 |[],_=>Ww
 |(y,v)::r,x=>if y=x then v else ZdG r x
noncomputable def Znh:Sxs:=(.cons (.iff (.ex (.cmp .Eq (.var 2) (.var 0))) (.cons (.ret (.var 3)) .nil) .nil) .nil)
theorem Zt0{U:Tb}{x:Str}{o:D}:∀(ar:En) (a b:Option D),(∃S,ZP Ww (.two 2 3) (xs2 U Znh) (ar.map edd) [Wv (.str x),Wv o,a,b] h=.ok (.rt (Rw.thD (ZdG ar x)),S) h)\/(ZdG ar x=Ww/\∃S,ZP Ww (.two 2 3) (xs2 U Znh) (ar.map edd) [Wv (.str x),Wv o,a,b] h=.ok (.nx,S) h)
 |[],a,b=>.inr ⟨rfl,_,rfl⟩
 |(y,v)::r,a,b=>by
  have tt:tst U (.ex (.cmp .Eq (.var 2) (.var 0))) [Wv (.str x),Wv o,Wv (.str y),Wv (Rw.thD v)] h=.ok (Wz (y=x)) h:=Zbx rfl rfl;by_cases e:y=x
  . refine .inl ⟨[Wv (.str x),Wv o,Wv (.str y),Wv (Rw.thD v)],?_⟩;rw[ZdG,if_pos e];exact Zsb rfl (Zf ((Zw (Zr tt (decide_eq_true e))).trans (Zf (ZV rfl))))
  . have b1:xs2 U Znh [Wv (.str x),Wv o,Wv (.str y),Wv (Rw.thD v)] h=.ok (.nx,[Wv (.str x),Wv o,Wv (.str y),Wv (Rw.thD v)]) h:=(Zb ((Zx (Zr tt (decide_eq_false e))).trans rfl)).trans rfl;have s1:=Zen (g:=.two 2 3) (ds:=r.map edd) (S:=[Wv (.str x),Wv o,a,b]) (d:=edd (y,v)) rfl b1;rw[ZdG,if_neg e];rcases Zt0 (U:=U) (x:=x) (o:=o) r (Wv (.str y)) (Wv (Rw.thD v))with ⟨S,q⟩|⟨q0,S,q⟩
    . exact .inl ⟨S,s1.trans q⟩
    . exact .inr ⟨q0,S,s1.trans q⟩
theorem Zu9(H:Trb P)(n:Nat)(x:Str)(ar:En):run P (n+1) (O "bound_to") [.str x,.tup (ar.map edd)] h=.ok (Rw.thD (ZdG ar x)) h:=by
 rw[Zc H.bound_to (by rfl)];rcases Zt0 (U:=P.tbl n) (h:=h) (x:=x) (o:=.tup (ar.map edd)) ar Ww Ww with ⟨S,q⟩|⟨q0,S,q⟩
 . have w:xs2 (P.tbl n) Z1 [Wv (.str x),Wv (.tup (ar.map edd)),Ww,Ww] h=.ok (.rt (Rw.thD (ZdG ar x)),S) h:=Zf ((ZdE (ZdF rfl)).trans q);exact congrArg Zh w
 . have w:xs2 (P.tbl n) Z1 [Wv (.str x),Wv (.tup (ar.map edd)),Ww,Ww] h=.ok (.rt .non,S) h:=(Zb ((ZdE (ZdF rfl)).trans q)).trans (Zf (ZV rfl));rw[q0];exact congrArg Zh w
noncomputable def mean(ar:Ar):T->Option T
 |.name x=>get ar x
 |_=>Ww
noncomputable def Zcj(ar:En):T->Option Rw.Th
 |.name x=>ZdG ar x
 |_=>Ww
theorem Zg2(H:Trb P)(n:Nat)(t:T)(ar:En):run P (n+2) (O "meant_by") [t.d,.tup (ar.map edd)] h=.ok (Rw.thD (Zcj ar t)) h:=by
 rw[Zc H.meant_by (by cases t<;>rfl)];cases t with
 |name x=>exact Zn4 (U:=P.tbl (n+1)) (λU=>Zh (xs2 U Zam.body (Zq Zam.N [(T.name x).d,.tup (ar.map edd)]) h)) (Zu9 H n (h:=h) x ar) rfl rfl
 |op w a b=>cases w<;>exact rfl
 |_=>exact rfl
noncomputable def inn(t:T)(ar:Ar):Ar:=(bnd t).map (λx=>(x,Ww))++ar
noncomputable def ZbU(t:T)(ar:En):En:=(bnd t).map (λx=>(x,Ww))++ar
theorem ZiX{U:Tb}:∀(xs:List Str) (acc:List D),acc.length+xs.length<=1000->Zo Ww (.nm 0) (tsto U Ww) (ev U (.tupl (.cons (.var 0) (.cons (.cst .non) .nil)))) (xs.map .str) [Ww] acc h=.ok (acc++(xs.map λx=>D.tup [.str x,.non])) h
 |[],acc,_=>by simp[Zo,Wk.stays]
 |x::xs,acc,hz=>by
  have ih:=ZiX (U:=U) xs (acc++[.tup [.str x,.non]]) (by simp at hz ⊢;omega);have hl:acc.length<16777216:=by simp at hz;omega
  rw[Op,ZE];simp[Wk.stays,hl,YC];simpa using ih
theorem Zmv(H:Trb P)(n:Nat)(t:T)(ar:En)(hz:ar.length<=100000):run P (n+2) (O "within") [t.d,.tup (ar.map edd)] h=.ok (.tup ((ZbU t ar).map edd)) (h++[.lst ((bnd t).map λx=>.tup [.str x,.non])]):=by
 rw[Zc H.within (by cases t<;>rfl)];have e:=Zg5 H n t h;have hb:(bnd t).length<=2:=by cases t<;>simp[bnd]
 have c:=ZiX (U:=⟨P.G,P.GD,run P (n+1),P.L⟩) (h:=h) (bnd t) [] (by simp;omega);have cat:∀h',opB .Add (.tup ((bnd t).map λx=>D.tup [.str x,.non])) (.tup (ar.map edd)) h'=.ok (.tup ((ZbU t ar).map edd)) h':=by intro h';rw[Zc8 (by rw[YC];simp;omega)];simp[ZbU,edd,Rw.thD,Wa]
 simp at c;simp[Zcc,ZiY,Zq,e,Zal,Zby,c,ZaQ,Zn9,lstOf,cat]
noncomputable def opn:Rw.Th->T×Rw.Ar
 |.num n=>(.num n,.nil)
 |.clo E ar=>(E,ar)
theorem Zh7(H:Trb P)(n:Nat)(v:Rw.Th):run P (n+1) (O "opened") [v.d] h=.ok (.tup [(opn v).1.d,.tup (opn v).2.ds]) h:=by rw[Zc H.opened (by cases v<;>rfl)];cases v<;>exact rfl
end Tm
end
section
namespace Tm
open PySem L2 IV
variable {P:Pg}
noncomputable def sub:Ar->T->T
 |_,.num n=>.num n
 |ar,.name x=>(get ar x).getD (.name x)
 |ar,.fn x e=>.fn x (sub ((x,Ww)::ar) e)
 |ar,.rcc f x e=>.rcc f x (sub ((f,Ww)::(x,Ww)::ar) e)
 |ar,.call f a=>.call (sub ar f) (sub ar a)
 |ar,.iff c t e=>.iff (sub ar c) (sub ar t) (sub ar e)
 |ar,.op w a b=>.op w (sub ar a) (sub ar b)
def NN(ar:Ar):Prop:=∀x,get ar x=Ww
theorem NN.cons{ar:Ar}(h:NN ar)(y:Str):NN ((y,Ww)::ar):=λx=>by
 unfold get;split
 . rfl
 . exact h x
theorem ZbO:∀(t:T) {ar:Ar},NN ar->sub ar t=t
 |.num _,_,_=>rfl
 |.name x,_,h=>by rw[sub,h x];rfl
 |.fn x e,_,h=>by rw[sub,ZbO e (h.cons x)]
 |.rcc f x e,_,h=>by rw[sub,ZbO e ((h.cons x).cons f)]
 |.call f a,_,h=>by rw[sub,ZbO f h,ZbO a h]
 |.iff c t e,_,h=>by rw[sub,ZbO c h,ZbO t h,ZbO e h]
 |.op w a b,_,h=>by rw[sub,ZbO a h,ZbO b h]
theorem Zg(t:T):t.size=1+(t.parts.map T.size).sum:=by unfold T.size;rw[T.places_parts];simp only[Os,List.length_flatMap];omega
theorem ZaZ(t:T):1<=t.size:=by rw[Zg];omega
theorem Zlc(t:T)(ar:Ar)(h:mean ar t=Ww):(sub ar t).parts=t.parts.map (sub (inn t ar))/\fr (sub ar t)=fr t:=by
 cases t with
 |name x=>rw[sub,show get ar x=Ww from h];exact⟨rfl,rfl⟩
 |_=>exact⟨rfl,rfl⟩
theorem ZlG{t:T}{ar:Ar}{V:T}(h:mean ar t=Wv V):sub ar t=V:=by
 cases t with
 |name x=>rw[sub,show get ar x=Wv V from h];rfl
 |_=>cases h
end Tm
namespace Rw
open PySem L2 IV
mutual
noncomputable def rd:Th->T
 |.num n=>.num n
 |.clo E ar=>Tm.sub (ra ar) E
noncomputable def ra:Ar->List (Str×Option T)
 |.nil=>[]
 |.cons x v r=>(x,Wv (rd v))::ra r
end
end Rw
namespace Tm
open PySem L2 IV
variable {P:Pg}
noncomputable def er(e:En):Ar:=e.map λp=>(p.1,p.2.map Rw.rd)
noncomputable def up:Rw.Ar->En
 |.nil=>[]
 |.cons x v r=>(x,Wv v)::up r
theorem Zkm:∀ar:Rw.Ar,(up ar).map edd=ar.ds
 |.nil=>by rw[up,Rw.Ar.ds];rfl
 |.cons x v r=>by rw[up,Rw.Ar.ds,Op,Zkm r];rfl
theorem ZnL:∀ar:Rw.Ar,er (up ar)=Rw.ra ar
 |.nil=>by rw[up,Rw.ra];rfl
 |.cons x v r=>by rw[up,Rw.ra,<- ZnL r];rfl
theorem Zjb:∀ar:Rw.Ar,(up ar).length=ar.len
 |.nil=>rfl
 |.cons x v r=>by rw[up,Rw.Ar.len,Os,Zjb r]
theorem ZjZ(x:Str):∀e:En,get (er e) x=(ZdG e x).map Rw.rd
 |[]=>rfl
 |(y,v)::r=>by
  show(if y=x then v.map Rw.rd else get (er r) x)=(if y=x then v else ZdG r x).map Rw.rd;split
  . rfl
  . exact ZjZ x r
theorem Zsi(t:T)(e:En):er (ZbU t e)=inn t (er e):=by simp[er,ZbU,inn,Wa]
noncomputable def tel(p:T×En):T:=sub (er p.2) p.1
theorem Zj9{t:T}{e:En}(h:Zcj e t=Ww):mean (er e) t=Ww:=by
 cases t with
 |name x=>show get (er e) x=Ww;rw[ZjZ,show ZdG e x=Ww from h];rfl
 |_=>rfl
theorem ZgU(v:Rw.Th):tel ((opn v).1,up (opn v).2)=Rw.rd v:=by
 cases v with
 |num n=>rw[Rw.rd];rfl
 |clo E ar=>show sub (er (up ar)) E=_;rw[ZnL,Rw.rd]
theorem ZfY{t:T}{e:En}{v:Rw.Th}(h:Zcj e t=Wv v):tel (t,e)=Rw.rd v:=by
 cases t with
 |name x=>refine ZlG ?_;show get (er e) x=_;rw[ZjZ,show ZdG e x=Wv v from h];rfl
 |_=>cases h
theorem Zgk{t:T}{e:En}(h:Zcj e t=Ww):(tel (t,e)).parts=t.parts.map (λs=>tel (s,ZbU t e))/\fr (tel (t,e))=fr t:=by obtain⟨a,b⟩:=Zlc t (er e) (Zj9 h);refine⟨a.trans ?_,b⟩;rw[<- Zsi];rfl
noncomputable def tf(t:T):D:=.tup (fr t)
theorem Zd0{h:Hd}{i:Nat}{o:DO}(e:h[i]? = Wv o):i<h.length:=(Ob.mp e).1
theorem keep{h:Hd}{i:Nat}{o:DO}{g:Hd}(e:h[i]? = Wv o):(h++g)[i]? = Wv o:=by rw[Oe (Zd0 e)];exact e
structure B_(h0 h:Hd)(fk dk:Nat)(fs ds:List D):Prop where
 f:h[fk]? = Wv (.lst fs)
 d:h[dk]? = Wv (.lst ds)
 ne:dk≠fk
 o1:h0.length<=dk
 ol:h0.length<=h.length
 old:∀i,i<h0.length->h[i]? = h0[i]?
theorem B_.set{h0 h:Hd}{fk dk:Nat}{fs ds:List D}(b:B_ h0 h fk dk fs ds)(es:List D):B_ h0 (h.set dk (.lst es)) fk dk fs es:=⟨by rw[Oc b.ne];exact b.f,by rw[Ol (Zd0 b.d)],b.ne,b.o1,by simpa using b.ol,λi hi=>by rw[Oc (by have:=b.o1;omega)];exact b.old i hi⟩
theorem B_.app{h0 h g:Hd}{fk dk:Nat}{fs ds:List D}(b:B_ h0 h fk dk fs ds):B_ h0 (h++g) fk dk fs ds:=⟨keep b.f,keep b.d,b.ne,b.o1,by have:=b.ol;simp;omega,λi hi=>by rw[Oe (by have:=b.ol;omega)];exact b.old i hi⟩
theorem Zqx{U:Tb}{h0:Hd}{fk dk:Nat}{fs:List D}:∀(ks xs D0 acc:List D) (h:Hd),ks.length=xs.length->acc.length+xs.length<=1000->B_ h0 h fk dk fs (D0++xs.reverse)->∃h',
 Zo Ww (.nm 0) (tsto U Ww) (ev U (.meth .pop (.var 1) .nil)) ks [Ww,Wv (.ref dk)] acc h=.ok (acc++xs) h'/\B_ h0 h' fk dk fs D0
 |[],[],D0,acc,h,_,_,b=>⟨h,by simp[Zo,Wk.stays],by simpa using b⟩
 |[],_::_,_,_,_,e,_,_=>by cases e
 |_::_,[],_,_,_,e,_,_=>by cases e
 |k::ks,x::xs,D0,acc,h,e,hz,b=>by
  have b1:B_ h0 h fk dk fs ((D0++xs.reverse)++[x]):=by simpa using b
  obtain⟨h',q,b2⟩:=Zqx (U:=U) ks xs D0 (acc++[x]) _ (by simpa using e) (by simp at hz ⊢;omega) (b1.set (D0++xs.reverse));refine⟨h',?_,b2⟩;have pp:=ZfH b1.d;have il:=Zar b1.d;have hl:acc.length<16777216:=by simp at hz;omega
  rw[ZE];simp[Wk.stays,hl,YC,il,pp];simpa using q
noncomputable def Zd1:Sxs:=(.cons (.set (.nm 3) (.comp [(O "k"),(O "done")] [Ww,Wv 1] (.rng (.call (O "count_parts") (.cons (.var 2) .nil))) (.nm 0) Ww (.meth .pop (.var 1) .nil))) (.cons (.drp (.meth .app (.var 1) (.cons (.bin .Add (.var 2) (.blt .tup (.cons (.var 3) .nil))) .nil))) .nil))
theorem Zou(H:Trb P)(n:Nat){h0 h:Hd}{fk dk:Nat}{fs D0:List D}(t:T)(b:B_ h0 h fk dk fs (D0++(t.parts.map T.d).reverse))(hz:D0.length<=1000000)(o0 o3:Option D):∃h' o3',
 xs2 (P.tbl (n+1)) Zd1 [o0,Wv (.ref dk),Wv (tf t),o3] h=.ok (.nx,[o0,Wv (.ref dk),Wv (tf t),o3']) h'/\B_ h0 h' fk dk fs (D0++[t.d]):=by
 have hp:t.parts.length<=3:=by cases t<;>simp[T.parts]
 have hf:(fr t).length<=3:=by cases t<;>simp[fr]
 have ec:=ZoM H n t h;obtain⟨h1,q1,b1⟩:=Zqx (U:=P.tbl (n+1)) (Zaz 0 t.parts.length) (t.parts.map T.d) D0 [] h (by simp[Zaz]) (by simp;omega) b;have s62:ZaV (t.parts.length:Int)=Wx:=by simp[ZaV];omega
 have b2:=(b1.app (g:=[.lst (t.parts.map T.d)])).set (D0++[t.d]);refine⟨_,Wv (.ref h1.length),?_,b2⟩;have k1:(h1++[DO.lst (t.parts.map T.d)])[dk]? = Wv (.lst D0):=keep b1.d;have x1:xs1 (P.tbl (n+1)) (.set (.nm 3) (.comp [(O "k"),(O "done")] [Ww,Wv 1] (.rng (.call (O "count_parts") (.cons (.var 2) .nil))) (.nm 0) Ww (.meth .pop (.var 1) .nil))) [o0,Wv (.ref dk),Wv (tf t),o3] h=.ok (.nx,[o0,Wv (.ref dk),Wv (tf t),Wv (.ref h1.length)]) (h1++[.lst (t.parts.map T.d)]):=by
  have ei:evi (P.tbl (n+1)) (.rng (.call (O "count_parts") (.cons (.var 2) .nil))) [o0,Wv (.ref dk),Wv (tf t),o3] h=.ok ⟨Ww,Zaz 0 t.parts.length⟩ h:=by have e1:ev (P.tbl (n+1)) (.call (O "count_parts") (.cons (.var 2) .nil)) [o0,Wv (.ref dk),Wv (tf t),o3] h=.ok (.int t.parts.length) h:=ec;rw[ZpT,e1,Zk];exact(if_pos s62).trans (by rw[Int.toNat_natCast])
  rw[ZeZ,Zhu,ei,Zk];simp only[Zby,Op,Oy,Option.bind_none,Yz];rw[show([o0,Wv (D.ref dk),Wv (tf t),o3][1]?).join=Wv (.ref dk)from rfl,q1];rfl
 have x2:xs1 (P.tbl (n+1)) (.drp (.meth .app (.var 1) (.cons (.bin .Add (.var 2) (.blt .tup (.cons (.var 3) .nil))) .nil))) [o0,Wv (.ref dk),Wv (tf t),Wv (.ref h1.length)] (h1++[.lst (t.parts.map T.d)])=.ok (.nx,[o0,Wv (.ref dk),Wv (tf t),Wv (.ref h1.length)]) (List.set (h1++[.lst (t.parts.map T.d)]) dk (.lst (D0++[t.d]))):=by
  have ap:=ZdZ (d:=t.d) k1 (by rw[YC];omega);have il:=Zar k1;have ad:∀h',opB .Add (tf t) (.tup (t.parts.map T.d)) h'=.ok t.d h':=λh'=>by rw[ZvI];exact Zc8 (by rw[YC];simp;omega)
  simp[il,ZaQ,Zn9,lstOf,ad,ap]
 rw[Zd1,Zb x1,Zb x2];rfl
end Tm
end
section
namespace Tm
open PySem L2 IV
variable {P:Pg}
theorem ZnD{j:Nat}{L:List D}{g:Tg}{body:Ev->Hd->R (Fl×Ev)}{d:D}{ds:List D}{S ρ1 ρ2:Ev}{h h2:Hd}(e:h[j]? = Wv (.lst L))(b:Zbz g d S=Wv ρ1)(q:body ρ1 h=.ok (.nx,ρ2) h2):ZP (Wv (j,L)) g body (d::ds) S h=ZP (Wv (j,L)) g body ds ρ2 h2:=by
 have:Wk.stays (Wv (j,L)) h=Wx:=by simp[Wk.stays,e]
 rw[ZP,if_pos this,b];simp only;rw[q];rfl
theorem ZnE{j:Nat}{L:List D}{g:Tg}{body:Ev->Hd->R (Fl×Ev)}{S:Ev}{h:Hd}(e:h[j]? = Wv (.lst L)):ZP (Wv (j,L)) g body [] S h=.ok (.nx,S) h:=by
 have:Wk.stays (Wv (j,L)) h=Wx:=by simp[Wk.stays,e]
 rw[ZP,if_pos this]
noncomputable def wb(P:Pg)(n fk dk:Nat)(fs:List D)(o0:Option D)(rest:List D)(o2 o3:Option D)(h:Hd):R (Fl×Ev):=ZP (Wv (fk,fs)) (.nm 2) (xs2 (P.tbl (n+1)) Zd1) rest [o0,Wv (.ref dk),o2,o3] h
def Bt(P:Pg)(n:Nat)(h0:Hd)(fk dk:Nat)(fs:List D)(o0:Option D)(xs D0 D1:List D):Prop:=∀(rest:List D) (h:Hd) (o2 o3:Option D),B_ h0 h fk dk fs D0->∃h' o2' o3',wb P n fk dk fs o0 (xs++rest) o2 o3 h=wb P n fk dk fs o0 rest o2' o3' h'/\B_ h0 h' fk dk fs D1
section
variable {n:Nat}{h0:Hd}{fk dk:Nat}{fs:List D}{o0:Option D}{xs ys D0 D1 D2:List D}
theorem Bt.trans(a:Bt P n h0 fk dk fs o0 xs D0 D1)(b:Bt P n h0 fk dk fs o0 ys D1 D2):Bt P n h0 fk dk fs o0 (xs++ys) D0 D2:=λrest h o2 o3 q=>by obtain⟨h1,o21,o31,e1,q1⟩:=a (ys++rest) h o2 o3 q;obtain⟨h2,o22,o32,e2,q2⟩:=b rest h1 o21 o31 q1;exact⟨h2,o22,o32,by rw[Oz,e1,e2],q2⟩
theorem Bt.front(H:Trb P)(t:T)(hz:D0.length<=1000000):Bt P n h0 fk dk fs o0 [tf t] (D0++(t.parts.map T.d).reverse) (D0++[t.d]):=λrest h o2 o3 b=>by obtain⟨h',o3',e,b'⟩:=Zou H n t b hz o0 o3;exact⟨h',Wv (tf t),o3',ZnD b.f rfl e,b'⟩
end
theorem ZbR(H:Trb P){n:Nat}{h0:Hd}{fk dk:Nat}{fs:List D}{o0:Option D}:∀(t:T) (D0:List D),D0.length+t.size<=1000000->Bt P n h0 fk dk fs o0 (t.places.map tf).reverse D0 (D0++[t.d])
 |.num m,D0,hz=>by simpa[T.places,T.parts]using Bt.front (P:=P) (n:=n) (h0:=h0) (fk:=fk) (dk:=dk) (fs:=fs) (o0:=o0) (D0:=D0) H (.num m) (by omega)
 |.name m,D0,hz=>by simpa[T.places,T.parts]using Bt.front (P:=P) (n:=n) (h0:=h0) (fk:=fk) (dk:=dk) (fs:=fs) (o0:=o0) (D0:=D0) H (.name m) (by omega)
 |.fn x e,D0,hz=>by rw[Zg]at hz;simp only[T.parts,Op,Oy,OI,List.sum_nil]at hz;have a:=(ZbR H (n:=n) (h0:=h0) (fk:=fk) (dk:=dk) (fs:=fs) (o0:=o0) e D0 (by omega)).trans (Bt.front H (.fn x e) (by omega));simpa[T.places,T.parts]using a
 |.rcc f x e,D0,hz=>by rw[Zg]at hz;simp only[T.parts,Op,Oy,OI,List.sum_nil]at hz;have a:=(ZbR H (n:=n) (h0:=h0) (fk:=fk) (dk:=dk) (fs:=fs) (o0:=o0) e D0 (by omega)).trans (Bt.front H (.rcc f x e) (by omega));simpa[T.places,T.parts]using a
 |.call f a,D0,hz=>by rw[Zg]at hz;simp only[T.parts,Op,Oy,OI,List.sum_nil]at hz;have s1:=ZaZ f;have q:=(ZbR H (n:=n) (h0:=h0) (fk:=fk) (dk:=dk) (fs:=fs) (o0:=o0) a D0 (by omega)).trans (ZbR H f (D0++[a.d]) (by simp;omega));have r:=Bt.front (P:=P) (n:=n) (h0:=h0) (fk:=fk) (dk:=dk) (fs:=fs) (o0:=o0) (D0:=D0) H (.call f a) (by omega);simp only[T.parts,Op,Oy,List.reverse_cons,List.reverse_nil,OB]at r;rw[<- Oz]at r;simpa[T.places]using q.trans r
 |.op w f a,D0,hz=>by rw[Zg]at hz;simp only[T.parts,Op,Oy,OI,List.sum_nil]at hz;have s1:=ZaZ f;have q:=(ZbR H (n:=n) (h0:=h0) (fk:=fk) (dk:=dk) (fs:=fs) (o0:=o0) a D0 (by omega)).trans (ZbR H f (D0++[a.d]) (by simp;omega));have r:=Bt.front (P:=P) (n:=n) (h0:=h0) (fk:=fk) (dk:=dk) (fs:=fs) (o0:=o0) (D0:=D0) H (.op w f a) (by omega);simp only[T.parts,Op,Oy,List.reverse_cons,List.reverse_nil,OB]at r;rw[<- Oz]at r;simpa[T.places]using q.trans r
 |.iff c t e,D0,hz=>by rw[Zg]at hz;simp only[T.parts,Op,Oy,OI,List.sum_nil]at hz;have s1:=ZaZ c;have s2:=ZaZ t;have q:=((ZbR H (n:=n) (h0:=h0) (fk:=fk) (dk:=dk) (fs:=fs) (o0:=o0) e D0 (by omega)).trans (ZbR H t (D0++[e.d]) (by simp;omega))).trans (ZbR H c (D0++[e.d]++[t.d]) (by simp;omega));have r:=Bt.front (P:=P) (n:=n) (h0:=h0) (fk:=fk) (dk:=dk) (fs:=fs) (o0:=o0) (D0:=D0) H (.iff c t e) (by omega);simp only[T.parts,Op,Oy,List.reverse_cons,List.reverse_nil,OB]at r;rw[<- Oz,<- Oz]at r;simpa[T.places]using q.trans r
theorem ZoN (H:Trb P) (n:Nat) (t:T) {h:Hd}{fk:Nat} (hf:h[fk]? = Wv (.lst (t.places.map tf))) (hz:t.size<=500000):∃ g,run P (n+2) (O "built") [.ref fk] h=.ok t.d (h++g):=by
 rw [Zc H.built (by rfl)];have b0:B_ h (h++[.lst []]) fk h.length (t.places.map tf) []:=⟨keep hf,by simp,by have:=Zd0 hf;omega,Oq _,by simp,fun i hi=>Oe hi⟩
 obtain ⟨h1,o2,o3,e1,b1⟩:=ZbR H (n:=n) (o0:=Wv (.ref fk)) t [] (by simp;omega) [] _ Ww Ww b0;have e2:wb P n fk h.length (t.places.map tf) (Wv (.ref fk)) [] o2 o3 h1=.ok (.nx,[Wv (.ref fk),Wv (.ref h.length),o2,o3]) h1:=ZnE b1.f;rw [e2,Yt] at e1;have ex:∃ g,h1=h++g:=⟨h1.drop h.length,by
   apply List.ext_getElem?;intro i;rcases Nat.lt_or_ge i h.length with q|q
   . rw [b1.old i q,Oe q]
   . rw [Om q,List.getElem?_drop];congr 1;omega⟩
 obtain ⟨g,rfl⟩:=ex;refine ⟨g,?_⟩;have x0:=ZG (GD:=P.GD) (k:=0) b1.d;have hw:Zgi (.ref fk) (h++[.lst []])=Wv ⟨Wv (fk,t.places.map tf),t.places.map tf⟩:=by simp [Zgi,b0.f]
 unfold wb Zd1 at e1;simp only [Pg.tbl] at e1;simp only [OB] at x0;simp [Zde,Zk1,Zq,YC,hw,e1,x0]
end Tm
end
section
namespace Tm
open PySem L2 IV
variable {P:Pg}
noncomputable def Za0(mo:D)(u:Int):DO:=.ins (O "Pen") [(O "most",mo),(O "used",.int u)]
def Lim(mo:D)(z:Int):Prop:=mo=.non\/∃m:Int,mo=.int m/\z<=m
theorem Ztf(H:Trb P)(n:Nat)(mo:D)(h:Hd):Znc (run P (n+1)) (O "Pen") [mo] h=.ok (.ref h.length) (h++[Za0 mo 0]):=by unfold Znc;rw[Zdy H.n_Pen___init__ H.Pen___init__ (by rfl)];simp[ZQ,Zc3,Zq,ZgX,Zll,YC,Za0]
theorem ZpL{u:Int}{h:Hd}:IV.ZbS Wy (D.int u) D.non h=.ok (D.bl Wy) h:=by
 have e:YQ (.int u) .none=Wy:=by simp[YQ]
 show(if min (PyData.int u).depth PyData.none.depth<=1100 then R.ok (D.bl (if Wy then !YQ (.int u) .none else YQ (.int u) .none)) h else .bad)=_;rw[if_pos (by simp[PyData.depth]),e];rfl
theorem Zmw(H:Trb P)(n:Nat){h:Hd}{pk:Nat}{mo:D}{u:Int}(lm:Lim mo (u+1))(hp:h[pk]? = Wv (Za0 mo u)):run P (n+1) (mnm (O "Pen") (O "take_place")) [.ref pk] h=.ok .non (h.set pk (Za0 mo (u+1))):=by
 obtain⟨x,ht⟩:=H.tk;rw[Zdy H.n_Pen_take_place ht (by rfl)];have ne:IV.ZbS Wy (D.int u) mo h=.ok (D.bl Wy) h:=by
  rcases lm with rfl|⟨m,rfl,q⟩
  . exact ZpL
  . have:¬ u=m:=by omega
    simp[this]
 unfold Za0 at hp ⊢;simp[Zj2,Zkc,Zq,Zgc,ZY,hp,Wm,ne,ZgX,Zll]
def Wid(P:Pg):Prop:=∃m,P.ms.lookup (mnm (O "Pen") (O "take_place"))=Wv (Zj2 (.rai (O "Wide") (.cst m)))
theorem Zh6(H:Trb P)(w:Wid P)(n:Nat){h:Hd}{pk:Nat}{u:Int}(hp:h[pk]? = Wv (Za0 (.int u) u)):run P (n+1) (mnm (O "Pen") (O "take_place")) [.ref pk] h=.exc (O "Wide") h:=by
 obtain⟨m,ht⟩:=w;rw[Zdy H.n_Pen_take_place ht (by rfl)];have t1:tst (P.tbl n) (.ex (.cmp .Eq (.att [(O "Pen")] (.var 0) (O "used")) (.att [(O "Pen")] (.var 0) (O "most")))) [Wv (.ref pk)] h=.ok Wx h:=by unfold Za0 at hp;simp[Zgc,ZY,hp,Wm]
 exact congrArg Zh (ZcJ (r:=tlS (Zkc (.rai (O "Wide") (.cst m)))) ((Zw t1).trans (ZcJ (Ztd rfl))))
noncomputable def pr(p:T×En):D:=.tup [p.1.d,.tup (p.2.map edd)]
structure Fi(mo:D)(h0 h:Hd)(pk fk wk:Nat)(u:Int)(F:List D)(W:List D):Prop where
 p:h[pk]? = Wv (Za0 mo u)
 f:h[fk]? = Wv (.lst F)
 w:h[wk]? = Wv (.lst W)
 ne:fk≠wk
 o2:h0.length<=fk
 o3:h0.length<=wk
 ol:h0.length<=h.length
 old:∀i,i<h0.length->i≠pk->h[i]? = h0[i]?
section
variable {mo:D}{h0 h g:Hd}{pk fk wk:Nat}{u:Int}{F W:List D}
theorem Fi.app(q:Fi mo h0 h pk fk wk u F W):Fi mo h0 (h++g) pk fk wk u F W:=⟨keep q.p,keep q.f,keep q.w,q.ne,q.o2,q.o3,by have:=q.ol;simp;omega,λi hi hn=>by rw[Oe (by have:=q.ol;omega)];exact q.old i hi hn⟩
theorem ZfG{i j:Nat}{l:List D}(a:h[i]? = Wv (Za0 mo u))(b:h[j]? = Wv (.lst l)):i≠j:=λz=>by rw[z,b]at a;cases a
theorem Fi.setP(q:Fi mo h0 h pk fk wk u F W)(v:Int):Fi mo h0 (h.set pk (Za0 mo v)) pk fk wk v F W:=⟨by rw[Ol (Zd0 q.p)],by rw[Oc (ZfG q.p q.f)];exact q.f,by rw[Oc (ZfG q.p q.w)];exact q.w,q.ne,q.o2,q.o3,by simpa using q.ol,λi hi hn=>by rw[Oc (YL hn)];exact q.old i hi hn⟩
theorem Fi.setF(q:Fi mo h0 h pk fk wk u F W)(G:List D):Fi mo h0 (h.set fk (.lst G)) pk fk wk u G W:=⟨by rw[Oc (ZfG q.p q.f).symm];exact q.p,by rw[Ol (Zd0 q.f)],by rw[Oc q.ne];exact q.w,q.ne,q.o2,q.o3,by simpa using q.ol,λi hi hn=>by rw[Oc (by have:=q.o2;omega)];exact q.old i hi hn⟩
theorem Fi.setW(q:Fi mo h0 h pk fk wk u F W)(G:List D):Fi mo h0 (h.set wk (.lst G)) pk fk wk u F G:=⟨by rw[Oc (ZfG q.p q.w).symm];exact q.p,by rw[Oc q.ne.symm];exact q.f,by rw[Ol (Zd0 q.w)],q.ne,q.o2,q.o3,by simpa using q.ol,λi hi hn=>by rw[Oc (by have:=q.o3;omega)];exact q.old i hi hn⟩
theorem Fi.pop{d:D}(q:Fi mo h0 h pk fk wk u F (W++[d])):∃h1,Z9 .pop (.ref wk) [] h=.ok d h1/\Fi mo h0 h1 pk fk wk u F W:=⟨_,ZfH q.w,q.setW W⟩
theorem Fi.push(q:Fi mo h0 h pk fk wk u F W)(d:D)(hF:F.length<=1000000):∃h1,Z9 .app (.ref fk) [d] h=.ok .non h1/\Fi mo h0 h1 pk fk wk u (F++[d]) W:=⟨_,ZdZ q.f (by rw[YC];omega),q.setF _⟩
theorem Fi.wait(q:Fi mo h0 h pk fk wk u F W)(d:D)(hW:W.length<=1000000):∃h1,Z9 .app (.ref wk) [d] h=.ok .non h1/\Fi mo h0 h1 pk fk wk u F (W++[d]):=⟨_,ZdZ q.w (by rw[YC];omega),q.setW _⟩
theorem Fi.ext(q:Fi mo h0 h pk fk wk u F W)(xs:List D)(hW:W.length+xs.length<=1001000):∃h1,Z9 .ext (.ref wk) [.ref h.length] (h++[.lst xs])=.ok .non h1/\Fi mo h0 h1 pk fk wk u F (W++xs):=by have q1:=q.app (g:=[.lst xs]);refine⟨_,?_,q1.setW (W++xs)⟩;simp only[Z9,q1.w,Zek,ZrS,ZdL];rw[if_pos (by rw[YC];omega)]
theorem Fi.take(H:Trb P)(n:Nat)(lm:Lim mo (u+1))(q:Fi mo h0 h pk fk wk u F W):∃h1,run P (n+1) (mnm (O "Pen") (O "take_place")) [.ref pk] h=.ok .non h1/\Fi mo h0 h1 pk fk wk (u+1) F W:=⟨_,Zmw H n lm q.p,q.setP _⟩
end
noncomputable def ve(pk fk wk:Nat)(o1 o2 o5 o6 o7:Option D):Ev:=[Wv (.ref pk),o1,o2,Wv (.ref fk),Wv (.ref wk),o5,o6,o7]
noncomputable def fl1:Sx:=(.set (.nm 5) (.meth .pop (.var 4) .nil))
noncomputable def fl2:Sx:=(.set (.nm 6) (.call (O "meant_by") (.cons (.ix (.var 5) (.cst (.int 0))) (.cons (.ix (.var 5) (.cst (.int 1))) .nil))))
noncomputable def fa1:Sx:=(.drp (.mcl (O "Pen") (O "take_place") (.var 0) .nil))
noncomputable def fa2:Sx:=(.drp (.meth .app (.var 3) (.cons (.call (O "front_of") (.cons (.ix (.var 5) (.cst (.int 0))) .nil)) .nil)))
noncomputable def fa3:Sx:=(.set (.nm 7) (.call (O "within") (.cons (.ix (.var 5) (.cst (.int 0))) (.cons (.ix (.var 5) (.cst (.int 1))) .nil))))
noncomputable def fa4:Sx:=(.drp (.meth .ext (.var 4) (.cons (.comp [(O "part"),(O "inner")] [Ww,Wv 7] (.rev (.call (O "parts_of") (.cons (.ix (.var 5) (.cst (.int 0))) .nil))) (.nm 0) Ww (.tupl (.cons (.var 0) (.cons (.var 1) .nil)))) .nil)))
noncomputable def fb1:Sx:=(.drp (.meth .app (.var 4) (.cons (.call (O "opened") (.cons (.var 6) .nil)) .nil)))
noncomputable def fl3:Sx:=(.iff (.ex (.cmp .Is (.var 6) (.cst .non))) (.cons fa1 (.cons fa2 (.cons fa3 (.cons fa4 .nil)))) (.cons fb1 .nil))
noncomputable def Zdb:Sxs:=.cons fl1 (.cons fl2 (.cons fl3 .nil))
theorem ZpR:Zcy=.cons (.set (.nm 3) (.lstl .nil)) (.cons (.set (.nm 4) (.lstl (.cons (.tupl (.cons (.var 1) (.cons (.var 2) .nil))) .nil))) (.cons (.whl (.ex (.var 4)) Zdb) (.cons (.ret (.call (O "built") (.cons (.var 3) .nil))) .nil))):=rfl
theorem Zn2{U:Tb}{h:Hd}{a:D}:∀(ds acc:List D),acc.length+ds.length<=1000->Zo Ww (.nm 0) (tsto U Ww) (ev U (.tupl (.cons (.var 0) (.cons (.var 1) .nil)))) ds [Ww,Wv a] acc h=.ok (acc++ds.map λd=>D.tup [d,a]) h
 |[],acc,_=>by simp[Zo,Wk.stays]
 |x::xs,acc,hz=>by
  have ih:=Zn2 (U:=U) (h:=h) (a:=a) xs (acc++[.tup [x,a]]) (by simp at hz ⊢;omega);have hl:acc.length<16777216:=by simp at hz;omega
  rw[ZE];simp[Wk.stays,hl,YC];simpa using ih
theorem Zot(H:Trb P)(n:Nat){mo:D}{h0 h:Hd}{pk fk wk:Nat}{u:Int}{F W:List D}(t:T)(ar:En)(hm:Zcj ar t=Ww)(lm:Lim mo (u+1))(q:Fi mo h0 h pk fk wk u F (W++[pr (t,ar)]))(hF:F.length<=1000000)(hW:W.length<=1000000)(ha:ar.length<=90000)(o1 o2 o5 o6 o7:Option D):∃h' o5' o6' o7',
 xs2 (P.tbl (n+2)) Zdb (ve pk fk wk o1 o2 o5 o6 o7) h=.ok (.nx,ve pk fk wk o1 o2 o5' o6' o7') h'/\Fi mo h0 h' pk fk wk (u+1) (F++[tf t]) (W++(t.parts.reverse.map λs=>pr (s,ZbU t ar))):=by
 obtain⟨h1,pp,q1⟩:=q.pop;have em:=Zg2 H n (h:=h1) t ar;rw[hm]at em;obtain⟨h2,e2,q2⟩:=q1.take H (n+1) lm;obtain⟨h3,e3,q3⟩:=q2.push (tf t) hF;obtain⟨h4,e4,q4⟩:∃h4,run P (n+2) (O "within") [t.d,.tup (ar.map edd)] h3=.ok (.tup ((ZbU t ar).map edd)) h4/\Fi mo h0 h4 pk fk wk (u+1) (F++[tf t]) W:=⟨_,Zmv H n t ar (by omega),q3.app⟩
 have hp:t.parts.length<=3:=by cases t<;>simp[T.parts]
 obtain⟨h5,e5,q5⟩:=q4.ext ((t.parts.map T.d).reverse.map λd=>D.tup [d,.tup ((ZbU t ar).map edd)]) (by simp;omega);have ec:=Zn2 (U:=P.tbl (n+2)) (h:=h4) (a:=.tup ((ZbU t ar).map edd)) (t.parts.map T.d).reverse [] (by simp;omega);refine⟨h5,Wv (pr (t,ar)),Wv .non,Wv (.tup ((ZbU t ar).map edd)),?_,by simpa[pr,List.map_reverse,Wa]using q5⟩;refine(Zb (Zn (Zht rfl q.w rfl pp))).trans ((Zb (Zn (Zj em rfl))).trans ((Zb ((Zw (ZlP rfl)).trans ?_)).trans rfl));refine(Zb (ZeL (ZbJ rfl q1.p rfl rfl e2))).trans ((Zb (ZeL (Zht rfl q2.f (Za (Zj (ZoJ H (n+1) t h2) rfl) rfl) e3))).trans ?_);exact(Zb (Zn (Zj e4 rfl))).trans ((Zb (ZeL (Zht rfl q4.w (Za (ZiL (Zsc (Zj (Gn.Zg0 H.toTre (n+1) t h4) rfl)) ec) rfl) e5))).trans rfl)
theorem ZqS(H:Trb P)(w:Wid P)(n:Nat){h0 h:Hd}{pk fk wk:Nat}{u:Int}{F W:List D}(t:T)(ar:En)(hm:Zcj ar t=Ww)(q:Fi (.int u) h0 h pk fk wk u F (W++[pr (t,ar)]))(o1 o2 o5 o6 o7:Option D):∃h',
 xs2 (P.tbl (n+2)) Zdb (ve pk fk wk o1 o2 o5 o6 o7) h=.exc (O "Wide") h'/\Fi (.int u) h0 h' pk fk wk u F W:=by
 obtain⟨h1,pp,q1⟩:=q.pop;have em:=Zg2 H n (h:=h1) t ar;rw[hm]at em;refine⟨h1,?_,q1⟩;exact(Zb (Zn (Zht rfl q.w rfl pp))).trans ((Zb (Zn (Zj em rfl))).trans (ZcJ ((Zw (ZlP rfl)).trans (ZcJ (ZiN (ZbJ rfl q1.p rfl rfl (Zh6 H w (n+1) q1.p)))))))
theorem Zor(H:Trb P)(n:Nat){mo:D}{h0 h:Hd}{pk fk wk:Nat}{u:Int}{F W:List D}(t:T)(ar:En){v:Rw.Th}(hm:Zcj ar t=Wv v)(q:Fi mo h0 h pk fk wk u F (W++[pr (t,ar)]))(hW:W.length<=1000000)(o1 o2 o5 o6 o7:Option D):∃h' o5' o6' o7',
 xs2 (P.tbl (n+2)) Zdb (ve pk fk wk o1 o2 o5 o6 o7) h=.ok (.nx,ve pk fk wk o1 o2 o5' o6' o7') h'/\Fi mo h0 h' pk fk wk u F (W++[pr ((opn v).1,up (opn v).2)]):=by
 obtain⟨h1,pp,q1⟩:=q.pop;have em:=Zg2 H n (h:=h1) t ar;rw[hm]at em;obtain⟨h2,e2,q2⟩:=q1.wait (pr ((opn v).1,up (opn v).2)) hW;have eo:=Zh7 H (n+1) (h:=h1) v;rw[<- Zkm]at eo;refine⟨h2,Wv (pr (t,ar)),Wv v.d,o7,?_,q2⟩;refine(Zb (Zn (Zht rfl q.w rfl pp))).trans ((Zb (Zn (Zj em rfl))).trans ((Zb ((Zx (Znv rfl (λz=>by cases v<;>cases z))).trans ?_)).trans rfl));exact(Zb (ZeL (Zht rfl q1.w (Za (Zj eo rfl) rfl) e2))).trans rfl
end Tm
end
section
namespace Rw
open PySem L2 IV
mutual
def ThG(N:Nat):Th->Prop
 |.num _=>True
 |.clo E ar=>(∀x,E≠.name x)/\ar.len+2 * E.size<=2 * N/\ArG N ar
def ArG(N:Nat):Ar->Prop
 |.nil=>True
 |.cons _ v r=>ThG N v/\ArG N r
end
end Rw
namespace Tm
open PySem L2 IV
variable {P:Pg}
theorem ZkE{t s:T}(hs:s∈t.parts):s.size+1<=t.size:=by
 rw[Zg t];have:∀l:List T,s∈l->s.size<=(l.map T.size).sum:=by
  intro l;induction l with
  |nil=>intro z;cases z
  |cons a r ih=>
   intro z;rw[Op,OI];rcases O3.mp z with rfl|z
   . omega
   . have:=ih z;omega
 have:=this _ hs;omega
def Wok(N:Nat)(p:T×En):Prop:=p.2.length+2 * p.1.size<=2 * N/\∀q∈p.2,∀v,q.2=Wv v->Rw.ThG N v
theorem Wok.part{N:Nat}{t s:T}{ar:En}(w:Wok N (t,ar))(hs:s∈t.parts):Wok N (s,ZbU t ar):=by
 have h1:=ZkE hs;have hb:(bnd t).length<=2:=by cases t<;>simp[bnd]
 have h2:=w.1;have:(ZbU t ar).length=(bnd t).length+ar.length:=by simp[ZbU]
 refine⟨?_,λq hq v e=>?_⟩
 . simp only at h2 ⊢;omega
 . rcases OD.mp hq with hq|hq
   . obtain⟨y,_,rfl⟩:=List.mem_map.mp hq;cases e
   . exact w.2 q hq v e
theorem ZqM{N:Nat}:∀{ar:Rw.Ar},Rw.ArG N ar->∀q∈up ar,∀v,q.2=Wv v->Rw.ThG N v
 |.nil,_,q,hq,_,_=>by cases hq
 |.cons x w r,h,q,hq,v,e=>by
  rcases O3.mp hq with rfl|hq
  . cases e;exact h.1
  . exact ZqM h.2 q hq v e
theorem Wok.thing{N:Nat}(hN:1<=N){v:Rw.Th}(h:Rw.ThG N v):Wok N ((opn v).1,up (opn v).2):=by
 cases v with
 |num n=>refine⟨?_,λq hq=>by cases hq⟩;show 0+2 * 1<=2 * N;omega
 |clo E ar=>refine⟨?_,ZqM h.2.2⟩;have:=h.2.1;show(up ar).length+2 * E.size<=2 * N;rw[Zjb];exact this
theorem ZiM{x:Str}{v:Rw.Th}:∀{e:En},ZdG e x=Wv v->∃q∈e,q.2=Wv v
 |[],h=>by cases h
 |(y,o)::r,h=>by
  rw[ZdG]at h;split at h
  . exact⟨_,Oi,h⟩
  . obtain⟨q,hq,e⟩:=ZiM h;exact⟨q,Oh _ hq,e⟩
theorem Wok.mean{N:Nat}{t:T}{e:En}{v:Rw.Th}(w:Wok N (t,e))(h:Zcj e t=Wv v):Rw.ThG N v:=by
 cases t with
 |name x=>obtain⟨q,hq,e⟩:=ZiM (show ZdG e x=Wv v from h);exact w.2 q hq v e
 |_=>cases h
theorem Zm0{N:Nat}{v:Rw.Th}(h:Rw.ThG N v):Zcj (up (opn v).2) (opn v).1=Ww:=by
 cases v with
 |num n=>rfl
 |clo E ar=>cases E with
  |name x=>exact absurd rfl (h.1 x)
  |_=>rfl
noncomputable def tot(W:List (T×En)):Nat:=(W.map λp=>(tel p).size).sum
theorem ZgT(A B_:List (T×En)):tot (A++B_)=tot A+tot B_:=by simp[tot]
theorem ZgS(p:T×En):tot [p]=(tel p).size:=by simp[tot]
theorem Zlb{t:T}{e:En}(h:Zcj e t=Ww):(tel (t,e)).size=1+tot (t.parts.reverse.map λs=>(s,ZbU t e)):=by rw[Zg,(Zgk h).1];simp[tot,List.map_reverse,Wa]
noncomputable def com(W:List (T×En)):List D:=(W.reverse.flatMap λp=>(tel p).places).map tf
theorem Zhy(W:List (T×En))(p:T×En):com (W++[p])=(tel p).places.map tf++com W:=by simp[com]
theorem ZlV(W:List (T×En)){t:T}{e:En}(h:Zcj e t=Ww):com (W++[(t,e)])=tf t::com (W++t.parts.reverse.map λs=>(s,ZbU t e)):=by obtain⟨h1,h2⟩:=Zgk h;rw[Zhy,T.places_parts,Op,show tf (tel (t,e))=tf t by unfold tf;rw[h2],h1];simp[com,List.flatMap_append,List.map_reverse,List.flatMap_map]
def Bud(P:Pg)(mo:D)(u:Int)(K n:Nat):Prop:=(mo=.non/\n<=K)\/(mo=.int (u+(K:Int))/\(n<=K\/Wid P))
noncomputable def nb(e:En)(t:T):Nat:=match Zcj e t with
 |some _=>1
 |none=>0
noncomputable def nbs(W:List (T×En)):Nat:=match W.getLast? with
 |some p=>nb p.2 p.1
 |none=>0
theorem ZtN(e:En)(t:T):nb e t<=1:=by unfold nb;split<;>omega
theorem Znd(W:List (T×En)):nbs W<=1:=by unfold nbs;split;exact ZtN _ _;omega
theorem ZkH(W:List (T×En))(p:T×En):nbs (W++[p])=nb p.2 p.1:=by simp[nbs]
def Old(h0 h:Hd)(pk:Nat):Prop:=h0.length<=h.length/\∀i,i<h0.length->i≠pk->h[i]? = h0[i]?
inductive Fld(P:Pg)(n:Nat)(mo:D)(h0:Hd)(pk fk wk:Nat)(o1 o2:Option D)(u:Int)(F:List D)(W:List (T×En))(K:Nat):R (Fl×Ev)->Prop
 |ok {h':Hd}{o5 o6 o7:Option D} (le:tot W<=K) (q:Fi mo h0 h' pk fk wk (u+(tot W:Int)) (F++com W) []):Fld P n mo h0 pk fk wk o1 o2 u F W K (.ok (.nx,ve pk fk wk o1 o2 o5 o6 o7) h')
 |ex {h':Hd} (lt:K<tot W) (q:Old h0 h' pk):Fld P n mo h0 pk fk wk o1 o2 u F W K (.exc (O "Wide") h')
theorem ZjI(H:Trb P)(n:Nat){N:Nat}(hN:1<=N)(hN2:N<=45000){mo:D}{h0:Hd}{pk fk wk:Nat}{o1 o2:Option D}:∀ (fuel:Nat) (W:List (T×En)) (F:List D) (u:Int) (h:Hd) (o5 o6 o7:Option D) (K:Nat),Bud P mo u K (tot W)->2 * K+1+nbs W<=fuel->F.length+K<=400000->W.length+3 * K<=1000000->(∀ p∈W,Wok N p)->Fi mo h0 h pk fk wk u F (W.map pr) ->
   Fld P n mo h0 pk fk wk o1 o2 u F W K (ZN (tst (P.tbl (n+2)) (.ex (.var 4))) (xs2 (P.tbl (n+2)) Zdb) fuel (ve pk fk wk o1 o2 o5 o6 o7) h)
 | 0,W,F,u,h,o5,o6,o7,K,_,hf,_,_,_,_=>by omega
 | fuel+1,W,F,u,h,o5,o6,o7,K,bu,hf,hz,hw,ok,q=>by
   rcases List.eq_nil_or_concat W with rfl|⟨V,p,rfl⟩
   . rw [Zkk (Zqd rfl q.w)];exact .ok (Yy _) (by simpa [com,tot] using q)
   . obtain ⟨t,ar⟩:=p;rw [List.concat_eq_append] at bu hf hw ok q ⊢;have q':Fi mo h0 h pk fk wk u F (V.map pr++[pr (t,ar)]):=by simpa using q
     have hW:=ok (t,ar) (by simp);have okV:∀ p∈V,Wok N p:=fun p hp=>ok p (by simp [hp]);rw [ZkH] at hf;simp only at hf;rw [OA,List.length_singleton] at hw;have hV:(V.map pr).length<=1000000:=by rw [Yu];omega
     have ha:ar.length<=90000:=by have:=hW.1;simp only at this;omega
     have tt:=Zr (Zqd (U:=P.tbl (n+2)) (S:=ve pk fk wk o1 o2 o5 o6 o7) (e:=.var 4) rfl q'.w) (c:=true) (by simp);have e1:tot (V++[(t,ar)])=tot V+(tel (t,ar)).size:=by rw [ZgT,ZgS]
     cases hm:Zcj ar t with
     | none =>
       have t1:=Zlb hm;rw [show nb ar t=0 by unfold nb;rw [hm]] at hf;cases K with
       | zero =>
         rcases bu with ⟨_,z⟩|⟨rfl,z⟩
         . omega
         . rcases z with z|z
           . omega
           . have q2:Fi (.int u) h0 h pk fk wk u F (V.map pr++[pr (t,ar)]):=by simpa using q'
             obtain ⟨h1,x,q1⟩:=ZqS H z n t ar hm q2 o1 o2 o5 o6 o7;rw [Zoj tt x];exact .ex (by omega) ⟨q1.ol,q1.old⟩
       | succ K =>
         have lm:Lim mo (u+1):=by
           rcases bu with ⟨e,_⟩|⟨e,_⟩
           . exact .inl e
           . exact .inr ⟨_,e,by omega⟩
         obtain ⟨h1,o51,o61,o71,x,q1⟩:=Zot H n t ar hm lm q' (by omega) hV ha o1 o2 o5 o6 o7;rw [Ze2 tt x];have e2:tot (V++t.parts.reverse.map fun s=>(s,ZbU t ar))=tot V+tot (t.parts.reverse.map fun s=>(s,ZbU t ar)):=ZgT _ _;have hp:t.parts.length<=3:=by cases t<;>simp [T.parts]
         have nl:=Znd (V++t.parts.reverse.map fun s=>(s,ZbU t ar));have ih:=ZjI H n hN hN2 (o1:=o1) (o2:=o2) fuel (V++t.parts.reverse.map fun s=>(s,ZbU t ar)) (F++[tf t]) (u+1) h1 o51 o61 o71 K (by
           rcases bu with ⟨e,z⟩|⟨e,z⟩
           . exact .inl ⟨e,by omega⟩
           . exact .inr ⟨by rw [e];congr 1;omega,z.imp (fun z=>by omega) id⟩) (by omega) (by rw [OA,List.length_singleton];omega) (by rw [OA,Yu,List.length_reverse];omega) (fun p hp=>by
           rcases OD.mp hp with hp|hp
           . exact okV p hp
           . obtain ⟨s,hs,rfl⟩:=List.mem_map.mp hp;exact hW.part (by simpa using hs)) (by simpa [List.map_map,Wa] using q1)
         generalize ZN _ _ _ _ _=r at ih ⊢;cases ih with
         | ok le q =>
           refine .ok (by omega) ?_;rw [ZlV V hm,show u+((tot (V++[(t,ar)]):Nat):Int)=u+1+((tot (V++t.parts.reverse.map fun s=>(s,ZbU t ar)):Nat):Int) by rw [e1,e2,t1];omega];simpa using q
         | ex lt q=>exact .ex (by omega) q
     | some v =>
       rw [show nb ar t=1 by unfold nb;rw [hm]] at hf;have g:=hW.mean hm;have s1:(tel (t,ar)).size=(tel ((opn v).1,up (opn v).2)).size:=by rw [ZfY hm,ZgU]
       have e2:tot (V++[((opn v).1,up (opn v).2)])=tot (V++[(t,ar)]):=by rw [e1,ZgT,ZgS,s1]
       obtain ⟨h1,o51,o61,o71,x,q1⟩:=Zor H n t ar hm q' hV o1 o2 o5 o6 o7;rw [Ze2 tt x];have ih:=ZjI H n hN hN2 (o1:=o1) (o2:=o2) fuel (V++[((opn v).1,up (opn v).2)]) F u h1 o51 o61 o71 K (by rw [e2];exact bu) (by rw [ZkH];unfold nb;rw [Zm0 g];simp only;omega) hz (by rw [OA,List.length_singleton];omega) (fun p hp=>by
         rcases OD.mp hp with hp|hp
         . exact okV p hp
         . rw [Ox.mp hp];exact Wok.thing hN g) (by simpa using q1)
       have e3:com (V++[((opn v).1,up (opn v).2)])=com (V++[(t,ar)]):=by rw [Zhy,Zhy,ZfY hm,ZgU]
       generalize ZN _ _ _ _ _=r at ih ⊢;cases ih with
       | ok le q =>
         rw [e2,e3] at q;exact .ok (by omega) q
       | ex lt q=>exact .ex (by omega) q
end Tm
end
section
namespace Tm
open PySem L2 IV
variable {P:Pg}
theorem grown{h0 h:Hd}(hl:h0.length<=h.length)(old:∀ i,i<h0.length->h[i]? = h0[i]?):∃ g,h=h0++g:=⟨h.drop h0.length,by
 apply List.ext_getElem?;intro i;rcases Nat.lt_or_ge i h0.length with q|q
 . rw [old i q,Oe q]
 . rw [Om q,List.getElem?_drop];congr 1;omega⟩
def Aft(h0 h:Hd)(pk:Nat)(mo:D)(u:Int):Prop:=h[pk]? = Wv (Za0 mo u)/\h0.length<=h.length/\∀i,i<h0.length->i≠pk->h[i]? = h0[i]?
inductive Out(h0:Hd)(pk:Nat)(mo:D)(t:T)(u:Int)(K:Nat):R D->Prop
 |ok {h':Hd} (le:t.size<=K) (a:Aft h0 h' pk mo (u+(t.size:Int))):Out h0 pk mo t u K (.ok t.d h')
 |ex {h':Hd} (lt:K<t.size) (a:Old h0 h' pk):Out h0 pk mo t u K (.exc (O "Wide") h')
theorem Zrd(H:Trb P)(n:Nat){N:Nat}(hN:1<=N)(hN2:N<=45000)(t:T)(e:En){mo:D}{h0 h:Hd}{pk K:Nat}{u:Int}(a:Aft h0 h pk mo u)(bu:Bud P mo u K (tel (t,e)).size)(hK:K<=300000)(hw:Wok N (t,e)):
 Out h0 pk mo (tel (t,e)) u K (run P (n+3) (mnm (O "Pen") (O "filled")) [.ref pk,t.d,.tup (e.map edd)] h):=by
 obtain⟨hp,hl,old⟩:=a;rw[Zdy H.n_Pen_filled H.Pen_filled (by rfl)];have q0:Fi mo h0 (h++[.lst [],.lst ([(t,e)].map pr)]) pk h.length (h.length+1) u [] ([(t,e)].map pr):=⟨keep hp,by simp,by simp,by omega,hl,by omega,by simp;omega,λi hi hn=>by rw[Oe (by omega)];exact old i hi hn⟩
 have e1:=ZgS (t,e);have big:=H.big;have nl:=Znd [(t,e)];have x:=ZjI H n hN hN2 (o1:=Wv t.d) (o2:=Wv (.tup (e.map edd))) P.L [(t,e)] [] u _ Ww Ww Ww K (by rw[e1];exact bu) (by omega) (by simp only[List.length_nil];omega) (by simp only[Os,List.length_nil];omega) (λp hp=>by rw[Ox.mp hp];exact hw) q0;have x1:xs1 (P.tbl (n+2)) (.set (.nm 3) (.lstl .nil)) [Wv (.ref pk),Wv t.d,Wv (.tup (e.map edd)),Ww,Ww,Ww,Ww,Ww] h=.ok (.nx,[Wv (.ref pk),Wv t.d,Wv (.tup (e.map edd)),Wv (.ref h.length),Ww,Ww,Ww,Ww]) (h++[.lst []]):=Zn (Zj4 rfl (by decide));have x2:xs1 (P.tbl (n+2)) (.set (.nm 4) (.lstl (.cons (.tupl (.cons (.var 1) (.cons (.var 2) .nil))) .nil))) [Wv (.ref pk),Wv t.d,Wv (.tup (e.map edd)),Wv (.ref h.length),Ww,Ww,Ww,Ww] (h++[.lst []])=.ok (.nx,[Wv (.ref pk),Wv t.d,Wv (.tup (e.map edd)),Wv (.ref h.length),Wv (.ref (h.length+1)),Ww,Ww,Ww]) (h++[.lst [],.lst ([(t,e)].map pr)]):=by have:=Zn (U:=P.tbl (n+2)) (i:=4) (Zj4 (S:=[Wv (.ref pk),Wv t.d,Wv (.tup (e.map edd)),Wv (.ref h.length),Ww,Ww,Ww,Ww]) (h:=h++[.lst []]) (es:=.cons (.tupl (.cons (.var 1) (.cons (.var 2) .nil))) .nil) (Za (ZaN (Za rfl (Za rfl rfl)) (by simp)) rfl) (by simp));simpa[pr]using this
 have key:∀y,Fld P n mo h0 pk h.length (h.length+1) (Wv t.d) (Wv (.tup (e.map edd))) u [] [(t,e)] K y->xs1 (P.tbl (n+2)) (.whl (.ex (.var 4)) Zdb) [Wv (.ref pk),Wv t.d,Wv (.tup (e.map edd)),Wv (.ref h.length),Wv (.ref (h.length+1)),Ww,Ww,Ww] (h++[.lst [],.lst ([(t,e)].map pr)])=y->Out h0 pk mo (tel (t,e)) u K (Zh (xs2 (P.tbl (n+2)) Zcy [Wv (.ref pk),Wv t.d,Wv (.tup (e.map edd)),Ww,Ww,Ww,Ww,Ww] h)):=by
  intro y x z;rw[ZpR,Zb x1,Zb x2];cases x with
  |ex lt q=>rw[ZcJ z];exact .ex (by rw[e1]at lt;exact lt) q
  |@ok h1 o5 o6 o7 le q1=>
   have qf:=q1.f;have ec:com [(t,e)]=(tel (t,e)).places.map tf:=by simp[com]
   rw[ec,OB]at qf;rw[e1]at le q1;obtain⟨g2,e3⟩:=ZoN H n (tel (t,e)) qf (by omega);have q2:=q1.app (g:=g2);have x4:xs1 (P.tbl (n+2)) (.ret (.call (O "built") (.cons (.var 3) .nil))) (ve pk h.length (h.length+1) (Wv t.d) (Wv (.tup (e.map edd))) o5 o6 o7) h1=.ok (.rt (tel (t,e)).d,ve pk h.length (h.length+1) (Wv t.d) (Wv (.tup (e.map edd))) o5 o6 o7) (h1++g2):=ZV (Zj e3 rfl);rw[Zb z,Zf x4];exact .ok le ⟨q2.p,q2.ol,q2.old⟩
 exact key _ x rfl
noncomputable abbrev Fil:=List (Str×T)
noncomputable def Fil.ar(f:Fil):Ar:=f.map λp=>(p.1,Wv p.2)
end Tm
end
section
namespace Tm
open PySem L2 IV
variable {P:Pg}{h:Hd}
noncomputable def isV:T->Bool
 |.num _|.fn _ _|.rcc _ _ _=>Wx
 |_=>Wy
noncomputable def pth:T->List (T×Nat)
 |.call f a=>if isV f then(if isV a then []else(.call f a,2)::pth a)else(.call f a,1)::pth f
 |.op w f a=>if isV f then(if isV a then []else(.op w f a,2)::pth a)else(.op w f a,1)::pth f
 |.iff c t e=>if isV c then []else(.iff c t e,1)::pth c
 |_=>[]
noncomputable def bot:T->T
 |.call f a=>if isV f then(if isV a then .call f a else bot a)else bot f
 |.op w f a=>if isV f then(if isV a then .op w f a else bot a)else bot f
 |.iff c t e=>if isV c then .iff c t e else bot c
 |t=>t
end Tm
end
section
namespace Tm
open PySem L2 IV
variable {P:Pg}{h:Hd}
noncomputable def Zgv:T->Nat->T->T
 |.call _ a,1,u=>.call u a
 |.call f _,2,u=>.call f u
 |.op w _ a,1,u=>.op w u a
 |.op w f _,2,u=>.op w f u
 |.iff _ t e,1,u=>.iff u t e
 |s,_,_=>s
noncomputable def Zg7:List (T×Nat)->T->T
 |[],u=>u
 |(s,k)::r,u=>Zgv s k (Zg7 r u)
end Tm
end
section
namespace Tm
open PySem L2 IV
variable {P:Pg}{h:Hd}
noncomputable def ZnG(f:Str)(F:T)(x:Str)(A:T):Fil:=if f=x then [(x,A)]else [(f,F),(x,A)]
noncomputable def bec:T->Option T
 |.call F A=>match F with
  |.fn x e=>Wv (sub (Fil.ar [(x,A)]) e)
  |.rcc f x e=>Wv (sub (Fil.ar (ZnG f (.rcc f x e) x A)) e)
  |_=>Ww
 |.iff c t e=>match c with
  |.num z=>Wv (if z=0 then e else t)
  |_=>Ww
 |.op w a b=>match a,b with
  |.num a,.num b=>Wv (.num (_root_.Rw.wk w a b))
  |_,_=>Ww
 |_=>Ww
noncomputable def next(t:T):Option T:=(bec (bot t)).map (Zg7 (pth t))
end Tm
end
section
namespace Tm
open PySem L2 IV
variable {P:Pg}{h:Hd}
def Kp(ar:Ar)(sc sc':List Str):Prop:=∀x∈sc,(∃V,get ar x=Wv V/\Gn.Cl [] V)\/(get ar x=Ww/\x∈sc')
theorem Kp.bind{ar:Ar}{sc sc':List Str}(k:Kp ar sc sc')(y:Str):Kp ((y,Ww)::ar) (y::sc) (y::sc'):=λx hx=>by
 unfold get;by_cases e:y=x
 . rw[if_pos e];exact .inr ⟨rfl,by rw[e];exact Oi⟩
 . rw[if_neg e];rcases O3.mp hx with z|z
   . exact absurd z.symm e
   . rcases k x z with q|q
     . exact .inl q
     . exact .inr ⟨q.1,Oh _ q.2⟩
theorem Kp.two{ar:Ar}{sc sc':List Str}(k:Kp ar sc sc')(f x:Str):Kp ((f,Ww)::(x,Ww)::ar) (x::f::sc) (x::f::sc'):=λz hz=>by
 have q:=(k.bind x).bind f z (by simp at hz ⊢;rcases hz with h|h|h<;>simp[h]);rcases q with q|q
 . exact .inl q
 . exact .inr ⟨q.1,by have:=q.2;simp at this ⊢;rcases this with h|h|h<;>simp[h]⟩
theorem ZbW:∀(t:T) {ar:Ar}{sc sc':List Str},Kp ar sc sc'->Gn.Cl sc t->Gn.Cl sc' (sub ar t)
 |.num _,_,_,_,_,c=>c
 |.name x,ar,sc,sc',k,c=>by
  rcases k x c with ⟨V,e,cv⟩|⟨e,m⟩
  . rw[sub,e];exact Gn.Cl.mono (λy hy=>by cases hy) cv
  . rw[sub,e];exact m
 |.fn x e,_,_,_,k,c=>ZbW e (k.bind x) c
 |.rcc f x e,_,_,_,k,c=>⟨ZbW e (k.two f x) c.1,c.2⟩
 |.call f a,_,_,_,k,c=>⟨ZbW f k c.1,ZbW a k c.2⟩
 |.iff f a b,_,_,_,k,c=>⟨ZbW f k c.1,ZbW a k c.2.1,ZbW b k c.2.2⟩
 |.op _ f a,_,_,_,k,c=>⟨ZbW f k c.1,ZbW a k c.2⟩
theorem ZbV:∀t:T,Gn.dep t<t.size
 |.num _=>by simp[Gn.dep,T.size,T.places]
 |.name _=>by simp[Gn.dep,T.size,T.places]
 |.fn x e=>by have:=ZbV e;rw[Zg];simp[Gn.dep,T.parts];omega
 |.rcc f x e=>by have:=ZbV e;rw[Zg];simp[Gn.dep,T.parts];omega
 |.call f a=>by have:=ZbV f;have:=ZbV a;rw[Zg];simp[Gn.dep,T.parts];omega
 |.op w f a=>by have:=ZbV f;have:=ZbV a;rw[Zg];simp[Gn.dep,T.parts];omega
 |.iff c t e=>by have:=ZbV c;have:=ZbV t;have:=ZbV e;rw[Zg];simp[Gn.dep,T.parts];omega
end Tm
end
section
namespace Rw
open PySem L2 IV Gn
theorem Zny(x:Str):∀ar:Ar,Tm.get (ra ar) x=(ar.get x).map rd
 |.nil=>rfl
 |.cons y v r=>by
  rw[ra,Tm.get,Ar.get];split
  . rfl
  . exact Zny x r
mutual
theorem Zqn:∀v:Th,Zb0 v->Cl [] (rd v)
 |.num n,h=>by rw[rd];exact h
 |.clo E ar,h=>by rw[rd];exact Tm.ZbW E (kp_ra ar h.2.2) h.2.1
theorem kp_ra:∀ar:Ar,ArOk ar->Tm.Kp (ra ar) ar.keys []
 |.nil,_=>λx hx=>by cases hx
 |.cons y v r,h=>λx hx=>by
  rw[ra,Tm.get];split
  . exact .inl ⟨rd v,rfl,Zqn v h.1⟩
  . rename_i ne;rcases O3.mp hx with e|hx
    . exact absurd e.symm ne
    . exact kp_ra r h.2 x hx
end
theorem Zja:∀{ar:Ar}{x:Str}{V:T},ArOk ar->Tm.get (ra ar) x=Wv V->Cl [] V
 |.nil,x,V,_,e=>by cases e
 |.cons y v r,x,V,h,e=>by
  rw[ra,Tm.get]at e;split at e
  . cases e;exact Zqn v h.1
  . exact Zja h.2 e
theorem Zli{v:Th}(h:Zb0 v):Tm.isV (rd v)=Wx:=by
 cases v with
 |num n=>rfl
 |clo E ar=>
  cases E with
  |fn x e=>rfl
  |rcc f x e=>rfl
  |_=>cases h.1
theorem ZbP:∀(t:T) {sc:List Str}{ar:List (Str×Option T)},Cl sc t->(∀y∈sc,Tm.get ar y=Ww)->Tm.sub ar t=t
 |.num _,_,_,_,_=>rfl
 |.name x,_,_,c,n=>by rw[Tm.sub,n x c];rfl
 |.fn x e,sc,ar,c,n=>by
  rw[Tm.sub,ZbP e (sc:=x::sc) c λy hy=>?_];rw[Tm.get];split
  . rfl
  . rename_i ne;rcases O3.mp hy with q|q
    . exact absurd q.symm ne
    . exact n y q
 |.rcc f x e,sc,ar,c,n=>by
  rw[Tm.sub,ZbP e (sc:=x::f::sc) c.1 λy hy=>?_];rw[Tm.get];split
  . rfl
  . rename_i nf;rw[Tm.get];split
    . rfl
    . rename_i nx;rcases O3.mp hy with q|q
      . exact absurd q.symm nx
      . rcases O3.mp q with q|q
        . exact absurd q.symm nf
        . exact n y q
 |.call f a,_,_,c,n=>by rw[Tm.sub,ZbP f c.1 n,ZbP a c.2 n]
 |.iff p q r,_,_,c,n=>by rw[Tm.sub,ZbP p c.1 n,ZbP q c.2.1 n,ZbP r c.2.2 n]
 |.op w f a,_,_,c,n=>by rw[Tm.sub,ZbP f c.1 n,ZbP a c.2 n]
def Cmp(r t k:List (Str×Option T)):Prop:=∀x,(∃V,Tm.get r x=Wv V/\Tm.get k x=Wv V/\Cl [] V)\/(Tm.get r x=Ww/\Tm.get k x=Tm.get t x)
theorem Cmp.none{r t k:List (Str×Option T)}(c:Cmp r t k)(y:Str):Cmp ((y,Ww)::r) ((y,Ww)::t) ((y,Ww)::k):=λx=>by
 simp only[Tm.get];split
 . exact .inr ⟨rfl,rfl⟩
 . exact c x
theorem ZaA:∀(e:T) {r t k:List (Str×Option T)},Cmp r t k->Tm.sub t (Tm.sub r e)=Tm.sub k e
 |.num _,_,_,_,_=>rfl
 |.name x,r,t,k,c=>by
  rcases c x with ⟨V,e1,e2,cl⟩|⟨e1,e2⟩
  . simp only[Tm.sub,e1,e2,Option.getD_some];exact ZbP V cl (λy hy=>by cases hy)
  . simp only[Tm.sub,e1,e2,Option.getD_none]
 |.fn x e,_,_,_,c=>by rw[Tm.sub,Tm.sub,Tm.sub,ZaA e (c.none x)]
 |.rcc f x e,_,_,_,c=>by rw[Tm.sub,Tm.sub,Tm.sub,ZaA e ((c.none x).none f)]
 |.call f a,_,_,_,c=>by rw[Tm.sub,Tm.sub,Tm.sub,ZaA f c,ZaA a c]
 |.iff p q s,_,_,_,c=>by rw[Tm.sub,Tm.sub,Tm.sub,ZaA p c,ZaA q c,ZaA s c]
 |.op w f a,_,_,_,c=>by rw[Tm.sub,Tm.sub,Tm.sub,ZaA f c,ZaA a c]
theorem Zq0{x:Str}{e:T}{ar:Ar}{A:T}(ok:ArOk ar):Tm.sub [(x,Wv A)] (Tm.sub ((x,Ww)::ra ar) e)=Tm.sub ((x,Wv A)::ra ar) e:=by
 refine ZaA e λy=>?_;simp only[Tm.get];split
 . exact .inr ⟨rfl,rfl⟩
 . cases q:Tm.get (ra ar) y with
   |none=>exact .inr ⟨rfl,rfl⟩
   |some V=>exact .inl ⟨V,rfl,rfl,Zja ok q⟩
theorem Zox{f x:Str}(ne:f≠x){e:T}{ar:Ar}{F A:T}(ok:ArOk ar):Tm.sub [(f,Wv F),(x,Wv A)] (Tm.sub ((f,Ww)::(x,Ww)::ra ar) e)=Tm.sub ((x,Wv A)::(f,Wv F)::ra ar) e:=by
 refine ZaA e λy=>?_;simp only[Tm.get];by_cases q1:f=y
 . subst q1;rw[if_pos rfl,if_neg (YL ne),if_pos rfl,if_pos rfl];exact .inr ⟨rfl,rfl⟩
 . rw[if_neg q1,if_neg q1,if_neg q1];by_cases q2:x=y
   . rw[if_pos q2,if_pos q2,if_pos q2];exact .inr ⟨rfl,rfl⟩
   . rw[if_neg q2,if_neg q2,if_neg q2];cases q:Tm.get (ra ar) y with
     |none=>exact .inr ⟨rfl,rfl⟩
     |some V=>exact .inl ⟨V,rfl,rfl,Zja ok q⟩
noncomputable def fw:Wt->T->T
 |.arg A ar,t=>.call t (Tm.sub (ra ar) A)
 |.fn V,t=>.call (rd V) t
 |.iff a b ar,t=>.iff t (Tm.sub (ra ar) a) (Tm.sub (ra ar) b)
 |.right w F ar,t=>.op w t (Tm.sub (ra ar) F)
 |.left w V,t=>.op w (rd V) t
noncomputable def rnd(ws:List Wt)(t:T):T:=ws.foldl (λt w=>fw w t) t
noncomputable def read:Sta->T
 |.go E ar ws=>rnd ws (Tm.sub (ra ar) E)
 |.back V ws=>rnd ws (rd V)
structure Wn(t t':T)(k:Nat)(f:T->T):Prop where
 v:Tm.isV t'=Wy
 l:(Tm.pth t').length=(Tm.pth t).length+k
 b:Tm.bot t'=Tm.bot t
 p:∀u,Tm.Zg7 (Tm.pth t') u=f (Tm.Zg7 (Tm.pth t) u)
theorem Zua{w:Wt}(ok:ZcI w){t:T}(nv:Tm.isV t=Wy):Wn t (fw w t) 1 (fw w):=by
 cases w with
 |arg A ar=>exact⟨rfl,by simp[fw,Tm.pth,nv],by simp[fw,Tm.bot,nv],λu=>by simp[fw,Tm.pth,nv,Tm.Zg7,Tm.Zgv]⟩
 |fn V=>have v:=Zli ok;exact⟨rfl,by simp[fw,Tm.pth,nv,v],by simp[fw,Tm.bot,nv,v],λu=>by simp[fw,Tm.pth,nv,v,Tm.Zg7,Tm.Zgv]⟩
 |iff a b ar=>exact⟨rfl,by simp[fw,Tm.pth,nv],by simp[fw,Tm.bot,nv],λu=>by simp[fw,Tm.pth,nv,Tm.Zg7,Tm.Zgv]⟩
 |right w F ar=>exact⟨rfl,by simp[fw,Tm.pth,nv],by simp[fw,Tm.bot,nv],λu=>by simp[fw,Tm.pth,nv,Tm.Zg7,Tm.Zgv]⟩
 |left w V=>have v:=Zli ok;exact⟨rfl,by simp[fw,Tm.pth,nv,v],by simp[fw,Tm.bot,nv,v],λu=>by simp[fw,Tm.pth,nv,v,Tm.Zg7,Tm.Zgv]⟩
theorem Zmr:∀(ws:List Wt) {t:T},(∀w∈ws,ZcI w)->Tm.isV t=Wy->Wn t (rnd ws t) ws.length (rnd ws)
 |[],t,_,nv=>⟨nv,rfl,rfl,λ_=>rfl⟩
 |w::ws,t,ok,nv=>by have a:=Zua (ok w Oi) nv;have b:=Zmr ws (λx hx=>ok x (Oh _ hx)) a.v;exact⟨b.v,by rw[show rnd (w::ws) t=rnd ws (fw w t)from rfl,b.l,a.l,Os];omega,b.b.trans a.b,λu=>by rw[show rnd (w::ws) t=rnd ws (fw w t)from rfl,b.p,a.p];rfl⟩
theorem Zq7{ws:List Wt}{t:T}(ok:∀w∈ws,ZcI w)(nv:Tm.isV t=Wy)(hp:Tm.pth t=[])(hb:Tm.bot t=t):Tm.isV (rnd ws t)=Wy/\Tm.next (rnd ws t)=(Tm.bec t).map (rnd ws)/\(Tm.pth (rnd ws t)).length=ws.length:=by have a:=Zmr ws ok nv;refine⟨a.v,?_,by rw[a.l,hp];exact Nat.zero_add _⟩;unfold Tm.next;rw[a.b,hb];refine congrArg (λf=>(Tm.bec t).map f) ?_;funext u;rw[a.p,hp];rfl
def At(s:Sta):Prop:=Tm.isV (read s)=Wy/\∃V ws,s=.back V ws/\(Tm.pth (read s)).length+1=ws.length
def Sim(s:Sta):Ans->Prop
 |.quiet s'=>read s'=read s
 |.loud s'=>At s/\Tm.next (read s)=Wv (read s')
 |.value=>∃V,s=.back V []/\Tm.isV (read s)=Wx
 |.stuck=>At s/\Tm.next (read s)=Ww
theorem ZhV(s:Sta)(ok:Zdh s):Sim s (step s):=by
 cases s with
 |go E ar ws=>
  cases E with
  |num z=>exact rfl
  |name x=>
   obtain⟨v,e⟩:=Ar.get_some (ar:=ar) ok.1;have:step (.go (.name x) ar ws)=.quiet (.back v ws):=by simp only[step,thing,e]
   rw[this];show rnd ws (rd v)=rnd ws (Tm.sub (ra ar) (.name x));rw[Tm.sub,Zny,e];rfl
  |fn x e=>exact rfl
  |rcc f x e=>exact rfl
  |call F A=>exact rfl
  |iff C t e=>exact rfl
  |op w x y=>exact rfl
 |back V ws=>
  cases ws with
  |nil=>exact⟨V,rfl,Zli ok.1⟩
  |cons w r=>
   have okr:∀x∈r,ZcI x:=λx hx=>ok.2 x (Oh _ hx);have okw:=ok.2 w Oi;have vV:=Zli ok.1;have at':∀t:T,fw w (rd V)=t->Tm.isV t=Wy->Tm.pth t=[]->Tm.bot t=t->At (.back V (w::r))/\Tm.next (read (.back V (w::r)))=(Tm.bec t).map (rnd r):=λt e nv hp hb=>by
    have q:=Zq7 okr nv hp hb;have e2:read (.back V (w::r))=rnd r t:=by rw[<- e];rfl
    exact⟨⟨by rw[e2];exact q.1,V,w::r,rfl,by rw[e2,q.2.2];rfl⟩,by rw[e2];exact q.2.1⟩
   cases w with
   |arg A ar=>exact rfl
   |right w F ar=>exact rfl
   |fn W=>
    have vW:=Zli okw;obtain⟨a,n⟩:=at' _ rfl rfl (by simp[fw,Tm.pth,vV,vW]) (by simp[fw,Tm.bot,vV,vW]);cases W with
    |num z=>exact⟨a,n⟩
    |clo E ar=>
     cases E with
     |fn x e=>refine⟨a,n.trans ?_⟩;show Wv (rnd r (Tm.sub [(x,Wv (rd V))] (Tm.sub ((x,Ww)::ra ar) e)))=Wv (rnd r (Tm.sub ((x,Wv (rd V))::ra ar) e));rw[Zq0 okw.2.2]
     |rcc f x e=>refine⟨a,n.trans ?_⟩;have ne:=okw.2.1.2;show Wv (rnd r (Tm.sub (Tm.Fil.ar (Tm.ZnG f (rd (.clo (.rcc f x e) ar)) x (rd V))) (Tm.sub ((f,Ww)::(x,Ww)::ra ar) e)))=Wv (rnd r (Tm.sub ((x,Wv (rd V))::(f,Wv (rd (.clo (.rcc f x e) ar)))::ra ar) e));rw[<- Zox ne okw.2.2,Tm.ZnG,if_neg ne];rfl
     |_=>cases okw.1
   |iff t e ar=>
    obtain⟨a,n⟩:=at' _ rfl rfl (by simp[fw,Tm.pth,vV]) (by simp[fw,Tm.bot,vV]);cases V with
    |num z=>refine⟨a,n.trans ?_⟩;show Wv (rnd r (if z=0 then Tm.sub (ra ar) e else Tm.sub (ra ar) t))=Wv (rnd r (Tm.sub (ra ar) (if z=0 then e else t)));split<;>rfl
    |clo E ar'=>
     cases E with
     |fn x e=>exact⟨a,n⟩
     |rcc f x e=>exact⟨a,n⟩
     |_=>cases ok.1.1
   |left w W=>
    have vW:=Zli okw;obtain⟨a,n⟩:=at' _ rfl rfl (by simp[fw,Tm.pth,vV,vW]) (by simp[fw,Tm.bot,vV,vW]);cases W with
    |num y=>
     cases V with
     |num z=>exact⟨a,n⟩
     |clo E ar'=>
      cases E with
      |fn x e=>exact⟨a,n⟩
      |rcc f x e=>exact⟨a,n⟩
      |_=>cases ok.1.1
    |clo E ar'=>
     cases E with
     |fn x e=>exact⟨a,n⟩
     |rcc f x e=>exact⟨a,n⟩
     |_=>cases okw.1
end Rw
end
section
namespace Rw
open PySem L2 IV Gn
section
variable {N:Nat}
def Bd(N:Nat)(E:T)(ar:Ar):Prop:=ar.len+2 * E.size<=2 * N
mutual
def ThN(N:Nat):Th->Prop
 |.num _=>True
 |.clo E ar=>Bd N E ar/\ArN N ar
def ArN(N:Nat):Ar->Prop
 |.nil=>True
 |.cons _ v r=>ThN N v/\ArN N r
end
def WtN(N:Nat):Wt->Prop
 |.arg A ar=>Bd N A ar/\ArN N ar
 |.fn V=>ThN N V
 |.iff t e ar=>(Bd N t ar/\Bd N e ar)/\ArN N ar
 |.right _ F ar=>Bd N F ar/\ArN N ar
 |.left _ V=>ThN N V
def StN(N:Nat):Sta->Prop
 |.go E ar ws=>Bd N E ar/\ArN N ar/\∀w∈ws,WtN N w
 |.back V ws=>ThN N V/\∀w∈ws,WtN N w
theorem Zi7{x:Str}{v:Th}:∀{ar:Ar},ArN N ar->ar.get x=Wv v->ThN N v
 |.nil,_,e=>by cases e
 |.cons y u r,h,e=>by
  rw[Ar.get]at e;split at e
  . cases e;exact h.1
  . exact Zi7 h.2 e
theorem Zcs{E F:T}{ar:Ar}(h:Bd N E ar)(hf:F∈E.parts):Bd N F ar:=by have:=Tm.ZkE hf;unfold Bd at *;omega
theorem ZhW{s s':Sta}(ok:Zdh s)(b:StN N s)(e:step s=.quiet s'\/step s=.loud s'):Zdh s'/\StN N s':=by
 cases s with
 |go E ar ws=>
  cases E with
  |num z=>rcases e with e|e<;>cases e;exact⟨⟨ok.1,ok.2.2⟩,trivial,b.2.2⟩
  |name x=>
   obtain⟨v,q⟩:=Ar.get_some (ar:=ar) ok.1;have:step (.go (.name x) ar ws)=.quiet (.back v ws):=by simp only[step,thing,q]
   rw[this]at e;rcases e with e|e<;>cases e;exact⟨⟨ZgO ok.2.1 q,ok.2.2⟩,Zi7 b.2.1 q,b.2.2⟩
  |fn x f=>rcases e with e|e<;>cases e;exact⟨⟨⟨rfl,ok.1,ok.2.1⟩,ok.2.2⟩,⟨b.1,b.2.1⟩,b.2.2⟩
  |rcc g x f=>rcases e with e|e<;>cases e;exact⟨⟨⟨rfl,ok.1,ok.2.1⟩,ok.2.2⟩,⟨b.1,b.2.1⟩,b.2.2⟩
  |call F A=>rcases e with e|e<;>cases e;exact⟨⟨ok.1.1,ok.2.1,Zaf ⟨ok.1.2,ok.2.1⟩ ok.2.2⟩,Zcs b.1 (by simp[T.parts]),b.2.1,Zaf ⟨Zcs b.1 (by simp[T.parts]),b.2.1⟩ b.2.2⟩
  |iff C t f=>rcases e with e|e<;>cases e;exact⟨⟨ok.1.1,ok.2.1,Zaf ⟨ok.1.2.1,ok.1.2.2,ok.2.1⟩ ok.2.2⟩,Zcs b.1 (by simp[T.parts]),b.2.1,Zaf ⟨⟨Zcs b.1 (by simp[T.parts]),Zcs b.1 (by simp[T.parts])⟩,b.2.1⟩ b.2.2⟩
  |op w x y=>rcases e with e|e<;>cases e;exact⟨⟨ok.1.1,ok.2.1,Zaf ⟨ok.1.2,ok.2.1⟩ ok.2.2⟩,Zcs b.1 (by simp[T.parts]),b.2.1,Zaf ⟨Zcs b.1 (by simp[T.parts]),b.2.1⟩ b.2.2⟩
 |back V ws=>
  cases ws with
  |nil=>rcases e with e|e<;>cases e
  |cons w r=>
   have okr:∀x∈r,ZcI x:=λx hx=>ok.2 x (Oh _ hx);have br:∀x∈r,WtN N x:=λx hx=>b.2 x (Oh _ hx);have okw:=ok.2 w Oi;have bw:=b.2 w Oi;cases w with
   |arg A ar=>rcases e with e|e<;>cases e;exact⟨⟨okw.1,okw.2,Zaf ok.1 okr⟩,bw.1,bw.2,Zaf b.1 br⟩
   |right w F ar=>rcases e with e|e<;>cases e;exact⟨⟨okw.1,okw.2,Zaf ok.1 okr⟩,bw.1,bw.2,Zaf b.1 br⟩
   |fn W=>
    cases W with
    |num z=>rcases e with e|e<;>cases e
    |clo E ar=>
     cases E with
     |fn x f=>rcases e with e|e<;>cases e;refine⟨⟨okw.2.1,⟨ok.1,okw.2.2⟩,okr⟩,?_,⟨b.1,bw.2⟩,br⟩;have h1:=bw.1;have h2:=Tm.Zg (.fn x f);simp only[T.parts,Op,Oy,OI,List.sum_nil]at h2;unfold Bd at *;rw[Ar.len];omega
     |rcc g x f=>rcases e with e|e<;>cases e;refine⟨⟨okw.2.1.1,⟨ok.1,okw,okw.2.2⟩,okr⟩,?_,⟨b.1,bw,bw.2⟩,br⟩;have h1:=bw.1;have h2:=Tm.Zg (.rcc g x f);simp only[T.parts,Op,Oy,OI,List.sum_nil]at h2;unfold Bd at *;rw[Ar.len,Ar.len];omega
     |_=>cases okw.1
   |iff t f ar=>
    cases V with
    |num z=>
     rcases e with e|e<;>cases e;by_cases q:z=0
     . simp only[q,if_true];exact⟨⟨okw.2.1,okw.2.2,okr⟩,bw.1.2,bw.2,br⟩
     . simp only[if_neg q];exact⟨⟨okw.1,okw.2.2,okr⟩,bw.1.1,bw.2,br⟩
    |clo E ar'=>rcases e with e|e<;>cases e
   |left w W=>
    cases W with
    |num y=>
     cases V with
     |num z=>rcases e with e|e<;>cases e;exact⟨⟨ZsH w y z,okr⟩,trivial,br⟩
     |clo E ar'=>rcases e with e|e<;>cases e
    |clo E ar'=>rcases e with e|e<;>cases e
noncomputable def wm:Wt->Nat
 |.arg A _=>2 * A.size+1
 |.right _ F _=>2 * F.size+1
 |_=>0
noncomputable def wms(ws:List Wt):Nat:=(ws.map wm).sum
noncomputable def ms:Sta->Nat
 |.go E _ ws=>2 * E.size+wms ws
 |.back _ ws=>wms ws
theorem Zb2(w:Wt)(ws:List Wt):wms (w::ws)=wm w+wms ws:=by simp[wms]
theorem ZpP(w:Wt)(t:T):t.size+1<=(fw w t).size:=by
 cases w with
 |arg A ar=>rw[fw,Tm.Zg (.call _ _)];simp[T.parts];omega
 |fn V=>rw[fw,Tm.Zg (.call _ _)];simp[T.parts];omega
 |iff a b ar=>rw[fw,Tm.Zg (.iff _ _ _)];simp[T.parts];omega
 |right w F ar=>rw[fw,Tm.Zg (.op _ _ _)];simp[T.parts];omega
 |left w V=>rw[fw,Tm.Zg (.op _ _ _)];simp[T.parts];omega
theorem ZcM:∀(ws:List Wt) (t:T),t.size+ws.length<=(rnd ws t).size
 |[],_=>Oq _
 |w::ws,t=>by have a:=ZpP w t;have b:=ZcM ws (fw w t);rw[Os,show rnd (w::ws) t=rnd ws (fw w t)from rfl];omega
noncomputable def wts:Sta->List Wt
 |.go _ _ ws=>ws
 |.back _ ws=>ws
theorem Zfb(s:Sta):(wts s).length<=(read s).size:=by
 cases s with
 |go E ar ws=>have:=ZcM ws (Tm.sub (ra ar) E);exact OE (Nat.le_add_left _ _) this
 |back V ws=>have:=ZcM ws (rd V);exact OE (Nat.le_add_left _ _) this
end
end Rw
end
section
namespace Dr
open PySem IV Gn
open Rw (Th Ar Wt Zb0 ArOk ZcI Zdh StN WtN ThN ArN Bd read wm wms ms)
open Dm (It Lv)
inductive Cx:List Th->Ar->List It->List Wt->Prop
 |nil {ar:Ar}:Cx [] ar [] []
 |app {W:Th}{st:List Th}{ar:Ar}{r:List It}{ws:List Wt} (c:Cx st ar r ws):Cx (W::st) ar (.app::r) (.fn W::ws)
 |arg {A:T}{st:List Th}{ar:Ar}{r:List It}{ws:List Wt} (c:Cx st ar r ws):Cx st ar (.ex A::.app::r) (.arg A ar::ws)
 |work {w:Wd}{W:Th}{st:List Th}{ar:Ar}{r:List It}{ws:List Wt} (c:Cx st ar r ws):Cx (W::st) ar (.work w::r) (.left w W::ws)
 |right {w:Wd}{F:T}{st:List Th}{ar:Ar}{r:List It}{ws:List Wt} (c:Cx st ar r ws):Cx st ar (.ex F::.work w::r) (.right w F ar::ws)
 |cho {t e:T}{st:List Th}{ar:Ar}{r:List It}{ws:List Wt} (c:Cx st ar r ws):Cx st ar (.cho t e::r) (.iff t e ar::ws)
inductive Dx:List Lv->List Wt->Prop
 |nil:Dx [] []
 |cons {l:Lv}{d:List Lv}{ws vs:List Wt} (c:Cx l.st l.ar l.todo ws) (x:Dx d vs):Dx (l::d) (ws++vs)
inductive Re:Dm.Sta->Rw.Sta->Prop
 |go {E:T}{st:List Th}{ar:Ar}{r:List It}{d:List Lv}{ws vs:List Wt} (c:Cx st ar r ws) (x:Dx d vs):Re ⟨st,ar,.ex E::r,d⟩ (.go E ar (ws++vs))
 |back {V:Th}{st:List Th}{ar:Ar}{r:List It}{d:List Lv}{ws vs:List Wt} (c:Cx st ar r ws) (x:Dx d vs) (n:∀E q,r≠.ex E::q):Re ⟨V::st,ar,r,d⟩ (.back V (ws++vs))
inductive Qs:Rw.Sta->Rw.Sta->Prop
 |refl {s:Rw.Sta}:Qs s s
 |step {s s' t:Rw.Sta} (e:Rw.step s=.quiet s') (q:Qs s' t):Qs s t
theorem ZlD{V:Th}{st:List Th}{ar:Ar}{r:List It}{d:List Lv}{ws vs:List Wt}(c:Cx st ar r ws)(x:Dx d vs):∃Z,Re ⟨V::st,ar,r,d⟩ Z/\Qs (.back V (ws++vs)) Z:=by
 cases c with
 |nil=>exact⟨_,.back .nil x (λ_ _ z=>by cases z),.refl⟩
 |app c=>exact⟨_,.back (.app c) x (λ_ _ z=>by cases z),.refl⟩
 |arg c=>exact⟨_,.go (.app c) x,.step rfl .refl⟩
 |work c=>exact⟨_,.back (.work c) x (λ_ _ z=>by cases z),.refl⟩
 |right c=>exact⟨_,.go (.work c) x,.step rfl .refl⟩
 |cho c=>exact⟨_,.back (.cho c) x (λ_ _ z=>by cases z),.refl⟩
inductive Sd(Z:Rw.Sta):Dm.Ans->Prop
 |quiet {s':Dm.Sta}{σ':Rw.Sta} (r:Re s' σ') (q:Qs Z σ'):Sd Z (.quiet s')
 |loud {s':Dm.Sta}{σ1 σ':Rw.Sta} (e:Rw.step Z=.loud σ1) (r:Re s' σ') (q:Qs σ1 σ'):Sd Z (.loud s')
 |value (e:Rw.step Z=.value):Sd Z .value
 |stuck (e:Rw.step Z=.stuck):Sd Z .stuck
theorem sim{s:Dm.Sta}{Z:Rw.Sta}(r:Re s Z)(ok:Zdh Z):Sd Z (Dm.step s):=by
 cases r with
 |@go E st ar r d ws vs c x=>
  show Sd _ (.quiet (Dm.quiet E st ar r d));cases E with
  |num n=>obtain⟨σ',r,q⟩:=ZlD (V:=.num n) c x;exact .quiet r (.step rfl q)
  |name y=>
   obtain⟨v,e⟩:=Rw.Ar.get_some (show y∈ar.keys from ok.1);have e1:Dm.quiet (.name y) st ar r d=⟨v::st,ar,r,d⟩:=by unfold Dm.quiet;rw[show Rw.thing (.name y) ar=Wv v from e]
   have e2:Rw.step (.go (.name y) ar (ws++vs))=.quiet (.back v (ws++vs)):=by simp only[Rw.step];rw[show Rw.thing (.name y) ar=Wv v from e]
   rw[e1];obtain⟨σ',r,q⟩:=ZlD (V:=v) c x;exact .quiet r (.step e2 q)
  |fn y e=>obtain⟨σ',r,q⟩:=ZlD (V:=.clo (.fn y e) ar) c x;exact .quiet r (.step rfl q)
  |rcc f y e=>obtain⟨σ',r,q⟩:=ZlD (V:=.clo (.rcc f y e) ar) c x;exact .quiet r (.step rfl q)
  |call F A=>exact .quiet (.go (.arg c) x) (.step rfl .refl)
  |iff C t e=>exact .quiet (.go (.cho c) x) (.step rfl .refl)
  |op w a b=>exact .quiet (.go (.right c) x) (.step rfl .refl)
 |@back V st ar r d ws vs c x n=>
  cases c with
  |nil=>
   cases x with
   |nil=>exact .value rfl
   |cons c' x'=>obtain⟨σ',r,q⟩:=ZlD (V:=V) c' x';exact .quiet r q
  |@app W st _ r ws c=>
   have okW:Zb0 W:=ok.2 _ (Ys _ Oi);cases W with
   |num z=>exact .stuck rfl
   |clo E ar'=>
    cases E with
    |fn y e=>exact .loud rfl (.go .nil (.cons (l:=⟨st,ar,r⟩) c x)) .refl
    |rcc f y e=>exact .loud rfl (.go .nil (.cons (l:=⟨st,ar,r⟩) c x)) .refl
    |_=>cases okW.1
  |arg c=>exact absurd rfl (n _ _)
  |right c=>exact absurd rfl (n _ _)
  |@work w W st _ r ws c=>
   cases W with
   |num a=>
    cases V with
    |num b=>obtain⟨σ',r,q⟩:=ZlD (V:=.num (Rw.wk w a b)) c x;exact .loud rfl r q
    |clo E ar'=>exact .stuck rfl
   |clo E ar'=>exact .stuck rfl
  |@cho t e _ _ r ws c=>
   cases V with
   |num z=>exact .loud rfl (.go c x) .refl
   |clo E ar'=>exact .stuck rfl
end Dr
end
section
namespace Dr
open PySem IV Gn
open Rw (Th Ar Wt Zb0 ArOk ZcI Zdh StN WtN ThN ArN Bd read wm wms ms)
open Dm (It Lv Dmp sd off quiet call choose reckon)
variable {P:Pg}{h:Hd}{N:Nat}
theorem Cx.len{st:List Th}{ar:Ar}{r:List It}{ws:List Wt}(c:Cx st ar r ws):st.length<=ws.length/\r.length<=2 * ws.length:=by induction c<;>simp_all<;>omega
theorem Dx.len{d:List Lv}{vs:List Wt}(x:Dx d vs):∀l∈d,l.st.length<=vs.length:=by
 induction x with
 |nil=>intro l hl;cases hl
 |cons c x ih=>
  intro l hl;have:=c.len;rw[OA];rcases O3.mp hl with rfl|hl
  . omega
  . have:=ih l hl;omega
theorem Zqr(H:Dmp P)(n:Nat){st:List Th}{ar:Ar}{i:It}{r:List It}{d:List Lv}{w:Str}{ds:List D}(hi:i.d=.tup (.str w::ds)):tst (P.tbl n) (.ex (.cmp .In (.ix (.ix (.var 1) (.cst (.int 0))) (.cst (.int 0))) (.glo (O "ORDERS")))) [Wv (Dm.Sta.d ⟨st,ar,i::r,d⟩),Wv (.tup ((i::r).map It.d))] h=.ok (Wz (w∈[O "apply",O "work",O "choose"])) h:=by
 have eg:ev (P.tbl n) (.glo (O "ORDERS")) [Wv (Dm.Sta.d ⟨st,ar,i::r,d⟩),Wv (.tup ((i::r).map It.d))] h=.ok (.tup [.str (O "apply"),.str (O "work"),.str (O "choose")]) h:=by show R.ofO (P.G (O "ORDERS")) h=_;rw[H.orders];rfl
 exact ZcU ((ZD (x:=.str w) ((ZA (x:=i.d) ((ZA (x:=.tup (i.d::r.map It.d)) rfl rfl).trans Dm.Znt) rfl).trans (by rw[hi];exact Dm.Znt)) eg).trans (Dm.Zgx w))
theorem Zhw(H:Dmp P)(n:Nat){st:List Th}{ar:Ar}{i:It}{r:List It}{d:List Lv}{w:Str}{ds:List D}{a:Dm.Ans}(hi:i.d=.tup (.str w::ds))(hw:w∈[O "apply",O "work",O "choose"])(q:run P (n+1) (O "loud_step") [i.d,.tup (Dm.sd st),.tup ar.ds,.tup (r.map It.d),.tup (d.map Lv.d)] h=.ok a.d h):run P (n+2) (O "dump_step") [Dm.Sta.d ⟨st,ar,i::r,d⟩] h=.ok a.d h:=by rw[Zc H.dump_step (by rfl)];exact(congrArg Zh (nx1 (Zn (U:=P.tbl (n+1)) (d:=.tup ((i::r).map It.d)) rfl) rfl)).trans ((Dm.ZeW rfl).trans ((Dm.Zgd (Zr (Zqr H (n+1) hi) (decide_eq_true hw))).trans (Zj q (Za ((ZA (x:=.tup (i.d::r.map It.d)) rfl rfl).trans Dm.Znt) (Za rfl (Za rfl (Za (Dm.Zq2 (x:=i.d) rfl) (Za rfl rfl))))))))
theorem ZoK(H:Dmp P)(n:Nat){s:Dm.Sta}{Z:Rw.Sta}(r:Re s Z)(ok:Zdh Z)(b:StN N Z)(hN2:N<=45000)(hz:(read Z).size<=120)(hd:s.dump.length<=900):run P (n+5) (O "dump_step") [s.d] h=.ok (Dm.step s).d h:=by
 have wl:=Rw.Zfb Z;cases r with
 |@go E st ar r d ws vs c x=>have cl:=c.len;rw[show Rw.wts (.go E ar (ws++vs))=ws++vs from rfl,OA]at wl;have q:=Dm.ZoH H (n+1) (h:=h) E st ar r d ok.1 (by omega) (by omega);have oi:=Zqr (h:=h) H (n+4) (st:=st) (ar:=ar) (r:=r) (d:=d) (i:=.ex E) (Dm.ZpY E);rw[Dm.Zei]at oi;rw[Zc H.dump_step (by rfl)];exact(congrArg Zh (nx1 (Zn (U:=P.tbl (n+4)) (d:=.tup ((It.ex E::r).map It.d)) rfl) rfl)).trans ((Dm.ZeW rfl).trans ((Dm.ZeW oi).trans (Dm.Zhp.trans (ZaN (Za rfl (Za (Zj q rfl) rfl)) (Dm.le1 rfl)))))
 |@back V st ar r d ws vs c x nn=>
  have cl:=c.len;have xl:=x.len;rw[show Rw.wts (.back V (ws++vs))=ws++vs from rfl,OA]at wl;have okV:=ok.1;cases c with
  |nil=>
   have q:=Dm.Ztg H (n+3) (h:=h) V [] d (λl hl=>by have:=xl l hl;omega);have e:Dm.step ⟨[V],ar,[],d⟩=off V d:=by cases d<;>rfl
   rw[e,Zc H.dump_step (by rfl)];exact(congrArg Zh (nx1 (Zn (U:=P.tbl (n+4)) (d:=.tup []) rfl) rfl)).trans ((Dm.Zgd rfl).trans (Zj q rfl))
  |@app W st _ r ws c=>have okW:Zb0 W:=ok.2 _ (Ys _ Oi);have bW:ThN N W:=b.2 _ (Ys _ Oi);exact Zhw H (n+3) rfl (by decide) (Dm.Ztk H n (h:=h) W V st ar r d okW (λE ar' e=>by subst e;have:=bW.1;unfold Bd at this;omega) (by simp only at hd;omega))
  |arg c=>exact absurd rfl (nn _ _)
  |right c=>exact absurd rfl (nn _ _)
  |@work w W st _ r ws c=>have okW:Zb0 W:=ok.2 _ (Ys _ Oi);exact Zhw H (n+3) rfl (by decide) (Dm.Zq8 H (n+1) (h:=h) w W V st ar r d okW okV (by simp only[Os]at cl wl;omega))
  |@cho t e _ _ r ws c=>exact Zhw H (n+3) rfl (by decide) (Dm.Ztj H (n+1) (h:=h) V t e st ar r d (by simp only[Os]at cl wl;omega))
end Dr
end
section
namespace Pw
open PySem L2 IV
noncomputable def Zbk:Sxs:=(.cons (.drp (.mcl (O "Pen") (O "take_place") (.var 0) .nil)) (.cons (.ret (.bin .Add (.var 1) (.var 2))) .nil))
noncomputable def ZaG:Fd:=⟨[(O "self"),(O "front"),(O "parts")],[(O "self"),(O "front"),(O "parts")],Zbk⟩
noncomputable def ZdK:Sxs:=(.cons (.set (.nm 2) (.call (O "opened") (.cons (.var 1) .nil))) (.cons (.ret (.mcl (O "Pen") (O "filled") (.var 0) (.cons (.ix (.var 2) (.cst (.int 0))) (.cons (.ix (.var 2) (.cst (.int 1))) .nil)))) .nil))
noncomputable def Zbw:Fd:=⟨[(O "self"),(O "thing")],[(O "self"),(O "thing"),(O "pair")],ZdK⟩
structure Pnw(P:Pg):Prop where
 t:Tm.Trb P
 wd:Tm.Wid P
 gw:P.G (O "WIDEST")=Wv (.int 120)
 n_Pen_joined:P.tb.lookup (mnm (O "Pen") (O "joined"))=Ww
 Pen_joined:P.ms.lookup (mnm (O "Pen") (O "joined"))=Wv ZaG
 n_Pen_told:P.tb.lookup (mnm (O "Pen") (O "told"))=Ww
 Pen_told:P.ms.lookup (mnm (O "Pen") (O "told"))=Wv Zbw
end Pw
end
section
namespace Pw
open PySem L2 IV Tm
variable {P:Pg}{h0 h:Hd}{pk:Nat}
theorem Zh4{U:Tb}{e:Ex}{S:Ev}{r:R D}(q:ev U e S h=r):Zh (xs2 U (.cons (.ret e) .nil) S h)=r:=by rw[xs2,Ze0,q];cases r<;>rfl
theorem Aft.set{mo:D}{u:Int}(a:Aft h0 h pk mo u)(v:Int):Aft h0 (h.set pk (Za0 mo v)) pk mo v:=⟨by rw[Ol (Zd0 a.1)],by simpa using a.2.1,λi hi hn=>by rw[Oc (YL hn)];exact a.2.2 i hi hn⟩
abbrev Ot(h0:Hd)(pk:Nat)(t:T)(u:Nat)(r:R D):Prop:=Out h0 pk (.int 120) t (u:Int) (120 - u) r
section
variable {u N:Nat} (H:Pnw P) (n:Nat) (hN:1<=N) (hN2:N<=45000)
include H hN hN2
theorem Zky(t:T)(e:En)(a:Aft h0 h pk (.int 120) (u:Int))(hu:u<=120)(hw:Wok N (t,e)):Ot h0 pk (tel (t,e)) u (run P (n+3) (mnm (O "Pen") (O "filled")) [.ref pk,t.d,.tup (e.map edd)] h):=Zrd H.t n hN hN2 t e a (.inr ⟨by congr 1;omega,.inr H.wd⟩) (by omega) hw
theorem Zg4(t:T)(ar:Rw.Ar)(a:Aft h0 h pk (.int 120) (u:Int))(hu:u<=120)(hw:Wok N (t,up ar)):Ot h0 pk (sub (Rw.ra ar) t) u (run P (n+3) (mnm (O "Pen") (O "filled")) [.ref pk,t.d,.tup ar.ds] h):=by have:=Zky H n hN hN2 t (up ar) a hu hw;rw[Zkm,show tel (t,up ar)=sub (Rw.ra ar) t by show sub (er (up ar)) t=_;rw[ZnL]]at this;exact this
theorem Zq9(v:Rw.Th)(a:Aft h0 h pk (.int 120) (u:Int))(hu:u<=120)(g:Rw.ThG N v):Ot h0 pk (Rw.rd v) u (run P (n+4) (mnm (O "Pen") (O "told")) [.ref pk,v.d] h):=by
 have o:=Zky H n hN hN2 (opn v).1 (up (opn v).2) a hu (Wok.thing hN g);rw[ZgU,Zkm]at o;have x1:xs1 (P.tbl (n+3)) (hdS ZdK) [Wv (.ref pk),Wv v.d,Ww] h=.ok (.nx,[Wv (.ref pk),Wv v.d,Wv (.tup [(opn v).1.d,.tup (opn v).2.ds])]) h:=Zn (Zj (Zh7 H.t (n+2) v) rfl);have e:run P (n+4) (mnm (O "Pen") (O "told")) [.ref pk,v.d] h=run P (n+3) (mnm (O "Pen") (O "filled")) [.ref pk,(opn v).1.d,.tup (opn v).2.ds] h:=by rw[Zdy H.n_Pen_told H.Pen_told (by rfl)];exact(congrArg Zh (nx1 (U:=P.tbl (n+3)) (ss:=ZdK) x1 rfl)).trans (Zh4 (ZbJ rfl a.1 rfl rfl rfl))
 rw[e];exact o
omit hN hN2
theorem Zgt(fs ps:List D)(a:Aft h0 h pk (.int 120) (u:Int))(hu:u<120)(hz:fs.length+ps.length<=1000):run P (n+2) (mnm (O "Pen") (O "joined")) [.ref pk,.tup fs,.tup ps] h=.ok (.tup (fs++ps)) (h.set pk (Za0 (.int 120) ((u:Int)+1))):=by have e:=Zmw H.t n (u:=(u:Int)) (.inr ⟨120,rfl,by omega⟩) a.1;rw[Zdy H.n_Pen_joined H.Pen_joined (by rfl)];have x1:xs1 (P.tbl (n+1)) (hdS Zbk) [Wv (.ref pk),Wv (.tup fs),Wv (.tup ps)] h=.ok (.nx,[Wv (.ref pk),Wv (.tup fs),Wv (.tup ps)]) (h.set pk (Za0 (.int 120) ((u:Int)+1))):=ZeL (ZbJ rfl a.1 rfl rfl e);exact(congrArg Zh (nx1 (U:=P.tbl (n+1)) (ss:=Zbk) x1 rfl)).trans (Zh4 ((ZB rfl rfl).trans (Zc8 (by rw[YC];omega))))
theorem Zh8(fs ps:List D)(a:Aft h0 h pk (.int 120) (120:Int)):run P (n+2) (mnm (O "Pen") (O "joined")) [.ref pk,.tup fs,.tup ps] h=.exc (O "Wide") h:=by have e:=Zh6 H.t H.wd n a.1;rw[Zdy H.n_Pen_joined H.Pen_joined (by rfl)];exact congrArg Zh (ZcJ (U:=P.tbl (n+1)) (r:=tlS Zbk) (ZiN (ZbJ rfl a.1 rfl rfl e)))
inductive Po(h0:Hd)(pk:Nat)(fs:List D)(t:T)(k:Nat):R D->Prop
 |ok {h':Hd}{ps:List D}{u:Nat} (a:Aft h0 h' pk (.int 120) (u:Int)) (hu:u<=120) (e:t.d=.tup (fs++ps)) (z:k+t.size=u+1) (hz:fs.length+ps.length<=1000):Po h0 pk fs t k (.ok (.tup ps) h')
 |ex {h':Hd} (lt:120<k+t.size) (o:Old h0 h' pk):Po h0 pk fs t k (.exc (O "Wide") h')
theorem Zt4{S:Ev}{o fe pe:Ex}{w:Int}{fs:List D}{t:T}{k:Nat}(hk:k<=120)(eo:ev (P.tbl (n+2)) o S h=.ok (.ref pk) h)(hp:h[pk]? = Wv (Za0 (.int 120) w))(ef:ev (P.tbl (n+2)) fe S h=.ok (.tup fs) h)(po:Po h0 pk fs t k (ev (P.tbl (n+2)) pe S h)):
 Ot h0 pk t k (ev (P.tbl (n+2)) (.mcl (O "Pen") (O "joined") o (.cons fe (.cons pe .nil))) S h):=by
 generalize hr:ev (P.tbl (n+2)) pe S h=r at po;cases po with
 |ex lt o=>rw[Zuh eo hp rfl (Zhr ef (ZiJ hr))];exact .ex (by omega) o
 |@ok h' ps u a hu e z hz=>
  have es:evs (P.tbl (n+2)) (.cons fe (.cons pe .nil)) S h=.ok [.tup fs,.tup ps] h':=Za ef (Za hr rfl);by_cases q:u=120
  . subst q;rw[ZbJ eo hp rfl es (Zh8 H n fs ps a)];exact .ex (by omega) a.2
  . rw[ZbJ eo hp rfl es (Zgt H n fs ps a (by omega) hz),<- e];refine .ok (by omega) ?_;have:=Aft.set a ((u:Int)+1);rw[show(k:Int)+(t.size:Int)=(u:Int)+1 by omega];exact this
end
section
variable {U:Tb}{S:Ev}{fs:List D}{t A B_:T}{u k:Nat}{a b c:Ex}{x:D}
theorem Zvk(hu:u<=120)(ea:ev U a S h=.ok x h)(ob:Ot h0 pk A u (ev U b S h))(oc:∀h',Aft h0 h' pk (.int 120) ((u:Int)+(A.size:Int))->u+A.size<=120->Ot h0 pk B_ (u+A.size) (ev U c S h'))(e:t.d=.tup (fs++[x,A.d,B_.d]))(z:k+t.size=1+(u+(A.size+B_.size)))(hz:fs.length<=900):Po h0 pk fs t k (ev U (.tupl (.cons a (.cons b (.cons c .nil)))) S h):=by
 generalize hr:ev U b S h=r at ob;cases ob with
 |ex lt o=>rw[Zqp (Zhr ea (ZiJ hr))];exact .ex (by omega) o
 |@ok h1 le q=>
  have oc:=oc h1 q (by omega);generalize hs:ev U c S h1=s at oc;cases oc with
  |ex lt o=>rw[Zqp (Zhr ea (Zhr hr (ZiJ hs)))];exact .ex (by omega) o
  |ok le2 q2=>rw[ZaN (Za ea (Za hr (Za hs rfl))) (by simp)];exact .ok (u:=u+A.size+B_.size) q2 (by omega) e (by omega) (by simp;omega)
end
end Pw
end
section
namespace Dr
open PySem L2 IV
noncomputable def Zcx:Sx:=(.set (.nm 4) (.meth .pop (.var 2) .nil))
noncomputable def Zcw:Sx:=(.iff (.ex (.cmp .Eq (.ix (.var 1) (.cst (.int 0))) (.cst (.str (O "choose"))))) (.cons (.drp (.meth .app (.var 2) (.cons (.mcl (O "Pen") (O "joined") (.var 0) (.cons (.tupl (.cons (.cst (.str (O "if"))) .nil)) (.cons (.tupl (.cons (.var 4) (.cons (.mcl (O "Pen") (O "filled") (.var 0) (.cons (.ix (.var 1) (.cst (.int 1))) (.cons (.var 3) .nil))) (.cons (.mcl (O "Pen") (O "filled") (.var 0) (.cons (.ix (.var 1) (.cst (.int 2))) (.cons (.var 3) .nil))) .nil)))) .nil))) .nil))) .nil) (.cons (.iff (.ex (.cmp .Eq (.ix (.var 1) (.cst (.int 0))) (.cst (.str (O "apply"))))) (.cons (.drp (.meth .app (.var 2) (.cons (.mcl (O "Pen") (O "joined") (.var 0) (.cons (.tupl (.cons (.cst (.str (O "call"))) .nil)) (.cons (.tupl (.cons (.meth .pop (.var 2) .nil) (.cons (.var 4) .nil))) .nil))) .nil))) .nil) (.cons (.drp (.meth .app (.var 2) (.cons (.mcl (O "Pen") (O "joined") (.var 0) (.cons (.tupl (.cons (.ix (.var 1) (.cst (.int 1))) .nil)) (.cons (.tupl (.cons (.meth .pop (.var 2) .nil) (.cons (.var 4) .nil))) .nil))) .nil))) .nil)) .nil))
noncomputable def Zkf:Sxs:=(.cons Zcx (.cons Zcw .nil))
noncomputable def Zbv:Fd:=⟨[(O "pen"),(O "order"),(O "done"),(O "around")],[(O "pen"),(O "order"),(O "done"),(O "around"),(O "last")],Zkf⟩
noncomputable def ZaJ:Sx:=(.set (.nm 3) (.bin .Add (.comp [(O "thing"),(O "pen")] [Ww,Wv 0] (.pl (.ix (.var 1) (.cst (.int 0)))) (.nm 0) Ww (.mcl (O "Pen") (O "told") (.var 1) (.cons (.var 0) .nil))) (.var 2)))
noncomputable def ZaI:Sx:=(.forr (.nm 4) (.pl (.ix (.var 1) (.cst (.int 2)))) (.cons (.iff (.ex (.cmp .In (.ix (.var 4) (.cst (.int 0))) (.glo (O "ORDERS")))) (.cons (.drp (.call (O "do_order") (.cons (.var 0) (.cons (.var 4) (.cons (.var 3) (.cons (.ix (.var 1) (.cst (.int 1))) .nil)))))) .nil) (.cons (.drp (.meth .app (.var 3) (.cons (.mcl (O "Pen") (O "filled") (.var 0) (.cons (.var 4) (.cons (.ix (.var 1) (.cst (.int 1))) .nil))) .nil))) .nil)) .nil))
noncomputable def ZcX:Sx:=(.ret (.var 3))
noncomputable def ZhF:Sxs:=(.cons ZaJ (.cons ZaI (.cons ZcX .nil)))
noncomputable def ZaD:Fd:=⟨[(O "pen"),(O "level"),(O "above")],[(O "pen"),(O "level"),(O "above"),(O "done"),(O "item")],ZhF⟩
noncomputable def ZbZ:Sx:=(.set (.nm 1) (.mk (O "Pen") (.cons (.glo (O "WIDEST")) .nil)))
noncomputable def ZaX:Sx:=(.set (.nm 2) (.call (O "level_read") (.cons (.var 1) (.cons (.var 0) (.cons (.lstl .nil) .nil)))))
noncomputable def ZaW:Sx:=(.forr (.nm 3) (.pl (.ix (.var 0) (.cst (.int 3)))) (.cons (.set (.nm 2) (.call (O "level_read") (.cons (.var 1) (.cons (.var 3) (.cons (.var 2) .nil))))) .nil))
noncomputable def ZbY:Sx:=(.ret (.ix (.var 2) (.cst (.int 0))))
noncomputable def Zi2:Sxs:=(.cons ZbZ (.cons ZaX (.cons ZaW (.cons ZbY .nil))))
noncomputable def Za5:Fd:=⟨[(O "state")],[(O "state"),(O "pen"),(O "done"),(O "level")],Zi2⟩
noncomputable def ZhI:Sx:=(.set (.nm 1) (.cst .non))
noncomputable def ZhH:Sx:=(.trs 1 (O "dump_read") (.cons (.var 0) .nil) (O "Wide"))
noncomputable def ZhG:Sx:=(.ret (.var 1))
noncomputable def Zcu:Sxs:=(.cons ZhI (.cons ZhH (.cons ZhG .nil)))
noncomputable def Zbs:Fd:=⟨[(O "_law_state")],[(O "_law_state"),(O "_law_told")],Zcu⟩
structure Drd(P:Pg):Prop where
 m:Dm.Dmp P
 p:Pw.Pnw P
 do_order:P.tb.lookup (O "do_order")=Wv Zbv
 level_read:P.tb.lookup (O "level_read")=Wv ZaD
 dump_read:P.tb.lookup (O "dump_read")=Wv Za5
 law_read:P.tb.lookup (O "_law_read")=Wv Zbs
noncomputable def ZtU:Ix:=(.pl (.ix (.var 1) (.cst (.int 2))))
noncomputable def Zvt:Sx:=(.iff (.ex (.cmp .In (.ix (.var 4) (.cst (.int 0))) (.glo (O "ORDERS")))) (.cons (.drp (.call (O "do_order") (.cons (.var 0) (.cons (.var 4) (.cons (.var 3) (.cons (.ix (.var 1) (.cst (.int 1))) .nil)))))) .nil) (.cons (.drp (.meth .app (.var 3) (.cons (.mcl (O "Pen") (O "filled") (.var 0) (.cons (.var 4) (.cons (.ix (.var 1) (.cst (.int 1))) .nil))) .nil))) .nil))
noncomputable def Zb7:Sxs:=(.cons Zvt .nil)
theorem ZfL:ZaI=.forr (.nm 4) ZtU Zb7:=rfl
noncomputable def ZtX:Ix:=(.pl (.ix (.var 0) (.cst (.int 3))))
noncomputable def Zvv:Sx:=(.set (.nm 2) (.call (O "level_read") (.cons (.var 1) (.cons (.var 3) (.cons (.var 2) .nil)))))
noncomputable def Zim:Sxs:=(.cons Zvv .nil)
theorem Zge:ZaW=.forr (.nm 3) ZtX Zim:=rfl
end Dr
end
section
namespace Rr
open PySem L2 IV Tm Pw
open Rw (Th Wt Sta Zb0 ArOk ZcI Zdh ThN ArN WtN StN ThG ArG Bd rd ra fw rnd read)
variable {P:Pg}{h0 h:Hd}{pk N:Nat}
mutual
theorem Zed:∀v:Th,Zb0 v->ThN N v->ThG N v
 |.num _,_,_=>trivial
 |.clo E ar,ok,b=>⟨λx z=>by (have q:=ok.1;rw[z]at q;cases q),b.1,arg_of ar ok.2.2 b.2⟩
theorem arg_of:∀ar:Rw.Ar,ArOk ar->ArN N ar->ArG N ar
 |.nil,_,_=>trivial
 |.cons _ v r,ok,b=>⟨Zed v ok.1 b.1,arg_of r ok.2 b.2⟩
end
theorem Zdx{E:T}{ar:Rw.Ar}(ok:ArOk ar)(b:Bd N E ar)(a:ArN N ar):Wok N (E,up ar):=⟨by show(up ar).length+2 * E.size<=2 * N;rw[Zjb];exact b,ZqM (arg_of ar ok a)⟩
theorem ZX(f a:T):(T.call f a).size=1+(f.size+a.size):=by rw[Zg];simp[T.parts]
theorem ZbF(w:Wd)(f a:T):(T.op w f a).size=1+(f.size+a.size):=by rw[Zg];simp[T.parts]
theorem ZbN(c t e:T):(T.iff c t e).size=1+(c.size+(t.size+e.size)):=by rw[Zg];simp[T.parts]
inductive Rs(h:Hd)(t:T):R D->Prop
 |ok {g:Hd} (le:t.size<=120):Rs h t (.ok t.d (h++g))
 |ex {g:Hd} (lt:120<t.size):Rs h t (.exc (O "Wide") (h++g))
noncomputable def rdo(t:T):D:=if t.size<=120 then t.d else .non
end Rr
end
section
namespace Rr
open PySem L2 IV Tm Pw
open Rw (Th Wt Sta Ans Zb0 ArOk ZcI Zdh ThN ArN WtN StN Bd rd ra fw rnd read step ms wm wms)
variable {P:Pg}{h:Hd}{N:Nat}
theorem Zmq(n:Bool)(t:T)(hz:t.size<=120)(h:Hd):IV.ZbS n t.d t.d h=.ok (.bl (!n)) h:=ZlA (_root_.Rw.T.pure_d t) (by rw[_root_.Rw.T.dp_d];have:=ZbV t;omega)
noncomputable def ends:Ex:=(.lstl (.cons (.tupl (.cons (.cst (.str (O "value"))) .nil)) (.cons (.tupl (.cons (.cst (.str (O "stuck"))) .nil)) .nil)))
noncomputable def vs2:List D:=[.tup [.str (O "value")],.tup [.str (O "stuck")]]
theorem ZqA(h:Hd):ZeS (h++[.lst vs2]) (.ref h.length)=Wv (.list [.tuple [.str (O "value")],.tuple [.str (O "stuck")]]):=by show ZeR (h++[.lst vs2]) 4 h.length=_;rw[ZeR,show(h++[DO.lst vs2])[h.length]? = Wv (.lst vs2) by simp];rfl
theorem ZqB{a:Str}{d:D}(hp:d.pure=Wx)(h:Hd):ZeY (.tup [.str a,d]) (.ref h.length) (h++[.lst vs2])=.ok (.bl Wy) (h++[.lst vs2]):=by
 obtain⟨p,e,_,_⟩:=Zg6 (rd:=ZeR (h++[.lst vs2]) 4) d hp;have p1:ZeS (h++[.lst vs2]) (.tup [.str a,d])=Wv (.tuple [.str a,p]):=by simp only[ZeS,D.py,D.pys,e,Yz,Yv]
 unfold ZeY;rw[p1,ZqA];simp only;rw[if_pos (OE (Nat.min_le_left _ _) (by simp[PyData.depth,PyData.depthAll]))];simp[YQ,PyData.eqvAll]
theorem Zn6{w:Str}(e:w=O "value" \/ w=O "stuck")(h:Hd):ZeY (.tup [.str w]) (.ref h.length) (h++[.lst vs2])=.ok (.bl Wx) (h++[.lst vs2]):=by have p1:ZeS (h++[.lst vs2]) (.tup [.str w])=Wv (.tuple [.str w]):=rfl;unfold ZeY;rw[p1,ZqA];simp only;rw[if_pos (OE (Nat.min_le_left _ _) (by simp[PyData.depth,PyData.depthAll]))];rcases e with rfl|rfl<;>simp[YQ,PyData.eqvAll]
theorem Zuj{U:Tb}{S:Ev}{e:Ex}{x:D}{b:Bool}(p:ev U e S h=.ok x h)(q:ZeY x (.ref h.length) (h++[.lst vs2])=.ok (.bl b) (h++[.lst vs2])):ev U (.lin e ends) S h=.ok (.bl b) (h++[.lst vs2]):=by have es:ev U ends S h=.ok (.ref h.length) (h++[.lst vs2]):=Zj4 (xs:=vs2) (Za (ZaN (Za rfl rfl) (by simp)) (Za (ZaN (Za rfl rfl) (by simp)) rfl)) (by simp[vs2]);rw[Zse,p,Zk,es,Zk,q]
theorem Zbe:∀(t:T) (ar:Ar),t.size<=(sub ar t).size
 |.num _,_=>Oq _
 |.name x,ar=>ZaZ _
 |.fn x e,ar=>by have:=Zbe e ((x,Ww)::ar);rw[sub,Zg (.fn x e),Zg (.fn x _)];simp[T.parts];omega
 |.rcc f x e,ar=>by have:=Zbe e ((f,Ww)::(x,Ww)::ar);rw[sub,Zg (.rcc f x e),Zg (.rcc f x _)];simp[T.parts];omega
 |.call f a,ar=>by have:=Zbe f ar;have:=Zbe a ar;rw[sub,ZX,ZX];omega
 |.iff c t e,ar=>by have:=Zbe c ar;have:=Zbe t ar;have:=Zbe e ar;rw[sub,ZbN,ZbN];omega
 |.op w f a,ar=>by have:=Zbe f ar;have:=Zbe a ar;rw[sub,ZbF,ZbF];omega
theorem Zub(w:Wt)(t:T):2 * t.size+wm w<=2 * (fw w t).size:=by
 cases w with
 |arg A ar=>have:=Zbe A (ra ar);rw[fw,ZX];simp only[wm];omega
 |right o F ar=>have:=Zbe F (ra ar);rw[fw,ZbF];simp only[wm];omega
 |fn V=>rw[fw,ZX];simp only[wm];omega
 |iff a b ar=>rw[fw,ZbN];simp only[wm];omega
 |left o V=>rw[fw,ZbF];simp only[wm];omega
theorem Zjm:∀(ws:List Wt) (t:T),2 * t.size+wms ws<=2 * (rnd ws t).size
 |[],t=>Oq _
 |w::ws,t=>by have h1:=Zjm ws (fw w t);have h2:=Zub w t;rw[Rw.Zb2];show _<=2 * (rnd ws (fw w t)).size;omega
theorem ZkI(s:Sta):ms s<=2 * (read s).size:=by
 cases s with
 |go E ar ws=>have h1:=Zjm ws (sub (ra ar) E);have h2:=Zbe E (ra ar);show 2 * E.size+wms ws<=2 * (rnd ws (sub (ra ar) E)).size;omega
 |back V ws=>have h1:=Zjm ws (rd V);show wms ws<=2 * (rnd ws (rd V)).size;omega
theorem ZpQ{M j a b c f:Nat}(hj:j<M)(hf:(M - j) * 30000+a<f+1)(m1:b<=c)(hc:c<=29000):(M - (j+1)) * 30000+b<f:=by
 obtain⟨d,rfl⟩:∃d,M=j+1+d:=⟨M - (j+1),by omega⟩
 rw[show j+1+d - j=d+1 by omega]at hf;rw[show j+1+d - (j+1)=d by omega];omega
theorem Zrf(hc:P.tb.lookup (O "_law_cell_at")=Wv Gn.ZC)(n:Nat)(zs:List Int){h:Hd}:∃v,run P (n+1) (O "_law_cell_at") [.ro (zs.map .int),.int 0] h=.ok (.int v) h:=by
 rw[Zc hc rfl];cases zs with
 |nil=>exact⟨0,by simp[Gn.ZC,Gn.ZbX,Zq,ZaQ,Zi5,seqOf,lstOf]⟩
 |cons z zs=>
  refine⟨z,?_⟩;have:(0:Int)<(zs.length:Int)+1:=by omega
  simp[Gn.ZC,Gn.ZbX,Zq,ZaQ,Zi5,seqOf,lstOf,this]
end Rr
end
section
namespace Dr
open PySem IV Tm Pw
open Rw (Th Wt Zb0 ZcI Zdh StN WtN ThN ArN Bd read rd ra fw rnd ThG ArG)
open Dm (Lv)
open Rr (ZX ZbF ZbN Zed Zdx)
variable {P:Pg}{h0 h:Hd}{pk dk N u:Nat}
structure Sl(h0 h:Hd)(pk dk u:Nat)(ds:List D):Prop where
 p:h[pk]? = Wv (Za0 (.int 120) (u:Int))
 l:h[dk]? = Wv (.lst ds)
 ol:h0.length<=h.length
 o1:h0.length<=pk
 o2:h0.length<=dk
 old:∀i,i<h0.length->h[i]? = h0[i]?
section
variable {ds:List D}{h':Hd}
theorem Sl.self(s:Sl h0 h pk dk u ds):Aft h h pk (.int 120) (u:Int):=⟨s.p,Oq _,λ_ _ _=>rfl⟩
theorem Sl.ne(s:Sl h0 h pk dk u ds):pk≠dk:=ZfG s.p s.l
theorem Sl.aft(s:Sl h0 h pk dk u ds){v:Nat}(a:Aft h h' pk (.int 120) (v:Int)):Sl h0 h' pk dk v ds:=⟨a.1,by rw[a.2.2 dk (Zd0 s.l) (YL s.ne)];exact s.l,OE s.ol a.2.1,s.o1,s.o2,λi hi=>by rw[a.2.2 i (O4 hi s.ol) (by have:=s.o1;omega)];exact s.old i hi⟩
theorem Sl.gone(s:Sl h0 h pk dk u ds)(o:Old h h' pk):∃g,h'=h0++g:=Tm.grown (OE s.ol o.1) λi hi=>by rw[o.2 i (O4 hi s.ol) (by have:=s.o1;omega)];exact s.old i hi
theorem Sl.self_gone(s:Sl h0 h pk dk u ds):∃g,h=h0++g:=Tm.grown s.ol s.old
theorem Sl.setL(s:Sl h0 h pk dk u ds)(es:List D):Sl h0 (h.set dk (.lst es)) pk dk u es:=⟨by rw[Oc (YL s.ne)];exact s.p,by rw[Ol (Zd0 s.l)],by simpa using s.ol,s.o1,s.o2,λi hi=>by rw[Oc (by have:=s.o2;omega)];exact s.old i hi⟩
theorem Sl.pop{d:D}(s:Sl h0 h pk dk u (ds++[d])):∃h1,Z9 .pop (.ref dk) [] h=.ok d h1/\Sl h0 h1 pk dk u ds:=⟨_,ZfH s.l,s.setL ds⟩
theorem Sl.push(s:Sl h0 h pk dk u ds)(d:D)(hz:ds.length<=1000):∃h1,Z9 .app (.ref dk) [d] h=.ok .non h1/\Sl h0 h1 pk dk u (ds++[d]):=⟨_,ZdZ s.l (by rw[YC];omega),s.setL _⟩
end
inductive Od(h0:Hd)(pk dk:Nat)(xs:List D)(t:T)(k:Nat)(S:Ev):R (Fl×Ev)->Prop
 |ok {h':Hd} (le:k+t.size<=120) (s:Sl h0 h' pk dk (k+t.size) (xs++[t.d])):Od h0 pk dk xs t k S (.ok (.nx,S) h')
 |ex {g:Hd} (lt:120<k+t.size):Od h0 pk dk xs t k S (.exc (O "Wide") (h0++g))
theorem Zib{U:Tb}{S:Ev}{o e:Ex}{xs:List D}{t:T}{k:Nat}(s:Sl h0 h pk dk u xs)(hk:k<=120)(hz:xs.length<=1000)(eo:ev U o S h=.ok (.ref dk) h)(oe:Ot h pk t k (ev U e S h)):Od h0 pk dk xs t k S (xs1 U (.drp (.meth .app o (.cons e .nil))) S h):=by
 generalize hr:ev U e S h=r at oe;cases oe with
 |@ex h1 lt a=>
  have q:ev U (.meth .app o (.cons e .nil)) S h=.exc (O "Wide") h1:=by rw[Ze8,eo,Zk,Zar s.l,if_pos rfl,ZiJ hr];rfl
  rw[ZiN q];obtain⟨g,rfl⟩:=s.gone a;exact .ex (by omega)
 |ok le a=>have s1:=s.aft (v:=k+t.size) a;obtain⟨h2,e2,s2⟩:=s1.push t.d hz;rw[ZeL (Zht eo s.l (Za hr rfl) e2)];exact .ok (by omega) s2
section
variable {xs:List D}{k:Nat}
noncomputable def vo(od:D)(pk dk:Nat)(ad:D)(o4:Option D):Ev:=[Wv (.ref pk),Wv od,Wv (.ref dk),Wv ad,o4]
inductive Or(h0:Hd)(pk dk:Nat)(xs:List D)(t:T)(k:Nat):R D->Prop
 |ok {h':Hd} (le:k+t.size<=120) (s:Sl h0 h' pk dk (k+t.size) (xs++[t.d])):Or h0 pk dk xs t k (.ok .non h')
 |ex {g:Hd} (lt:120<k+t.size):Or h0 pk dk xs t k (.exc (O "Wide") (h0++g))
theorem ZtA{U:Tb}{S:Ev}{t:T}{s:Sx}{r:R (Fl×Ev)}(q:xs1 U s S h=r)(o:Od h0 pk dk xs t k S r):Or h0 pk dk xs t k (Zh (xs2 U (.cons s .nil) S h)):=by
 cases o with
 |ok le z=>rw[Zb q];exact .ok le z
 |ex lt=>rw[ZcJ q];exact .ex lt
theorem ZiB(H:Drd P)(n:Nat){f a t:T}{od ad:D}{fe:Ex}{fs:List D}(hu:k+(f.size+a.size)<=120)(hz:xs.length<=900)(ef:∀ h',ev (P.tbl (n+2)) fe (vo od pk dk ad (Wv a.d)) h'=.ok (.tup fs) h')(hf:fs.length<=100)(et:t.d=.tup (fs++[f.d,a.d]))(zt:t.size=1+(f.size+a.size))(h1:Hd)(s1:Sl h0 h1 pk dk (k+(f.size+a.size)) (xs++[f.d])) :
   Od h0 pk dk xs t k (vo od pk dk ad (Wv a.d)) (xs1 (P.tbl (n+2)) (.drp (.meth .app (.var 2) (.cons (.mcl (O "Pen") (O "joined") (.var 0) (.cons fe (.cons (.tupl (.cons (.meth .pop (.var 2) .nil) (.cons (.var 4) .nil))) .nil))) .nil))) (vo od pk dk ad (Wv a.d)) h1):=by
 obtain ⟨h2,e2,s2⟩:=s1.pop;have es:evs (P.tbl (n+2)) (.cons fe (.cons (.tupl (.cons (.meth .pop (.var 2) .nil) (.cons (.var 4) .nil))) .nil)) (vo od pk dk ad (Wv a.d)) h1=.ok [.tup fs,.tup [f.d,a.d]] h2:=Za (ef _) (Za (ZaN (Za (Zht rfl s1.l rfl e2) (Za rfl rfl)) (by simp)) rfl);by_cases q:k+(f.size+a.size)=120
 . have a2:=s2.self;rw [q] at a2;have ej:ev (P.tbl (n+2)) (.mcl (O "Pen") (O "joined") (.var 0) (.cons fe (.cons (.tupl (.cons (.meth .pop (.var 2) .nil) (.cons (.var 4) .nil))) .nil))) (vo od pk dk ad (Wv a.d)) h1=.exc (O "Wide") h2:=ZbJ rfl s1.p rfl es (Zh8 H.p n fs _ a2);have em:ev (P.tbl (n+2)) (.meth .app (.var 2) (.cons (.mcl (O "Pen") (O "joined") (.var 0) (.cons fe (.cons (.tupl (.cons (.meth .pop (.var 2) .nil) (.cons (.var 4) .nil))) .nil))) .nil)) (vo od pk dk ad (Wv a.d)) h1=.exc (O "Wide") h2:=by
     rw [Ze8,show ev (P.tbl (n+2)) (.var 2) (vo od pk dk ad (Wv a.d)) h1=.ok (.ref dk) h1 from rfl,Zk,Zar s1.l,if_pos rfl,ZiJ ej];rfl
   rw [ZiN em];obtain ⟨g,rfl⟩:=s2.self_gone;exact .ex (by omega)
 . have ej:ev (P.tbl (n+2)) (.mcl (O "Pen") (O "joined") (.var 0) (.cons fe (.cons (.tupl (.cons (.meth .pop (.var 2) .nil) (.cons (.var 4) .nil))) .nil))) (vo od pk dk ad (Wv a.d)) h1=_:=ZbJ rfl s1.p rfl es (Zgt H.p n fs _ s2.self (by omega) (by simp;omega));have s3:=s2.aft (v:=k+t.size) (by
     have:=Aft.set s2.self (((k+(f.size+a.size):Nat):Int)+1);rw [show ((k+t.size:Nat):Int)=((k+(f.size+a.size):Nat):Int)+1 by omega];exact this)
   obtain ⟨h4,e4,s4⟩:=s3.push t.d (by omega);rw [et] at e4;rw [ZeL (Zht rfl s1.l (Za ej rfl) e4)];exact .ok (by omega) s4
theorem Zz{U:Tb}{S:Ev}{s:Sx}:xs2 U (.cons s .nil) S h=xs1 U s S h:=by
 rw[xs2];cases xs1 U s S h with
 |bad=>rfl
 |exc c h=>rfl
 |ok p h=>obtain⟨f,S⟩:=p;cases f<;>rfl
theorem ZfE(H:Drd P)(n:Nat){i:Dm.It}{ad:D}{w:Str}{ds:List D}(hw:i.d=.tup (.str w::ds)){d:D}{h1:Hd}(hl:Zb8 (.ref dk) h=Wx)(e1:Z9 .pop (.ref dk) [] h=.ok d h1){s:Sx}(q:xs1 (P.tbl (n+3)) Zcw (vo i.d pk dk ad (Wv d)) h1=xs1 (P.tbl (n+3)) s (vo i.d pk dk ad (Wv d)) h1){t:T}(o:Od h0 pk dk xs t k (vo i.d pk dk ad (Wv d)) (xs1 (P.tbl (n+3)) s (vo i.d pk dk ad (Wv d)) h1)):Or h0 pk dk xs t k (run P (n+4) (O "do_order") [.ref pk,i.d,.ref dk,ad] h):=by rw[Zc H.do_order (by rfl)];have x1:xs1 (P.tbl (n+3)) Zcx (vo i.d pk dk ad Ww) h=.ok (.nx,vo i.d pk dk ad (Wv d)) h1:=Zn (by rw[Ze8,show ev (P.tbl (n+3)) (.var 2) (vo i.d pk dk ad Ww) h=.ok (.ref dk) h from rfl,Zk,if_pos hl];exact e1);show Or h0 pk dk xs t k (Zh (xs2 (P.tbl (n+3)) (.cons Zcx (.cons Zcw .nil)) (vo i.d pk dk ad Ww) h));rw[Zb x1];exact ZtA q o
theorem Zmy(H:Drd P)(n:Nat){f a:T}{ad:D}(s:Sl h0 h pk dk (k+(f.size+a.size)) (xs++[f.d]++[a.d]))(hu:k+(f.size+a.size)<=120)(hz:xs.length<=900):Or h0 pk dk xs (.call f a) k (run P (n+4) (O "do_order") [.ref pk,Dm.It.app.d,.ref dk,ad] h):=by obtain⟨h1,e1,s1⟩:=s.pop;refine ZfE H n rfl (Zar s.l) e1 ((Zx (Zr (Zbx rfl rfl) (by decide))).trans (Zz.trans ((Zw (Zr (Zbx rfl rfl) (by decide))).trans Zz))) ?_;exact ZiB H (n+1) hu hz (λ_=>rfl) (by simp) rfl (ZX f a) h1 s1
theorem Zkx(H:Drd P)(n:Nat){w:Wd}{f a:T}{ad:D}(s:Sl h0 h pk dk (k+(f.size+a.size)) (xs++[f.d]++[a.d]))(hu:k+(f.size+a.size)<=120)(hz:xs.length<=900):Or h0 pk dk xs (.op w f a) k (run P (n+4) (O "do_order") [.ref pk,(Dm.It.work w).d,.ref dk,ad] h):=by obtain⟨h1,e1,s1⟩:=s.pop;refine ZfE H n rfl (Zar s.l) e1 ((Zx (Zr (Zbx rfl rfl) (by decide))).trans (Zz.trans ((Zx (Zr (Zbx rfl rfl) (by decide))).trans Zz))) ?_;exact ZiB H (n+1) hu hz (λ_=>rfl) (by simp) rfl (ZbF w f a) h1 s1
theorem Zra(H:Drd P)(n:Nat)(hN:1<=N)(hN2:N<=45000){c t e:T}{ar:Rw.Ar}(wt:Wok N (t,up ar))(we:Wok N (e,up ar))(s:Sl h0 h pk dk (k+c.size) (xs++[c.d]))(hu:k+c.size<=120)(hz:xs.length<=900):Or h0 pk dk xs (.iff c (sub (ra ar) t) (sub (ra ar) e)) k (run P (n+4) (O "do_order") [.ref pk,(Dm.It.cho t e).d,.ref dk,.tup ar.ds] h):=by
 obtain⟨h1,e1,s1⟩:=s.pop;refine ZfE H n rfl (Zar s.l) e1 ((Zw (Zr (Zbx rfl rfl) (by decide))).trans Zz) ?_;refine Zib s1 (by omega) (by omega) rfl (Zt4 H.p (n+1) (by omega) rfl s1.p rfl (Zvk (u:=k+c.size) hu rfl (A:=sub (ra ar) t) (B_:=sub (ra ar) e) ?_ (λh' a' hu'=>?_) rfl (by rw[ZbN];omega) (by simp)))
 . rw[ZbJ (xs:=[t.d,.tup ar.ds]) rfl s1.p rfl rfl rfl];exact Zg4 H.p n hN hN2 t ar s1.self hu wt
 . rw[ZbJ (xs:=[e.d,.tup ar.ds]) rfl a'.1 rfl rfl rfl];exact Zg4 H.p n hN hN2 e ar (u:=k+c.size+(sub (ra ar) t).size) (by simpa using a') hu' we
end
noncomputable def stk(st:List Th):List D:=(st.map λv=>(rd v).d).reverse
noncomputable def szs(st:List Th):Nat:=(st.map λv=>(rd v).size).sum
theorem Zfi(W:Th)(st:List Th):stk (W::st)=stk st++[(rd W).d]:=by simp[stk]
theorem ZaY(W:Th)(st:List Th):szs (W::st)=(rd W).size+szs st:=by simp[szs]
theorem Zbi(st:List Th):(stk st).length=st.length:=by simp[stk]
theorem ZbG{st:List Th}{ar:Rw.Ar}{r:List Dm.It}{ws:List Wt}(c:Cx st ar r ws):∀t:T,t.size+szs st<=(rnd ws t).size:=by
 induction c with
 |nil=>exact λt=>Oq _
 |@app W _ _ _ _ c ih=>intro t;have:=ih (.call (rd W) t);rw[ZX]at this;rw[ZaY];exact OE (by omega) this
 |@arg A _ ar _ _ c ih=>intro t;have:=ih (.call t (sub (ra ar) A));rw[ZX]at this;exact OE (by omega) this
 |@work w W _ _ _ _ c ih=>intro t;have:=ih (.op w (rd W) t);rw[ZbF]at this;rw[ZaY];exact OE (by omega) this
 |@right w F _ ar _ _ c ih=>intro t;have:=ih (.op w t (sub (ra ar) F));rw[ZbF]at this;exact OE (by omega) this
 |@cho a b _ ar _ _ c ih=>intro t;have:=ih (.iff t (sub (ra ar) a) (sub (ra ar) b));rw[ZbN]at this;exact OE (by omega) this
section
variable {lvd ab:D}{ar:Rw.Ar}{ds:List D}
noncomputable def vv(pk:Nat)(lvd ab:D)(dk:Nat)(o4:Option D):Ev:=[Wv (.ref pk),Wv lvd,Wv ab,Wv (.ref dk),o4]
theorem ZqU(H:Drd P)(n:Nat){d:D}{w:Str}{es:List D}(e:d=.tup (.str w::es)):tst (P.tbl n) (.ex (.cmp .In (.ix (.var 4) (.cst (.int 0))) (.glo (O "ORDERS")))) (vv pk lvd ab dk (Wv d)) h=.ok (Wz (w∈[O "apply",O "work",O "choose"])) h:=by
 have eg:ev (P.tbl n) (.glo (O "ORDERS")) (vv pk lvd ab dk (Wv d)) h=.ok (.tup [.str (O "apply"),.str (O "work"),.str (O "choose")]) h:=by show R.ofO (P.G (O "ORDERS")) h=_;rw[H.m.orders];rfl
 exact ZcU ((ZD (x:=.str w) ((ZA (x:=d) rfl rfl).trans (by rw[e];simp)) eg).trans (Dm.Zgx w))
theorem ZvL(H:Drd P)(n:Nat){i:Dm.It}{w:Str}{es:List D}(e:i.d=.tup (.str w::es))(hw:Wz (w∈[O "apply",O "work",O "choose"])=Wx)(hl1:∀h',Z8 P.GD lvd (.int 1) h'=.ok (.tup ar.ds) h'){h':Hd}(q:run P (n+4) (O "do_order") [.ref pk,i.d,.ref dk,.tup ar.ds] h=.ok .non h'):xs2 (P.tbl (n+4)) Zb7 (vv pk lvd ab dk (Wv i.d)) h=.ok (.nx,vv pk lvd ab dk (Wv i.d)) h':=Zz.trans ((Zw (Zr (ZqU H (n+4) e) hw)).trans (Zz.trans (ZeL (Zj q (Za rfl (Za rfl (Za rfl (Za ((ZA (x:=lvd) rfl rfl).trans (hl1 _)) rfl))))))))
theorem b_x(H:Drd P)(n:Nat){i:Dm.It}{w:Str}{es:List D}(e:i.d=.tup (.str w::es))(hw:Wz (w∈[O "apply",O "work",O "choose"])=Wx)(hl1:∀h',Z8 P.GD lvd (.int 1) h'=.ok (.tup ar.ds) h'){h':Hd}{c:Str}(q:run P (n+4) (O "do_order") [.ref pk,i.d,.ref dk,.tup ar.ds] h=.exc c h'):xs2 (P.tbl (n+4)) Zb7 (vv pk lvd ab dk (Wv i.d)) h=.exc c h':=Zz.trans ((Zw (Zr (ZqU H (n+4) e) hw)).trans (Zz.trans (ZiN (Zj q (Za rfl (Za rfl (Za rfl (Za ((ZA (x:=lvd) rfl rfl).trans (hl1 _)) rfl))))))))
theorem ZvM(H:Drd P)(n:Nat)(hN:1<=N)(hN2:N<=45000)(E:T)(wE:Wok N (E,up ar))(hl1:∀h',Z8 P.GD lvd (.int 1) h'=.ok (.tup ar.ds) h')(s:Sl h0 h pk dk u ds)(hu:u<=120)(hz:ds.length<=1000):Od h0 pk dk ds (sub (ra ar) E) u (vv pk lvd ab dk (Wv E.d)) (xs2 (P.tbl (n+4)) Zb7 (vv pk lvd ab dk (Wv E.d)) h):=by have tt:=ZqU H (n+4) (pk:=pk) (dk:=dk) (lvd:=lvd) (ab:=ab) (h:=h) (Dm.ZpY E);rw[Dm.Zei]at tt;rw[show xs2 (P.tbl (n+4)) Zb7 (vv pk lvd ab dk (Wv E.d)) h=_ from Zz.trans ((Zx tt).trans Zz)];refine Zib s hu hz rfl ?_;rw[ZbJ (xs:=[E.d,.tup ar.ds]) rfl s.p rfl (Za rfl (Za ((ZA (x:=lvd) rfl rfl).trans (hl1 _)) rfl)) rfl];exact Zg4 H.p (n+1) hN hN2 E ar s.self hu wE
inductive Lo(h0:Hd)(pk dk:Nat)(lvd ab:D)(t:T):R (Fl×Ev)->Prop
 |ok {h':Hd}{o4:Option D} (le:t.size<=120) (s:Sl h0 h' pk dk t.size [t.d]):Lo h0 pk dk lvd ab t (.ok (.nx,vv pk lvd ab dk o4) h')
 |ex {g:Hd} (lt:120<t.size):Lo h0 pk dk lvd ab t (.exc (O "Wide") (h0++g))
theorem ZfK(H:Drd P)(n:Nat){i:Dm.It}{w:Str}{es:List D}(e:i.d=.tup (.str w::es))(hw:Wz (w∈[O "apply",O "work",O "choose"])=Wx)(hl1:∀h',Z8 P.GD lvd (.int 1) h'=.ok (.tup ar.ds) h'){r:List D}{o4:Option D}{t t':T}{k:Nat}{xs:List D}(o:Or h0 pk dk xs t k (run P (n+4) (O "do_order") [.ref pk,i.d,.ref dk,.tup ar.ds] h))(ht:k+t.size<=t'.size)
 (ih:∀h' o4,k+t.size<=120->Sl h0 h' pk dk (k+t.size) (xs++[t.d])->Lo h0 pk dk lvd ab t' (ZP Ww (.nm 4) (xs2 (P.tbl (n+4)) Zb7) r (vv pk lvd ab dk o4) h')):Lo h0 pk dk lvd ab t' (ZP Ww (.nm 4) (xs2 (P.tbl (n+4)) Zb7) (i.d::r) (vv pk lvd ab dk o4) h):=by
 generalize hr:run P (n+4) (O "do_order") [.ref pk,i.d,.ref dk,.tup ar.ds] h=y at o;cases o with
 |ok le s=>rw[Zen (g:=.nm 4) (S:=vv pk lvd ab dk o4) (ρ1:=vv pk lvd ab dk (Wv i.d)) rfl (ZvL H n e hw hl1 hr)];exact ih _ _ le s
 |ex lt=>rw[ZnC (g:=.nm 4) (S:=vv pk lvd ab dk o4) (ρ1:=vv pk lvd ab dk (Wv i.d)) rfl (b_x H n e hw hl1 hr)];exact .ex (by omega)
theorem Zni(H:Drd P)(n:Nat)(hN:1<=N)(hN2:N<=45000)(E:T)(wE:Wok N (E,up ar))(hl1:∀h',Z8 P.GD lvd (.int 1) h'=.ok (.tup ar.ds) h')(s:Sl h0 h pk dk u ds)(hu:u<=120)(hz:ds.length<=1000){r:List D}{o4:Option D}{t':T}(ht:u+(sub (ra ar) E).size<=t'.size)
 (ih:∀h' o4,u+(sub (ra ar) E).size<=120->Sl h0 h' pk dk (u+(sub (ra ar) E).size) (ds++[(sub (ra ar) E).d])->Lo h0 pk dk lvd ab t' (ZP Ww (.nm 4) (xs2 (P.tbl (n+4)) Zb7) r (vv pk lvd ab dk o4) h')):Lo h0 pk dk lvd ab t' (ZP Ww (.nm 4) (xs2 (P.tbl (n+4)) Zb7) (E.d::r) (vv pk lvd ab dk o4) h):=by
 have o:=ZvM H n hN hN2 E wE hl1 (ab:=ab) s hu hz;generalize hr:xs2 (P.tbl (n+4)) Zb7 (vv pk lvd ab dk (Wv E.d)) h=y at o;cases o with
 |ok le s=>rw[Zen (g:=.nm 4) (S:=vv pk lvd ab dk o4) (ρ1:=vv pk lvd ab dk (Wv E.d)) rfl hr];exact ih _ _ le s
 |ex lt=>rw[ZnC (g:=.nm 4) (S:=vv pk lvd ab dk o4) (ρ1:=vv pk lvd ab dk (Wv E.d)) rfl hr];exact .ex (by omega)
theorem Sl.cast{h0 h:Hd}{pk dk u v:Nat}{ds es:List D}(s:Sl h0 h pk dk u ds)(e:u=v)(q:ds=es):Sl h0 h pk dk v es:=by subst e;subst q;exact s
theorem ZrX(H:Drd P)(n:Nat)(hN:1<=N)(hN2:N<=45000){st:List Th}{ar:Rw.Ar}{r:List Dm.It}{ws:List Wt}(c:Cx st ar r ws):(∀w∈ws,ZcI w)->(∀w∈ws,WtN N w)->(∀h',Z8 P.GD lvd (.int 1) h'=.ok (.tup ar.ds) h')->∀(t:T) (h:Hd) (o4:Option D),t.size+szs st<=120->st.length<=800->Sl h0 h pk dk (t.size+szs st) (stk st++[t.d]) ->
 Lo h0 pk dk lvd ab (rnd ws t) (ZP Ww (.nm 4) (xs2 (P.tbl (n+4)) Zb7) (r.map Dm.It.d) (vv pk lvd ab dk o4) h):=by
 induction c with
 |nil=>intro _ _ _ t h o4 hu _ s;exact .ok (o4:=o4) (show t.size<=120 by omega) (s.cast (show t.size+0=t.size from rfl) rfl)
 |@app W st ar r ws c ih=>intro ok b hl t h o4 hu hst s;have ok':=λw hw=>ok w (Oh _ hw);have b':=λw hw=>b w (Oh _ hw);rw[ZaY]at hu s;rw[Zfi]at s;rw[Os]at hst;have rs:=ZbG c (.call (rd W) t);exact ZfK H n rfl (by decide) hl (Zmy H n (k:=szs st) (s.cast (by omega) rfl) (by omega) (by rw[Zbi];omega)) (by rw[YW];exact rs) λh' o4' le s'=>ih ok' b' hl (.call (rd W) t) h' o4' (by omega) (by omega) (s'.cast (YW _ _) rfl)
 |@work w W st ar r ws c ih=>intro ok b hl t h o4 hu hst s;have ok':=λw hw=>ok w (Oh _ hw);have b':=λw hw=>b w (Oh _ hw);rw[ZaY]at hu s;rw[Zfi]at s;rw[Os]at hst;have rs:=ZbG c (.op w (rd W) t);exact ZfK H n rfl (by decide) hl (Zkx H n (k:=szs st) (s.cast (by omega) rfl) (by omega) (by rw[Zbi];omega)) (by rw[YW];exact rs) λh' o4' le s'=>ih ok' b' hl (.op w (rd W) t) h' o4' (by omega) (by omega) (s'.cast (YW _ _) rfl)
 |@arg A st ar r ws c ih=>intro ok b hl t h o4 hu hst s;have okA:=ok _ Oi;have bA:=b _ Oi;have ok':=λw hw=>ok w (Oh _ hw);have b':=λw hw=>b w (Oh _ hw);have rs:=ZbG c (.call t (sub (ra ar) A));rw[ZX]at rs;refine Zni H n hN hN2 A (Zdx okA.2 bA.1 bA.2) hl s hu (by simp[Zbi];omega) (OE (by omega) rs) λh' o4' le s'=>?_;exact ZfK H n rfl (by decide) hl (Zmy H n (k:=szs st) (s'.cast (by omega) rfl) (by omega) (by rw[Zbi];omega)) (by rw[ZX,YW];exact rs) λh2 o4' le s'=>ih ok' b' hl (.call t (sub (ra ar) A)) h2 o4' (by omega) (by omega) (s'.cast (YW _ _) rfl)
 |@right w F st ar r ws c ih=>intro ok b hl t h o4 hu hst s;have okA:=ok _ Oi;have bA:=b _ Oi;have ok':=λw hw=>ok w (Oh _ hw);have b':=λw hw=>b w (Oh _ hw);have rs:=ZbG c (.op w t (sub (ra ar) F));rw[ZbF]at rs;refine Zni H n hN hN2 F (Zdx okA.2 bA.1 bA.2) hl s hu (by simp[Zbi];omega) (OE (by omega) rs) λh' o4' le s'=>?_;exact ZfK H n rfl (by decide) hl (Zkx H n (k:=szs st) (s'.cast (by omega) rfl) (by omega) (by rw[Zbi];omega)) (by rw[ZbF,YW];exact rs) λh2 o4' le s'=>ih ok' b' hl (.op w t (sub (ra ar) F)) h2 o4' (by omega) (by omega) (s'.cast (YW _ _) rfl)
 |@cho a e st ar r ws c ih=>intro ok b hl t h o4 hu hst s;have okA:=ok _ Oi;have bA:=b _ Oi;have ok':=λw hw=>ok w (Oh _ hw);have b':=λw hw=>b w (Oh _ hw);have rs:=ZbG c (.iff t (sub (ra ar) a) (sub (ra ar) e));exact ZfK H n rfl (by decide) hl (Zra H n hN hN2 (k:=szs st) (Zdx okA.2.2 bA.1.1 bA.2) (Zdx okA.2.2 bA.1.2 bA.2) (s.cast (YW _ _) rfl) (by omega) (by rw[Zbi];omega)) (by rw[YW];exact rs) λh' o4' le s'=>ih ok' b' hl (.iff t (sub (ra ar) a) (sub (ra ar) e)) h' o4' (by omega) hst (s'.cast (YW _ _) rfl)
end
end Dr
end
section
namespace Dr
open PySem IV Tm Pw
open Rw (Th Wt Zb0 ZcI Zdh StN WtN ThN ArN Bd read rd ra fw rnd ThG ArG)
open Dm (Lv)
open Rr (ZX ZbF ZbN Zed Zdx Rs rdo)
variable {P:Pg}{h0 h:Hd}{pk dk N u:Nat}
theorem Zup{U:Tb}{elt:Ev->Hd->R D}{S:Ev}{d x:D}{ds acc:List D}{h2:Hd}(hz:acc.length<=1000)(q:elt (S.set 0 (Wv d)) h=.ok x h2):Zo Ww (.nm 0) (tsto U Ww) elt (d::ds) S acc h=Zo Ww (.nm 0) (tsto U Ww) elt ds S (acc++[x]) h2:=by
 have hl:acc.length<sizeLine:=by rw[YC];omega
 rw[ZE];simp[Wk.stays,hl,q]
theorem ZvJ{U:Tb}{elt:Ev->Hd->R D}{S:Ev}{d:D}{ds acc:List D}{h2:Hd}{c:Str}(hz:acc.length<=1000)(q:elt (S.set 0 (Wv d)) h=.exc c h2):Zo Ww (.nm 0) (tsto U Ww) elt (d::ds) S acc h=.exc c h2:=by
 have hl:acc.length<sizeLine:=by rw[YC];omega
 rw[Zo,if_pos ⟨rfl,hl⟩];show(elt (S.set 0 (Wv d)) h).bind _=_;rw[q];rfl
inductive Ct(h0:Hd)(pk:Nat)(xs:List D)(u:Nat):R (List D)->Prop
 |ok {h':Hd} (le:u<=120) (a:Aft h0 h' pk (.int 120) (u:Int)):Ct h0 pk xs u (.ok xs h')
 |ex {h':Hd} (lt:120<u) (o:Old h0 h' pk):Ct h0 pk xs u (.exc (O "Wide") h')
noncomputable def Zjf:Ex:=(.mcl (O "Pen") (O "told") (.var 1) (.cons (.var 0) .nil))
theorem Zn1(H:Drd P)(n:Nat)(hN:1<=N)(hN2:N<=45000):∀(vs:List Th) (acc:List D) (h:Hd) (u:Nat),(∀v∈vs,ThG N v)->u<=120->acc.length+vs.length<=1000->Aft h0 h pk (.int 120) (u:Int) ->
 Ct h0 pk (acc++vs.map λv=>(rd v).d) (u+szs vs) (Zo Ww (.nm 0) (tsto (P.tbl (n+4)) Ww) (ev (P.tbl (n+4)) Zjf) (vs.map Th.d) [Ww,Wv (.ref pk)] acc h)
 |[],acc,h,u,_,hu,_,a=>by have e:Zo Ww (.nm 0) (tsto (P.tbl (n+4)) Ww) (ev (P.tbl (n+4)) Zjf) ([].map Th.d) [Ww,Wv (.ref pk)] acc h=.ok acc h:=rfl;rw[e,Oy,Yt];exact .ok hu a
 |v::vs,acc,h,u,g,hu,hz,a=>by
  rw[Os]at hz;have o:=Pw.Zq9 H.p n hN hN2 v a hu (g v Oi);rw[ZaY];generalize hr:run P (n+4) (mnm (O "Pen") (O "told")) [.ref pk,v.d] h=y at o;cases o with
  |@ok h1 le a1=>have q:ev (P.tbl (n+4)) Zjf [Wv v.d,Wv (.ref pk)] h=.ok (rd v).d h1:=ZbJ rfl a.1 rfl (Za rfl rfl) hr;rw[show(v::vs).map Th.d=v.d::vs.map Th.d from rfl,Zup (S:=[Ww,Wv (.ref pk)]) (by omega) q];have ih:=Zn1 H n hN hN2 vs (acc++[(rd v).d]) h1 (u+(rd v).size) (λw hw=>g w (Oh _ hw)) (by omega) (by simp;omega) (by simpa using a1);rw[Oz,Nat.add_assoc]at ih;exact ih
  |@ex h1 lt o1=>have q:ev (P.tbl (n+4)) Zjf [Wv v.d,Wv (.ref pk)] h=.exc (O "Wide") h1:=ZbJ rfl a.1 rfl (Za rfl rfl) hr;rw[show(v::vs).map Th.d=v.d::vs.map Th.d from rfl,ZvJ (S:=[Ww,Wv (.ref pk)]) (by omega) q];exact .ex (by omega) o1
theorem Zow(st:List Th):szs st.reverse=szs st:=by simp[szs]
inductive Lvr(h0:Hd)(pk:Nat)(t:T):R D->Prop
 |ok {h':Hd}{dk:Nat} (le:t.size<=120) (s:Sl h0 h' pk dk t.size [t.d]):Lvr h0 pk t (.ok (.ref dk) h')
 |ex {g:Hd} (lt:120<t.size):Lvr h0 pk t (.exc (O "Wide") (h0++g))
noncomputable def cmx:Ex:=(.comp [(O "thing"),(O "pen")] [Ww,Wv 0] (.pl (.ix (.var 1) (.cst (.int 0)))) (.nm 0) Ww Zjf)
theorem Zg3(H:Drd P)(n:Nat)(hN:1<=N)(hN2:N<=45000){lvd:D}{rs:List Th}{todo:List Dm.It}{ak:Nat}{ab:List D}{t:T}(e0:∀ h',Z8 P.GD lvd (.int 0) h'=.ok (.tup (Dm.sd rs)) h')(e2:∀ h',Z8 P.GD lvd (.int 2) h'=.ok (.tup (todo.map Dm.It.d)) h')
   (s:Sl h0 h pk ak u ab) (hu:u<=120) (gs:∀ v∈rs,ThG N v) (hz:rs.length<=900) (hab:ab.length<=10) (lt:u+szs rs<=t.size)
   (fin:∀ dk h',u+szs rs<=120->Sl h0 h' pk dk (u+szs rs) (stk rs++ab)->Lo h0 pk dk lvd (.ref ak) t (ZP Ww (.nm 4) (xs2 (P.tbl (n+4)) Zb7) (todo.map Dm.It.d) (vv pk lvd (.ref ak) dk Ww) h')):Lvr h0 pk t (run P (n+5) (O "level_read") [.ref pk,lvd,.ref ak] h):=by
 rw [Zc H.level_read (by rfl)];show Lvr h0 pk t (Zh (xs2 (P.tbl (n+4)) (.cons ZaJ (.cons ZaI (.cons ZcX .nil))) [Wv (.ref pk),Wv lvd,Wv (.ref ak),Ww,Ww] h));have c:=Zn1 H n hN hN2 rs.reverse [] h u (fun v hv=>gs v (by simpa using hv)) hu (by simp;omega) s.self;rw [Zow,OB,show (rs.reverse.map fun v=>(rd v).d)=stk rs by simp [stk],show rs.reverse.map Th.d=Dm.sd rs by simp [Dm.sd]] at c;have ei:evi (P.tbl (n+4)) (.pl (.ix (.var 1) (.cst (.int 0)))) [Wv (.ref pk),Wv lvd,Wv (.ref ak),Ww,Ww] h=.ok ⟨Ww,Dm.sd rs⟩ h:=ZdF ((ZA (x:=lvd) rfl rfl).trans (e0 _));generalize hr:Zo Ww (.nm 0) (tsto (P.tbl (n+4)) Ww) (ev (P.tbl (n+4)) Zjf) (Dm.sd rs) [Ww,Wv (.ref pk)] [] h=y at c;cases c with
 | @ex h1 l o =>
   have ec:ev (P.tbl (n+4)) cmx [Wv (.ref pk),Wv lvd,Wv (.ref ak),Ww,Ww] h=.exc (O "Wide") h1:=by
     rw [cmx,Zhu,ei,Zk];show (Zo Ww (.nm 0) (tsto (P.tbl (n+4)) Ww) (ev (P.tbl (n+4)) Zjf) (Dm.sd rs) [Ww,Wv (.ref pk)] [] h).bnd _=_;rw [hr];rfl
   have x1:xs1 (P.tbl (n+4)) ZaJ [Wv (.ref pk),Wv lvd,Wv (.ref ak),Ww,Ww] h=.exc (O "Wide") h1:=Zmn (by
     show ev (P.tbl (n+4)) (.bin .Add cmx (.var 2)) _ h=_;rw [Zj7,ec];rfl)
   rw [ZcJ x1];obtain ⟨g,rfl⟩:=s.gone o;exact .ex (by omega)
 | @ok h1 le a =>
   have ec:ev (P.tbl (n+4)) cmx [Wv (.ref pk),Wv lvd,Wv (.ref ak),Ww,Ww] h=.ok (.ref h1.length) (h1++[.lst (stk rs)]):=ZiL ei hr;have s1:=(s.aft (v:=u+szs rs) a)
   have k1:(h1++[DO.lst (stk rs)])[ak]? = Wv (.lst ab):=keep s1.l;have k2:(h1++[DO.lst (stk rs)])[h1.length]? = Wv (.lst (stk rs)):=by simp
   have eb:opB .Add (.ref h1.length) (.ref ak) (h1++[.lst (stk rs)])=.ok (.ref (h1++[DO.lst (stk rs)]).length) (h1++[.lst (stk rs)]++[.lst (stk rs++ab)]):=by
     show Zl1 (.ref h1.length) (.ref ak) (h1++[.lst (stk rs)])=_;unfold Zl1;simp only [k1,k2];rw [if_pos (by rw [Zbi,YC];omega)];rfl
   have x1:xs1 (P.tbl (n+4)) ZaJ [Wv (.ref pk),Wv lvd,Wv (.ref ak),Ww,Ww] h=.ok (.nx,vv pk lvd (.ref ak) (h1++[DO.lst (stk rs)]).length Ww) (h1++[.lst (stk rs)]++[.lst (stk rs++ab)]):=Zn ((ZB ec rfl).trans eb);have s2:Sl h0 (h1++[.lst (stk rs)]++[.lst (stk rs++ab)]) pk (h1++[DO.lst (stk rs)]).length (u+szs rs) (stk rs++ab):=⟨keep (keep s1.p),by simp,by have:=s1.ol;simp;omega,s1.o1,by have:=s1.ol;simp;omega,fun i hi=>by
     have:=s1.ol;rw [Oe (by simp;omega),Oe (by omega)];exact s1.old i hi⟩
   rw [Zb x1];have lo:=fin _ _ le s2;have ei2:evi (P.tbl (n+4)) ZtU (vv pk lvd (.ref ak) (h1++[DO.lst (stk rs)]).length Ww) (h1++[.lst (stk rs)]++[.lst (stk rs++ab)])=.ok ⟨Ww,todo.map Dm.It.d⟩ (h1++[.lst (stk rs)]++[.lst (stk rs++ab)]):=ZdF ((ZA (x:=lvd) rfl rfl).trans (e2 _));generalize hs:ZP Ww (.nm 4) (xs2 (P.tbl (n+4)) Zb7) (todo.map Dm.It.d) (vv pk lvd (.ref ak) (h1++[DO.lst (stk rs)]).length Ww) (h1++[.lst (stk rs)]++[.lst (stk rs++ab)])=y at lo;have x2:xs1 (P.tbl (n+4)) ZaI (vv pk lvd (.ref ak) (h1++[DO.lst (stk rs)]).length Ww) (h1++[.lst (stk rs)]++[.lst (stk rs++ab)])=y:=by
     rw [ZfL];exact (ZdE ei2).trans hs
   cases lo with
   | ex lt=>rw [ZcJ x2];exact .ex lt
   | ok le s=>rw [Zb x2];exact .ok le s
theorem Cx.things{st:List Th}{ar:Rw.Ar}{r:List Dm.It}{ws:List Wt}(c:Cx st ar r ws):(∀w∈ws,ZcI w)->(∀w∈ws,WtN N w)->∀v∈st,ThG N v:=by
 induction c with
 |nil=>intro _ _ v hv;cases hv
 |app c ih=>
  intro ok b v hv;rcases O3.mp hv with rfl|hv
  . exact Zed _ (ok _ Oi) (b _ Oi)
  . exact ih (λw hw=>ok w (Oh _ hw)) (λw hw=>b w (Oh _ hw)) v hv
 |work c ih=>
  intro ok b v hv;rcases O3.mp hv with rfl|hv
  . exact Zed _ (ok _ Oi) (b _ Oi)
  . exact ih (λw hw=>ok w (Oh _ hw)) (λw hw=>b w (Oh _ hw)) v hv
 |arg c ih=>intro ok b;exact ih (λw hw=>ok w (Oh _ hw)) (λw hw=>b w (Oh _ hw))
 |right c ih=>intro ok b;exact ih (λw hw=>ok w (Oh _ hw)) (λw hw=>b w (Oh _ hw))
 |cho c ih=>intro ok b;exact ih (λw hw=>ok w (Oh _ hw)) (λw hw=>b w (Oh _ hw))
noncomputable def vd(sd:D)(pk dk:Nat)(o3:Option D):Ev:=[Wv sd,Wv (.ref pk),Wv (.ref dk),o3]
inductive Ld(h0:Hd)(pk:Nat)(sd:D)(t:T):R (Fl×Ev)->Prop
 |ok {h':Hd}{dk:Nat}{o3:Option D} (le:t.size<=120) (s:Sl h0 h' pk dk t.size [t.d]):Ld h0 pk sd t (.ok (.nx,vd sd pk dk o3) h')
 |ex {g:Hd} (lt:120<t.size):Ld h0 pk sd t (.exc (O "Wide") (h0++g))
theorem ZrY(H:Drd P)(n:Nat)(hN:1<=N)(hN2:N<=45000){sd:D}{d:List Lv}{vs:List Wt}(x:Dx d vs):(∀w∈vs,ZcI w)->(∀w∈vs,WtN N w)->(∀l∈d,l.st.length<=800)->∀(t:T) (h:Hd) (dk:Nat) (o3:Option D),t.size<=120->Sl h0 h pk dk t.size [t.d] ->
 Ld h0 pk sd (rnd vs t) (ZP Ww (.nm 3) (xs2 (P.tbl (n+5)) Zim) (d.map Lv.d) (vd sd pk dk o3) h):=by
 induction x with
 |nil=>intro _ _ _ t h dk o3 hz s;exact .ok (o3:=o3) hz s
 |@cons l d ws vs c x ih=>
  intro ok b hl t h dk o3 hz s;have ok1:=λw hw=>ok w (Ys _ hw);have b1:=λw hw=>b w (Ys _ hw);have ok2:=λw hw=>ok w (Ov _ hw);have b2:=λw hw=>b w (Ov _ hw);have ll:=hl l Oi;have er:rnd (ws++vs) t=rnd vs (rnd ws t):=by simp[rnd]
  have lv:=Zg3 H n hN hN2 (lvd:=l.d) (t:=rnd ws t) (λ_=>rfl) (λ_=>rfl) s hz (c.things ok1 b1) (by omega) (by simp) (ZbG c t) λdk' h' le s'=>ZrX H n hN hN2 c ok1 b1 (λ_=>rfl) t h' Ww le ll s';rw[er];generalize hr:run P (n+5) (O "level_read") [.ref pk,l.d,.ref dk] h=y at lv;cases lv with
  |@ok h1 dk1 le s1=>have w:xs2 (P.tbl (n+5)) Zim (vd sd pk dk (Wv l.d)) h=.ok (.nx,vd sd pk dk1 (Wv l.d)) h1:=Zz.trans (Zn (Zj hr rfl));rw[Op,Zen (g:=.nm 3) (S:=vd sd pk dk o3) (ρ1:=vd sd pk dk (Wv l.d)) rfl w];exact ih ok2 b2 (λl' hl'=>hl l' (Oh _ hl')) (rnd ws t) h1 dk1 (Wv l.d) le s1
  |ex lt=>have w:xs2 (P.tbl (n+5)) Zim (vd sd pk dk (Wv l.d)) h=.exc (O "Wide") _:=Zz.trans (Zmn (Zj hr rfl));rw[Op,ZnC (g:=.nm 3) (S:=vd sd pk dk o3) (ρ1:=vd sd pk dk (Wv l.d)) rfl w];have:=Rw.ZcM vs (rnd ws t);exact .ex (by omega)
theorem Zkv(H:Drd P)(n:Nat)(hN:1<=N)(hN2:N<=45000){s:Dm.Sta}{vs:List Wt}{t:T}(x:Dx s.dump vs)(ok:∀w∈vs,ZcI w)(b:∀w∈vs,WtN N w)(hl:∀l∈s.dump,l.st.length<=800)
 (lv:∀h' ,Sl h h' h.length (h.length+1) 0 []->Lvr h h.length t (run P (n+5) (O "level_read") [.ref h.length,s.d,.ref (h.length+1)] h')):Rs h (rnd vs t) (run P (n+6) (O "dump_read") [s.d] h):=by
 rw[Zc H.dump_read (by rfl)];show Rs h (rnd vs t) (Zh (xs2 (P.tbl (n+5)) (.cons ZbZ (.cons ZaX (.cons ZaW (.cons ZbY .nil)))) [Wv s.d,Ww,Ww,Ww] h));have x1:xs1 (P.tbl (n+5)) ZbZ [Wv s.d,Ww,Ww,Ww] h=.ok (.nx,[Wv s.d,Wv (.ref h.length),Ww,Ww]) (h++[Za0 (.int 120) 0]):=by
  refine Zn (i:=1) ?_;have eg:ev (P.tbl (n+5)) (.glo (O "WIDEST")) [Wv s.d,Ww,Ww,Ww] h=.ok (.int 120) h:=by show R.ofO (P.G (O "WIDEST")) h=_;rw[H.p.gw];rfl
  simp only[Zui,Za7,Zd5,eg,Zk];exact Ztf H.p.t (n+4) (.int 120) h
 have s0:Sl h (h++[Za0 (.int 120) 0]++[.lst []]) h.length (h.length+1) 0 []:=⟨by simp,by simp,by simp,Oq _,Wj _,λi hi=>by rw[Oz,Oe hi]⟩
 have el:ev (P.tbl (n+5)) (.lstl .nil) [Wv s.d,Wv (.ref h.length),Ww,Ww] (h++[Za0 (.int 120) 0])=.ok (.ref (h.length+1)) (h++[Za0 (.int 120) 0]++[.lst []]):=by have:=Zj4 (U:=P.tbl (n+5)) (S:=[Wv s.d,Wv (.ref h.length),Ww,Ww]) (h:=h++[Za0 (.int 120) 0]) (es:=.nil) (xs:=[]) rfl (by simp);simpa using this
 have es:evs (P.tbl (n+5)) (.cons (.var 1) (.cons (.var 0) (.cons (.lstl .nil) .nil))) [Wv s.d,Wv (.ref h.length),Ww,Ww] (h++[Za0 (.int 120) 0])=.ok [.ref h.length,s.d,.ref (h.length+1)] (h++[Za0 (.int 120) 0]++[.lst []]):=Za rfl (Za rfl (Za el rfl));have lv:=lv _ s0;rw[Zb x1];generalize hr:run P (n+5) (O "level_read") [.ref h.length,s.d,.ref (h.length+1)] (h++[Za0 (.int 120) 0]++[.lst []])=y at lv;cases lv with
 |@ex g lt=>have x2:xs1 (P.tbl (n+5)) ZaX [Wv s.d,Wv (.ref h.length),Ww,Ww] (h++[Za0 (.int 120) 0])=.exc (O "Wide") (h++g):=Zmn (Zj hr es);rw[ZcJ x2];have:=Rw.ZcM vs t;exact .ex (by omega)
 |@ok h1 dk le s1=>
  have x2:xs1 (P.tbl (n+5)) ZaX [Wv s.d,Wv (.ref h.length),Ww,Ww] (h++[Za0 (.int 120) 0])=.ok (.nx,vd s.d h.length dk Ww) h1:=Zn (Zj hr es);rw[Zb x2];have ld:=ZrY H n hN hN2 (sd:=s.d) x ok b hl t h1 dk Ww le s1;have ei:evi (P.tbl (n+5)) ZtX (vd s.d h.length dk Ww) h1=.ok ⟨Ww,s.dump.map Lv.d⟩ h1:=ZdF ((ZA (x:=s.d) rfl rfl).trans rfl);generalize hs:ZP Ww (.nm 3) (xs2 (P.tbl (n+5)) Zim) (s.dump.map Lv.d) (vd s.d h.length dk Ww) h1=y at ld;have x3:xs1 (P.tbl (n+5)) ZaW (vd s.d h.length dk Ww) h1=y:=by rw[Zge];exact(ZdE ei).trans hs
  cases ld with
  |ex lt=>rw[ZcJ x3];exact .ex lt
  |@ok h2 dk2 o3 le s2=>rw[Zb x3];obtain⟨g,rfl⟩:=s2.self_gone;have x4:xs1 (P.tbl (n+5)) ZbY (vd s.d h.length dk2 o3) (h++g)=.ok (.rt (rnd vs t).d,vd s.d h.length dk2 o3) (h++g):=ZV ((ZA (x:=.ref dk2) (y:=.int 0) rfl rfl).trans (by rw[ZG s2.l];rfl));rw[Zf x4];exact .ok le
theorem ZoL(H:Drd P)(n:Nat)(hN:1<=N)(hN2:N<=45000){s:Dm.Sta}{Z:Rw.Sta}(r:Re s Z)(ok:Zdh Z)(b:StN N Z)(hd:∀l∈s.dump,l.st.length<=800)(hs:s.st.length<=800)(h:Hd):Rs h (read Z) (run P (n+6) (O "dump_read") [s.d] h):=by
 cases r with
 |@go E st ar r d ws vs c x=>
  have ok1:=λw hw=>ok.2.2 w (Ys _ hw);have b1:=λw hw=>b.2.2 w (Ys _ hw);have er:read (.go E ar (ws++vs))=rnd vs (rnd ws (sub (ra ar) E)):=by simp[Rw.read,rnd]
  rw[er];simp only at hs;have rs:=ZbG c (sub (ra ar) E);refine Zkv H n hN hN2 (s:=⟨st,ar,.ex E::r,d⟩) x (λw hw=>ok.2.2 w (Ov _ hw)) (λw hw=>b.2.2 w (Ov _ hw)) hd λh' s0=>?_;refine Zg3 H n hN hN2 (rs:=st) (todo:=.ex E::r) (λ_=>rfl) (λ_=>rfl) s0 (by omega) (c.things ok1 b1) (by omega) (by simp) (by omega) λdk h2 le s2=>?_;have s2:=s2.cast (es:=stk st) (Nat.zero_add _) (Yt _);exact Zni H n hN hN2 E (Zdx ok.2.1 b.1 b.2.1) (λ_=>rfl) s2 (by omega) (by rw[Zbi];omega) (by omega) λh3 o4 le s3=>ZrX H n hN hN2 c ok1 b1 (λ_=>rfl) (sub (ra ar) E) h3 o4 (by omega) hs (s3.cast (YW _ _) rfl)
 |@back V st ar r d ws vs c x nn=>
  have ok1:=λw hw=>ok.2 w (Ys _ hw);have b1:=λw hw=>b.2 w (Ys _ hw);have er:read (.back V (ws++vs))=rnd vs (rnd ws (rd V)):=by simp[Rw.read,rnd]
  rw[er];simp only[Os]at hs;have rs:=ZbG c (rd V);refine Zkv H n hN hN2 (s:=⟨V::st,ar,r,d⟩) x (λw hw=>ok.2 w (Ov _ hw)) (λw hw=>b.2 w (Ov _ hw)) hd λh' s0=>?_;refine Zg3 H n hN hN2 (rs:=V::st) (todo:=r) (λ_=>rfl) (λ_=>rfl) s0 (by omega) (λv hv=>?_) (by simp;omega) (by simp) (by rw[ZaY];omega) λdk h2 le s2=>?_
  . rcases O3.mp hv with rfl|hv
    . exact Zed _ ok.1 b.1
    . exact c.things ok1 b1 v hv
  . rw[ZaY]at le;exact ZrX H n hN hN2 c ok1 b1 (λ_=>rfl) (rd V) h2 Ww (by omega) (by omega) (s2.cast (by rw[ZaY];omega) (by rw[Yt,Zfi]))
end Dr
end
section
namespace Dr
open PySem IV Tm Pw
open Rw (Th Wt Zb0 ZcI Zdh StN WtN ThN read rd ra fw rnd ms wm wms)
open Dm (Lv)
open Rr (ZX ZbF ZbN Rs rdo)
variable {P:Pg}{h:Hd}{N:Nat}
theorem Qs.keep{Z σ':Rw.Sta}(q:Qs Z σ'):Zdh Z->StN N Z->Zdh σ'/\StN N σ'/\read σ'=read Z:=by
 induction q with
 |refl=>exact λok b=>⟨ok,b,rfl⟩
 |step e q ih=>intro ok b;obtain⟨ok1,b1⟩:=Rw.ZhW ok b (.inl e);have sm:=Rw.ZhV _ ok;rw[e]at sm;obtain⟨a,c,d⟩:=ih ok1 b1;exact⟨a,c,d.trans sm⟩
theorem Zrh{s s':Dm.Sta}(e:Dm.step s=.quiet s'):s'.dump.length<=s.dump.length:=by
 obtain⟨st,ar,todo,d⟩:=s;cases todo with
 |nil=>
  cases d with
  |nil=>cases e
  |cons l r=>
   cases st with
   |nil=>cases e
   |cons v st=>cases e;exact Wj _
 |cons i r=>
  cases i with
  |ex E=>have e:Dm.Ans.quiet (Dm.quiet E st ar r d)=.quiet s':=e;cases e;unfold Dm.quiet;split<;>exact Oq _
  |app=>
   rcases st with _|⟨V,_|⟨W,st⟩⟩
   . cases e
   . cases e
   . cases W with
     |num z=>cases e
     |clo E a=>cases E<;>cases e
  |cho a b=>
   rcases st with _|⟨V,st⟩
   . cases e
   . cases V<;>cases e
  |work w=>
   rcases st with _|⟨V,_|⟨W,st⟩⟩
   . cases e
   . cases e
   . cases W<;>cases V<;>cases e
theorem ZpF{s s':Dm.Sta}(e:Dm.step s=.loud s'):s'.dump.length<=s.dump.length+1/\s'.st.length<=s.st.length/\∀l∈s'.dump,l∈s.dump\/l.st.length<=s.st.length:=by
 obtain⟨st,ar,todo,d⟩:=s;have same:∀l∈d,l∈d\/l.st.length<=st.length:=λl hl=>.inl hl;cases todo with
 |nil=>
  cases d with
  |nil=>cases e
  |cons l r=>cases st<;>cases e
 |cons i r=>
  cases i with
  |ex E=>cases e
  |app=>
   rcases st with _|⟨V,_|⟨W,st⟩⟩
   . cases e
   . cases e
   . have go:∀l∈(⟨st,ar,r⟩::d:List Lv),l∈d\/l.st.length<=(V::W::st).length:=λl hl=>by
      rcases O3.mp hl with rfl|hl
      . exact .inr (by simp only[Os];omega)
      . exact .inl hl
     cases W with
     |num z=>cases e
     |clo E a=>cases E<;>(cases e<;>exact⟨Oq _,Yy _,go⟩)
  |cho a b=>
   rcases st with _|⟨V,st⟩
   . cases e
   . cases V<;>cases e;exact⟨Wj _,Wj _,same⟩
  |work w=>
   rcases st with _|⟨V,_|⟨W,st⟩⟩
   . cases e
   . cases e
   . cases W<;>cases V<;>cases e;exact⟨Wj _,Wj _,same⟩
theorem Re.lens{s:Dm.Sta}{Z:Rw.Sta}(r:Re s Z)(hz:(read Z).size<=120):s.st.length<=121/\∀l∈s.dump,l.st.length<=120:=by
 have wl:=Rw.Zfb Z;cases r with
 |@go E st ar r d ws vs c x=>rw[show Rw.wts (.go E ar (ws++vs))=ws++vs from rfl,OA]at wl;have:=c.len;exact⟨by show st.length<=121;omega,λl hl=>by have:=x.len l hl;omega⟩
 |@back V st ar r d ws vs c x n=>rw[show Rw.wts (.back V (ws++vs))=ws++vs from rfl,OA]at wl;have:=c.len;exact⟨by show st.length+1<=121;omega,λl hl=>by have:=x.len l hl;omega⟩
structure Di(N:Nat)(s:Dm.Sta)(Z:Rw.Sta)(k:Nat):Prop where
 re:Re s Z
 ok:Zdh Z
 b:StN N Z
 dl:s.dump.length<=k
 hs:s.st.length<=700
 hl:∀l∈s.dump,l.st.length<=700
inductive Sp(N:Nat)(t:T)(k:Nat):Dm.Ans->Prop
 |quiet {s':Dm.Sta}{σ':Rw.Sta} (d:Di N s' σ' k) (er:read σ'=t):Sp N t k (.quiet s')
 |loud {s':Dm.Sta}{σ':Rw.Sta} (d:Di N s' σ' (k+1)) (nv:isV t=Wy) (nx:next t=Wv (read σ')):Sp N t k (.loud s')
 |value (v:isV t=Wx):Sp N t k .value
 |stuck (nv:isV t=Wy) (nx:next t=Ww):Sp N t k .stuck
theorem Di.step{s:Dm.Sta}{Z:Rw.Sta}{k:Nat}(d:Di N s Z k)(hz:(read Z).size<=120):Sp N (read Z) k (Dm.step s):=by
 have sm:=sim d.re d.ok;have rs:=Rw.ZhV Z d.ok;generalize ha:Dm.step s=a at sm;cases sm with
 |quiet r q=>obtain⟨ok',b',e'⟩:=q.keep d.ok d.b;obtain⟨l1,l2⟩:=r.lens (by rw[e'];exact hz);exact .quiet ⟨r,ok',b',OE (Zrh ha) d.dl,by omega,λl hl=>by have:=l2 l hl;omega⟩ e'
 |loud e r q=>
  rw[e]at rs;obtain⟨⟨nv,_⟩,nx⟩:=rs;obtain⟨ok1,b1⟩:=Rw.ZhW d.ok d.b (.inr e);obtain⟨ok',b',e'⟩:=q.keep ok1 b1;obtain⟨l1,l2,l3⟩:=ZpF ha;obtain⟨m1,m2⟩:=d.re.lens hz;refine .loud ⟨r,ok',b',OE l1 (Nat.succ_le_succ d.dl),by omega,λl hl=>?_⟩ nv (by rw[e'];exact nx);rcases l3 l hl with z|z
  . exact d.hl l z
  . omega
 |value e=>rw[e]at rs;obtain⟨_,_,v⟩:=rs;exact .value v
 |stuck e=>rw[e]at rs;obtain⟨⟨nv,_⟩,nx⟩:=rs;exact .stuck nv nx
theorem Di.begin(t:T)(c:Gn.Cl [] t):Di t.size ⟨[],.nil,[.ex t],[]⟩ (.go t .nil []) 0:=⟨.go (ws:=[]) (vs:=[]) .nil .nil,⟨c,trivial,λx hx=>by cases hx⟩,⟨by show 0+2 * t.size<=2 * t.size;omega,trivial,λx hx=>by cases hx⟩,Oq _,Yy _,λl hl=>by cases hl⟩
theorem Di.run(H:Drd P)(n:Nat){s:Dm.Sta}{Z:Rw.Sta}{k:Nat}(d:Di N s Z k)(hN2:N<=45000)(hz:(read Z).size<=120)(hk:k<=900):run P (n+5) (O "dump_step") [s.d] h=.ok (Dm.step s).d h:=ZoK H.m n d.re d.ok d.b hN2 hz (OE d.dl hk)
theorem Di.read(H:Drd P)(n:Nat){s:Dm.Sta}{Z:Rw.Sta}{k:Nat}(d:Di N s Z k)(hN:1<=N)(hN2:N<=45000)(h:Hd):Rs h (Rw.read Z) (IV.run P (n+6) (O "dump_read") [s.d] h):=ZoL H n hN hN2 d.re d.ok d.b (λl hl=>by have:=d.hl l hl;omega) (by have:=d.hs;omega) h
theorem Di.lread(H:Drd P)(n:Nat){s:Dm.Sta}{Z:Rw.Sta}{k:Nat}(d:Di N s Z k)(hN:1<=N)(hN2:N<=45000)(h:Hd):∃g,IV.run P (n+7) (O "_law_read") [s.d] h=.ok (rdo (Rw.read Z)) (h++g):=by
 have r:=d.read H n hN hN2 h;rw[Zc H.law_read (by rfl)];show ∃g,Zh (xs2 (P.tbl (n+6)) Zcu [Wv s.d,Ww] h)=_;generalize hr:IV.run P (n+6) (O "dump_read") [s.d] h=y at r;cases r with
 |@ok g le=>refine⟨g,?_⟩;have w:xs2 (P.tbl (n+6)) Zcu [Wv s.d,Ww] h=.ok (.rt (Rw.read Z).d,[Wv s.d,Wv (Rw.read Z).d]) (h++g):=(Zb (Zn rfl)).trans ((Zb (ZqQ (Za rfl rfl) hr)).trans (Zf (ZV rfl)));rw[w,rdo,if_pos le];rfl
 |@ex g lt=>refine⟨g,?_⟩;have w:xs2 (P.tbl (n+6)) Zcu [Wv s.d,Ww] h=.ok (.rt .non,[Wv s.d,Wv .non]) (h++g):=(Zb (Zn rfl)).trans ((Zb (ZsR (Za rfl rfl) hr)).trans (Zf (ZV rfl)));rw[w,rdo,if_neg (by omega)];rfl
end Dr
end
section
namespace Dr
open PySem IV Tm
open Rw (Th Wt read ms wm wms)
open Dm (Lv)
open Rr (ZX ZbF ZbN ZkI)
noncomputable def tz:List Dm.It->Nat
 |[]=>0
 |.ex E::r=>E.size+tz r
 |.app::r=>tz r
 |.work _::r=>tz r
 |.cho _ _::r=>tz r
noncomputable def lz(d:List Lv):Nat:=(d.map λl=>2 * tz l.todo+1).sum
noncomputable def dl(s:Dm.Sta):Nat:=2 * tz s.todo+lz s.dump
theorem Zmb(E:T)(r:List Dm.It):tz (Dm.apart E++r)+1<=E.size+tz r:=by
 have:=ZaZ E;cases E with
 |call F A=>rw[ZX];simp only[Dm.apart,List.cons_append,OB,tz];omega
 |iff C t e=>rw[ZbN];simp only[Dm.apart,List.cons_append,OB,tz];omega
 |op w a b=>rw[ZbF];simp only[Dm.apart,List.cons_append,OB,tz];omega
 |_=>simp only[Dm.apart,OB];omega
theorem ZnP{s s':Dm.Sta}(e:Dm.step s=.quiet s'):dl s'<dl s:=by
 obtain⟨st,ar,todo,d⟩:=s;cases todo with
 |nil=>
  cases d with
  |nil=>cases e
  |cons l r=>
   cases st with
   |nil=>cases e
   |cons v st=>cases e;simp only[dl,lz,Op,OI,tz];omega
 |cons i r=>
  cases i with
  |ex E=>have e:Dm.Ans.quiet (Dm.quiet E st ar r d)=.quiet s':=e;cases e;have h1:=Zmb E r;have h2:=ZaZ E;unfold Dm.quiet;split<;>(simp only[dl,tz];omega)
  |app=>
   rcases st with _|⟨V,_|⟨W,st⟩⟩
   . cases e
   . cases e
   . cases W with
     |num z=>cases e
     |clo E a=>cases E<;>cases e
  |cho a b=>
   rcases st with _|⟨V,st⟩
   . cases e
   . cases V<;>cases e
  |work w=>
   rcases st with _|⟨V,_|⟨W,st⟩⟩
   . cases e
   . cases e
   . cases W<;>cases V<;>cases e
theorem Cx.tz_le{st:List Th}{ar:Rw.Ar}{r:List Dm.It}{ws:List Wt}(c:Cx st ar r ws):2 * tz r<=wms ws:=by
 induction c with
 |nil=>exact Oq _
 |app c ih=>rw[Rw.Zb2];simp only[tz,wm];omega
 |arg c ih=>rw[Rw.Zb2];simp only[tz,wm];omega
 |work c ih=>rw[Rw.Zb2];simp only[tz,wm];omega
 |right c ih=>rw[Rw.Zb2];simp only[tz,wm];omega
 |cho c ih=>rw[Rw.Zb2];simp only[tz,wm];omega
theorem ZgP(a b:List Wt):wms (a++b)=wms a+wms b:=by simp[wms]
theorem Dx.lz_le{d:List Lv}{vs:List Wt}(x:Dx d vs):lz d<=wms vs+d.length:=by
 induction x with
 |nil=>exact Oq _
 |cons c x ih=>have:=c.tz_le;rw[ZgP];simp only[lz,Op,OI,Os]at ih ⊢;omega
theorem Re.dl_le{s:Dm.Sta}{Z:Rw.Sta}(r:Re s Z):dl s<=2 * (read Z).size+s.dump.length:=by
 have m:=ZkI Z;cases r with
 |@go E st ar r d ws vs c x=>have h1:=c.tz_le;have h2:=x.lz_le;rw[show ms (.go E ar (ws++vs))=2 * E.size+wms (ws++vs)from rfl,ZgP]at m;simp only[dl,tz];omega
 |@back V st ar r d ws vs c x n=>have h1:=c.tz_le;have h2:=x.lz_le;rw[show ms (.back V (ws++vs))=wms (ws++vs)from rfl,ZgP]at m;simp only[dl];omega
theorem Zqu{N:Nat}{s:Dm.Sta}{Z:Rw.Sta}{k:Nat}(d:Di N s Z k)(hz:(read Z).size<=120):dl s<=240+k:=by have:=d.re.dl_le;have:=d.dl;omega
end Dr
end
section
namespace K32L
open PySem L2 IV
noncomputable def Zke:Sxs:=(.cons (.ret (.ands (.cons (.blt .isi (.cons (.var 0) (.cons (.cst (.ty "int")) .nil))) (.cons (.nt (.blt .isi (.cons (.var 0) (.cons (.cst (.ty "bool")) .nil)))) (.cons (.cmp2 .LtE .Lt (.cst (.int 0)) (.var 0) (.var 1)) .nil))))) .nil)
noncomputable def Zbt:Fd:=⟨[(O "_law_after"),(O "_law_left")],[(O "_law_after"),(O "_law_left")],Zke⟩
noncomputable def ZhM:Sx:=(.set (.nm 1) (.call (O "_law_program") (.cons (.var 0) (.cons (.cst (.int 1)) .nil))))
noncomputable def ZhL:Sx:=(.set (.nm 2) (.bin .Mod (.call (O "_law_mixed") (.cons (.call (O "_law_cell_at") (.cons (.var 0) (.cons (.cst (.int 0)) .nil))) (.cons (.cst (.int 1)) .nil))) (.cst (.int 25))))
noncomputable def ZhK:Sx:=(.set (.nm 3) (.call (O "dump_begun") (.cons (.var 1) .nil)))
noncomputable def ZhJ:Sx:=(.set (.nm 4) (.cst (.int 0)))
noncomputable def Zfa:Sx:=(.whl (.ex (.cmp .Lt (.var 4) (.var 2))) (.cons (.set (.nm 5) (.call (O "dump_step") (.cons (.var 3) .nil))) (.cons (.iff (.ex (.lin (.var 5) (.lstl (.cons (.tupl (.cons (.cst (.str (O "value"))) .nil)) (.cons (.tupl (.cons (.cst (.str (O "stuck"))) .nil)) .nil))))) (.cons (.ret (.cst (.bl Wx))) .nil) .nil) (.cons (.iff (.ex (.cmp .Eq (.ix (.var 5) (.cst (.int 0))) (.cst (.str (O "quiet"))))) (.cons (.iff (.ors (.cons (.ex (.cmp .NotEq (.call (O "dump_read") (.cons (.ix (.var 5) (.cst (.int 1))) .nil)) (.var 1))) (.one (.nt (.ex (.call (O "_law_less") (.cons (.call (O "dump_left") (.cons (.ix (.var 5) (.cst (.int 1))) .nil)) (.cons (.call (O "dump_left") (.cons (.var 3) .nil)) .nil)))))))) (.cons (.ret (.cst (.bl Wy))) .nil) .nil) (.cons (.iff (.ex (.cmp .NotEq (.call (O "dump_read") (.cons (.var 3) .nil)) (.var 1))) (.cons (.ret (.cst (.bl Wy))) .nil) .nil) .nil)) (.cons (.set (.nm 4) (.bin .Add (.var 4) (.cst (.int 1)))) (.cons (.set (.nm 1) (.call (O "_law_read") (.cons (.ix (.var 5) (.cst (.int 1))) .nil))) (.cons (.iff (.ex (.cmp .Is (.var 1) (.cst .non))) (.cons (.ret (.cst (.bl Wx))) .nil) .nil) .nil)))) (.cons (.set (.nm 3) (.ix (.var 5) (.cst (.int 1)))) .nil)))))
noncomputable def Zk0:Sx:=(.ret (.cst (.bl Wx)))
noncomputable def Zur:Sxs:=(.cons ZhM (.cons ZhL (.cons ZhK (.cons ZhJ (.cons Zfa (.cons Zk0 .nil))))))
noncomputable def ZgD:Fd:=⟨[(O "_law_script")],[(O "_law_script"),(O "_law_told"),(O "_law_most"),(O "_law_state"),(O "_law_loud"),(O "_law_answer")],Zur⟩
structure Lw(P:Pg):Prop where
 d:Dr.Drd P
 cell:P.tb.lookup (O "_law_cell_at")=Wv Gn.ZC
 pl:P.tb.lookup (O "places")=Wv Gn.Zbq
 measure_of:P.tb.lookup (O "measure_of")=Wv Dm.ZaC
 dump_left:P.tb.lookup (O "dump_left")=Wv Dm.Za6
 law_less:P.tb.lookup (O "_law_less")=Wv Zbt
 law:P.tb.lookup (O "law")=Wv ZgD
noncomputable def Zpz:Tx:=(.ex (.cmp .Lt (.var 4) (.var 2)))
noncomputable def ZtY:Sx:=(.set (.nm 5) (.call (O "dump_step") (.cons (.var 3) .nil)))
noncomputable def Zvx:Sx:=(.iff (.ex (.lin (.var 5) (.lstl (.cons (.tupl (.cons (.cst (.str (O "value"))) .nil)) (.cons (.tupl (.cons (.cst (.str (O "stuck"))) .nil)) .nil))))) (.cons (.ret (.cst (.bl Wx))) .nil) .nil)
noncomputable def ZrU:Sx:=(.iff (.ex (.cmp .Eq (.ix (.var 5) (.cst (.int 0))) (.cst (.str (O "quiet"))))) (.cons (.iff (.ors (.cons (.ex (.cmp .NotEq (.call (O "dump_read") (.cons (.ix (.var 5) (.cst (.int 1))) .nil)) (.var 1))) (.one (.nt (.ex (.call (O "_law_less") (.cons (.call (O "dump_left") (.cons (.ix (.var 5) (.cst (.int 1))) .nil)) (.cons (.call (O "dump_left") (.cons (.var 3) .nil)) .nil)))))))) (.cons (.ret (.cst (.bl Wy))) .nil) .nil) (.cons (.iff (.ex (.cmp .NotEq (.call (O "dump_read") (.cons (.var 3) .nil)) (.var 1))) (.cons (.ret (.cst (.bl Wy))) .nil) .nil) .nil)) (.cons (.set (.nm 4) (.bin .Add (.var 4) (.cst (.int 1)))) (.cons (.set (.nm 1) (.call (O "_law_read") (.cons (.ix (.var 5) (.cst (.int 1))) .nil))) (.cons (.iff (.ex (.cmp .Is (.var 1) (.cst .non))) (.cons (.ret (.cst (.bl Wx))) .nil) .nil) .nil))))
noncomputable def Zvw:Sx:=(.set (.nm 3) (.ix (.var 5) (.cst (.int 1))))
noncomputable def ZdB:Sxs:=(.cons ZtY (.cons Zvx (.cons ZrU (.cons Zvw .nil))))
theorem ZpE:Zfa=.whl Zpz ZdB:=rfl
end K32L
end
section
namespace K32L
open PySem IV Tm Pw Rr Dr
open Dm (It Lv)
variable {P:Pg}{h:Hd}{N:Nat}
noncomputable def exs:List It->List T
 |[]=>[]
 |.ex E::r=>E::exs r
 |.app::r=>exs r
 |.work _::r=>exs r
 |.cho _ _::r=>exs r
theorem Zd4:∀is:List It,((exs is).map T.size).sum=tz is
 |[]=>rfl
 |.ex E::r=>by rw[exs,tz,Op,OI,Zd4 r]
 |.app::r=>Zd4 r
 |.work w::r=>Zd4 r
 |.cho t e::r=>Zd4 r
noncomputable def mi(z:Nat):D:=.int (z:Nat)
theorem Znw:∀zs:List Nat,(intsOf (zs.map mi)).map List.sum=Wv ((zs.sum:Nat):Int)
 |[]=>rfl
 |z::zs=>by
  have ih:=Znw zs;rw[Op,mi,intsOf];cases hq:intsOf (zs.map mi)with
  |none=>rw[hq]at ih;cases ih
  |some v=>rw[hq]at ih;have e:v.sum=((zs.sum:Nat):Int):=YF ih;simp only[Yv,OI,e,Int.natCast_add]
theorem Zqj{g:Hd}(zs:List Nat)(k:h[g.length]? = Wv (.lst (zs.map mi))):ZaQ P.GD .sum [.ref g.length] h=.ok (mi zs.sum) h:=by
 have:=Znw zs;cases hq:intsOf (zs.map mi)with
 |none=>rw[hq]at this;cases this
 |some v=>rw[hq]at this;simp only[ZaQ,ZlZ,lstOf,k,Yz,hq,Yv,ofO_some,mi];rw[show v.sum=((zs.sum:Nat):Int)from YF this]
noncomputable def mt:Tx:=.ex (.cmp .NotIn (.ix (.var 0) (.cst (.int 0))) (.glo (O "ORDERS")))
noncomputable def me:Ex:=.blt .len (.cons (.call (O "places") (.cons (.var 0) .nil)) .nil)
theorem ZtP(H:Lw P)(n:Nat){d:D}{w:Str}{ds:List D}(e:d=.tup (.str w::ds)):tst (P.tbl n) mt [Wv d] h=.ok (!Wz (w∈[O "apply",O "work",O "choose"])) h:=by
 have eg:ev (P.tbl n) (.glo (O "ORDERS")) [Wv d] h=.ok (.tup [.str (O "apply"),.str (O "work"),.str (O "choose")]) h:=by show R.ofO (P.G (O "ORDERS")) h=_;rw[H.d.m.orders];rfl
 exact ZcU ((ZD (x:=.str w) ((ZA (x:=d) rfl rfl).trans (by rw[e];simp)) eg).trans (Dm.Zju w))
theorem Zvs(H:Lw P)(n:Nat)(t:T)(hz:t.size<=90000):ev (P.tbl (n+2)) me [Wv t.d] h=.ok (mi t.size) (h++[.lst (t.places.map T.d),.lst []]):=by have ep:=Gn.Zmx H.d.p.t.toTre H.pl n t h (by omega);exact(Zsh (Za (Zj ep (Za rfl rfl)) rfl) (ZtW ZdL)).trans (by simp[T.size,mi])
theorem ZnW{tt:Ev->Hd->R Bool}{ee:Ev->Hd->R D}{d x:D}{ds acc:List D}{h1:Hd}(hl:acc.length<=900000)(t:tt [Wv d] h=.ok Wx h)(e:ee [Wv d] h=.ok x h1):Zo Ww (.nm 0) tt ee (d::ds) [Ww] acc h=Zo Ww (.nm 0) tt ee ds [Ww] (acc++[x]) h1:=by
 have hl:acc.length<sizeLine:=by rw[YC];omega
 rw[ZE,if_pos ⟨rfl,hl⟩];show(tt [Wv d] h).bnd _=_;rw[t];show(ee [Wv d] h).bnd _=_;rw[e];rfl
theorem Zso{tt:Ev->Hd->R Bool}{ee:Ev->Hd->R D}{d:D}{ds acc:List D}(hl:acc.length<=900000)(t:tt [Wv d] h=.ok Wy h):Zo Ww (.nm 0) tt ee (d::ds) [Ww] acc h=Zo Ww (.nm 0) tt ee ds [Ww] acc h:=by
 have hl:acc.length<sizeLine:=by rw[YC];omega
 rw[ZE,if_pos ⟨rfl,hl⟩];show(tt [Wv d] h).bnd _=_;rw[t];rfl
theorem Zkb(H:Lw P)(n:Nat):∀(is:List It) (acc:List D) (h:Hd),tz is<=90000->acc.length+is.length<=900000->∃g,Zo Ww (.nm 0) (tsto (P.tbl (n+2)) (Wv mt)) (ev (P.tbl (n+2)) me) (is.map It.d) [Ww] acc h=.ok (acc++((exs is).map T.size).map mi) (h++g)
 |[],acc,h,_,_=>⟨[],by simp[Zo,Wk.stays,exs]⟩
 |i::is,acc,h,hs,hz=>by
  rw[Os]at hz;have no:∀{w:Str}{ds:List D},i.d=.tup (.str w::ds)->w∈[O "apply",O "work",O "choose"]->exs (i::is)=exs is->tz is<=90000->∃g,Zo Ww (.nm 0) (tsto (P.tbl (n+2)) (Wv mt)) (ev (P.tbl (n+2)) me) ((i::is).map It.d) [Ww] acc h=.ok (acc++((exs (i::is)).map T.size).map mi) (h++g):=λe hw ee hs=>by obtain⟨g,q⟩:=Zkb H n is acc h hs (by omega);rw[ee];exact⟨g,(Zso (by omega) (Zr (ZtP H (n+2) e) (by rw[decide_eq_true hw];rfl))).trans q⟩
  cases i with
  |ex E=>have hs:E.size+tz is<=90000:=hs;obtain⟨g,q⟩:=Zkb H n is (acc++[mi E.size]) (h++[.lst (E.places.map T.d),.lst []]) (by omega) (by simp;omega);have tt:=ZtP (h:=h) H (n+2) (Dm.ZpY E);rw[Dm.Zei]at tt;refine⟨[.lst (E.places.map T.d),.lst []]++g,(ZnW (by omega) tt (Zvs H n E (by omega))).trans (q.trans ?_)⟩;simp[exs]
  |app=>exact no rfl (by decide) rfl hs
  |work w=>exact no rfl (by decide) rfl hs
  |cho t e=>exact no rfl (by decide) rfl hs
theorem Zmz(H:Lw P)(n:Nat)(is:List It)(hs:tz is<=90000)(hz:is.length<=1000)(h:Hd):∃g,run P (n+3) (O "measure_of") [.tup (is.map It.d)] h=.ok (mi (2 * tz is)) (h++g):=by rw[Zc H.measure_of (by rfl)];obtain⟨g,q⟩:=Zkb H n is [] h hs (by simp;omega);refine⟨g++[.lst (((exs is).map T.size).map mi)],?_⟩;have es:ZaQ P.GD .sum [.ref (h++g).length] (h++g++[.lst (((exs is).map T.size).map mi)])=.ok (mi (tz is)) (h++g++[.lst (((exs is).map T.size).map mi)]):=(Zqj _ ZdL).trans (by rw[Zd4]);have m1:∀h,opB .Mult (.int 2) (mi (tz is)) h=.ok (mi (2 * tz is)) h:=λh=>(Zc9 ⟨by decide,Gn.ZO (by omega) (by omega)⟩).trans (by simp[mi]);rw[<- Oz];exact Zh4 (U:=P.tbl (n+2)) ((ZB rfl (Zsh (Za (ZiL (ZdF rfl) q) rfl) es)).trans (m1 _))
noncomputable def le':Ex:=.bin .Add (.call (O "measure_of") (.cons (.ix (.var 0) (.cst (.int 2))) .nil)) (.cst (.int 1))
noncomputable def lvz(l:Lv):Nat:=2 * tz l.todo+1
theorem Zvu(H:Lw P)(n:Nat)(l:Lv)(hs:tz l.todo<=90000)(hz:l.todo.length<=1000)(h:Hd):∃g,ev (P.tbl (n+3)) le' [Wv l.d] h=.ok (mi (lvz l)) (h++g):=by obtain⟨g,q⟩:=Zmz H n l.todo hs hz h;exact⟨g,(ZB (Zj q (Za ((ZA (x:=l.d) rfl rfl).trans rfl) rfl)) rfl).trans rfl⟩
theorem Zqy(H:Lw P)(n:Nat):∀(ls:List Lv) (acc:List D) (h:Hd),(∀l∈ls,tz l.todo<=90000/\l.todo.length<=1000)->acc.length+ls.length<=900000->∃g,Zo Ww (.nm 0) (tsto (P.tbl (n+3)) Ww) (ev (P.tbl (n+3)) le') (ls.map Lv.d) [Ww] acc h=.ok (acc++(ls.map lvz).map mi) (h++g)
 |[],acc,h,_,_=>⟨[],by simp[Zo,Wk.stays]⟩
 |l::ls,acc,h,hs,hz=>by rw[Os]at hz;obtain⟨h1,h2⟩:=hs l (.head _);obtain⟨g1,q1⟩:=Zvu H n l h1 h2 h;obtain⟨g,q⟩:=Zqy H n ls (acc++[mi (lvz l)]) (h++g1) (λx hx=>hs x (.tail _ hx)) (by simp;omega);exact⟨g1++g,(ZnW (by omega) rfl q1).trans (q.trans (by simp))⟩
theorem Zma:∀{d:List Lv}{l:Lv},l∈d->tz l.todo<=lz d
 |_::d,_,.head _=>by simp only[lz,Op,OI];omega
 |_::d,_,.tail _ h=>by have:=Zma h;simp only[lz,Op,OI]at this ⊢;omega
theorem Zrc(H:Lw P)(n:Nat)(s:Dm.Sta)(hs:dl s<=90000)(h1:s.todo.length<=1000)(h2:∀l∈s.dump,l.todo.length<=1000)(h3:s.dump.length<=1000)(h:Hd):∃g,run P (n+4) (O "dump_left") [s.d] h=.ok (mi (dl s)) (h++g):=by rw[Zc H.dump_left (by rfl)];unfold dl at hs ⊢;obtain⟨g1,q1⟩:=Zmz H n s.todo (by omega) h1 h;obtain⟨g2,q2⟩:=Zqy H n s.dump [] (h++g1) (λl hl=>⟨by have:=Zma hl;omega,h2 l hl⟩) (by simp;omega);have es:ZaQ P.GD .sum [.ref (h++g1++g2).length] (h++g1++g2++[.lst ((s.dump.map lvz).map mi)])=.ok (mi (lz s.dump)) (h++g1++g2++[.lst ((s.dump.map lvz).map mi)]):=Zqj _ ZdL;refine⟨g1++(g2++[.lst ((s.dump.map lvz).map mi)]),?_⟩;rw[<- Oz,<- Oz];exact Zh4 (U:=P.tbl (n+3)) ((ZB (Zj q1 (Za ((ZA (x:=s.d) rfl rfl).trans rfl) rfl)) (Zsh (Za (ZiL (ZdF ((ZA (x:=s.d) rfl rfl).trans rfl)) q2) rfl) es)).trans rfl)
theorem Dx.tl{d:List Lv}{vs:List Rw.Wt}(x:Dx d vs):∀l∈d,l.todo.length<=2 * vs.length:=by
 induction x with
 |nil=>intro l hl;cases hl
 |@cons l d ws vs c x ih=>
  intro l' hl;rw[OA];rcases O3.mp hl with rfl|hl
  . have:=c.len.2;omega
  . have:=ih l' hl;omega
theorem ZnR(H:Lw P)(n:Nat){s:Dm.Sta}{Z:Rw.Sta}{k:Nat}(d:Di N s Z k)(hz:(Rw.read Z).size<=120)(hk:k<=900)(h:Hd):∃g,run P (n+4) (O "dump_left") [s.d] h=.ok (mi (dl s)) (h++g):=by
 have h0:=Zqu d hz;have h3:=d.dl;have wl:=Rw.Zfb Z;have r:=d.re;refine Zrc H n s (by omega) ?_ ?_ (by omega) h
 . cases r with
   |@go E st ar r d ws vs c x=>rw[show Rw.wts (.go E ar (ws++vs))=ws++vs from rfl,OA]at wl;have:=c.len.2;show r.length+1<=1000;omega
   |@back V st ar r d ws vs c x n=>rw[show Rw.wts (.back V (ws++vs))=ws++vs from rfl,OA]at wl;have:=c.len.2;show r.length<=1000;omega
 . cases r with
   |@go E st ar r d ws vs c x=>rw[show Rw.wts (.go E ar (ws++vs))=ws++vs from rfl,OA]at wl;intro l hl;have:=Dx.tl x l hl;omega
   |@back V st ar r d ws vs c x n=>rw[show Rw.wts (.back V (ws++vs))=ws++vs from rfl,OA]at wl;intro l hl;have:=Dx.tl x l hl;omega
end K32L
end
section
namespace Dm
open PySem IV Gn Rw
theorem It.pure_d(i:It):i.d.pure=Wx:=by cases i<;>simp[It.d,D.pure,D.pures,T.pure_d]
theorem Its.pure_d:∀is:List It,D.pures (is.map It.d)=Wx
 |[]=>rfl
 |i::is=>by simp[D.pures,It.pure_d,Its.pure_d is]
theorem Zlm{xs ys:List D}(hx:D.pures xs=Wx)(hy:D.pures ys=Wx):D.pures (xs++ys)=Wx:=by
 induction xs with
 |nil=>exact hy
 |cons x xs ih=>rw[D.pures,Oa]at hx;simp[D.pures,hx.1,ih hx.2]
theorem ZgY:∀rs:List Th,D.pures (sd rs)=Wx
 |[]=>rfl
 |v::rs=>by rw[ZK];exact Zlm (ZgY rs) (by simp[D.pures,Th.pure_d])
theorem Lv.pure_d(l:Lv):l.d.pure=Wx:=by simp[Lv.d,D.pure,D.pures,ZgY,Ar.pure_d,Its.pure_d]
theorem Lvs.pure_d:∀ls:List Lv,D.pures (ls.map Lv.d)=Wx
 |[]=>rfl
 |l::ls=>by simp[D.pures,Lv.pure_d,Lvs.pure_d ls]
theorem Sta.pure_d(s:Sta):s.d.pure=Wx:=by simp[Sta.d,D.pure,D.pures,ZgY,Ar.pure_d,Its.pure_d,Lvs.pure_d]
end Dm
namespace K32L
open PySem IV Tm Pw Rr Dr
variable {P:Pg}{h:Hd}{N:Nat}
noncomputable def isD:Dm.Ans->Bool
 |.value|.stuck=>Wx
 |.quiet _|.loud _=>Wy
theorem ZsW{U:Tb}{S:Ev}{e:Ex}{a:Dm.Ans}(p:ev U e S h=.ok a.d h):ev U (.lin e ends) S h=.ok (.bl (isD a)) (h++[.lst vs2]):=by
 refine Zuj p ?_;cases a with
 |quiet s=>exact ZqB (Dm.Sta.pure_d s) h
 |loud s=>exact ZqB (Dm.Sta.pure_d s) h
 |value=>exact Zn6 (.inl rfl) h
 |stuck=>exact Zn6 (.inr rfl) h
theorem Zrb(H:Lw P)(n:Nat){a b:Nat}(hab:a<b)(h:Hd):run P (n+1) (O "_law_less") [.int (a:Nat),.int (b:Nat)] h=.ok (.bl Wx) h:=by
 rw[Zc H.law_less (by rfl)];have c1:opC P.GD .LtE (.int 0) (.int (a:Nat)) h=.ok (.bl Wx) h:=by rw[show opC P.GD .LtE (.int 0) (.int (a:Nat)) h=.ok (.bl (Wz ((0:Int)<=(a:Int)))) h from rfl,decide_eq_true (by omega)]
 have c2:opC P.GD .Lt (.int (a:Nat)) (.int (b:Nat)) h=.ok (.bl Wx) h:=by rw[show opC P.GD .Lt (.int (a:Nat)) (.int (b:Nat)) h=.ok (.bl (Wz ((a:Int)<(b:Int)))) h from rfl,decide_eq_true (by omega)]
 have ec:ev (P.tbl n) (.cmp2 .LtE .Lt (.cst (.int 0)) (.var 0) (.var 1)) [Wv (.int (a:Nat)),Wv (.int (b:Nat))] h=.ok (.bl Wx) h:=by
  show(opC P.GD .LtE (.int 0) (.int (a:Nat)) h).bind (λr h3=>match r with
   |.bl Wx=>(R.ok (D.int (b:Nat)) h3).bind λz h4=>opC P.GD .Lt (.int (a:Nat)) z h4
   |.bl Wy=>.ok (.bl Wy) h3
   |_=>.bad)=_
  rw[c1];exact c2
 exact Zh4 (U:=P.tbl n) ec
noncomputable def vl(ro td:D)(m:Int)(sd:D)(k:Int)(o5:Option D):Ev:=[Wv ro,Wv td,Wv (.int m),Wv sd,Wv (.int k),o5]
theorem Zte(H:Lw P)(n:Nat){s:Dm.Sta}{Z:Rw.Sta}{k:Nat}(d:Di N s Z k)(hN:1<=N)(hN2:N<=45000)(hz:(Rw.read Z).size<=120)(h:Hd):∃g,run P (n+6) (O "dump_read") [s.d] h=.ok (Rw.read Z).d (h++g):=by
 have r:=d.read H.d n hN hN2 h;generalize run P (n+6) (O "dump_read") [s.d] h=y at r;cases r with
 |@ok g _=>exact⟨g,rfl⟩
 |ex lt=>omega
theorem Zvr{U:Tb}{S:Ev}{e:Ex}{h1:Hd}(q:ev U e S h=.ok (.bl Wx) h1):tst U (.nt (.ex e)) S h=.ok Wy h1:=by rw[ZqO,ZcU q];rfl
section
variable {ro:D}{m k:Int}{s s':Dm.Sta}{Z σ':Rw.Sta}{j:Nat}{o5:Option D}
theorem Zos(H:Lw P)(n:Nat)(hN:1<=N)(hN2:N<=45000)(d:Di N s Z j)(d':Di N s' σ' j)(hj:j<=900)(hz:(Rw.read Z).size<=120)(er:Rw.read σ'=Rw.read Z)(hl:dl s'<dl s)(h:Hd):∃g,xs1 (P.tbl (n+7)) ZrU (vl ro (Rw.read Z).d m s.d k (Wv (Dm.Ans.quiet s').d)) h=.ok (.nx,vl ro (Rw.read Z).d m s.d k (Wv (Dm.Ans.quiet s').d)) (h++g):=by
 obtain⟨g1,e1⟩:=Zte H (n+1) d' hN hN2 (by rw[er];exact hz) h;rw[er]at e1;obtain⟨g2,e2⟩:=ZnR H (n+3) d' (by rw[er];exact hz) hj (h++g1);obtain⟨g3,e3⟩:=ZnR H (n+3) d hz hj (h++g1++g2);have e4:=Zrb H (n+6) hl (h++g1++g2++g3);obtain⟨g5,e5⟩:=Zte H (n+1) d hN hN2 hz (h++g1++g2++g3);refine⟨g1++(g2++(g3++g5)),?_⟩;rw[show h++(g1++(g2++(g3++g5)))=h++g1++g2++g3++g5 by simp];generalize hρ:vl ro (Rw.read Z).d m s.d k (Wv (Dm.Ans.quiet s').d)=S;have v1:ev (P.tbl (n+7)) (.ix (.var 5) (.cst (.int 1))) S h=.ok s'.d h:=by rw[<- hρ];rfl
 have v1':ev (P.tbl (n+7)) (.ix (.var 5) (.cst (.int 1))) S (h++g1)=.ok s'.d (h++g1):=by rw[<- hρ];rfl
 have v3:∀h',ev (P.tbl (n+7)) (.var 3) S h'=.ok s.d h':=λh'=>by rw[<- hρ];rfl
 have v2:∀h',ev (P.tbl (n+7)) (.var 1) S h'=.ok (Rw.read Z).d h':=λh'=>by rw[<- hρ];rfl
 have t0:tst (P.tbl (n+7)) (.ex (.cmp .Eq (.ix (.var 5) (.cst (.int 0))) (.cst (.str (O "quiet"))))) S h=.ok Wx h:=by rw[<- hρ];exact Zr (Zbx rfl rfl) (by decide)
 have t1:tst (P.tbl (n+7)) (.ex (.cmp .NotEq (.call (O "dump_read") (.cons (.ix (.var 5) (.cst (.int 1))) .nil)) (.var 1))) S h=.ok Wy (h++g1):=ZcU (b:=false) ((ZD (Zj e1 (Za v1 rfl)) (v2 _)).trans (Zmq Wx _ hz _));have t2:tst (P.tbl (n+7)) (.nt (.ex (.call (O "_law_less") (.cons (.call (O "dump_left") (.cons (.ix (.var 5) (.cst (.int 1))) .nil)) (.cons (.call (O "dump_left") (.cons (.var 3) .nil)) .nil))))) S (h++g1)=.ok Wy (h++g1++g2++g3):=Zvr (Zj e4 (Za (Zj e2 (Za v1' rfl)) (Za (Zj e3 (Za (v3 _) rfl)) rfl)));have t3:tst (P.tbl (n+7)) (.ex (.cmp .NotEq (.call (O "dump_read") (.cons (.var 3) .nil)) (.var 1))) S (h++g1++g2++g3)=.ok Wy (h++g1++g2++g3++g5):=ZcU (b:=false) ((ZD (Zj e5 (Za (v3 _) rfl)) (v2 _)).trans (Zmq Wx _ hz _));exact(Zw t0).trans ((Zb ((Zx (ZmZ t1 t2)).trans rfl)).trans ((Zb ((Zx t3).trans rfl)).trans rfl))
theorem ZqT(H:Lw P)(n:Nat)(hN:1<=N)(hN2:N<=45000){td:D}(d':Di N s' σ' j)(h:Hd):∃g,xs1 (P.tbl (n+7)) ZrU (vl ro td m s.d k (Wv (Dm.Ans.loud s').d)) h=(if (Rw.read σ').size<=120 then .ok (.nx,vl ro (Rw.read σ').d m s.d (k+1) (Wv (Dm.Ans.loud s').d)) (h++g)else .ok (.rt (.bl Wx),vl ro .non m s.d (k+1) (Wv (Dm.Ans.loud s').d)) (h++g)):=by
 obtain⟨g,e⟩:=d'.lread H.d n hN hN2 h;refine⟨g,?_⟩;have t0:tst (P.tbl (n+7)) (.ex (.cmp .Eq (.ix (.var 5) (.cst (.int 0))) (.cst (.str (O "quiet"))))) (vl ro td m s.d k (Wv (Dm.Ans.loud s').d)) h=.ok Wy h:=Zr (Zbx rfl rfl) (by decide);have x1:xs1 (P.tbl (n+7)) (.set (.nm 4) (.bin .Add (.var 4) (.cst (.int 1)))) (vl ro td m s.d k (Wv (Dm.Ans.loud s').d)) h=.ok (.nx,vl ro td m s.d (k+1) (Wv (Dm.Ans.loud s').d)) h:=rfl;have x2:xs1 (P.tbl (n+7)) (.set (.nm 1) (.call (O "_law_read") (.cons (.ix (.var 5) (.cst (.int 1))) .nil))) (vl ro td m s.d (k+1) (Wv (Dm.Ans.loud s').d)) h=.ok (.nx,vl ro (rdo (Rw.read σ')) m s.d (k+1) (Wv (Dm.Ans.loud s').d)) (h++g):=Zn (Zj e rfl);refine(Zx t0).trans ((Zb x1).trans ((Zb x2).trans ?_));unfold rdo;split
 . exact(Zb ((Zx (Znv rfl (λz=>by cases hq:Rw.read σ'<;>rw[hq]at z<;>cases z))).trans rfl)).trans rfl
 . exact Zf ((Zw (ZlP rfl)).trans (Zf (ZV rfl)))
theorem Zt1(H:Lw P)(n:Nat){M:Nat}(hM:M<=30)(hN:1<=N)(hN2:N<=100):∀(fuel:Nat) (s:Dm.Sta) (Z:Rw.Sta) (j:Nat) (h:Hd) (o5:Option D),Di N s Z j->(Rw.read Z).size<=120->(M - j) * 30000+dl s<fuel ->
 ∃f S h',ZN (tst (P.tbl (n+7)) Zpz) (xs2 (P.tbl (n+7)) ZdB) fuel (vl ro (Rw.read Z).d (M:Nat) s.d (j:Nat) o5) h=.ok (f,S) h'/\(f=.rt (.bl Wx)\/f=.nx):=by
 intro fuel;induction fuel with
 |zero=>intro s Z j h o5 _ _ hf;omega
 |succ fuel ih=>
  intro s Z j h o5 d hz hf;have te:tst (P.tbl (n+7)) Zpz (vl ro (Rw.read Z).d (M:Nat) s.d (j:Nat) o5) h=.ok (Wz ((j:Int)<(M:Int))) h:=ZtV rfl rfl;by_cases hj:j<M
  . have te:=Zr te (decide_eq_true (by omega));have x1:xs1 (P.tbl (n+7)) ZtY (vl ro (Rw.read Z).d (M:Nat) s.d (j:Nat) o5) h=.ok (.nx,vl ro (Rw.read Z).d (M:Nat) s.d (j:Nat) (Wv (Dm.step s).d)) h:=Zn (Zj (d.run H.d (n+2) (by omega) hz (by omega)) rfl);have x2:tst (P.tbl (n+7)) (.ex (.lin (.var 5) ends)) (vl ro (Rw.read Z).d (M:Nat) s.d (j:Nat) (Wv (Dm.step s).d)) h=.ok (isD (Dm.step s)) (h++[.lst vs2]):=ZcU (ZsW rfl);have fin:isD (Dm.step s)=Wx->∃f S h',ZN (tst (P.tbl (n+7)) Zpz) (xs2 (P.tbl (n+7)) ZdB) (fuel+1) (vl ro (Rw.read Z).d (M:Nat) s.d (j:Nat) o5) h=.ok (f,S) h'/\(f=.rt (.bl Wx)\/f=.nx):=λhe=>by have w:xs2 (P.tbl (n+7)) ZdB (vl ro (Rw.read Z).d (M:Nat) s.d (j:Nat) o5) h=.ok (.rt (.bl Wx),vl ro (Rw.read Z).d (M:Nat) s.d (j:Nat) (Wv (Dm.step s).d)) (h++[.lst vs2]):=(Zb x1).trans (Zf ((Zw (Zr x2 he)).trans (Zf (ZV rfl))));exact⟨_,_,_,ZhR te w,.inl rfl⟩
    have st:=d.step hz;generalize hs:Dm.step s=a at st x1 x2 fin;cases st with
    |@quiet s' σ' d' er=>obtain⟨g,x3⟩:=Zos H n hN (by omega) (ro:=ro) (m:=M) (k:=j) d d' (by omega) hz er (ZnP hs) (h++[.lst vs2]);have dd:=ZnP hs;obtain⟨f,S,h',e,q⟩:=ih s' σ' j (h++[.lst vs2]++g) (Wv (Dm.Ans.quiet s').d) d' (by rw[er];exact hz) (by omega);rw[er]at e;have w:xs2 (P.tbl (n+7)) ZdB (vl ro (Rw.read Z).d (M:Nat) s.d (j:Nat) o5) h=.ok (.nx,vl ro (Rw.read Z).d (M:Nat) s'.d (j:Nat) (Wv (Dm.Ans.quiet s').d)) (h++[.lst vs2]++g):=(Zb x1).trans ((Zb ((Zx (Zr x2 rfl)).trans rfl)).trans ((Zb x3).trans rfl));exact⟨f,S,h',(Ze2 te w).trans e,q⟩
    |@loud s' σ' d' nv nx=>
     obtain⟨g,x3⟩:=ZqT H n hN (by omega) (ro:=ro) (m:=M) (k:=j) (s:=s) (td:=(Rw.read Z).d) d' (h++[.lst vs2]);by_cases hz':(Rw.read σ').size<=120
     . rw[if_pos hz']at x3;obtain⟨f,S,h',e,q⟩:=ih s' σ' (j+1) (h++[.lst vs2]++g) (Wv (Dm.Ans.loud s').d) d' hz' (ZpQ hj hf (Zqu d' hz') (by omega));rw[show((j+1:Nat):Int)=(j:Int)+1 from Int.natCast_succ j]at e;have w:xs2 (P.tbl (n+7)) ZdB (vl ro (Rw.read Z).d (M:Nat) s.d (j:Nat) o5) h=.ok (.nx,vl ro (Rw.read σ').d (M:Nat) s'.d ((j:Int)+1) (Wv (Dm.Ans.loud s').d)) (h++[.lst vs2]++g):=(Zb x1).trans ((Zb ((Zx (Zr x2 rfl)).trans rfl)).trans ((Zb x3).trans rfl));exact⟨f,S,h',(Ze2 te w).trans e,q⟩
     . rw[if_neg hz']at x3;have w:xs2 (P.tbl (n+7)) ZdB (vl ro (Rw.read Z).d (M:Nat) s.d (j:Nat) o5) h=.ok (.rt (.bl Wx),vl ro .non (M:Nat) s.d ((j:Int)+1) (Wv (Dm.Ans.loud s').d)) (h++[.lst vs2]++g):=(Zb x1).trans ((Zb ((Zx (Zr x2 rfl)).trans rfl)).trans (Zf x3));exact⟨_,_,_,ZhR te w,.inl rfl⟩
    |value v=>exact fin rfl
    |stuck nv nx=>exact fin rfl
  . exact⟨.nx,_,h,Zkk (Zr te (decide_eq_false (by omega))),.inr rfl⟩
end
theorem Zth (H:Lw P) (zs:List Int) (hz:zs.length<=63):∃ h',run P (250+1) (O "law") [.ro (zs.map .int)] []=.ok (.bl Wx) h':=by
 obtain ⟨t,h1,e1,ct,st,dt,_,_⟩:=Gn.Zlj H.d.m.toMkr (N:=249) (by omega) zs 1 [] (by omega);obtain ⟨v,e2⟩:=Zrf H.cell 249 (h:=h1) zs;have e3:=Gn.Zg1 H.d.m.toMkr 249 v 1 h1 (by decide);obtain ⟨M,hM⟩:∃ M:Nat,Gn.mixed v 1 % 25=(M:Int):=⟨(Gn.mixed v 1 % 25).toNat,by have:=Int.emod_nonneg (Gn.mixed v 1) (b:=25) (by decide);omega⟩
 have hM2:M<=25:=by have:=Int.emod_lt_of_pos (Gn.mixed v 1) (b:=25) (by decide);omega
 have m1:opB .Mod (.int (Gn.mixed v 1)) (.int 25) h1=.ok (.int (M:Int)) h1:=(ZL (by decide)).trans (by rw [hM]);have rt:Rw.read (Rw.Sta.go t .nil [])=t:=ZbO t (fun x=>rfl);have big:=H.d.m.toTre.big;generalize D.ro (zs.map .int)=ro at *;obtain ⟨f,S,h3,e5,q⟩:=Zt1 H 243 (ro:=ro) (M:=M) (N:=t.size) (by omega) (ZaZ t) st P.L ⟨[],.nil,[.ex t],[]⟩ (.go t .nil []) 0 h1 Ww (Di.begin t ct) (by rw [rt];omega) (by
   have:dl ⟨[],.nil,[.ex t],[]⟩=2 * t.size:=by simp [dl,tz,lz]
   omega)
 rw [rt] at e5;have eb:run P 250 (O "dump_begun") [t.d] h1=.ok (Dm.Sta.d ⟨[],.nil,[.ex t],[]⟩) h1:=by
   rw [Zc H.d.m.dump_begun (by rfl)];exact rfl
 have x1:xs1 (P.tbl 250) ZhM [Wv ro,Ww,Ww,Ww,Ww,Ww] []=.ok (.nx,[Wv ro,Wv t.d,Ww,Ww,Ww,Ww]) h1:=Zn (Zj e1 rfl);have x2:xs1 (P.tbl 250) ZhL [Wv ro,Wv t.d,Ww,Ww,Ww,Ww] h1=.ok (.nx,[Wv ro,Wv t.d,Wv (.int (M:Int)),Ww,Ww,Ww]) h1:=Zn ((ZB (Zj e3 (Za (Zj e2 rfl) rfl)) rfl).trans m1);have x3:xs1 (P.tbl 250) ZhK [Wv ro,Wv t.d,Wv (.int (M:Int)),Ww,Ww,Ww] h1=.ok (.nx,[Wv ro,Wv t.d,Wv (.int (M:Int)),Wv (Dm.Sta.d ⟨[],.nil,[.ex t],[]⟩),Ww,Ww]) h1:=Zn (Zj eb rfl);have x4:xs1 (P.tbl 250) ZhJ [Wv ro,Wv t.d,Wv (.int (M:Int)),Wv (Dm.Sta.d ⟨[],.nil,[.ex t],[]⟩),Ww,Ww] h1=.ok (.nx,vl ro t.d (M:Nat) (Dm.Sta.d ⟨[],.nil,[.ex t],[]⟩) (0:Nat) Ww) h1:=rfl;have x5:xs1 (P.tbl 250) Zfa (vl ro t.d (M:Nat) (Dm.Sta.d ⟨[],.nil,[.ex t],[]⟩) (0:Nat) Ww) h1=.ok (f,S) h3:=by
   rw [ZpE];exact e5
 rw [Zc H.law (by rfl)];refine ⟨h3,?_⟩;show Zh (xs2 (P.tbl 250) (.cons ZhM (.cons ZhL (.cons ZhK (.cons ZhJ (.cons Zfa (.cons Zk0 .nil)))))) [Wv ro,Ww,Ww,Ww,Ww,Ww] [])=_;rw [Zb x1,Zb x2,Zb x3,Zb x4];rcases q with rfl|rfl
 . rw [Zf x5];rfl
 . rw [Zb x5];rfl
end K32L
end
section
namespace K32
open PySem L2 IV PyProof.Rows
noncomputable abbrev Zae:Fd:=Tm.Zae
noncomputable abbrev Zbr:Fd:=Gn.Zbr
noncomputable abbrev Zbu:Fd:=Tm.Zbu
noncomputable abbrev Zad:Fd:=Tm.Zad
noncomputable abbrev Zde:Fd:=Tm.Zde
noncomputable abbrev Zbq:Fd:=Gn.Zbq
noncomputable abbrev Zap:Fd:=Rw.Zap
noncomputable abbrev Zbo:Fd:=Rw.Zbo
noncomputable abbrev Zcg:Fd:=Rw.Zcg
noncomputable abbrev Zce:Fd:=Rw.Zce
noncomputable abbrev ZW:Fd:=Rw.ZW
noncomputable abbrev ZcT:Fd:=Tm.ZcT
noncomputable abbrev Zam:Fd:=Tm.Zam
noncomputable abbrev Zcc:Fd:=Tm.Zcc
noncomputable abbrev Zcf:Fd:=Rw.Zcf
noncomputable abbrev Zcb:Fd:=Rw.Zcb
noncomputable abbrev ZaF:Fd:=Dm.ZaF
noncomputable abbrev Za2:Fd:=Dm.Za2
noncomputable abbrev Zaa:Fd:=Dm.Zaa
noncomputable abbrev Zab:Fd:=Dm.Zab
noncomputable abbrev Zch:Fd:=Dm.Zch
noncomputable abbrev Zcd:Fd:=Dm.Zcd
noncomputable abbrev Zbp:Fd:=Dm.Zbp
noncomputable abbrev Za3:Fd:=Dm.Za3
noncomputable abbrev Za4:Fd:=Dm.Za4
noncomputable abbrev Zbv:Fd:=Dr.Zbv
noncomputable abbrev ZaD:Fd:=Dr.ZaD
noncomputable abbrev Za5:Fd:=Dr.Za5
noncomputable abbrev ZaC:Fd:=Dm.ZaC
noncomputable abbrev Za6:Fd:=Dm.Za6
noncomputable abbrev ZC:Fd:=Gn.ZC
noncomputable abbrev Zav:Fd:=Gn.Zav
noncomputable abbrev Zan:Fd:=Gn.Zan
noncomputable abbrev Zau:Fd:=Gn.Zau
noncomputable abbrev Zat:Fd:=Gn.Zat
noncomputable abbrev ZT:Fd:=Gn.ZT
noncomputable abbrev Z0:Fd:=Gn.Z0
noncomputable abbrev ZaE:Fd:=Gn.ZaE
noncomputable abbrev ZaP:Fd:=Gn.ZaP
noncomputable abbrev ZZ:Fd:=Gn.ZZ
noncomputable abbrev Zao:Fd:=Gn.Zao
noncomputable abbrev Zac:Fd:=Gn.Zac
noncomputable abbrev Zbs:Fd:=Dr.Zbs
noncomputable abbrev Zbt:Fd:=K32L.Zbt
noncomputable abbrev ZgD:Fd:=K32L.ZgD
noncomputable abbrev ZQ:Fd:=Tm.ZQ
noncomputable def Zeu:Sxs:=(.cons (.iff (.ex (.cmp .Eq (.att [(O "Pen")] (.var 0) (O "used")) (.att [(O "Pen")] (.var 0) (O "most")))) (.cons (.rai (O "Wide") (.cst (.str (O "more places than an expression that is told may have")))) .nil) .nil) (.cons (.auga [(O "Pen")] (.var 0) (O "used") (.cst (.int 1))) .nil))
noncomputable def Zci:Fd:=⟨[(O "self")],[(O "self")],Zeu⟩
noncomputable abbrev ZaG:Fd:=Pw.ZaG
noncomputable abbrev ZaH:Fd:=Tm.ZaH
noncomputable abbrev Zbw:Fd:=Pw.Zbw
noncomputable def tb:List (Str×Fd):=[((O "bound_names"),Zae),((O "parts_of"),Zbr),((O "front_of"),Zbu),((O "count_parts"),Zad),((O "built"),Zde),((O "places"),Zbq),((O "bound_to"),Zap),((O "thing_of"),Zbo),((O "body_of"),Zcg),((O "entered"),Zce),((O "loud_or_stuck"),ZW),((O "opened"),ZcT),((O "meant_by"),Zam),((O "within"),Zcc),((O "chosen"),Zcf),((O "worked"),Zcb),((O "dump_begun"),ZaF),((O "taken_off"),Za2),((O "taken_apart"),Zaa),((O "quiet_state"),Zab),((O "applied"),Zch),((O "gone_on"),Zcd),((O "reckoned"),Zbp),((O "loud_step"),Za3),((O "dump_step"),Za4),((O "do_order"),Zbv),((O "level_read"),ZaD),((O "dump_read"),Za5),((O "measure_of"),ZaC),((O "dump_left"),Za6),((O "_law_cell_at"),ZC),((O "_law_mixed"),Zav),((O "_law_next"),Zan),((O "_law_names"),Zau),((O "_law_there"),Zat),((O "_law_plain"),ZT),((O "_law_function"),Z0),((O "_law_number"),ZaE),((O "_law_any"),ZaP),((O "_law_width"),ZZ),((O "_law_deep"),Zao),((O "_law_program"),Zac),((O "_law_read"),Zbs),((O "_law_less"),Zbt),((O "law"),ZgD)]
noncomputable def ms:List (Str×Fd):=[(mnm (O "Pen") (O "__init__"),ZQ),(mnm (O "Pen") (O "take_place"),Zci),(mnm (O "Pen") (O "joined"),ZaG),(mnm (O "Pen") (O "filled"),ZaH),(mnm (O "Pen") (O "told"),Zbw)]
noncomputable def cG:List (Str×D):=[((O "WIDEST"),(.int 120)),((O "AT_ONCE"),(.tup [(.str (O "num")),(.str (O "name")),(.str (O "fn")),(.str (O "rec"))])),((O "BEYOND"),(.int 1000000)),((O "ORDERS"),(.tup [(.str (O "apply")),(.str (O "work")),(.str (O "choose"))])),((O "FORMS"),.kd (O "FORMS"))]
noncomputable def cD:List (Str×List (Key×D)):=[((O "FORMS"),[(.inr (O "fn"),(.tup [(.int 1),(.int 1)])),(.inr (O "rec"),(.tup [(.int 2),(.int 1)])),(.inr (O "call"),(.tup [(.int 0),(.int 2)])),(.inr (O "if"),(.tup [(.int 0),(.int 3)])),(.inr (O "+"),(.tup [(.int 0),(.int 2)])),(.inr (O "-"),(.tup [(.int 0),(.int 2)])),(.inr (O "*"),(.tup [(.int 0),(.int 2)])),(.inr (O "<"),(.tup [(.int 0),(.int 2)]))])]
noncomputable def pg:Pg:=⟨tb,λx=>cG.lookup x,λx=>cD.lookup x,1000000,ms⟩
noncomputable def kl:Kl:=⟨[(O "Pen")],[(O "most"),(O "used")],[((O "Pen"),(O "take_place")),((O "Pen"),(O "joined")),((O "Pen"),(O "filled")),((O "Pen"),(O "told"))],[(O "Pen")],[(O "Wide")]⟩
noncomputable def top(i:Nat):Stmt:=PySem.Challenge.pw_samestride_k32_dump_quiet.main.body.getD i (.Pass ⟨0,0,0,0⟩)
noncomputable def fs:List Str:=tb.map (·.1)
local macro_rules|`(tactic| wtm_at "chk")=>`(tactic| exact⟨by constructor<;>decide +kernel,λ_ _ _ _ _ _ us hl=>by
 first
 |(have e:=ZsO (show us.length=0 from hl);subst e;rfl)
 |(obtain⟨a0,e⟩:=ZsN (show us.length=1 from hl);subst e;rfl)
 |(obtain⟨a0,a1,e⟩:=ZsM (show us.length=2 from hl);subst e;rfl)
 |(obtain⟨a0,a1,a2,e⟩:=ZsL (show us.length=3 from hl);subst e;rfl)
 |(obtain⟨a0,a1,a2,a3,e⟩:=ZsK (show us.length=4 from hl);subst e;rfl)
 |(obtain⟨a0,a1,a2,a3,a4,e⟩:=ZsJ (show us.length=5 from hl);subst e;rfl)
 |(obtain⟨a0,a1,a2,a3,a4,a5,e⟩:=ZuN (show us.length=6 from hl);subst e;rfl)
 |(obtain⟨a0,a1,a2,a3,a4,a5,a6,e⟩:=us_7 (show us.length=7 from hl);subst e;rfl),by decide +kernel⟩)
abbrev Ck(n:String)(f:Fd)(s:Stmt):Prop:=Chk kl fs (O n) (O n) f s
noncomputable abbrev Zdp:=top 6
theorem Zgb:Ck "bound_names" Zae Zdp:=by wtm_at "chk"
noncomputable abbrev Zfp:=top 7
theorem ZjN:Ck "parts_of" Zbr Zfp:=by wtm_at "chk"
noncomputable abbrev Zfv:=top 8
theorem ZjT:Ck "front_of" Zbu Zfv:=by wtm_at "chk"
noncomputable abbrev Zdo:=top 9
theorem Zga:Ck "count_parts" Zad Zdo:=by wtm_at "chk"
noncomputable abbrev Zku:=top 10
theorem ZpH:Ck "built" Zde Zku:=by wtm_at "chk"
noncomputable abbrev Zh0:=top 11
theorem Znq:Ck "places" Zbq Zh0:=by wtm_at "chk"
noncomputable abbrev Zfx:=top 14
theorem ZjV:Ck "bound_to" Zap Zfx:=by wtm_at "chk"
noncomputable abbrev Zfn:=top 15
theorem ZjL:Ck "thing_of" Zbo Zfn:=by wtm_at "chk"
noncomputable abbrev Zgr:=top 16
theorem ZlN:Ck "body_of" Zcg Zgr:=by wtm_at "chk"
noncomputable abbrev Zgq:=top 17
theorem ZlM:Ck "entered" Zce Zgq:=by wtm_at "chk"
noncomputable abbrev ZcB:=top 18
theorem ZeU:Ck "loud_or_stuck" ZW ZcB:=by wtm_at "chk"
noncomputable abbrev Zh1:=top 19
theorem Znr:Ck "opened" ZcT Zh1:=by wtm_at "chk"
noncomputable abbrev Zfq:=top 20
theorem ZjO:Ck "meant_by" Zam Zfq:=by wtm_at "chk"
noncomputable abbrev ZhZ:=top 21
theorem Znp:Ck "within" Zcc ZhZ:=by wtm_at "chk"
noncomputable abbrev Zh2:=top 25
theorem Zns:Ck "chosen" Zcf Zh2:=by wtm_at "chk"
noncomputable abbrev ZhY:=top 26
theorem Zno:Ck "worked" Zcb ZhY:=by wtm_at "chk"
noncomputable abbrev ZdS:=top 29
theorem Zhh:Ck "dump_begun" ZaF ZdS:=by wtm_at "chk"
noncomputable abbrev Zew:=top 30
theorem Ziq:Ck "taken_off" Za2 Zew:=by wtm_at "chk"
noncomputable abbrev Zdk:=top 31
theorem Zf6:Ck "taken_apart" Zaa Zdk:=by wtm_at "chk"
noncomputable abbrev Zdl:=top 32
theorem Zf7:Ck "quiet_state" Zab Zdl:=by wtm_at "chk"
noncomputable abbrev Zgs:=top 33
theorem ZlO:Ck "applied" Zch Zgs:=by wtm_at "chk"
noncomputable abbrev Zgp:=top 34
theorem ZlL:Ck "gone_on" Zcd Zgp:=by wtm_at "chk"
noncomputable abbrev Zfo:=top 35
theorem ZjM:Ck "reckoned" Zbp Zfo:=by wtm_at "chk"
noncomputable abbrev Zex:=top 36
theorem Zir:Ck "loud_step" Za3 Zex:=by wtm_at "chk"
noncomputable abbrev ZeD:=top 37
theorem Zix:Ck "dump_step" Za4 ZeD:=by wtm_at "chk"
noncomputable abbrev Zfw:=top 38
theorem ZjU:Ck "do_order" Zbv Zfw:=by wtm_at "chk"
noncomputable abbrev ZdQ:=top 39
theorem Zhf:Ck "level_read" ZaD ZdQ:=by wtm_at "chk"
noncomputable abbrev ZeE:=top 40
theorem Ziy:Ck "dump_read" Za5 ZeE:=by wtm_at "chk"
noncomputable abbrev ZdP:=top 41
theorem Zhe:Ck "measure_of" ZaC ZdP:=by wtm_at "chk"
noncomputable abbrev ZeF:=top 42
theorem Ziz:Ck "dump_left" Za6 ZeF:=by wtm_at "chk"
noncomputable abbrev Zdn:=top 44
theorem Zf9:Ck "_law_cell_at" ZC Zdn:=by wtm_at "chk"
noncomputable abbrev ZeC:=top 45
theorem Ziw:Ck "_law_mixed" Zav ZeC:=by wtm_at "chk"
noncomputable abbrev Zfs:=top 46
theorem ZjQ:Ck "_law_next" Zan Zfs:=by wtm_at "chk"
noncomputable abbrev ZeB:=top 47
theorem Ziv:Ck "_law_names" Zau ZeB:=by wtm_at "chk"
noncomputable abbrev Zez:=top 48
theorem Zit:Ck "_law_there" Zat Zez:=by wtm_at "chk"
noncomputable abbrev ZeA:=top 49
theorem Ziu:Ck "_law_plain" ZT ZeA:=by wtm_at "chk"
noncomputable abbrev ZcK:=top 50
theorem ZfN:Ck "_law_function" Z0 ZcK:=by wtm_at "chk"
noncomputable abbrev ZdR:=top 51
theorem Zhg:Ck "_law_number" ZaE ZdR:=by wtm_at "chk"
noncomputable abbrev Zgo:=top 52
theorem ZlK:Ck "_law_any" ZaP Zgo:=by wtm_at "chk"
noncomputable abbrev Zey:=top 53
theorem Zis:Ck "_law_width" ZZ Zey:=by wtm_at "chk"
noncomputable abbrev Zfu:=top 54
theorem ZjS:Ck "_law_deep" Zao Zfu:=by wtm_at "chk"
noncomputable abbrev Zdm:=top 55
theorem Zf8:Ck "_law_program" Zac Zdm:=by wtm_at "chk"
noncomputable abbrev Zfr:=top 56
theorem ZjP:Ck "_law_read" Zbs Zfr:=by wtm_at "chk"
noncomputable abbrev Zft:=top 57
theorem ZjR:Ck "_law_less" Zbt Zft:=by wtm_at "chk"
noncomputable abbrev Zql:=top 58
theorem Zt3:Ck "law" ZgD Zql:=by wtm_at "chk"
noncomputable abbrev ZcL:Stmt:=inClass (top 22) 0
theorem ZfO:Chk kl fs (O "__init__") (O "Pen.__init__") ZQ ZcL:=by wtm_at "chk"
noncomputable abbrev Zb5:Stmt:=inClass (top 22) 1
theorem Zem:Chk kl fs (O "take_place") (O "Pen.take_place") Zci Zb5:=by wtm_at "chk"
noncomputable abbrev ZdT:Stmt:=inClass (top 22) 2
theorem Zhi:Chk kl fs (O "joined") (O "Pen.joined") ZaG ZdT:=by wtm_at "chk"
noncomputable abbrev ZdU:Stmt:=inClass (top 22) 3
theorem Zhj:Chk kl fs (O "filled") (O "Pen.filled") ZaH ZdU:=by wtm_at "chk"
noncomputable abbrev Zfy:Stmt:=inClass (top 22) 4
theorem ZjW:Chk kl fs (O "told") (O "Pen.told") Zbw Zfy:=by wtm_at "chk"
end K32
end
section
namespace K32
open PySem L2 IV
theorem ZrW:pg.tb.lookup (O "law")=Wv ZgD:=by kernel_rfl
theorem mkr:Gn.Mkr pg:=⟨by kernel_rfl,by kernel_rfl,by kernel_rfl,by kernel_rfl,by kernel_rfl,.same (by kernel_rfl),.same (by kernel_rfl),.same (by kernel_rfl),by kernel_rfl,by kernel_rfl,.same (by kernel_rfl)⟩
theorem tre:Gn.Tre pg:=by
 constructor
 all_goals (first|kernel_rfl|decide)
theorem wid:Tm.Wid pg:=⟨.str (O "more places than an expression that is told may have"),by kernel_rfl⟩
theorem trb:Tm.Trb pg:=by
 constructor
 case toTre=>exact tre
 case tk=>obtain⟨m,e⟩:=wid;exact⟨_,e⟩
 all_goals kernel_rfl
theorem pnw:Pw.Pnw pg:=by
 constructor;exact trb;exact wid
 all_goals kernel_rfl
theorem gen:Gn.Gen pg:=⟨tre,mkr⟩
theorem thg:Rw.Thg pg:=by
 constructor;exact gen
 all_goals kernel_rfl
theorem dmp:Dm.Dmp pg:=by
 constructor;exact thg
 all_goals kernel_rfl
theorem drd:Dr.Drd pg:=by
 constructor;exact dmp;exact pnw
 all_goals kernel_rfl
theorem lw:K32L.Lw pg:=by
 constructor;exact drd
 all_goals kernel_rfl
theorem runs:∀ns:List Int,ns.length<=63->∃h',run pg (250+1) (O "law") [.ro (ns.map .int)] []=.ok (.bl Wx) h':=λns hl=>K32L.Zth lw ns hl
end K32
end
section
set_option maxHeartbeats 4000000
namespace K32
open PySem L2 IV PyProof.Rows
theorem md{Pr:Yh}{w:Yg}{K:Yk}{h:YG}{mg:Str->Option Yj}{ca1:Yi}{xa1:Yi}{t1:Tok}{q3:Yi}{r4:Option Yi}{n5:Nat}{v6:Array (Option Yj)}{t8:Tok}{t9:Tok}{t10:Tok}{t11:Tok}{t13:Tok}{q15:Yi}{r16:Option Yi}{n17:Nat}{v18:Array (Option Yj)}{t20:Tok}{t21:Tok}{t22:Tok}{q24:Yi}{e25:Nat}{j29:Int}{t30:Tok}{q31:Yi}{r32:Option Yi}{n33:Nat}{v34:Array (Option Yj)}{t36:Tok}{t37:Tok}{j38:Int}{t39:Tok}{q40:Yi}{r41:Option Yi}{n42:Nat}{v43:Array (Option Yj)}{t45:Tok}{t46:Tok}{j47:Int}{t48:Tok}{q49:Yi}{r50:Option Yi}{n51:Nat}{v52:Array (Option Yj)}{t54:Tok}{t55:Tok}{j56:Int}{t57:Tok}{q58:Yi}{r59:Option Yi}{n60:Nat}{v61:Array (Option Yj)}{t63:Tok}{t64:Tok}{j65:Int}{t66:Tok}{q67:Yi}{r68:Option Yi}{n69:Nat}{v70:Array (Option Yj)}{t72:Tok}{t73:Tok}{j74:Int}{t75:Tok}{q76:Yi}{r77:Option Yi}{n78:Nat}{v79:Array (Option Yj)}{t81:Tok}{t82:Tok}{j83:Int}{t84:Tok}{q85:Yi}{r86:Option Yi}{n87:Nat}{v88:Array (Option Yj)}{t90:Tok}{t91:Tok}{j92:Int}{t93:Tok}{q94:Yi}{r95:Option Yi}{n96:Nat}{v97:Array (Option Yj)}{t99:Tok}{t100:Tok}(X:K.In h)(G:h.Ns Yd mg)
   (tb0:Zfe K=Wx)
   (d1:ZF K (O "bound_names") Zdp)
   (d2:ZF K (O "parts_of") Zfp)
   (d3:ZF K (O "front_of") Zfv)
   (d4:ZF K (O "count_parts") Zdo)
   (d5:ZF K (O "built") Zku)
   (d6:ZF K (O "places") Zh0)
   (d7:ZF K (O "bound_to") Zfx)
   (d8:ZF K (O "thing_of") Zfn)
   (d9:ZF K (O "body_of") Zgr)
   (d10:ZF K (O "entered") Zgq)
   (d11:ZF K (O "loud_or_stuck") ZcB)
   (d12:ZF K (O "opened") Zh1)
   (d13:ZF K (O "meant_by") Zfq)
   (d14:ZF K (O "within") ZhZ)
   (d15:ZF K (O "chosen") Zh2)
   (d16:ZF K (O "worked") ZhY)
   (d17:ZF K (O "dump_begun") ZdS)
   (d18:ZF K (O "taken_off") Zew)
   (d19:ZF K (O "taken_apart") Zdk)
   (d20:ZF K (O "quiet_state") Zdl)
   (d21:ZF K (O "applied") Zgs)
   (d22:ZF K (O "gone_on") Zgp)
   (d23:ZF K (O "reckoned") Zfo)
   (d24:ZF K (O "loud_step") Zex)
   (d25:ZF K (O "dump_step") ZeD)
   (d26:ZF K (O "do_order") Zfw)
   (d27:ZF K (O "level_read") ZdQ)
   (d28:ZF K (O "dump_read") ZeE)
   (d29:ZF K (O "measure_of") ZdP)
   (d30:ZF K (O "dump_left") ZeF)
   (d31:ZF K (O "_law_cell_at") Zdn)
   (d32:ZF K (O "_law_mixed") ZeC)
   (d33:ZF K (O "_law_next") Zfs)
   (d34:ZF K (O "_law_names") ZeB)
   (d35:ZF K (O "_law_there") Zez)
   (d36:ZF K (O "_law_plain") ZeA)
   (d37:ZF K (O "_law_function") ZcK)
   (d38:ZF K (O "_law_number") ZdR)
   (d39:ZF K (O "_law_any") Zgo)
   (d40:ZF K (O "_law_width") Zey)
   (d41:ZF K (O "_law_deep") Zfu)
   (d42:ZF K (O "_law_program") Zdm)
   (d43:ZF K (O "_law_read") Zfr)
   (d44:ZF K (O "_law_less") Zft)
   (d45:ZF K (O "law") Zql)
   (y1a:Yl K Yd (O "Pen")=Wv (Wv (.ref ca1))) (y1b:PySem.W.plainGet K ca1 Str.empty=Wx) (y1c:PySem.W.hasDictIn K ca1=Wx) (y1d:PySem.W.plainOver K ca1=Wx) (y1e:YJ K (.ref ca1) "__setattr__" = Wv (Wv (.builtin "object.__setattr__")))
   (y1n1:YJ K (.ref ca1) (O "most")=Wv Ww)
   (y1n2:YJ K (.ref ca1) (O "used")=Wv Ww)
   (y1m:PySem.W.makesIn K ca1=Wx) (y1k:Wf K (.ref ca1)=Wx)
   (u1:Zkh K ca1 (O "__init__") (O "Pen.__init__") ZcL)
   (u2:Zkh K ca1 (O "take_place") (O "Pen.take_place") Zb5)
   (u3:Zkh K ca1 (O "joined") (O "Pen.joined") ZdT)
   (u4:Zkh K ca1 (O "filled") (O "Pen.filled") ZdU)
   (u5:Zkh K ca1 (O "told") (O "Pen.told") Zfy)
   (o1a:Yl K Yd (O "Wide")=Wv (Wv (.ref xa1))) (o1b:PySem.W.typeIn K (.ref xa1)=Wv (.type "type")) (o1c:PySem.W.isClsIn K xa1=Wx) (o1d:YV K (.ref xa1) (.type "BaseException")=Wv Wx) (o1e:PySem.W.excIn K xa1 [.type "ValueError",.type "Exception",.type "BaseException",.type "object"] "ValueError.__new__" = Wx) (o1f:YV K (.ref xa1) (.ref xa1)=Wv Wx)
   (z1:Yl K Yd (O "len")=Wv Ww)
   (z2:Yl K Yd (O "isinstance")=Wv Ww)
   (z3:Yl K Yd (O "int")=Wv Ww)
   (z4:Yl K Yd (O "tuple")=Wv Ww)
   (z5:Yl K Yd (O "list")=Wv Ww)
   (z6:Yl K Yd (O "sum")=Wv Ww)
   (z7:Yl K Yd (O "all")=Wv Ww)
   (z8:Yl K Yd (O "sorted")=Wv Ww)
   (z9:Yl K Yd (O "range")=Wv Ww)
   (z10:Yl K Yd (O "enumerate")=Wv Ww)
   (z11:Yl K Yd (O "reversed")=Wv Ww)
   (z12:Yl K Yd (O "str")=Wv Ww)
   (z13:Yl K Yd (O "bool")=Wv Ww)
   (z14:Yl K Yd (O "max")=Wv Ww)
   (g2:Yl K Yd (O "WIDEST")=Wv (Wv (.int 120 t1)))
   (h7:K.lookup q3=Wv ⟨.type "tuple",r4,.seq #[.str (O "num") t8,.str (O "name") t9,.str (O "fn") t10,.str (O "rec") t11] n5,v6⟩)
   (g12:Yl K Yd (O "AT_ONCE")=Wv (Wv (.ref q3)))
   (g14:Yl K Yd (O "BEYOND")=Wv (Wv (.int 1000000 t13)))
   (h19:K.lookup q15=Wv ⟨.type "tuple",r16,.seq #[.str (O "apply") t20,.str (O "work") t21,.str (O "choose") t22] n17,v18⟩)
   (g23:Yl K Yd (O "ORDERS")=Wv (Wv (.ref q15)))
   (h35:K.lookup q31=Wv ⟨.type "tuple",r32,.seq #[.int 1 t36,.int 1 t37] n33,v34⟩)
   (h44:K.lookup q40=Wv ⟨.type "tuple",r41,.seq #[.int 2 t45,.int 1 t46] n42,v43⟩)
   (h53:K.lookup q49=Wv ⟨.type "tuple",r50,.seq #[.int 0 t54,.int 2 t55] n51,v52⟩)
   (h62:K.lookup q58=Wv ⟨.type "tuple",r59,.seq #[.int 0 t63,.int 3 t64] n60,v61⟩)
   (h71:K.lookup q67=Wv ⟨.type "tuple",r68,.seq #[.int 0 t72,.int 2 t73] n69,v70⟩)
   (h80:K.lookup q76=Wv ⟨.type "tuple",r77,.seq #[.int 0 t81,.int 2 t82] n78,v79⟩)
   (h89:K.lookup q85=Wv ⟨.type "tuple",r86,.seq #[.int 0 t90,.int 2 t91] n87,v88⟩)
   (h98:K.lookup q94=Wv ⟨.type "tuple",r95,.seq #[.int 0 t99,.int 2 t100] n96,v97⟩)
   (g26:Yl K Yd (O "FORMS")=Wv (Wv (.ref q24)))
   (h27:K.lookup q24=Wv ⟨.type "dict",Ww,.dict #[⟨j29,.str (O "fn") t30,.ref q31⟩,⟨j38,.str (O "rec") t39,.ref q40⟩,⟨j47,.str (O "call") t48,.ref q49⟩,⟨j56,.str (O "if") t57,.ref q58⟩,⟨j65,.str (O "+") t66,.ref q67⟩,⟨j74,.str (O "-") t75,.ref q76⟩,⟨j83,.str (O "*") t84,.ref q85⟩,⟨j92,.str (O "<") t93,.ref q94⟩] e25,#[]⟩)
   (x101:j29=hashStr w (O "fn"))
   (x102:j38=hashStr w (O "rec"))
   (x103:j47=hashStr w (O "call"))
   (x104:j56=hashStr w (O "if"))
   (x105:j65=hashStr w (O "+"))
   (x106:j74=hashStr w (O "-"))
   (x107:j83=hashStr w (O "*"))
   (x108:j92=hashStr w (O "<"))
   (w28:(q24==Ye)=Wy):Md Pr w K mg pg kl:=by
 have D_FORMS:∃ a kvs',mg (O "FORMS")=Wv (.ref a)/\DkK Pr w K a kvs'/\∀ H B,RKs ⟨K,mg⟩ H B (cD.lookup (O "FORMS") |>.getD []) kvs':=by
   refine ⟨q24,[(YE (O "fn"),(.ref q31)),(YE (O "rec"),(.ref q40)),(YE (O "call"),(.ref q49)),(YE (O "if"),(.ref q58)),(YE (O "+"),(.ref q67)),(YE (O "-"),(.ref q76)),(YE (O "*"),(.ref q85)),(YE (O "<"),(.ref q94))],YO X G g26,⟨_,_,_,[(YE (O "fn"),.ref q31),(YE (O "rec"),.ref q40),(YE (O "call"),.ref q49),(YE (O "if"),.ref q58),(YE (O "+"),.ref q67),(YE (O "-"),.ref q76),(YE (O "*"),.ref q85),(YE (O "<"),.ref q94)],h27,⟨rfl,rfl,rfl⟩,rfl,?_,(.cons (Zs (O "fn") t30) rfl (.cons (Zs (O "rec") t39) rfl (.cons (Zs (O "call") t48) rfl (.cons (Zs (O "if") t57) rfl (.cons (Zs (O "+") t66) rfl (.cons (Zs (O "-") t75) rfl (.cons (Zs (O "*") t84) rfl (.cons (Zs (O "<") t93) rfl .nil)))))))),(by show ([YE (O "fn"),YE (O "rec"),YE (O "call"),YE (O "if"),YE (O "+"),YE (O "-"),YE (O "*"),YE (O "<")]:List Key).Nodup;decide +kernel),(.cons ⟨rfl,Z7⟩ (.cons ⟨rfl,Z7⟩ (.cons ⟨rfl,Z7⟩ (.cons ⟨rfl,Z7⟩ (.cons ⟨rfl,Z7⟩ (.cons ⟨rfl,Z7⟩ (.cons ⟨rfl,Z7⟩ (.cons ⟨rfl,Z7⟩ .nil)))))))),(by show 8<=sizeLine;decide),w28⟩,fun _ _=>(.cons (.tup (Zdj (vs:=[(.int 1),(.int 1)]) h35 (by show 2<=sizeLine;decide) (.cons Zu (.cons Zu .nil))) (.cons (.int _) (.cons (.int _) .nil))) (.cons (.tup (Zdj (vs:=[(.int 2),(.int 1)]) h44 (by show 2<=sizeLine;decide) (.cons Zu (.cons Zu .nil))) (.cons (.int _) (.cons (.int _) .nil))) (.cons (.tup (Zdj (vs:=[(.int 0),(.int 2)]) h53 (by show 2<=sizeLine;decide) (.cons Zu (.cons Zu .nil))) (.cons (.int _) (.cons (.int _) .nil))) (.cons (.tup (Zdj (vs:=[(.int 0),(.int 3)]) h62 (by show 2<=sizeLine;decide) (.cons Zu (.cons Zu .nil))) (.cons (.int _) (.cons (.int _) .nil))) (.cons (.tup (Zdj (vs:=[(.int 0),(.int 2)]) h71 (by show 2<=sizeLine;decide) (.cons Zu (.cons Zu .nil))) (.cons (.int _) (.cons (.int _) .nil))) (.cons (.tup (Zdj (vs:=[(.int 0),(.int 2)]) h80 (by show 2<=sizeLine;decide) (.cons Zu (.cons Zu .nil))) (.cons (.int _) (.cons (.int _) .nil))) (.cons (.tup (Zdj (vs:=[(.int 0),(.int 2)]) h89 (by show 2<=sizeLine;decide) (.cons Zu (.cons Zu .nil))) (.cons (.int _) (.cons (.int _) .nil))) (.cons (.tup (Zdj (vs:=[(.int 0),(.int 2)]) h98 (by show 2<=sizeLine;decide) (.cons Zu (.cons Zu .nil))) (.cons (.int _) (.cons (.int _) .nil))) .nil))))))))⟩;exact (by
       intro e he;simp only [List.mem_toArray,O3,List.not_mem_nil,or_false] at he;rcases he with rfl|rfl|rfl|rfl|rfl|rfl|rfl|rfl
       . exact ⟨YE (O "fn"),Zs (O "fn") t30,x101⟩
       . exact ⟨YE (O "rec"),Zs (O "rec") t39,x102⟩
       . exact ⟨YE (O "call"),Zs (O "call") t48,x103⟩
       . exact ⟨YE (O "if"),Zs (O "if") t57,x104⟩
       . exact ⟨YE (O "+"),Zs (O "+") t66,x105⟩
       . exact ⟨YE (O "-"),Zs (O "-") t75,x106⟩
       . exact ⟨YE (O "*"),Zs (O "*") t84,x107⟩
       . exact ⟨YE (O "<"),Zs (O "<") t93,x108⟩
     )
 refine ⟨tb0,fun x kvs hx=>?_,fun x d hx=>?_,?_,fun x fd hx=>?_,?_,?_,?_,?_⟩
 . have hm:(x,kvs)∈cD:=lookup_mem hx;have e:(x,kvs)=((O "FORMS"),(cD.lookup (O "FORMS") |>.getD [])):=by
     simp only [cD,O3,List.not_mem_nil,or_false] at hm;exact hm
   cases e;exact D_FORMS
 . have hm:(x,d)∈cG:=lookup_mem hx;have all:All (fun p:Str×D=>∃ v u,mg p.1=Wv u/\RelV v u/\∀ H B,RD ⟨K,mg⟩ H B p.2 v) cG:=⟨⟨(.int 120),_,YO X G g2,Zu,fun _ _=>(.int _)⟩,⟨(.ref q3),_,YO X G g12,Z7,fun _ _=>(.tup (Zdj (vs:=[(.str (O "num")),(.str (O "name")),(.str (O "fn")),(.str (O "rec"))]) h7 (by show 4<=sizeLine;decide) (.cons Zbn (.cons Zbn (.cons Zbn (.cons Zbn .nil))))) (.cons (.str _ (by decide +kernel)) (.cons (.str _ (by decide +kernel)) (.cons (.str _ (by decide +kernel)) (.cons (.str _ (by decide +kernel)) .nil)))))⟩,⟨(.int 1000000),_,YO X G g14,Zu,fun _ _=>(.int _)⟩,⟨(.ref q15),_,YO X G g23,Z7,fun _ _=>(.tup (Zdj (vs:=[(.str (O "apply")),(.str (O "work")),(.str (O "choose"))]) h19 (by show 3<=sizeLine;decide) (.cons Zbn (.cons Zbn (.cons Zbn .nil)))) (.cons (.str _ (by decide +kernel)) (.cons (.str _ (by decide +kernel)) (.cons (.str _ (by decide +kernel)) .nil))))⟩,⟨.ref q24,_,YO X G g26,rfl,fun _ _=>.kd (YO X G g26)⟩,trivial⟩;exact all.mem _ hm
 . have all:All (fun x:Str=>mg x=Ww) ["len", "isinstance", "int", "tuple", "list", "sum", "all", "sorted", "range", "enumerate", "reversed", "str", "bool", "max"]:=⟨Ym X G z1,Ym X G z2,Ym X G z3,Ym X G z4,Ym X G z5,Ym X G z6,Ym X G z7,Ym X G z8,Ym X G z9,Ym X G z10,Ym X G z11,Ym X G z12,Ym X G z13,Ym X G z14,trivial⟩
   exact all.mem
 . have hm:(x,fd)∈tb:=lookup_mem hx;have all:All (fun p:Str×Fd=>∃ st f fdd,DefOk K mg kl fs p.1 p.2 st f fdd) tb:=⟨Zd X G d1 Zgb,Zd X G d2 ZjN,Zd X G d3 ZjT,Zd X G d4 Zga,Zd X G d5 ZpH,Zd X G d6 Znq,Zd X G d7 ZjV,Zd X G d8 ZjL,Zd X G d9 ZlN,Zd X G d10 ZlM,Zd X G d11 ZeU,Zd X G d12 Znr,Zd X G d13 ZjO,Zd X G d14 Znp,Zd X G d15 Zns,Zd X G d16 Zno,Zd X G d17 Zhh,Zd X G d18 Ziq,Zd X G d19 Zf6,Zd X G d20 Zf7,Zd X G d21 ZlO,Zd X G d22 ZlL,Zd X G d23 ZjM,Zd X G d24 Zir,Zd X G d25 Zix,Zd X G d26 ZjU,Zd X G d27 Zhf,Zd X G d28 Ziy,Zd X G d29 Zhe,Zd X G d30 Ziz,Zd X G d31 Zf9,Zd X G d32 Ziw,Zd X G d33 ZjQ,Zd X G d34 Ziv,Zd X G d35 Zit,Zd X G d36 Ziu,Zd X G d37 ZfN,Zd X G d38 Zhg,Zd X G d39 ZlK,Zd X G d40 Zis,Zd X G d41 ZjS,Zd X G d42 Zf8,Zd X G d43 ZjP,Zd X G d44 ZjR,Zd X G d45 Zt3,trivial⟩
   exact all.mem _ hm
 . have all:All (fun C=>∃ a,mg C=Wv (.ref a)/\Cls K a/\∀ f∈kl.ats,ZaM K a f) kl.cs:=⟨⟨ca1,YO X G y1a,⟨y1b,y1c,y1d,y1e⟩,(show All (fun f=>ZaM K ca1 f) kl.ats from ⟨y1n1,y1n2,trivial⟩).mem⟩,trivial⟩
   exact all.mem
 . have all:All (fun p:Str×Str=>∃ a f fdd fd st q,mg p.1=Wv (.ref a)/\Cls K a/\Meth K a p.2 f/\pg.look (mnm p.1 p.2)=Wv fd/\BodyOk K kl (pg.tb.map (·.1)) p.2 q fd st f fdd) kl.ms:=⟨Ze6 X G y1a ⟨y1b,y1c,y1d,y1e⟩ u2 Zem (by kernel_rfl),Ze6 X G y1a ⟨y1b,y1c,y1d,y1e⟩ u3 Zhi (by kernel_rfl),Ze6 X G y1a ⟨y1b,y1c,y1d,y1e⟩ u4 Zhj (by kernel_rfl),Ze6 X G y1a ⟨y1b,y1c,y1d,y1e⟩ u5 ZjW (by kernel_rfl),trivial⟩
   exact all.mem
 . have all:All (fun C:Str=>∃ a f fdd fd st q,mg C=Wv (.ref a)/\Mk K a f/\pg.look (mnm C (O "__init__"))=Wv fd/\BodyOk K kl (pg.tb.map (·.1)) (O "__init__") q fd st f fdd) kl.is:=⟨ZrQ X G y1a y1m y1k u1 ZfO (by kernel_rfl),trivial⟩
   exact all.mem
 . have all:All (fun C:Str=>∃ a,mg C=Wv (.ref a)/\XOk K a) kl.xs:=⟨⟨xa1,YO X G o1a,⟨⟨o1b,L2.isSome_of o1c,o1d⟩,o1e,o1f⟩⟩,trivial⟩
   exact all.mem
end K32
end
section
set_option maxHeartbeats 4000000
open PySem PySem.W PyProof.Rows
local macro_rules|`(tactic| wtm_at "dg")=>`(tactic| (refine' ⟨_,_,?na,L2.ZnB ?l ?c ?k⟩;(case na=>k_is);(case l=>k_is);(case c=>k_is);(case k=>k_is)))
local macro_rules|`(tactic| wtm_at "mg")=>`(tactic| (refine' ⟨_,_,?na,?f,?k,L2.ZnB ?l ?c ?kk⟩;(case na=>k_is);(case f=>k_is);(case l=>k_is);(case c=>k_is);(case k=>k_is);(case kk=>k_is)))
set_option maxRecDepth 100000 in
set_option maxHeartbeats 0 in
theorem PySem.Challenge.cw_samestride_k32_dump_quiet_holds : PySem.Challenge.rw_samestride_k32_dump_quiet.Holds := by
 refine K32hd ?_
 k_fill
 refine IV.ZsI (l:=PySem.Challenge.rw_samestride_k32_dump_quiet) (P:=K32.pg) 250 rfl rfl rfl ⟨rfl,by decide,by decide⟩ (kl:=K32.kl) (λw h Y=>PySem.W.kIn_of Y) K32.ZrW rfl K32.runs ?MM0
 case MM0=>
  intro w mg h KX G;refine' K32.md KX G ?tb0 ?d1 ?d2 ?d3 ?d4 ?d5 ?d6 ?d7 ?d8 ?d9 ?d10 ?d11 ?d12 ?d13 ?d14 ?d15 ?d16 ?d17 ?d18 ?d19 ?d20 ?d21 ?d22 ?d23 ?d24 ?d25 ?d26 ?d27 ?d28 ?d29 ?d30 ?d31 ?d32 ?d33 ?d34 ?d35 ?d36 ?d37 ?d38 ?d39 ?d40 ?d41 ?d42 ?d43 ?d44 ?d45 ?y1a ?y1b ?y1c ?y1d ?y1e ?y1n1 ?y1n2 ?y1m ?y1k ?u1 ?u2 ?u3 ?u4 ?u5 ?o1a ?o1b ?o1c ?o1d ?o1e ?o1f ?z1 ?z2 ?z3 ?z4 ?z5 ?z6 ?z7 ?z8 ?z9 ?z10 ?z11 ?z12 ?z13 ?z14 ?g2 ?h7 ?g12 ?g14 ?h19 ?g23 ?h35 ?h44 ?h53 ?h62 ?h71 ?h80 ?h89 ?h98 ?g26 ?h27 ?x101 ?x102 ?x103 ?x104 ?x105 ?x106 ?x107 ?x108 ?w28
  (case tb0=>(first|k_is|kernel_rfl|decide +kernel))
  (case y1a=>k_is)
  (case y1b=>k_is)
  (case y1c=>k_is)
  (case y1d=>k_is)
  (case y1e=>k_is)
  (case y1n1=>k_is)
  (case y1n2=>k_is)
  (case y1m=>k_is)
  (case y1k=>k_is)
  (case u1=>wtm_at "mg")
  (case u2=>wtm_at "mg")
  (case u3=>wtm_at "mg")
  (case u4=>wtm_at "mg")
  (case u5=>wtm_at "mg")
  (case o1a=>k_is)
  (case o1b=>k_is)
  (case o1c=>k_is)
  (case o1d=>k_is)
  (case o1e=>k_exc)
  (case o1f=>k_is)
  (case d1=>wtm_at "dg")
  (case d2=>wtm_at "dg")
  (case d3=>wtm_at "dg")
  (case d4=>wtm_at "dg")
  (case d5=>wtm_at "dg")
  (case d6=>wtm_at "dg")
  (case d7=>wtm_at "dg")
  (case d8=>wtm_at "dg")
  (case d9=>wtm_at "dg")
  (case d10=>wtm_at "dg")
  (case d11=>wtm_at "dg")
  (case d12=>wtm_at "dg")
  (case d13=>wtm_at "dg")
  (case d14=>wtm_at "dg")
  (case d15=>wtm_at "dg")
  (case d16=>wtm_at "dg")
  (case d17=>wtm_at "dg")
  (case d18=>wtm_at "dg")
  (case d19=>wtm_at "dg")
  (case d20=>wtm_at "dg")
  (case d21=>wtm_at "dg")
  (case d22=>wtm_at "dg")
  (case d23=>wtm_at "dg")
  (case d24=>wtm_at "dg")
  (case d25=>wtm_at "dg")
  (case d26=>wtm_at "dg")
  (case d27=>wtm_at "dg")
  (case d28=>wtm_at "dg")
  (case d29=>wtm_at "dg")
  (case d30=>wtm_at "dg")
  (case d31=>wtm_at "dg")
  (case d32=>wtm_at "dg")
  (case d33=>wtm_at "dg")
  (case d34=>wtm_at "dg")
  (case d35=>wtm_at "dg")
  (case d36=>wtm_at "dg")
  (case d37=>wtm_at "dg")
  (case d38=>wtm_at "dg")
  (case d39=>wtm_at "dg")
  (case d40=>wtm_at "dg")
  (case d41=>wtm_at "dg")
  (case d42=>wtm_at "dg")
  (case d43=>wtm_at "dg")
  (case d44=>wtm_at "dg")
  (case d45=>wtm_at "dg")
  (case z1=>k_is)
  (case z2=>k_is)
  (case z3=>k_is)
  (case z4=>k_is)
  (case z5=>k_is)
  (case z6=>k_is)
  (case z7=>k_is)
  (case z8=>k_is)
  (case z9=>k_is)
  (case z10=>k_is)
  (case z11=>k_is)
  (case z12=>k_is)
  (case z13=>k_is)
  (case z14=>k_is)
  (case g2=>k_is)
  (case g12=>k_is)
  (case h7=>k_is)
  (case g14=>k_is)
  (case g23=>k_is)
  (case h19=>k_is)
  (case g26=>k_is)
  (case h27=>k_is)
  (case h35=>k_is)
  (case h44=>k_is)
  (case h53=>k_is)
  (case h62=>k_is)
  (case h71=>k_is)
  (case h80=>k_is)
  (case h89=>k_is)
  (case h98=>k_is)
  (case x101=>(first|rfl|k_is|fail))
  (case x102=>(first|rfl|k_is|fail))
  (case x103=>(first|rfl|k_is|fail))
  (case x104=>(first|rfl|k_is|fail))
  (case x105=>(first|rfl|k_is|fail))
  (case x106=>(first|rfl|k_is|fail))
  (case x107=>(first|rfl|k_is|fail))
  (case x108=>(first|rfl|k_is|fail))
  (case w28=>rfl)
end
