import PyProof.Rows.All
import Wide.All
import OpenK.AllK
import Wide.FinOn
import PyProof.EqAt
import PyProof.EqKinds
import PyProof.TupleCall
import Lean
import PySem.Challenge.RW_samestride_k57_whole_code_in_step
noncomputable section
set_option Elab.async false
set_option linter.all false
set_option maxRecDepth 100000
open PySem renaming wpAny_bind->Ya,Shared->Yb,sizeLine->Yc,wpAny_pure->Yd,mainGlobals->Ye,sysModules->Yf,wpAny_mono->Yg,World->Yh,Program->Yi,Addr->Yj,Value->Yk,wpAny_newObj_type->Yr,starEach->YA,wpAny->YB,sizeLine_eq->YC,Heap->YG,Around->YH,mem_of_lookup->YI,compareOp->YM,wpAny_field->YQ,backTo->YR,wpAny_Call_Name_kw->YV,keywordEach->YZ,wpAny_callSpecial?_slot->Wa,wpAny_holding->Wc,wpAny_call_entry->We,wpAny_of_eq->Wj
open PySem.W renaming Frag->Yl,nsIn->Ym,findIn->YJ,mg_of->YO,subIn->YT,keepIn->Wb,instObj->Wf
open PySem.Heap renaming lt_size->Yn,get?_update_other->YN,get?_update_self->YU,get?_push_of_some->Od,get?_push_size->Oj
open PySem.NameKind renaming free->Yo
open PySem.PyData renaming strOk->Yp
open PySem.StrLaws renaming sliceText->Yq
open List renaming mem_append_left->Ys,append_nil->Yt,length_map->Yu,replicate->YK,lookup->Wh,getElem?_eq_some_iff->Ob,getElem?_set_ne->Oc,getElem?_append_left->Oe,size_toArray->Of,getElem?_eq_getElem->Og,mem_cons_of_mem->Oh,mem_cons_self->Oi,mem_of_getElem?->O1,getElem?_set_self->Ol,getElem?_append_right->Om,getElem?_map->O2,map_cons->Op,mem_cons->O3,length_cons->Os,mem_append_right->Ov,mem_singleton->Ox,map_nil->Oy,append_assoc->Oz,length_append->OA,nil_append->OB,all_eq_true->OC,mem_append->OD,lookup_cons->OF,sum_cons->OI,getElem?_cons_zero->OJ,getElem?_cons_succ->O0
open Option renaming map_some->Yv,bind_some->Yz,some->J,none->M,map_eq_some_iff->Oo
open Nat renaming lt_irrefl->Yw,zero_le->Yy,le_add_left->YY,le_succ->Wg,le_refl->Oq,lt_of_lt_of_le->Ot,ne_of_lt->Ou,le_trans->OE,lt_succ_self->OH
open PySem.Value renaming ref->YD
open Sum renaming inr->YE
open Option.some renaming inj->YF
open Ne renaming symm->YL
open PySem.F renaming plain_max_loop->YS
open PySem.Obj renaming data_mapFields->YW
open Function renaming comp_def->YX
open PyProof.Rows renaming slot_tuple_getitem->Wi
open PySem.Builtin.List renaming listTooLong->Wm
open Bool renaming or_eq_true->Wo,true->Wr,false->Ws,and_eq_true->Oa,false_ne_true->Ow,false_eq_true->OG
open Decidable renaming decide->Wu
open PySem.Str renaming ofString->O
set_option genSizeOf false
set_option genInjectivity false
theorem Eq.I{a b c:α}(h:a=b)(g:b=c):a=c:=h.trans g
theorem Iff.I(h:a<->b)(g:b<->c):a<->c:=h.trans g
section
open PySem PySem.W PyProof.Rows
set_option maxHeartbeats 0
structure PySem.W.Fast:Prop where(tw4606611805749571221 tw13620683251257901 tw6851617782644250605 tw7714042130144909301 tw10053068854847093902 tw10534707563925605933 tw18407309266322140555 tw36370074865864616 tw15846933913487098979 tw3540847267281801085 tw8580039592781798351 tw9686714170459037845 tw14885613716542141274 tw13167193916252729091 tw13040194569641811506 tw12402481189074967947 tw9208009859450730346 tw9317415526458085531 tw16460613239972485571 tw6861614783565080959 tw1712810549234363837 tw5966640856310997450 tw11695715061447775700 tw5695425509698918138 tw5801771336954066992 tw12418061296305648986 tw7585266478751021802 tw9700492553288034100 tw9095091917207107766 tw16627367937403852816 tw12091330839619226644 tw11308667907507215923 tw13192929152480682759 tw14259568035670238439 tw8579389725115602804 tw2336774620597942388 tw2523197290574389699 tw3758135544926849052 tw15627116894564083482 tw7222500545268034975 tw5862543097349076057 tw862076189951938546 tw15347756345579951193 tw2244858083476820493 tw14002821573565722627 tw12588691337860186701 tw7934075873257642686 tw9214567678367176676 tw11081245361186889506 tw9106115585502822132 tw5446775348256487748 tw9233554908320992987 tw2142564988803928429 tw15345492886572352234 tw17217435834953512000 tw12994430932660485213 tw14458694211689939763 tw15022091622381753425 tw3529568933923958176 tw6992899495536315041 tw14364201317133426880 tw7391355853271840891 tw5870567715196140742 tw2443168863257927451 tw15600436880706845517 tw17964115843856927579 tw1109862193965061871 tw9653316692230463888 tw8307934469515964721 tw14712280879509134584 tw14977557968045528108 tw9477486179191079988 tw16665466024682908054 tw57392952308170156 tw17918991639333535378 tw7803622003248712889 tw13838347759142442345 tw505948224829088039 tw13191940053354809549 tw5600206865716189370 tw9751312244169746582 tw3212814601341904894 tw11240652382556235862 tw15373277135950288694 tw7466103948092648859 tw2851231846806978711 tw1458282604583834860 tw4440022458117506833 tw12715064089048961899 tw5501909205900439141 tw7634431823268972502 tw1454042675835905092 tw17123831569118872824 tw11640271345870181170 tw4226097507082583626 tw7967424424017758462 tw18382944584531410432 tw4564210162914506195 tw8235079022624451285 tw18382435014857588949 tw15141751172004506498 tw11332783755390739846 tw15598420446766086439 tw39675500776441006 tw5051489532262593435 tw6129773455487104734 tw2578466819246370840 tw13280414964322468667 tw11039968686305399581 tw12373185384665671186 tw15636511617696634502 tw3257529503509099693 tw15939961192777491341 tw9893156820216581313 tw3141940184264944307 tw2792209203090019080 tw2367250594906919101 tw11482841755377084566 tw11955696501645299570 tw16697165488652845790 tw15489982334248623284 tw6974148684700800528 tw13931690216992428429 tw8326852332132127871 tw12685875402367629848 tw418642279219378743 tw14174903456888162120 tw13201268562275430623 tw10946501951696766321 tw9096634919100400305 tw2962377016620035829 tw2043945274935028710 tw12705177703068958063 tw10970190798155819183 tw11039187959756780824 tw433662545533703590 tw940376907346581112 tw16321748285329483517 tw18272409252285839788 tw14366138964704189860 tw17395799743034509432 tw17994180935604423909 tw16111385405266560454 tw4311985128865187469 tw16510641360826456841 tw14657865246820404116 tw6436235071068528040 tw17632246773634789024 tw16639750095004559226 tw3149528579256019687 tw9416064965402109842 tw5581397596313697258 tw12047139343965061098 tw4172030657361330463 tw2785367611142221999 tw3081744595877438880 tw2361946401061331420 tw4891605456578142086 tw909031947455156587 tw1036331826798566073 tw10479952360381356801 tw11488264558809289901 tw9936080802726738021 tw9077768910017404107 tw11408185603003772449 tw4474812812785439186 tw16960107334848463457 tw7060366453389914831 tw1159785650748585149 tw16845584566420325363 tw8538136605925822015 tw5191948958605988329 tw1167349069841254129 tw8886685505634838218 tw11338089513002636069 tw1116795094340875475 tw3986347502295680104 tw18317826093089192788 tw7997114515702628487 tw5137107768829600080 tw15710693598107327276 tw13740303761749865016 tw13100448207028887436 tw8636273618107594756 tw339974451510122652 tw15931356863635973840 tw15122615659414640940 tw16620940819616319953 tw15499475698020173243 tw9082053331189230593 tw15894896868071442713 tw14235211992050991110 tw15040519439089321005 tw12359009572005447915 tw15089322544644016522 tw5053257457826658496 tw18350645934183651926 tw6819878656872942638 tw6468000630538230352 tw2928923726175043142 tw11305103391355943359 tw1738894652008277195 tw3285873880707377464 tw11064506952096111305 tw7815417984419898764 tw12670530061257103628 tw10244461439438247454 tw9293507803151968452 tw14182183867972214976 tw17407687581333964989 tw17708473644594706723 tw9170902639151336961 tw17409399836772605292 tw1305785419409841463 tw5708842909809993392 tw11013488986669198648 tw8389550381409808196 tw4649973862365376008 tw1842297275877316943 tw17068486111879675720 tw4667575537628761395 tw6484347625325807273 tw7390857670801848625 tw11785453705173745590 tw17196828294673729286 tw16645283171585819064 tw18296038102358613251 tw4135060892263913452 tw15132079486413091850 tw6549052148817804458 tw56330798948240908 tw13776459188527211056 tw11311253150092242804 tw440489373771134837 tw9127699330251788872 tw12219217977841754455 tw6849006422050063239 tw2464572653993707581 tw15314437653063585438 tw9669756477936664389 tw5152409098163928851 tw12529902704114384989 tw2524617306649005328 tw17202486037598211177 tw10725582765018835370 tw2389374151490366890 tw1763804505962813664 tw10721962615871049122 tw17615440928456109462 tw6581384722895028133 tw13521947978055421641 tw12372477891497342819 tw6365652601979351657 tw17993016377769687785 tw624164288524627754 tw15231296895933477138 tw18096193793618240882 tw3235637003331631539 tw2612963516288475162 tw10085471028554114970 tw15463146197279815950 tw1885739977695295342 tw12425990874402405708 tw7958212058796330964 tw7638570972487316279 tw1370830801575934522 tw18226898597117814372 tw6018811304798321431 tw10822854262789743776 tw7337932239151259971 tw17658432152416689587 tw6977918761676465611 tw10911953662864736568 tw238593970929737708 tw5964943287938720021 tw16939922016493116704 tw14898114052015814049 tw14095503449740484513 tw4301233100732454442 tw11078754718024715146 tw1132325416295431403 tw9311642067299967307 tw13511577326428272940 tw13907592207738165422 tw8103301851507373422 tw868973439792705615 tw16457618872885074671 tw17578934745664112623 tw2823209812392957136 tw7948176972585201233 tw10462412195753444533 tw10133703041559775767 tw7205283770568883544 tw11561254294244690328 tw9710555946266936951 tw13484931337063824593 tw957677301577712310 tw13023935584736616270 tw11112592875337099899 tw10453169168887666405 tw13678039892238142094 tw13420673004530772835 tw12168004892362547433 tw14370155138607649826 tw1042068449978726757 tw6274700351514212071 tw5123843812005629356 tw9206121737684698033 tw18039732725867994037 tw9070690871539456086 tw7547321799428065529 tw3472672045249949032 tw11953698924400402912 tw21408880199261945 tw3955182949186664513 tw15444704783977489571 tw1002090392572670691 tw7054437619379681733 tw15103668942469140486 tw525523563485550534 tw530714444141017287 tw16190423615208457959 tw8380218547941453671 tw8289391746626743208 tw8459890910439261961 tw18002350849392973641 tw18095055117469272682 tw12013052573621306763 tw9767324288032147628 tw14069687457242596045 tw4132131821728301198 tw5537438808196626319 tw13998979772612786097 tw13221269717699199443 tw17700212974484128595 tw3469243501570278644 tw505945785686614004 tw15157151758699356693 tw13626368925538429558 tw3995798022771990262 tw4019606680217960440 tw5902684327555052057 tw11210466532832193850 tw3254186330320490042 tw1397451917144263354 tw1301821403084268859 tw16716842199605614043 tw17599000549925076635 tw12418905198204763099 tw3878640625074431005 tw10966383880650436223 tw3042188940192584383 tw14465850996189667263 tw12837998331147346696 tw16880433932465968283 tw5849110544797961602 tw7852531084754822788 tw11808025103021725741 tw5840908063482693793 tw9154382106005763489 tw7651678947112089607 tw802541458671914703 tw14288387406639608723 tw11855046370981873333 tw12545246941651103733 tw6762367824126490518 tw17149231569039188378 tw12432830757346485563 tw16562135555474000924 tw1926070780117485820 tw4728178677099473916 tw18347987499021940099 tw1337796978838608621 tw10503108499659091120 tw7235577816810263411 tw14341940948452894519 tw9063736961588399894 tw10028830284340333152 tw1413411404059867998 tw15798604508827914879 tw4987279757401222373 tw4662245467056861901 tw419718835051488324 tw2446540634711363372 tw1223162322460464185 tw13603217368614811527 tw1283925580860766064 tw10904849273868600509 tw14104973480112674813 tw12071106949374909081 tw6061186507494801117 tw1593370795775093191 tw6555970982164685834 tw4813439891516470957 tw17827370192405406752 tw15191616896332231618 tw12523597664863698499 tw18221884022876986505 tw6418289434184966955 tw17039510748016646895 tw15218302831401511792 tw1683203120017382037 tw14939430516134627960 tw11749500771799744280 tw14279224778413754713 tw17030374466536626591 tw15480213146042132086 tw13991659307595767419:True)
open_top K57hd for PySem.Challenge.rw_samestride_k57_whole_code_in_step
end
namespace L2
open PySem PySem.Spec PyProof.Rows
noncomputable abbrev NK:=Int×List Str
section
variable {prog:Yi}{w:Yh}{A:YH}{E:Yk->Yb->Prop}{s:Yb}
def ZfA(prog:Yi)(w:Yh)(h:YG)(k:NK)(a:Yj):Prop:=∃o t b m,h.get? a=J o/\o.cls=.type "tuple" /\ o.data=.seq #[.int k.1 t,.ref b] m/\IsTupleKey (PySem.strKind prog w) h k.2 b
def ZfA.typeIs{k}(x:ZfA prog w s.heap k a):s.TypeIs (.ref a) "tuple" := let⟨o,_,_,_,b,c,_⟩:=x;⟨o,b,c⟩
theorem ZfA.inj{h}{x y}(hx:ZfA prog w h x a)(hy:ZfA prog w h y a):x=y:=by obtain⟨o,t,b,m,ho,_,d,e⟩:=hx;obtain⟨f,k,l,n,g,_,c,i⟩:=hy;obtain rfl:o=f:=YF<|ho.symm.I g;rw[d]at c;injection c with R _;simp at R;obtain⟨⟨j,_⟩,rfl⟩:=R;exact Prod.ext j (e.inj i)
theorem ZfA.keeps{h h'}{k}{a d}{o}{es ep}(x:ZfA prog w h k a)(ho:h.get? d=J o)(hd:o.data=.dict es ep)(hs:Heap.SameBut d h h'):ZfA prog w h' k a:=by
 obtain⟨o',t,b,m,cf,hc,dN,hi⟩:=x;exact⟨_,t,b,m,(hs.2 a (by
  rintro rfl
  simp_all)).I cf,hc,dN,hi.keeps ho hd hs⟩
noncomputable def ZlY(w:Yh)(k:NK):Int:=reduceHash (Builtin.Tuple.tupleHashOf [hashInt k.1,reduceHash<|Builtin.Tuple.tupleHashOf<|k.2.map<|hashStr w])
def ZtA{k}{a}{Q}(hu:A.units+1<cLine)(hk:ZfA prog w s.heap k a)(h:Q (ZlY w k) {s with toks:=s.toks+(k.2.length+3)}):
 YB (model prog w) A (pyHash<|.ref a) Q E s:=by
 have hT:=hk.typeIs;obtain⟨o,t,b,m,ho,_,hd,hi⟩:=hk
 first|refine Ya (wpAny_cRoomFor_or (.inr<|by lia) ?_)|lia
 refine Ya<|wpAny_specialOf hT PySem.F.slot_tuple_hash.lookup<|Ya<|wpAny_specialOf hT PySem.F.slot_tuple_hash.lookup ?_;refine Ya<|wpAny_callSpecialIfBoundUnlessNone?_slot hT PySem.F.slot_tuple_hash<|We PySem.F.slot_tuple_hash hT PySem.F.entry_tuple_hash ?_<|PySem.F.args_tuple_hash_1 _;show YB _ _ (Builtin.Tuple.tupleItemsOf _ >>= _) _ _ s;refine Ya<|wpAny_tupleItemsOf ho hd<|Ya ?_;rw[<-Array.forIn_toList];refine wpAny_forIn_list _
  (λrest (r) s'=>(rest=[.int k.1 t,.ref b]/\r=#[]/\s'=s)\/(rest=[.ref b]/\r.toList=[hashInt k.1]/\s'={s with toks:=s.toks+1})\/(rest=[]/\r.toList=[hashInt k.1,reduceHash<|Builtin.Tuple.tupleHashOf<|k.2.map<|hashStr w]/\s'={s with toks:=s.toks+1+(k.2.length+1)}))
  _ ?_ ?_ _ _ (.inl ⟨rfl,rfl,rfl⟩)
 . rintro x rest r s' (⟨e,rfl,rfl⟩|⟨e,hr,rfl⟩|⟨e,_⟩)
   . cases e;refine Ya (wpAny_pyHash_int ?_)
     first
      |exact Yd (.inr (.inl ⟨rfl,rfl,rfl⟩))
      |exact Ya (Yd (Yd (.inr (.inl ⟨rfl,rfl,rfl⟩))))
   . cases e;refine Ya (wpAny_pyHash_tuple (knd:=PySem.strKind prog w) (ks:=k.2) ?_ hi ?_)
     . first|exact hu|lia
     . first
        |exact Yd (.inr (.inr ⟨rfl,by simp[hr];rfl,rfl⟩))
        |exact Ya (Yd (Yd (.inr (.inr ⟨rfl,by simp ;rfl,rfl⟩))))
   . cases e
 . rintro r s' (⟨e,_⟩|⟨e,_⟩|⟨_,hr,rfl⟩)
   . cases e
   . cases e
   . show YB _ _ (retInt<|Builtin.Tuple.tupleHashOf r.toList) _ _ _;rw[hr];refine wpAny_ret_mkInt ?_;unfold ZlY at h;generalize Builtin.Tuple.tupleHashOf [hashInt k.1,reduceHash<|Builtin.Tuple.tupleHashOf<|k.2.map<|hashStr w]=z at h;show YB _ _ (if (Wu (-(2)^63<=z)&&Wu (z<2^63))=Wr then _ else _) Q E _;unfold reduceHash at h;have e:s.toks+1+(k.2.length+1)+1=s.toks+(k.2.length+3):=by lia
     by_cases hr:(Wu (-(2)^63<=z)&&Wu (z<2^63))=Wr
     . rw[if_pos hr];rw[if_pos hr]at h;exact Yd (by simpa[e]using h)
     . rw[if_neg hr];rw[if_neg hr]at h;exact Ya (wpAny_rule<|Yd<|by simpa[e]using h)
def Zmi{x y}{a b}{P}(hu:A.units<cLine)(hx:ZfA prog w s.heap x a)(hy:ZfA prog w s.heap y b)(h:P (.done<|.ret<|.bool<|Wu<|x=y) s):
 YB (model prog w) A (Builtin.«tuple.__eq__» ⟨[.ref a,.ref b],[]⟩) P E s:=by
 have lE:=hy.typeIs;obtain⟨oa,ta,ba,na,kO,_,ly,lg⟩:=hx;obtain⟨ob,tb,bb,nb,eR,_,bv,lf⟩:=hy;show YB _ _ (isInstance _ _ >>= _) _ _ s;refine Ya (wpAny_isInstance lE isSubtype_tuple_tuple (Ya (wpAny_tupleItemsOf kO ly (Ya (wpAny_tupleItemsOf eR bv (Ya (wpAny_forIn_list _
  (λrest r s'=>r.1=M/\s'=s/\(rest=[(Value.int _ _,Value.int _ _),(.ref _,.ref _)]\/(rest=[(.ref ba,.ref bb)]/\x.1=y.1)\/(rest=[]/\x=y)))
  _ ?_ ?_ _ _ ⟨rfl,rfl,.inl rfl⟩)))))))
 . rintro ⟨u,v⟩ rest r s' ⟨hr,rfl,e|⟨e,e1⟩|⟨e,_⟩⟩
   . cases e;refine Ya<|wpAny_eqBool_int ?_;by_cases hk:x.1=y.1
     . rw[show(x.1==y.1)=Wr by simpa using hk];simp only;exact Yd ⟨rfl,rfl,by first|exact .inr (.inl ⟨trivial,hk⟩)|simp ⟩
     . rw[show(x.1==y.1)=Ws by simpa using hk];simp only;rw[decide_eq_false λe=>hk<|by rw[e]]at h;exact Ya (Yd<|Yd<|Yd h)
   . cases e;refine Ya<|wpAny_eqBool_tuple (knd:=PySem.strKind prog w) hu lg lf ?_;by_cases hk:x.2=y.2
     . rw[decide_eq_true hk];simp only;exact Yd ⟨rfl,rfl,by first|exact .inr (.inr ⟨trivial,Prod.ext e1 hk⟩)|simp ⟩
     . rw[decide_eq_false hk];simp only;rw[decide_eq_false λe=>hk<|by rw[e]]at h;exact Ya (Yd<|Yd<|Yd h)
   . cases e
 . rintro ⟨r1,r2⟩ s' ⟨hr,rfl,e|⟨e,_⟩|⟨_,e⟩⟩
   . cases e
   . cases e
   . simp only at hr;subst hr;refine Yd ?_;rw[decide_eq_true e]at h;exact h
def ZyZ{x y}{a b}{Q}(hu:A.units+1<cLine)(hx:ZfA prog w s.heap x a)(hy:ZfA prog w s.heap y b)(h:Q (Wu<|x=y) s):
 YB (model prog w) A (eqBool (.ref a)<|.ref b) Q E s:=by
 unfold eqBool
 try with_reducible refine Wc ?_
 by_cases cJ:(YD a==YD b)=Wr
 . rw[if_pos cJ];have e:=by injection eq_of_beq cJ
   subst e;obtain rfl:=hx.inj hy;exact Ya (wpAny_rule<|Yd<|by simp_all)
 . rw[if_neg cJ];exact Ya (wpAny_richCompare_same_room (op:=.Eq) hx.typeIs hy.typeIs PySem.F.slot_tuple_eq
    (We PySem.F.slot_tuple_eq hx.typeIs PySem.F.entry_tuple_eq (Zmi (by simp_all) hx hy ⟨_,rfl,(λe=>nomatch e),wpAny_truthy_bool h⟩)<|PySem.F.args_tuple_eq_2 _ _)<|by lia)
def Zp8{n}{ks}{a}{Q}(hk:IsTupleKey (PySem.strKind prog w) s.heap ks a)(h:Q Wr s):YB (model prog w) A (eqIsQuiet (n+1)<|.ref a) Q E s:=by
 have hT:=hk.typeIs;obtain⟨o,items,n,ho,_,hd,hi⟩:=hk;unfold eqIsQuiet;refine Ya<|wpAny_specialOf hT PySem.F.slot_tuple_eq.lookup<|Ya<|wpAny_isInstance hT isSubtype_tuple_tuple<|Ya<|wpAny_seqItems ho hd<|Ya ?_;rw[<-Array.forIn_toList];refine wpAny_forIn_list _ (λrest r s'=>r.1=M/\s'=s/\∀v∈rest,carriedByValue v=Wr) _ ?_ ?_ _ _ ⟨rfl,rfl,hi.byValue⟩
 . rintro v rest r s' ⟨hr,rfl,aY⟩;rw[eqIsQuiet_byValue _<|aY v Oi];exact Yd ⟨rfl,rfl,λu fJ=>aY u<|Oh _ fJ⟩
 . rintro ⟨r1,r2⟩ s' ⟨hr,rfl,_⟩;subst hr;exact Yd h
def Zp7{k}{a}{Q}(hk:ZfA prog w s.heap k a)(h:Q Wr s):YB (model prog w) A (eqIsQuiet 8<|.ref a) Q E s:=by
 have hT:=hk.typeIs;obtain⟨o,t,b,n,ho,_,hd,hi⟩:=hk;unfold eqIsQuiet;refine Ya<|wpAny_specialOf hT PySem.F.slot_tuple_eq.lookup<|Ya<|wpAny_isInstance hT isSubtype_tuple_tuple<|Ya<|wpAny_seqItems ho hd<|Ya ?_;rw[<-Array.forIn_toList];refine wpAny_forIn_list _ (λrest r s'=>r.1=M/\s'=s/\(rest=[Value.int _ t,.ref b]\/rest=[.ref b]\/rest=[])) _ ?_ ?_ _ _ ⟨rfl,rfl,.inl rfl⟩
 . rintro v rest r s' ⟨hr,rfl,e|e|e⟩
   . cases e;exact Yd ⟨rfl,rfl,by simp⟩
   . cases e;refine Ya<|Zp8 hi ?_;simp only;exact Yd ⟨rfl,rfl,by simp_all⟩
   trivial
 . rintro ⟨r1,r2⟩ s' ⟨hr,rfl,_⟩;simp only at hr;subst hr;exact Yd h
end
def Zv9(prog:Yi)(w:Yh):HeapKind prog w NK where
 is:=ZfA prog w
 hash:=ZlY w
 draws:=λk=>k.2.length+3
 room:=λA=>A.units+1<cLine
 inj:=λhx hy=>hx.inj hy
 keeps:=λx ho hd hs=>x.keeps ho hd hs
 pyHash:=λhu hk h=>ZtA hu hk h
 eqBool:=λhu hx hy h=>ZyZ hu hx hy h
 quiet:=λhk h=>Zp7 hk h
noncomputable abbrev Key:=Sum Int Str
noncomputable def ZhM:Key->Yk->Bool
 |.inl k,v=>Value.isInt k v
 |.inr x,v=>Value.isStrOf x v
noncomputable def Zz4(w:Yh):Key->Int
 |.inl k=>hashInt k
 |.inr x=>hashStr w x
def ZR:∀{k}{v},ZhM k v=Wr->(∃i t,k=Sum.inl i/\v=Value.int i t)\/(∃x t,k=YE x/\v=Value.str x t)
 |.inl i,v,h=>by obtain⟨t,e⟩:=Value.isInt_shape h;exact .inl ⟨i,t,rfl,e⟩
 |.inr x,v,h=>by obtain⟨t,e⟩:=Value.isStrOf_shape h;exact .inr ⟨x,t,rfl,e⟩
def ZoO(i)(t):ZhM (.inl i) (.int i t)=Wr:=by simp[ZhM,Value.isInt]
def Zy(x)(t):ZhM (.inr x) (.str x t)=Wr:=by simp[ZhM,Value.isStrOf]
def Zws(a b):Wu ((Sum.inl a:Key)=Sum.inl b)=(a==b):=by
 by_cases e:a=b
 . subst e;simp
 simp_all
def Zwp(a b):Wu ((YE a:Key)=YE b)=Wu (a=b):=by simp
def Zwr(a)(b):Wu ((Sum.inl a:Key)=YE b)=Ws:=decide_eq_false (λq=>nomatch q)
def Zwq(a)(b):Wu ((YE a:Key)=Sum.inl b)=Ws:=decide_eq_false (λq=>nomatch q)
def ZV(prog:Yi)(w:Yh):PySem.KeyKind prog w Key where
 is:=ZhM
 hash:=Zz4 w
 inj:=λv a b ha hb=>by
  rcases ZR ha with⟨i,t,rfl,rfl⟩|⟨x,t,rfl,rfl⟩
  . rcases ZR hb with⟨j,u,rfl,e⟩|⟨y,u,rfl,e⟩
    . injection e with e1 _;rw[e1]
    . exact nomatch e
  . rcases ZR hb with⟨j,u,rfl,e⟩|⟨y,u,rfl,e⟩
    . exact nomatch e
    . injection e with e1 _;rw[e1]
 byValue:=λk v h=>by rcases ZR h with⟨i,t,rfl,rfl⟩|⟨x,t,rfl,rfl⟩<;>rfl
 pyHash:=λhv h=>by
  rcases ZR hv with⟨i,t,rfl,rfl⟩|⟨x,t,rfl,rfl⟩
  . exact wpAny_pyHash_int h
  . exact wpAny_pyHash_str h
 eqBool:=λhu hv h=>by
  rcases ZR hu with⟨i,t,rfl,rfl⟩|⟨x,t,rfl,rfl⟩
  . rcases ZR hv with⟨j,u,rfl,rfl⟩|⟨y,u,rfl,rfl⟩
    . rw[Zws]at h;exact wpAny_eqBool_int h
    . rw[Zwr]at h;exact SeqAt.EqAt.int_str i t y u _ _ _ _ h
  . rcases ZR hv with⟨j,u,rfl,rfl⟩|⟨y,u,rfl,rfl⟩
    . rw[Zwq]at h;exact SeqAt.EqAt.str_int x t j u _ _ _ _ h
    . rw[Zwp]at h;exact wpAny_eqBool_str h
 «strs»:=λk x t v h=>by
  rcases ZR h with⟨i,u,rfl,e⟩|⟨y,u,rfl,e⟩
  . exact nomatch e
  . injection e with e1 _;subst e1;cases v<;>rfl
def ZkG(prog)(w)(i)(t):(ZV prog w).is (.inl i) (.int i t)=Wr:=ZoO i t
def ZkF(prog)(w)(x)(t):(ZV prog w).is (.inr x) (.str x t)=Wr:=Zy x t
inductive V where
 |non|bl (b:Bool)|int (i:Int)|str (x:Str)|byt (b:Array UInt8)|flt (b:UInt64)|ref (a:Yj)|ty (n:String)
 deriving DecidableEq
def RelV:V->Yk->Prop
 |.non,u=>u=Value.none
 |.bl b,u=>u=Value.bool b
 |.int i,u=>∃t,u=Value.int i t
 |.str x,u=>∃t,u=Value.str x t
 |.byt b,u=>∃t,u=Value.bytes b t
 |.flt b,u=>∃t,u=Value.float b t
 |.ref a,u=>u=YD a
 |.ty n,u=>u=Value.type n
abbrev Zt:List V->List Yk->Prop:=Paired RelV
theorem Zt.length(r:Zt xs us):xs.length=us.length:=Paired.length r
theorem Zt.get:∀{xs}{us}{i:Nat}{x},Zt xs us->xs[i]?=J x->∃u,us[i]?=J u/\RelV x u
 |_,_,_,_,.nil,e=>by trivial
 |_,_,0,_,.cons r _,e=>by simp at e;subst e;exact⟨_,rfl,r⟩
 |_,_,i+1,x,.cons _ t,e=>by obtain⟨u,R,a⟩:=Zt.get t (by trivial);exact⟨u,by trivial,a⟩
theorem Zt.set(r:RelV x u):∀{xs}{us} (i),Zt xs us->Zt (xs.set i x) (us.set i u)
 |_,_,_,.nil=>.nil
 |_,_,0,.cons _ t=>.cons r t
 |_,_,i+1,.cons q t=>.cons q (Zt.set r i t)
theorem Zt.append:∀{xs ys}{us ws},Zt xs us->Zt ys ws->Zt (xs++ys) (us++ws)
 |_,_,_,_,.nil,s=>s
 |_,_,_,_,.cons r t,s=>.cons r (Zt.append t s)
theorem Zt.take:∀{xs}{us} (n),Zt xs us->Zt (xs.take n) (us.take n)
 |_,_,0,_=>.nil
 |_,_,_+1,.nil=>.nil
 |_,_,n+1,.cons r t=>.cons r (Zt.take n t)
theorem Zt.drop:∀{xs}{us} (n),Zt xs us->Zt (xs.drop n) (us.drop n)
 |_,_,0,r=>r
 |_,_,_+1,.nil=>.nil
 |_,_,n+1,.cons _ t=>Zt.drop n t
def ZgL:Option V->Option Yk->Prop
 |some v,J u=>RelV v u
 |none,M=>True
 |_,_=>False
def KV:List (κ×V)->List (κ×Yk)->Prop:=Paired λ(p:κ×V) (q:κ×Yk)=>p.1=q.1/\RelV p.2 q.2
noncomputable def kV:Key->V
 |.inl i=>.int i
 |.inr x=>.str x
set_option genInjectivity true in
inductive HO where
 |lst (xs:List V)
 |tup (xs:List V)
 |dK (kvs:List (Key×V))|dT (kvs:List (NK×Yj×Yk))
 |set (S_:Int->Bool) (n:Nat)
 |ins (C dx:Yj) (fs:List (Str×V))
 |own (x:Yj)
 |xd (fs:List (Str×V))
 |met (f x:Yj)
 |rng (lo hi:Int)
 |frz (o:Obj) (u:HO)
 |tbl (ps:Array Yk)
 |ext (φ:YG->Prop)
abbrev Hp:=Yj->Option HO
noncomputable def upd(H:Hp)(a:Yj)(o:HO):Hp:=λb=>if b=a then J o else H b
def Zr:upd H a o a=J o:=by unfold upd;simp
def Zq(h:b≠a):upd H a o b=H b:=by unfold upd;rw[if_neg h]
def Z0{H:Hp}(h:H a=J o)(h':H b=M):a≠b:=by intro e;simp_all
section
variable (P:Yi)(w:Yh)
def Zcs(h:YG)(a:Yj)(items:Array Yk):Prop:=∃o,h.get? a=J o/\o.cls=.type "tuple" /\ o.dict=M/\∃n,o.data=.seq items n
theorem Zcs.tup(x:Zcs h a items):IsTup h a items:=let⟨o,b,c,_,r⟩:=x;⟨o,b,c,r⟩
theorem Zcs.fresh(h:YG)(items):Zcs (h.push {cls:=.type "tuple",data:=.seq items}) h.objs.size items:=⟨_,Oj _ rfl,rfl,rfl,_,rfl⟩
def ZaP(H:Hp)(h:YG)(a:Yj):HO->Prop
 |.lst c=>c.length<=Yc/\∃(its:List Yk) (n:Nat),Zt c its/\h.get? a=J {cls:=.type "list",data:=.seq its.toArray n}
 |.tup c=>c.length<=Yc/\∃its:List Yk,Zt c its/\Zcs h a its.toArray
 |.dK b=>b.length<=Yc/\(a==Yf)=Ws/\∃e,KV b e/\h.DictOf (ZV P w) a e
 |.dT b=>b.length<=Yc/\(a==Yf)=Ws/\∃o g j,h.get? a=J o/\o.ExactDict/\o.data=.dict g j/\g.toList=b.map (entryOfKey<|Zv9 P w)/\(b.map (·.1)).Nodup
 |.set S_ n=>h.SetOf (intKind P w) a S_ n
 |.ins C d fs=>H d=J (.own a)/\fs.length<=1000/\d≠a/\h.get? a=J (Wf C d) /\
  ∃mA,h.Ns1 d mA/\(∀f,ZgL (fs.lookup f)<|mA f)/\PySem.Within mA (fs.map (·.1))
 |.own _=>∃o,h.get? a=J o
 |.xd fs=>∃mA,h.Ns1 a mA/\∀f,ZgL (fs.lookup f) (mA f)
 |.rng k l=>∃t u v,h.get? a=J {cls:=.type "range",data:=.fields #[.int k t,.int l u,.int 1 v]}
 |.frz o u=>h.get? a=J o/\ZaP H h a u
 |.tbl m=>h.get? a=J {cls:=.none,data:=.fields m}
 |.met f x=>h.get? a=J (PySem.W.methodObj (.ref f)<|.ref x)
 |.ext φ=>φ h/\(∃o,h.get? a=J o)/\∀R i:YG,φ R->(∀o,R.get? a=J o->i.get? a=J o)->φ i
def HOk(H:Hp)(h:YG):Prop:=∀a o,H a=J o->ZaP P w H h a o
end
section
variable {P:Yi}{w:Yh}{H H':Hp}{h h':YG}{a:Yj}{o:HO}
theorem ZaP.lt(x:ZaP P w H h a o):a<h.objs.size:=by
 cases o with
 |lst c=>obtain⟨_,_,_,_,e⟩:=x;exact Yn e
 |tup c=>obtain⟨_,_,_,p⟩:=x;exact p.tup.lt
 |dK b=>obtain⟨_,_,_,_,o,_,_,e,_⟩:=x;exact Yn e
 |dT b=>obtain⟨_,_,o,_,_,e,_⟩:=x;exact Yn e
 |set S_ n=>obtain⟨o,_,_,_,e,_⟩:=x;exact Yn e
 |ins C d fs=>exact Yn x.2.2.2.1
 |own y=>obtain⟨_,e⟩:=x;exact Yn e
 |xd fs=>obtain⟨_,⟨_,_,_,e,_⟩,_⟩:=x;exact Yn e
 |rng g i=>obtain⟨_,_,_,e⟩:=x;exact Yn e
 |frz j u=>exact Yn x.1
 |tbl k=>exact Yn (x)
 |met f y=>exact Yn (x)
 |ext φ=>obtain⟨_,⟨_,e⟩,_⟩:=x;exact Yn e
theorem Paired.mapP:∀{l₁:List α}{l₂:List β},Paired F l₁ l₂->(∀a b,F a b->G a b)->Paired G l₁ l₂
 |_,_,.nil,_=>.nil
 |_,_,.cons r t,f=>.cons (f _ _ r) (Paired.mapP t f)
def ZaP.stay(x:ZaP P w H h a o)(k:∀b u,(b=a\/H b=J (.own a))->h.get? b=J u->h'.get? b=J u)
 (ho:∀b,H b=J (.own a)->H' b=J (.own a)) (ht:∀b xs,H b=J (.tup xs)->H' b=J (.tup xs)):ZaP P w H' h' a o:=by
 induction o with
 |lst xs=>obtain⟨z,its,n,r,e⟩:=x;exact⟨z,_,n,r,k _ _ (.inl rfl) e⟩
 |tup xs=>obtain⟨z,its,r,g,e,c⟩:=x;exact⟨z,_,r,_,k _ _ (.inl rfl) e,c⟩
 |dK l=>obtain⟨z,y,E,r,g,i,j,e,c⟩:=x;exact⟨z,y,_,r,_,_,_,k _ _ (.inl rfl) e,c⟩
 |dT l=>obtain⟨z,y,g,i,j,e,c⟩:=x;exact⟨z,y,_,_,_,k _ _ (.inl rfl) e,c⟩
 |set S_ n=>obtain⟨g,i,j,t,e,c⟩:=x;exact⟨_,_,_,t,k _ _ (.inl rfl) e,c⟩
 |ins C F fs=>obtain⟨d,z,ne,e,s,⟨A,i,j,B,c⟩,r⟩:=x;exact⟨ho _ d,z,ne,k _ _ (.inl rfl) e,_,⟨_,_,_,k _ _ (.inr d) B,c⟩,r⟩
 |own y=>obtain⟨g,e⟩:=x;exact⟨_,k _ _ (.inl rfl) e⟩
 |xd fs=>obtain⟨s,⟨A,i,j,e,c⟩,r⟩:=x;exact⟨_,⟨_,_,_,k _ _ (.inl rfl) e,c⟩,r⟩
 |rng G I=>obtain⟨t,u,v,e⟩:=x;exact⟨t,u,v,k _ _ (.inl rfl) e⟩
 |frz g u D=>exact⟨k _ _ (.inl rfl) x.1,D x.2⟩
 |tbl K=>exact k a _ (.inl rfl) x
 |met f y=>exact k a _ (.inl rfl) x
 |ext φ=>obtain⟨p,⟨o,e⟩,m⟩:=x;exact⟨m _ _ p λo q=>k _ _ (.inl rfl) q,⟨o,k _ _ (.inl rfl) e⟩,m⟩
theorem HOk.lt(x:HOk P w H h)(e:H a=J o):a<h.objs.size:=(x a o e).lt
def HOk.fresh(x:HOk P w H h)(e:h.objs.size<=a):H a=M:=by
 cases q:H a with
 |none=>rfl
 |some u=>exact absurd (Ot (x.lt q) e) (Yw _)
def HOk.kept(x:HOk P w H h)(k:∀b u,h.get? b=J u->h'.get? b=J u):HOk P w H h':=λa o e=>(x a o e).stay (λb u _ q=>k b u q) (λ_ q=>q) λ_ _ q=>q
def HOk.laid(x:HOk P w H h)(k:∀b u,h.get? b=J u->h'.get? b=J u)(hp:h.objs.size<=a)(new:ZaP P w (upd H a o) h' a o):HOk P w (upd H a o) h':=λb u e=>by
 by_cases d:b=a
 . subst d;rw[Zr]at e;simp_all
 . rw[Zq d]at e;exact(x b u e).stay (λc v _ q=>k c v q) (λc q=>(Zq<|Z0 q<|x.fresh hp).I q) λc f q=>(Zq<|Z0 q<|x.fresh hp).I q
end
def Rd(H:Hp)(a:Yj)(u:HO):Prop:=H a=J u\/∃o,H a=J (.frz o u)
def Rd.ok{P}{w}{H}{h}{a}{u}(r:Rd H a u)(x:HOk P w H h):ZaP P w H h a u:=by
 rcases r with r|⟨o,r⟩
 . exact x a u r
 . obtain⟨_,q⟩:=x a _ r;exact q
def Mut:Option HO->Prop
 |some (.lst _)=>True
 |some (.dK _)=>True
 |some (.dT _)=>True
 |some (.set _ _)=>True
 |some (.ins _ _ _)=>True
 |some (.ext _)=>True
 |_=>False
section
variable {P:Yi}{w:Yh}{H:Hp}{h h':YG}{x e:Yj}{o':HO}
def HOk.write(ok:HOk P w H h)(mu:Mut (H x))(he:e=x\/H e=J (.own x))(k:∀b u,b≠e->h.get? b=J u->h'.get? b=J u)(fS:∃u,h'.get? e=J u)
 (new:ZaP P w (upd H x o') h' x o'):HOk P w (upd H x o') h':=λb u q=>by
 by_cases hb:b=x
 . subst hb;rw[Zr]at q;simp_all
 . rw[Zq hb]at q;by_cases hbe:b=e
   . have q':H b=J (.own x):=by simp_all
     rw[q]at q';cases q';obtain⟨v,hv⟩:=fS;exact⟨v,by simp_all⟩
   . refine(ok b u q).stay (λc v hc r=>k c v ?_ r) (λc r=>(Zq<|(λc y r z=>by subst z;rw[r]at mu;exact mu) c b r).I r) λc xs r=>(Zq<|(λc xs r z=>by subst z;rw[r]at mu;exact mu) c xs r).I r;rcases hc with rfl|hc
     . exact hbe
     . rintro rfl;rcases he with z|z
       . exact(λc y r z=>by subst z;rw[r]at mu;exact mu) c b hc z
       lia
end
structure Un(fs ex:List Yj)(H H':Hp)(h h':YG):Prop where
 keep:∀b o,h.get? b=J o->H b=M->b ∉ fs->b ∉ ex->h'.get? b=J o
 slot:∀b o,h.get? b=J o->H b=M->b∈fs->b ∉ ex->∃sl,h'.get? b=J {o with slots:=sl}
 free:∀b o,h.get? b=J o->H b=M->b ∉ ex->H' b=M
 there:∀b o,h.get? b=J o->b ∉ ex->∃o',h'.get? b=J o'
 tups:∀b xs,H b=J (.tup xs)->H' b=J (.tup xs)
 frzs:∀b o u,H b=J (.frz o u)->H' b=J (.frz o u)
 tbls:∀b ps,H b=J (.tbl ps)->∃more,H' b=J (.tbl<|ps++more)
section
variable {fs ex:List Yj}{H H1 H2:Hp}{h R h2 h':YG}{a x e:Yj}{o:HO}
def Un.any(u:Un fs ex H H1 h R)(q:h.get? b=J ob)(n:H b=M)(hx:b ∉ ex):∃sl,R.get? b=J {ob with slots:=sl}:=by
 by_cases a:b∈fs
 . exact u.slot b _ q n a hx
 . exact⟨_,u.keep b _ q n a hx⟩
def Un.I(a:Un fs ex H H1 h R)(b:Un fs ex H1 H2 R h2):Un fs ex H H2 h h2 where
 keep:=λc ob q n hc hx=>b.keep c _ (a.keep c _ q n hc hx) (a.free c _ q n hx) hc hx
 slot:=λc ob q n hc hx=>by obtain⟨sl,e1⟩:=a.slot c _ q n hc hx;obtain⟨eM,e2⟩:=b.slot c _ e1 (a.free c _ q n hx) hc hx;exact⟨_,e2⟩
 free:=λc ob q n hx=>by obtain⟨o',e1⟩:=a.there c _ q hx;exact b.free c _ e1 (a.free c _ q n hx) hx
 there:=λc ob q hx=>by obtain⟨o',e1⟩:=a.there c _ q hx;exact b.there c _ e1 hx
 tups:=λc xs q=>b.tups c _ (a.tups c _ q)
 frzs:=λc ob xs q=>b.frzs c _ _ (a.frzs c _ _ q)
 tbls:=λc ps q=>by obtain⟨m1,e1⟩:=a.tbls c _ q;obtain⟨m2,e2⟩:=b.tbls c _ e1;exact⟨m1++m2,by simp_all⟩
def Un.kept(k:∀b u,h.get? b=J u->h'.get? b=J u):Un fs ex H H h h':=⟨λb a q _ _ _=>k b _ q,λb a q _ _ _=>⟨_,k b a q⟩,λ_ _ _ n _=>n,λb a q _=>⟨_,k b _ q⟩,λ_ _ q=>q,λ_ _ _ q=>q,λ_ c q=>⟨#[],by trivial⟩⟩
def Un.refl:Un fs ex H H h h:=Un.kept λ_ _ q=>q
def Un.laid(k:∀b u,h.get? b=J u->h'.get? b=J u)(hp:h.objs.size<=a)(hn:H a=M):Un fs ex H (upd H a o) h h' where
 keep:=λb u q _ _ _=>k b u q
 slot:=λb u q _ _ _=>⟨_,k b u q⟩
 free:=λb u q n _=>(Zq<|Ou<|Ot (Yn q) hp).I n
 there:=λb u q _=>⟨u,k b u q⟩
 tups:=λb xs q=>(Zq<|Z0 q hn).I q
 frzs:=λb u xs q=>(Zq<|Z0 q hn).I q
 tbls:=λb ps q=>⟨#[],by rw[Zq<|Z0 q hn,q];simp⟩
def Un.write(mu:Mut (H x))(he:e=x\/H e=J (.own x))(k:∀b u,b≠e->h.get? b=J u->h'.get? b=J u)(fS:∃u,h'.get? e=J u):Un fs ex H (upd H x o) h h':=by
 have hx:∀b,H b=M->b≠x:=λb n z=>by subst z;rw[n]at mu;exact mu
 have hm:∀b u,H b=J u->¬ Mut (J u)->b≠x:=λb u q nm z=>by simp_all
 refine⟨λb u q n _ _=>k b u (λb n z=>by simp_all b n) q,λb u q n _ _=>⟨_,k b u (λb n z=>by simp_all b n) q⟩,λb u q n _=>(Zq<|hx b n).I n,λb u q _=>?_,
  λb c q=>(Zq<|hm b _ q λz=>z).I q,λb u c q=>(Zq<|hm b _ q λz=>z).I q,λb d q=>⟨#[],by rw[Zq<|hm b _ q λz=>z,q];simp⟩⟩
 by_cases a:b=e
 . simp_all
 . exact⟨u,k b u a q⟩
end
def trk(h:YG)(H:Hp):List Yj:=(List.range h.objs.size).filter λa=>(H a).isSome
def ZoR(h:YG)(H:Hp):YG:=PySem.W.hideAll h (trk h H)
def ZoQ(h)(H):(ZoR h H).objs.size=h.objs.size:=PySem.W.hideAll_size _ _
def ZkM(e:h.get? b=J o)(n:H b=M):(ZoR h H).get? b=J o:=
 PySem.W.hideAll_get _ e λa=>by
  have q:=(List.mem_filter.mp a).2
  simp_all
def Zta(e:(ZoR h H).get? b=J o):h.get? b=J o/\H b=M:=by
 have a:=PySem.W.of_hideAll _ e;refine⟨a,?_⟩;cases q:H b with
 |none=>rfl
 |some x=>
  have z:(ZoR h H).get? b=M:=PySem.W.hideAll_none _ (List.mem_filter.mpr ⟨List.mem_range.mpr<|Yn a,by simp[q]⟩)
  simp_all
structure Mod(K:Yl)(mg:Str->Option Yk)(base:YG):Prop where
 kin:K.In base
 glob:base.Ns Ye mg
 blt:∃mb,base.Ns builtinsNs mb/\∀x:Str,x ≠ "__name__" -> mb x=bootBuiltins x
 nolimit:base.NoLimit
structure Cx where
 prog:Yi
 w:Yh
 K:Yl
 mg:Str->Option Yk
 base:YG
 A:YH
 N:List Str
 s₀:Yb
 H₀:Hp
 env:Env
 outer:List Env
 stack:List Env
 ex:List Yj
 fn:Str->Bool
 calm:Bool
 pn:List (Yj×Obj)
 xe:Yk->Yb->Prop
noncomputable def frs(l:List Env):List Yj:=l.filterMap (·.frame)
abbrev Cx.fs(X:Cx):List Yj:=frs X.outer
def Vis(sc:Scope)(x:Str):Prop:=sc.names.lookup x=J .local\/sc.names.lookup x=J .cell\/sc.names.lookup x=J .free
def Loc(sc:Scope)(x:Str):Prop:=sc.names.lookup x=J .local\/sc.names.lookup x=J .cell
def Look(env:Env)(h:YG)(m:Str->Option Yk)(x:Str)(u:Yk):Prop:=(env.kindOf x=J .local/\m x=J u)\/((env.kindOf x=J .cell\/env.kindOf x=J .free)/\∃c,env.cells.lookup x=J c/\h.IsCell c (J u))
structure Cx.Ok(X:Cx):Prop where
 mod:Mod X.K X.mg X.base
 kind:X.env.scope.kind=.function
 glob:X.env.globals=Ye
 blt:X.env.builtins=builtinsNs
 above:X.s₀.heap.objs.size<=X.env.locals
 inj:∀x y c,X.env.cells.lookup x=J c->X.env.cells.lookup y=J c->x=y
 has:∀x,(X.env.kindOf x=J .cell\/X.env.kindOf x=J .free)->∃c,X.env.cells.lookup x=J c
 cab:∀x c,X.fn x=Wr->X.env.cells.lookup x=J c->X.s₀.heap.objs.size<=c
 hd:X.calm=Wr->X.A.handled=M
 frames:X.A.frames=J X.stack
 stk:X.stack=X.outer\/(X.stack=X.env::X.outer/\X.env.frame=J X.env.locals)
 exf:∀b∈X.ex,b≠X.env.locals/\∀x c,X.env.cells.lookup x=J c->c≠b
 bs:∀b o,X.base.get? b=J o->X.s₀.heap.get? b=J o/\X.H₀ b=M
 bsz:X.base.objs.size<=X.s₀.heap.objs.size
 noex:∀b o,X.base.get? b=J o->b ∉ X.ex
 exfs:∀b∈X.ex,b ∉ X.fs
 funs:X.s₀.heap.FunFrames X.base X.outer
 frf:∀b∈X.fs,X.H₀ b=M
structure Inv(X:Cx)(aa:List (Yj×Obj))(Z:List (Option V))(H:Hp)(s:Yb):Prop where
 ok:X.Ok
 os:s.os=X.s₀.os
 bare:AllBare s.gens
 base:Un X.fs X.ex X.H₀ H X.s₀.heap s.heap
 loc:∃m,s.heap.Ns X.env.locals m/\∀(i:Nat) (x:Str) (v:V),X.N[i]?=J x->Z[i]?=J (J v)->Vis X.env.scope x->∃u,RelV v u/\Look X.env s.heap m x u
 cell:∀x c,X.env.cells.lookup x=J c->∃v,s.heap.IsCell c v
 free:H X.env.locals=M
 freeC:∀x c,X.env.cells.lookup x=J c->H c=M
 pin:∀p∈X.pn++aa,s.heap.get? p.1=J p.2/\H p.1=M/\p.1≠X.env.locals/\p.1 ∉ X.fs/\∀v,p.2.data≠.cell v
 hok:HOk X.prog X.w H s.heap
 len:Z.length=X.N.length
section
variable {X:Cx}{aa:List (Yj×Obj)}{Z:List (Option V)}{H H':Hp}{s:Yb}{h':YG}
def Cx.Ok.nofr(ok:X.Ok)(e:X.base.get? b=J o):b ∉ X.fs:=λa=>by
 have:=(ok.funs.mem a).1
 simp_all
theorem Inv.bs(I:Inv X aa Z H s):∀b o,X.base.get? b=J o->s.heap.get? b=J o/\H b=M:=λb o e=>⟨I.base.keep b o (I.ok.bs b o e).1 (I.ok.bs b o e).2 (I.ok.nofr e)<|I.ok.noex b o e,I.base.free b o (I.ok.bs b o e).1 (I.ok.bs b o e).2<|I.ok.noex b o e⟩
def Inv.bk(I:Inv X aa Z H s):∀b o,X.base.get? b=J o->s.heap.get? b=J o:=λb o e=>(I.bs b o e).1
theorem Inv.mod(I:Inv X aa Z H s):Mod X.K X.mg X.base:=I.ok.mod
def Inv.kIn(I:Inv X aa Z H s):X.K.In s.heap:=I.ok.mod.kin.keeps I.bk
theorem Inv.lt(I:Inv X aa Z H s):X.env.locals<s.heap.objs.size:=let⟨_,a,_⟩:=I.loc;a.lt
def Inv.sz(I:Inv X aa Z H s):X.s₀.heap.objs.size<=s.heap.objs.size:=OE I.ok.above (Nat.le_of_lt I.lt)
def Inv.nofs(I:Inv X aa Z H s)(h:s.heap.objs.size<=a):a ∉ X.fs:=λhb=>by obtain⟨_,o,ho,_⟩:=I.ok.funs.mem hb;exact absurd (Ot (Yn ho)<|OE I.sz h) (Yw _)
def Inv.cne(I:Inv X aa Z H s):∀x c,X.env.cells.lookup x=J c->c≠X.env.locals:=λx c e z=>by
 obtain⟨v,o,a,b⟩:=I.cell x c e;obtain⟨m,⟨d,f,g,h,i,_⟩,_⟩:=I.loc
 simp_all
theorem Inv.funs(I:Inv X aa Z H s):s.heap.FunFrames X.base X.outer:=by
 have all:∀(l),(∀b∈frs l,b∈X.fs)->X.s₀.heap.FunFrames X.base l->s.heap.FunFrames X.base l:=by
  intro l;induction l with
  |nil=>intro _ _;trivial
  |cons env r ih=>rintro hs⟨hk,⟨L,o,hf,hn,ho,hd⟩,hr⟩;have hL:=hs L (by unfold frs;simp_all);obtain⟨sl,e⟩:=I.base.slot L o ho (I.ok.frf L hL) hL λz=>I.ok.exfs L z hL;exact⟨hk,⟨L,_,hf,hn,e,hd⟩,ih (λb hb=>hs b (by unfold frs;rw[List.filterMap_cons,hf];exact Oh _ hb)) hr⟩
 exact all _ (λ_ hb=>hb) I.ok.funs
theorem Inv.stack(I:Inv X aa Z H s):s.heap.FunFrames X.base X.stack:=by
 rcases I.ok.stk with e|⟨e,a⟩
 . rw[e];exact I.funs
 . rw[e];obtain⟨m,b,_⟩:=I.loc;exact .cons (by rw[I.ok.kind];decide) a b (Heap.get?_none_of_le<|OE I.ok.bsz I.ok.above) I.funs
def Inv.stkSub(I:Inv X aa Z H s):∀b∈frs X.stack,b∈X.env.locals::X.fs:=λb a=>by
 rcases I.ok.stk with e|⟨e,c⟩
 . simp_all
 . rw[e]at a;unfold frs at a;rw[List.filterMap_cons,c]at a;trivial
def Inv.stkFree(I:Inv X aa Z H s):∀b∈frs X.stack,H b=M:=λb hb=>by
 rcases O3.mp (I.stkSub b hb)with e|hb
 . rw[e];exact I.free
 . obtain⟨_,o,a,_⟩:=I.ok.funs.mem hb;exact I.base.free b o a (I.ok.frf b hb) λz=>I.ok.exfs b z hb
def Inv.step{g'}{t'}{d'}{ch:List _}(I:Inv X aa Z H s)
 (cg:∀b∈ch,(b∈X.ex\/X.s₀.heap.objs.size<=b)/\b≠X.env.locals/\(∀x c,X.env.cells.lookup x=J c->c≠b)/\∀p∈X.pn++aa,p.1≠b)
 (keep:∀b o,b≠X.env.locals->b ∉ X.fs->b ∉ ch->s.heap.get? b=J o->H b=M->h'.get? b=J o)
 (slot:∀b o,b≠X.env.locals->b∈X.fs->b ∉ ch->s.heap.get? b=J o->H b=M->∃sl,h'.get? b=J {o with slots:=sl}) (free:∀b o,b ∉ ch->s.heap.get? b=J o->H b=M->H' b=M)
 (there:∀b o,b ∉ ch->s.heap.get? b=J o->∃o',h'.get? b=J o')
 (tups:∀b xs,H b=J (.tup xs)->H' b=J (.tup xs)) (frzs:∀b o u,H b=J (.frz o u)->H' b=J (.frz o u)) (tbls:∀b ps,H b=J (.tbl ps)->∃more,H' b=J (.tbl<|ps++more))
 (ns:∀m,s.heap.Ns X.env.locals m->h'.Ns X.env.locals m) (hok:HOk X.prog X.w H' h') (hg:AllBare g') :
 Inv X aa Z H' {s with heap:=h',gens:=g',drawn:=d',toks:=t'}:=by
 have jo:∀b o,X.s₀.heap.get? b=J o->b≠X.env.locals:=λb o e=>Ou<|Ot (Yn e) I.ok.above;have gB:∀b o,X.s₀.heap.get? b=J o->b ∉ X.ex->b ∉ ch:=λb o e hx hb=>by
  rcases(cg b hb).1 with z|z
  . exact hx z
  . exact absurd (Ot (Yn e) z) (Yw _)
 have cX:∀x c,X.env.cells.lookup x=J c->∀v,s.heap.IsCell c v->h'.IsCell c v:=λx c e v ⟨o,ho,hd⟩=>by
  have fD:c ∉ ch:=λz=>(cg c z).2.2.1 x c e rfl;by_cases hc:c∈X.fs
  . obtain⟨sl,q⟩:=slot c o (I.cne x c e) hc fD ho<|I.freeC x c e;exact⟨_,q,hd⟩
  . exact⟨o,keep c o (I.cne x c e) hc fD ho<|I.freeC x c e,hd⟩
 refine⟨I.ok,I.os,hg,⟨λb o e n hb hx=>?_,λb o e n hb hx=>?_,λb o e n hx=>?_,λb o e hx=>?_,λb xs e=>tups b _<|I.base.tups b _ e,λb o xs e=>frzs b o _<|I.base.frzs b o _ e,λb ps e=>?_⟩,?_,λx c e=>?_,?_,λx c e=>?_,λp hp=>?_,hok,I.len⟩
 . exact keep b o (jo b o e) hb (gB b o e hx) (I.base.keep b o e n hb hx) (I.base.free b o e n hx)
 . obtain⟨sl,e1⟩:=I.base.slot b o e n hb hx;obtain⟨eM,e2⟩:=slot b _ (jo b o e) hb (gB b o e hx) e1<|I.base.free b o e n hx;exact⟨eM,e2⟩
 . obtain⟨o',e1⟩:=I.base.there b o e hx;exact free b o' (gB b o e hx) e1 (I.base.free b o e n hx)
 . obtain⟨o',e1⟩:=I.base.there b o e hx;exact there b o' (gB b o e hx) e1
 . obtain⟨m1,e1⟩:=I.base.tbls b ps e;obtain⟨m2,e2⟩:=tbls b _ e1;exact⟨m1++m2,by rw[e2,Array.append_assoc]⟩
 . obtain⟨m,hn,hl⟩:=I.loc;refine⟨m,ns m hn,λi x v e1 e2 e3=>?_⟩;obtain⟨u,r,l⟩:=hl i x v e1 e2 e3;refine⟨u,r,?_⟩;rcases l with l|⟨k,c,e,z⟩
   . exact .inl l
   . exact .inr ⟨k,c,e,cX x c e _ z⟩
 . obtain⟨v,z⟩:=I.cell x c e;exact⟨v,cX x c e v z⟩
 . obtain⟨m,⟨o,_,_,ho,_⟩,_⟩:=I.loc;exact free _ o (λz=>(cg _ z).2.1 rfl) ho I.free
 . obtain⟨v,o,ho,hd⟩:=I.cell x c e;exact free c o (λz=>(cg c z).2.2.1 x c e rfl) ho (I.freeC x c e)
 . obtain⟨e,n,ne,nf,d⟩:=I.pin p hp;have fD:p.1 ∉ ch:=λz=>(cg p.1 z).2.2.2 p hp rfl;exact⟨keep p.1 p.2 ne nf fD e n,free p.1 p.2 fD e n,ne,nf,d⟩
theorem Inv.un{t'}(I:Inv X aa Z H s)(u:Un X.fs [] H H' s.heap h')(hok:HOk X.prog X.w H' h'):Inv X aa Z H' {s with heap:=h',toks:=t'}:=by
 obtain⟨m,⟨o,i,j,c,r⟩,_⟩:=id I.loc;obtain⟨k,f⟩:=u.any c I.free (by simp);exact I.step (ch:=[]) (λ_ z=>nomatch z) (λb o _ a _ e n=>u.keep b o e n a<|by simp) (λb o _ a _ e n=>u.slot b o e n a<|by simp) (λb o _ e n=>u.free b o e n<|by simp) (λb o _ e=>u.there b o e<|by simp) u.tups u.frzs u.tbls (λl g=>by
   obtain⟨p,q,t,d,h⟩:=g;rw [c] at d;cases d;exact⟨_,_,_,f,h⟩) hok I.bare
theorem Inv.call{g'}{t'}{d'}{ch}(I:Inv X aa Z H s)(u:Un (frs X.stack) ch H H' s.heap h')(hok:HOk X.prog X.w H' h')(hg:AllBare g')
   (cg:∀ b∈ch,(b∈X.ex\/X.s₀.heap.objs.size<=b)/\b≠X.env.locals/\(∀ x c,X.env.cells.lookup x=J c->c≠b)/\∀ p∈X.pn++aa,p.1≠b) :
   Inv X aa Z H' {s with heap:=h',gens:=g',drawn:=d',toks:=t'}:=by
 obtain⟨m,⟨o,k,l,f,r⟩,_⟩:=id I.loc;obtain⟨q,d⟩:=u.any f I.free λz=>(cg _ z).2.1 rfl;exact I.step cg (λb o d h a e n=>u.keep b o e n (λz=>(O3.mp<|I.stkSub b z).elim d h) a) (λb o _ _ a e n=>u.any e n a) (λb o a e n=>u.free b o e n a) (λb o a e=>u.there b o e a) u.tups u.frzs u.tbls (λt i=>by
   obtain⟨v,y,A,g,j⟩:=i;rw [f] at g;cases g;exact⟨_,_,_,d,j⟩) hok hg
def Inv.turned{t'}{it}(I:Inv X aa Z H s)(k:∀b o,b≠it->s.heap.get? b=J o->h'.get? b=J o)(hn:H it=M)(hL:it≠X.env.locals)
 (R:it∈X.ex\/X.s₀.heap.objs.size<=it) (h2:∀x c,X.env.cells.lookup x=J c->c≠it) (h3:∀p∈X.pn++aa,p.1≠it):Inv X aa Z H {s with heap:=h',toks:=t'}:=by
 have d:∀b u,H b=J u->b≠it:=λb u e z=>by simp_all
 refine I.step (ch:=[it]) (λb f=>?_) (λb o _ _ a e _=>k b o (λz=>a<|by simp[z]) e) (λb o _ _ a e _=>⟨_,k b o (λz=>a<|by simp[z]) e⟩) (λ_ _ _ _ n=>n)
  (λb o a e=>⟨o,k b o (λz=>a<|by simp[z]) e⟩) (λ_ _ e=>e) (λ_ _ _ e=>e) (λb i e=>⟨#[],by trivial⟩) (λm g=>?_) (λb u e=>?_) I.bare
 . cases by simpa using f
   trivial
 . obtain⟨o,j,l,h,r⟩:=g;exact⟨o,_,_,k _ o (YL hL) h,r⟩
 . refine(I.hok b u e).stay (λc v a q=>k c v ?_ q) (λ_ q=>q) λ_ _ q=>q;rcases a with z|z
   . rw[z];exact d b u e
   . exact d c _ z
def Inv.tok(I:Inv X aa Z H s)(t):Inv X aa Z H {s with toks:=t}:=I.un Un.refl I.hok
theorem Inv.kept{t'}(I:Inv X aa Z H s)(k:∀b u,s.heap.get? b=J u->h'.get? b=J u):Inv X aa Z H {s with heap:=h',toks:=t'}:=I.un (Un.kept k) (I.hok.kept k)
theorem Inv.laid{a:Yj}{o}{t'}(I:Inv X aa Z H s)(k:∀b u,s.heap.get? b=J u->h'.get? b=J u)(hp:s.heap.objs.size<=a)(new:ZaP X.prog X.w (upd H a o) h' a o):
 Inv X aa Z (upd H a o) {s with heap:=h',toks:=t'}:=I.un (Un.laid k hp<|I.hok.fresh hp) (I.hok.laid k hp new)
theorem Inv.write(I:Inv X aa Z H s)(mu:Mut (H x))(he:e=x\/H e=J (.own x))(k:∀b u,b≠e->s.heap.get? b=J u->h'.get? b=J u)(fS:∃u,h'.get? e=J u)
 (new:ZaP X.prog X.w (upd H x o) h' x o):Inv X aa Z (upd H x o) {s with heap:=h',toks:=t'}:=I.un (Un.write mu he k fS) (I.hok.write mu he k fS new)
def Inv.weak(I:Inv X aa Z H s)(hl:σ'.length=Z.length)(w:∀(i:Nat) v,σ'[i]?=J (J v)->Z[i]?=J (J v)):Inv X aa σ' H s:=⟨I.ok,I.os,I.bare,I.base,let⟨m,a,b⟩:=I.loc;⟨m,a,λi x v c d e=>b i x v c (w i v d) e⟩,I.cell,I.free,I.freeC,I.pin,I.hok,hl.I I.len⟩
def Inv.pins_of(I:Inv X aa Z H s)(h:∀p∈fv,s.heap.get? p.1=J p.2/\H p.1=M/\p.1≠X.env.locals/\p.1 ∉ X.fs/\∀v,p.2.data≠.cell v):Inv X fv Z H s:=⟨I.ok,I.os,I.bare,I.base,I.loc,I.cell,I.free,I.freeC,λp a=>(OD.mp a).elim (λz=>I.pin p<|Ys _ z)<|h p,I.hok,I.len⟩
def ZkE{N:List Str}(hN:N.Nodup){i j:Nat}{x}(a:N[i]?=J x)(b:N[j]?=J x):i=j:=by obtain⟨R,c⟩:=Ob.mp a;obtain⟨e,d⟩:=Ob.mp b;exact(List.getElem_inj hN).mp (c.I d.symm)
def ZiM{qd:Model}{A:YH}{Q:Unit->Yb->Prop}(I:Inv X aa Z H s)(hN:X.N.Nodup)(hi:X.N[i]?=J x)(hx:Loc X.env.scope x)(r:RelV v u)
 (h:∀s',Inv X aa (Z.set i<|J v) H s'->(∃a,Heap.SameBut a s.heap s'.heap/\(a=X.env.locals\/X.env.cells.lookup x=J a))->Q () s') (hf:X.fn x=Wr\/X.env.scope.names.lookup x=J .local:=by first|exact .inl rfl|exact .inr rfl|assumption):YB qd A (storeName X.env x u) Q E s:=by
 obtain⟨m,hn,hl⟩:=id I.loc;have hiσ:i<Z.length:=I.len▸(Ob.mp hi).1;have bF:∀{a:Yj}{h':YG},(∃o,s.heap.get? a=J o/\H a=M)->Heap.SameBut a _ _->HOk _ _ H h':=λ{a h'} ha hs b ob e=>by
  obtain⟨_,_,fP⟩:=ha;refine(I.hok b _ e).stay (λc w' hc q=>(hs.2 c ?_).I q) (λ_ q=>q) λ_ _ q=>q
  lia
 rcases hx with hk|hk
 . refine wpAny_storeName_local hk hn (λh' fM hs=>?_) (by rw[I.ok.kind];rfl);obtain⟨oL,_,_,kP,_⟩:=id hn;refine h _ ⟨I.ok,I.os,I.bare,⟨λb o e n hb hx=>?_,λb o e n hb hx=>?_,I.base.free,λb o e hx=>?_,I.base.tups,I.base.frzs,I.base.tbls⟩,⟨_,fM,λj y v' e1 e2 e3=>?_⟩,λy c e=>?_,I.free,I.freeC,λp hp=>?_,bF ⟨_,kP,I.free⟩ hs,by simpa using I.len⟩ ⟨_,hs,.inl rfl⟩
   . exact(hs.2 b<|Ou<|Ot (Yn e) I.ok.above).I (I.base.keep b o e n hb hx)
   . obtain⟨sl,e1⟩:=I.base.slot b o e n hb hx;exact⟨sl,(hs.2 b<|Ou<|Ot (Yn e) I.ok.above).I e1⟩
   . obtain⟨o',e1⟩:=I.base.there b o e hx;exact⟨o',(hs.2 b<|Ou<|Ot (Yn e) I.ok.above).I e1⟩
   . by_cases hj:j=i
     . subst hj;rw[hi]at e1;cases e1;rw[Ol hiσ]at e2;cases e2;exact⟨u,r,.inl ⟨hk,by simp⟩⟩
     . rw[Oc<|YL hj]at e2;obtain⟨u',r',q⟩:=hl j y v' e1 e2 e3;refine⟨u',r',?_⟩;rcases q with⟨k,e⟩|⟨k,c,e,z⟩
       . refine .inl ⟨k,?_⟩;have:y≠x:=λe=>hj<|ZkE hN e1<|e▸hi;simp[this,e]
       . exact .inr ⟨k,c,e,z.sameBut hs<|I.cne y c e⟩
   . obtain⟨w',z⟩:=I.cell y c e;exact⟨w',z.sameBut hs<|I.cne y c e⟩
   . obtain⟨e,n,ne,nf,d⟩:=I.pin p hp;exact⟨(hs.2 p.1 ne).I e,n,ne,nf,d⟩
 . have iU:X.fn x=Wr:=by
    rcases hf with z|z
    . exact z
    . rw[z]at hk;cases hk
   obtain⟨c,hc⟩:=I.ok.has x<|.inl hk;obtain⟨w',z⟩:=I.cell x c hc;refine wpAny_storeName_cell I.ok.kind hk hc z<|λh' cV hs=>?_;obtain⟨oc,gF,iL⟩:=id z;refine h {s with heap:=h'} ⟨I.ok,I.os,I.bare,⟨λb o e n hb hx=>?_,λb o e n hb hx=>?_,I.base.free,λb o e hx=>?_,I.base.tups,I.base.frzs,I.base.tbls⟩,⟨m,hn.sameBut hs<|YL<|I.cne x c hc,λj y v' e1 e2 e3=>?_⟩,λy c' e=>?_,I.free,I.freeC,λp hp=>?_,bF ⟨oc,gF,I.freeC x c hc⟩ hs,by simpa using I.len⟩ ⟨c,hs,.inr hc⟩
   . exact(hs.2 b<|Ou<|Ot (Yn e)<|I.ok.cab x c iU hc).I (I.base.keep b o e n hb hx)
   . obtain⟨sl,e1⟩:=I.base.slot b o e n hb hx;exact⟨sl,(hs.2 b<|Ou<|Ot (Yn e)<|I.ok.cab x c iU hc).I e1⟩
   . obtain⟨o',e1⟩:=I.base.there b o e hx;exact⟨o',(hs.2 b<|Ou<|Ot (Yn e)<|I.ok.cab x c iU hc).I e1⟩
   . by_cases hj:j=i
     . subst hj;rw[hi]at e1;cases e1;rw[Ol hiσ]at e2;cases e2;exact⟨u,r,.inr ⟨.inl hk,c,hc,cV⟩⟩
     . rw[Oc<|YL hj]at e2;obtain⟨u',r',q⟩:=hl j y v' e1 e2 e3;refine⟨u',r',?_⟩;rcases q with q|⟨k,c',e,z'⟩
       . exact .inl q
       . refine .inr ⟨k,c',e,z'.sameBut hs ?_⟩;rintro rfl;exact hj (ZkE hN e1<|I.ok.inj _ _ _ e hc▸hi)
   . by_cases hcc:c'=c
     . subst hcc;exact⟨_,cV⟩
     . obtain⟨w2,z2⟩:=I.cell y c' e;exact⟨w2,z2.sameBut hs hcc⟩
   . obtain⟨e,n,ne,nf,d⟩:=I.pin p hp;refine⟨(hs.2 p.1 ?_).I e,n,ne,nf,d⟩;intro q;rw[q,gF]at e;exact d w' (YF e▸iL)
def ZfF(I:Inv X aa Z H s)(hN:X.N.Nodup)(hi:X.N[i]?=J x)(hx:Loc X.env.scope x)(r:RelV v u)
 (h:∀s',Inv X aa (Z.set i<|J v) H s'->Q () s') (hf:X.fn x=Wr\/X.env.scope.names.lookup x=J .local:=by first|exact .inl rfl|exact .inr rfl|assumption):YB qd A (storeName X.env x u) Q E s:=
 ZiM I hN hi hx r (λs' I' _=>h _ I') hf
def Inv.call'(I:Inv X aa Z H s)(ho:s'.os=s.os)(u:Un (frs X.stack) ch H H' s.heap s'.heap)(hok:HOk X.prog X.w H' s'.heap)(hg:AllBare s'.gens)
 (cg:∀b∈ch,(b∈X.ex\/X.s₀.heap.objs.size<=b)/\b≠X.env.locals/\(∀x c,X.env.cells.lookup x=J c->c≠b)/\∀p∈X.pn++aa,p.1≠b):Inv X aa Z H' s':=by
 obtain⟨a,d,e,f,g⟩:=s';subst ho;exact I.call u hok hg cg
end
abbrev XK:=Yk->Option Yj->Hp->Prop
noncomputable abbrev St:=List (Option V)
abbrev VK:=V->Hp->Prop
abbrev TE:=St->Hp->VK->Prop
abbrev TT:=St->Hp->(Bool->Hp->Prop)->Prop
abbrev TA:=St->Hp->(List V->Hp->Prop)->Prop
structure Ends where
 nx:St->Hp->Prop
 rt:VK
 bk:St->Hp->Prop:=λ_ _=>False
 ct:St->Hp->Prop:=λ_ _=>False
abbrev TS:=Ends->St->Hp->Prop
def EP(X:Cx)(aa:List (Yj×Obj))(Z:St)(Q:VK)(u:Yk)(s':Yb):Prop:=∃v H',Inv X aa Z H' s'/\RelV v u/\Q v H'
def TP(X:Cx)(aa:List (Yj×Obj))(Z:St)(Q:Bool->Hp->Prop)(b:Bool)(s':Yb):Prop:=∃H',Inv X aa Z H' s'/\Q b H'
def AP(X:Cx)(aa:List (Yj×Obj))(Z:St)(Q:List V->Hp->Prop)(us:List Yk)(s':Yb):Prop:=∃a H',Inv X aa Z H' s'/\Zt a us/\Q a H'
def SP(X:Cx)(aa:List (Yj×Obj))(D:Ends)(f:Flow)(s':Yb):Prop:=
 match f with
 |.next=>∃σ' H',Inv X aa σ' H' s'/\D.nx σ' H'
 |.brk=>∃σ' H',Inv X aa σ' H' s'/\D.bk σ' H'
 |.cont=>∃σ' H',Inv X aa σ' H' s'/\D.ct σ' H'
 |.ret u=>∃v σ' H',Inv X aa σ' H' s'/\RelV v u/\D.rt v H'
def PE(X:Cx)(e:Expr)(t:TE):Prop:=∀(aa:List (Yj×Obj)) (s:Yb) (Z:St) (H:Hp) (Q:VK),Inv X aa Z H s->t Z H Q->YB (model X.prog X.w) X.A (eval e X.env) (EP X aa Z Q) X.xe s
def PT(X:Cx)(e:Expr)(t:TT):Prop:=∀(aa:List (Yj×Obj)) (s:Yb) (Z:St) (H:Hp) (Q:Bool->Hp->Prop),Inv X aa Z H s->t Z H Q->YB (model X.prog X.w) X.A (isTrue e X.env<|eval e X.env) (TP X aa Z Q) X.xe s
def PW(X:Cx)(e:Expr)(t:TT):Prop:=∀(aG:Sem Yk) (aa:List (Yj×Obj)) (s:Yb) (Z:St) (H:Hp) (Q:Bool->Hp->Prop),Inv X aa Z H s->t Z H Q->YB (model X.prog X.w) X.A (isTrue e X.env aG) (TP X aa Z Q) X.xe s
def PW.pt(h:PW X e t):PT X e t:=h _
def PA(X:Cx)(es:List Expr)(t:TA):Prop:=∀(pos:Pos) (aa:List (Yj×Obj)) (s:Yb) (Z:St) (H:Hp) (Q:List V->Hp->Prop),Inv X aa Z H s->t Z H Q->YB (model X.prog X.w) X.A (spliced<|YR pos<|YA es X.env) (AP X aa Z Q) X.xe s
def PS(X:Cx)(st:Stmt)(t:TS):Prop:=∀(aa:List (Yj×Obj)) (s:Yb) (Z:St) (H:Hp) (D:Ends),Inv X aa Z H s->t D Z H->YB (model X.prog X.w) X.A (exec st X.env) (SP X aa D) X.xe s
def PSs(X:Cx)(st:List Stmt)(t:TS):Prop:=∀(aa:List (Yj×Obj)) (s:Yb) (Z:St) (H:Hp) (D:Ends),Inv X aa Z H s->t D Z H->YB (model X.prog X.w) X.A (execs st X.env) (SP X aa D) X.xe s
def thn(h:YB qd A t Q E s)(hQ:∀a s,Q a s->Q' a s):YB qd A t Q' E s:=Yg h hQ λ_ _ x=>x
section
variable {X:Cx}
noncomputable def Zzs(i:Nat):TE:=λZ H Q=>∃v,Z[i]?=J (J v)/\Q v H
noncomputable def tC(v:V):TE:=λ_ H Q=>Q v H
def ZvO(hN:X.N[i]?=J x)(hv:Vis X.env.scope x)(hd:(x == "__debug__")=Ws:=by decide)(cj:(x == "__classdict__")=Ws:=by decide):PE X (.Name x pos) (Zzs i):=by
 rintro aa s Z H Q I⟨v,e,h⟩;obtain⟨m,hn,hl⟩:=I.loc;obtain⟨u,r,l⟩:=hl i x v hN e hv;have fin:EP X _ _ Q u s:=⟨v,H,I,r,h⟩
 rcases l with⟨hk,hm⟩|⟨hk,c,hc,aL⟩
 . exact wpAny_Name (wpAny_loadName_local I.ok.kind hk hn hm fin) hd
 . rcases hk with hk|hk
   . exact wpAny_Name (wpAny_loadName_cell I.ok.kind hk hc aL fin) hd
   . exact wpAny_Name (wpAny_loadName_free I.ok.kind hk hc aL fin cj) hd
def Zqq{i j pos}:PE X (.Constant (.int i) j pos) (tC<|.int i):=λ_ _ _ H _ I h=>wpAny_Constant_int ⟨.int i,H,I.tok _,⟨_,rfl⟩,h⟩
def Zyd{b j pos}:PE X (.Constant (.bool b) j pos) (tC<|.bl b):=λ_ _ _ H _ I h=>Constant_bool ⟨.bl b,H,I,rfl,h⟩
def Zqn{j pos}:PE X (.Constant .none j pos) (tC .non):=λ_ _ _ H _ I h=>Constant_none ⟨.non,H,I,rfl,h⟩
def ZvR{x j pos}:PE X (.Constant (.str x) j pos) (tC<|.str x):=λ_ _ _ H _ I h=>Calls.Constant_str ⟨.str x,H,I.tok _,⟨_,rfl⟩,h⟩
def Gl(X:Cx)(x:Str):Prop:=X.env.kindOf x=J .globalImplicit
def Zdp(I:Inv X aa Z H s)(hg:Gl X x)(hm:X.mg x=J u)(h:Q u s)
 (hd:(x == "__debug__")=Ws:=by decide):YB (model X.prog X.w) X.A (eval (.Name x pos) X.env) Q E s:=
 Calls.Name_function_global I.ok.kind hg (Calls.loadGlobal_global (I.ok.glob▸I.mod.glob.keeps I.bk) hm h) hd
def ZcN(I:Inv X aa Z H s)(hg:Gl X x)(hm:X.mg x=M)(hv:bootBuiltins x=J u)(h:Q u s)
 (hn:x ≠ "__name__" := by decide) (hd:(x == "__debug__")=Ws:=by decide):YB (model X.prog X.w) X.A (eval (.Name x pos) X.env) Q E s:=by
 obtain⟨b,R,a⟩:=I.mod.blt;exact Calls.Name_function_global I.ok.kind hg (Calls.loadGlobal_builtin (I.ok.glob▸I.mod.glob.keeps I.bk) hm (I.ok.blt▸R.keeps I.bk) ((a x hn).I hv) h) hd
def ZsP(hg:Gl X x)(hm:X.mg x=J u)(r:RelV v u)(hd:(x == "__debug__")=Ws:=by decide):PE X (.Name x pos) (tC v):=λ_ _ _ H _ I h=>Zdp I hg hm ⟨v,H,I,r,h⟩ hd
def ZsT(hg:Gl X x)(hm:X.mg x=M)(hv:bootBuiltins x=J u)(r:RelV v u)(hn:x ≠ "__name__" := by decide)(hd:(x == "__debug__")=Ws:=by decide):PE X (.Name x pos) (tC v):=λ_ _ _ H _ I h=>ZcN I hg hm hv ⟨v,H,I,r,h⟩ hn hd
variable {a b:Expr}{ta tb:TE}{pos:Pos}
variable {tA gt:TT}{rest:List Expr}
noncomputable def ZzG(t u:TT):TT:=λZ H Q=>t Z H λc H1=>if c=Wr then u Z H1 Q else Q Ws H1
noncomputable def tOr(t u:TT):TT:=λZ H Q=>t Z H λc H1=>if c=Wr then Q Wr H1 else u Z H1 Q
noncomputable def Zzy(t:TT):TT:=λZ H Q=>t Z H λc H1=>Q (!c) H1
def Zsz(ha:PT X a tA):PW X (.BoolOp .And [a] pos) tA:=by
 intro b d s Z H Q I h;refine isTrue_and<|thn (ha _ s _ H Q I h) λc f e=>?_;cases c with
 |true=>exact isTrue_and_nil e
 |false=>exact e
def ZvA(ha:PT X a tA):PW X (.BoolOp .Or [a] pos) tA:=by
 intro b d s Z H Q I h;refine isTrue_or<|thn (ha _ s _ H Q I h) λc f e=>?_;cases c with
 |false=>exact isTrue_or_nil e
 |true=>exact e
def ZvB(ha:PT X a tA)(hb:PW X (.BoolOp .And (b::rest) pos) gt):PW X (.BoolOp .And (a::b::rest) pos) (ZzG tA gt):=by
 intro e f s Z H Q I h;refine isTrue_and<|thn (ha _ s _ H _ I h) λc g ⟨H1,I1,d⟩=>?_;cases c with
 |true=>exact hb _ _ _ _ _ Q I1 d
 |false=>trivial
def Zx3(ha:PT X a tA)(hb:PW X (.BoolOp .Or (b::rest) pos) gt):PW X (.BoolOp .Or (a::b::rest) pos) (tOr tA gt):=by
 intro e f s Z H Q I h;refine isTrue_or<|thn (ha _ s _ H _ I h) λc g ⟨H1,I1,d⟩=>?_;cases c with
 |true=>trivial
 |false=>exact hb _ _ _ _ _ Q I1 d
def ZvD(ha:PT X a tA):PT X (.UnaryOp .Not a pos) (Zzy tA):=by intro b s Z H Q I h;exact isTrue_not (ha _ s _ H _ I h)
def ZxF(ta tb:TE):TE:=λZ H Q=>ta Z H λx H1=>∃c,x=.bl c/\if c=Wr then tb Z H1 Q else Q (.bl Ws) H1
def Zzx(ta tb:TE):TE:=λZ H Q=>ta Z H λx H1=>∃c,x=.bl c/\if c=Wr then Q (.bl Wr) H1 else tb Z H1 Q
noncomputable def Zxz(ta:TE):TE:=λZ H Q=>ta Z H λx H1=>∃c,x=.bl c/\Q (.bl<|!c) H1
def Zqm{op}(h:PE X a t):PE X (.BoolOp op [a] pos) t:=λc s Z H Q I b=>BoolOp_one (h _ s _ H Q I b)
def ZvX(ha:PE X a ta)(hb:PE X (.BoolOp .And (b::rest) pos) tb):PE X (.BoolOp .And (a::b::rest) pos) (ZxF ta tb):=by
 intro g s Z H Q I h;refine BoolOp_and<|thn (ha _ s _ H _ I h) λv i e=>?_;obtain⟨x,H1,I1,f,d⟩:=e;obtain⟨c,rfl,d⟩:=d;cases f;refine wpAny_truthy_bool ?_;cases c with
 |true=>exact hb _ _ _ _ Q I1 d
 |false=>exact⟨.bl _,_,I1,rfl,d⟩
def Zx9(ha:PE X a ta)(hb:PE X (.BoolOp .Or (b::rest) pos) tb):PE X (.BoolOp .Or (a::b::rest) pos) (Zzx ta tb):=by
 intro g s Z H Q I h;refine BoolOp_or<|thn (ha _ s _ H _ I h) λv i e=>?_;obtain⟨x,H1,I1,f,d⟩:=e;obtain⟨c,rfl,d⟩:=d;cases f;refine wpAny_truthy_bool ?_;cases c with
 |false=>exact hb _ _ _ _ Q I1 d
 |true=>exact⟨.bl _,_,I1,rfl,d⟩
def ZvS(ha:PE X a ta):PE X (.UnaryOp .Not a pos) (Zxz ta):=by intro aa s Z H Q I h;refine UnaryOp_<|thn (ha _ s _ H _ I h) λv s1 z9=>?_;obtain⟨x,H1,I1,r1,q1⟩:=z9;obtain⟨c,rfl,q1⟩:=q1;cases r1;exact not_of (wpAny_truthy_bool ⟨.bl _,_,I1,rfl,q1⟩)
def tIf(t:TT)(ta tb:TE):TE:=λZ H Q=>t Z H λc H1=>if c=Wr then ta Z H1 Q else tb Z H1 Q
def Zqr(hc:PT X c tA)(ha:PE X a ta)(hb:PE X b tb):PE X (.IfExp c a b pos) (tIf tA ta tb):=by
 intro g s Z H Q I h;refine wpAny_IfExp<|thn (hc _ s _ H _ I h) λd i f=>?_;obtain⟨H1,I1,e⟩:=f;cases d with
 |true=>exact ha _ _ _ _ Q I1 e
 |false=>exact hb _ _ _ _ Q I1 e
end
def SqL(K:Yl)(H:Hp)(a:Yj)(xs:List V):Prop:=
 Rd H a (.lst xs) \/
  ∃(o:Obj) (its:Array Yk) (n:Nat),K.lookup a=J o/\o.cls=.type "list" /\ o.dict=M/\o.data=.seq its n/\its.size<=Yc/\Zt xs its.toList
def SqT(K:Yl)(H:Hp)(a:Yj)(xs:List V):Prop:=
 Rd H a (.tup xs) \/
  ∃(o:Obj) (its:Array Yk) (n:Nat),K.lookup a=J o/\o.cls=.type "tuple" /\ o.data=.seq its n/\its.size<=Yc/\Zt xs its.toList
noncomputable def ZAo:Yk->Option V
 |.none=>J .non
 |.bool b=>J (.bl b)
 |.int i _=>J (.int i)
 |.str x _=>J (.str x)
 |.bytes b _=>J (.byt b)
 |.float b _=>J (.flt b)
 |.ref a=>J (.ref a)
 |.type n=>J (.ty n)
 |_=>M
def RelV.abs(r:RelV x u):ZAo u=J x:=by
 cases x with
 |non=>cases r;rfl
 |bl _=>cases r;rfl
 |int _=>obtain⟨t,rfl⟩:=r;rfl
 |str _=>obtain⟨t,rfl⟩:=r;rfl
 |byt _=>obtain⟨t,rfl⟩:=r;rfl
 |flt _=>obtain⟨t,rfl⟩:=r;rfl
 |ref _=>cases r;rfl
 |ty _=>cases r;rfl
def RelV.inj(r:RelV x u)(q:RelV y u):x=y:=YF (r.abs.symm.I q.abs)
theorem Zt.inj:∀{xs ys}{us},Zt xs us->Zt ys us->xs=ys
 |_,_,_,.nil,.nil=>rfl
 |_,_,_,.cons r t,.cons a b=>by rw[r.inj a,Zt.inj t b]
section
variable {X:Cx}{aa:List (Yj×Obj)}{Z:St}{H:Hp}{s:Yb}{a:Yj}{xs ys:List V}
def SqL.of{K}(h:H a=J (.lst xs)):SqL K H a xs:=.inl (.inl h)
def Inv.list(I:Inv X aa Z H s)(h:SqL X.K H a xs):∃its:List _,Zt xs its/\PlainL s.heap a its.toArray/\xs.length<=Yc:=by
 rcases h with h|⟨o,its,n,b,c,d,f,g,r⟩
 . obtain⟨z,its,n,r,e⟩:=h.ok I.hok;exact⟨_,r,⟨_,n,e,rfl,rfl,rfl⟩,z⟩
 . refine⟨_,r,⟨o,n,I.kIn a o b,c,d,by trivial⟩,?_⟩;have e:=r.length
   simp_all
def Inv.tuple(I:Inv X aa Z H s)(h:SqT X.K H a xs):∃its:List _,Zt xs its/\IsTup s.heap a its.toArray/\xs.length<=Yc:=by
 rcases h with h|⟨o,its,n,b,c,d,f,r⟩
 . obtain⟨z,its,r,p⟩:=h.ok I.hok;exact⟨_,r,p.tup,z⟩
 . refine⟨_,r,⟨o,I.kIn a o b,c,n,by trivial⟩,?_⟩;have e:=r.length
   simp_all
def Inv.list_inj(I:Inv X aa Z H s)(h:SqL X.K H a xs)(h':SqL X.K H a ys):xs=ys:=by
 obtain⟨its,r,⟨o,n,e,_,_,d⟩,_⟩:=I.list h;obtain⟨i,f,⟨j,k,b,_,_,c⟩,_⟩:=I.list h';rw[e]at b;cases b;rw[d]at c;injection c with g _;have:=by simpa using congrArg Array.toList g
 subst this;exact r.inj f
def Inv.tuple_inj(I:Inv X aa Z H s)(h:SqT X.K H a xs)(h':SqT X.K H a ys):xs=ys:=by
 obtain⟨its,r,⟨o,e,_,n,d⟩,_⟩:=I.tuple h;obtain⟨i,f,⟨j,b,_,k,c⟩,_⟩:=I.tuple h';rw[e]at b;cases b;rw[d]at c;injection c with g _;have:=by simpa using congrArg Array.toList g
 subst this;exact r.inj f
end
noncomputable abbrev Cx.wish(X:Cx)(E:Yk->Yb->Prop):Cx:={X with xe:=E}
abbrev Cx.nox(X:Cx):Cx:=X.wish λ_ _=>False
theorem Cx.Ok.wish{X:Cx}(ok:X.Ok)(E):(X.wish E).Ok:=⟨ok.mod,ok.kind,ok.glob,ok.blt,ok.above,ok.inj,ok.has,ok.cab,ok.hd,ok.frames,ok.stk,ok.exf,ok.bs,ok.bsz,ok.noex,ok.exfs,ok.funs,ok.frf⟩
def Cx.Ok.unwish{X:Cx}{E}(ok:(X.wish E).Ok):X.Ok:=⟨ok.mod,ok.kind,ok.glob,ok.blt,ok.above,ok.inj,ok.has,ok.cab,ok.hd,ok.frames,ok.stk,ok.exf,ok.bs,ok.bsz,ok.noex,ok.exfs,ok.funs,ok.frf⟩
section
variable {X:Cx}{aa:List (Yj×Obj)}{Z:St}{H:Hp}{s:Yb}{E:Yk->Yb->Prop}
theorem Inv.wish(I:Inv X aa Z H s)(E):Inv (X.wish E) aa Z H s:=⟨I.ok.wish E,I.os,I.bare,I.base,I.loc,I.cell,I.free,I.freeC,I.pin,I.hok,I.len⟩
theorem Inv.unwish(I:Inv (X.wish E) aa Z H s):Inv X aa Z H s:=⟨I.ok.unwish,I.os,I.bare,I.base,I.loc,I.cell,I.free,I.freeC,I.pin,I.hok,I.len⟩
end
section
variable {X:Cx}{st:Stmt}{rest:List Stmt}{t u:TS}{e:Expr}{te:TE}{pos:Pos}
noncomputable def Zuj:TS:=λD Z H=>D.nx Z H
noncomputable def Zzv(t u:TS):TS:=λD Z H=>t {D with nx:=u D} Z H
def ZsC:PSs X [] Zuj:=λ_ _ Z H _ I h=>wpAny_execs_nil ⟨_,H,I,h⟩
def Zqc(R:PS X st t)(h2:PSs X rest u):PSs X (st::rest) (Zzv t u):=by
 intro a s Z H D I h;refine wpAny_execs_cons<|thn (R _ s _ H _ I h) λf b q=>?_;cases f with
 |next=>obtain⟨σ',H',I',q⟩:=q;exact h2 _ _ _ _ D I' q
 |ret v=>exact q
 |brk=>exact q
 |cont=>exact q
def ZsB(R:PS X st t):PSs X [st] t:=by
 intro a s Z H D I h;refine wpAny_execs_cons<|thn (R _ s _ H D I h) λf b q=>?_;cases f with
 |next=>exact wpAny_execs_nil q
 |ret v=>exact q
 |brk=>exact q
 |cont=>exact q
noncomputable def Zvb:TS:=λD Z H=>D.bk Z H
noncomputable def ZxD:TS:=λD Z H=>D.ct Z H
def ZsD:PS X (.Pass pos) Zuj:=λ_ _ Z H _ I h=>wpAny_Pass ⟨_,H,I,h⟩
def Zqf:PS X (.Break pos) Zvb:=λ_ _ Z H _ I h=>wpAny_Break ⟨_,H,I,h⟩
def Zky:PS X (.Continue pos) ZxD:=λ_ _ Z H _ I h=>wpAny_Continue ⟨_,H,I,h⟩
def Inv.quiet(I:Inv X aa Z H s):interactive X.env=Ws:=by simp[interactive,I.ok.kind]
noncomputable def ZxB(te:TE):TS:=λD Z H=>te Z H λ_ H1=>D.nx Z H1
def ZsE(he:PE X e te)(hs:swapsWith e M pos.line X.env=pure Ws:=by rfl):PS X (.Expr e pos) (ZxB te):=by intro c s Z H D I h;exact wpAny_Expr_any (thn (he _ s _ H _ I h) λv d a=>by obtain⟨x,H1,I1,f,b⟩:=a;exact⟨_,_,I1,b⟩) I.quiet hs
noncomputable def Zzw(te:TE):TS:=λD Z H=>te Z H D.rt
def ZvE(he:PE X e te):PS X (.Return (J e) pos) (Zzw te):=by intro d s Z H D I h;exact wpAny_Return_some (thn (he _ s _ H _ I h) λv f a=>by obtain⟨x,H1,I1,b,c⟩:=a;exact⟨x,_,_,I1,b,c⟩)
noncomputable def ZzA(c:TT)(t u:TS):TS:=λD Z H=>c Z H λb H1=>if b=Wr then t D Z H1 else u D Z H1
def Zx5(hc:PT X c tc)(ha:PSs X a t)(hb:PSs X b u):PS X (.If c a b pos) (ZzA tc t u):=by
 intro g s Z H D I h;refine wpAny_If<|thn (hc _ s _ H _ I h) λd i f=>?_;obtain⟨H1,I1,e⟩:=f;cases d with
 |true=>exact ha _ _ _ _ D I1 e
 |false=>exact hb _ _ _ _ D I1 e
end
abbrev TG:=V->St->Hp->(St->Hp->Prop)->Prop
abbrev TGs:=List V->St->Hp->(St->Hp->Prop)->Prop
def PG(X:Cx)(target:Expr)(t:TG):Prop:=
 ∀(aa:List (Yj×Obj)) (s:Yb) (Z:St) (H:Hp) (v:V) (u:Yk) (Q:St->Hp->Prop),Inv X aa Z H s->RelV v u->t v Z H Q ->
  YB (model X.prog X.w) X.A (assign target X.env u) (λ_ s'=>∃σ' H',Inv X aa σ' H' s'/\Q σ' H') X.xe s
def PGs(X:Cx)(ts:List Expr)(t:TGs):Prop:=
 ∀(aa:List (Yj×Obj)) (s:Yb) (Z:St) (H:Hp) (vs:List V) (us:List Yk) (Q:St->Hp->Prop),Inv X aa Z H s->Zt vs us->t vs Z H Q ->
  YB (model X.prog X.w) X.A (assignInOrder ((assignEach ts X.env).map (·.2)) us) (λ_ s'=>∃σ' H',Inv X aa σ' H' s'/\Q σ' H') X.xe s
abbrev Zt8:=V->V->V->Hp->(Hp->Prop)->Prop
def Zt9(X:Cx)(t:Zt8):Prop:=
 ∀(aa:List (Yj×Obj)) (s:Yb) (Z:St) (H:Hp) (o i v:V) (ov iv u:Yk) (Q:Hp->Prop),Inv X aa Z H s->RelV o ov->RelV i iv->RelV v u->t o i v H Q ->
  YB (model X.prog X.w) X.A (setItem ov iv u) (λ_ s'=>∃H',Inv X aa Z H' s'/\Q H') X.xe s
abbrev TIp:=V->V->Hp->VK->Prop
def PIp(X:Cx)(op:Operator)(t:TIp):Prop:=
 ∀(aa:List (Yj×Obj)) (s:Yb) (Z:St) (H:Hp) (x y:V) (v u:Yk) (Q:VK),Inv X aa Z H s->RelV x v->RelV y u->t x y H Q ->
  YB (model X.prog X.w) X.A (inplaceOp op v u) (EP X aa Z Q) X.xe s
section
variable {X:Cx}{pos:Pos}
noncomputable def ZbW(i:Nat):TG:=λv Z H Q=>Q (Z.set i<|J v) H
def Zjz(hN:X.N.Nodup)(hi:X.N[i]?=J x)(hx:Loc X.env.scope x)(hf:X.fn x=Wr\/X.env.scope.names.lookup x=J .local:=by first|exact .inl rfl|exact .inr rfl|assumption):PG X (.Name x pos) (ZbW i):=by intro a s Z H v u Q I r h;exact wpAny_assign_Name (ZfF I hN hi hx r (λb I'=>⟨_,H,I',h⟩) hf)
noncomputable def ZoT:TGs:=λa Z H Q=>a=[]/\Q Z H
noncomputable def ZfX(t:TG)(u:TGs):TGs:=λa Z H Q=>∃v r,a=v::r/\t v Z H λσ' H'=>u r σ' H' Q
def Zjy:PGs X [] ZoT:=by intro a s Z H b c Q I r h;exact assignInOrder_nil ⟨_,H,I,h.2⟩
def Zd6(R:PG X e t)(h2:PGs X es u)
 (hs:(assignEach (e::es) X.env).map (·.2)=assign e X.env::(assignEach es X.env).map (·.2):=by rfl):PGs X (e::es) (ZfX t u):=by
 intro f s Z H g i Q I r h;obtain⟨v,vr,a,h⟩:=h;subst a;cases r with
 |cons r b=>rw[hs];exact assignInOrder_cons (thn (R _ s _ H _ _ _ I r h) λ_ j c=>by obtain⟨σ1,H1,I1,d⟩:=c;exact h2 _ _ _ _ _ _ Q I1 b d)
noncomputable def ZtD(K:Yl)(n:Nat)(t:TGs):TG:=λv Z H Q=>∃a b,v=.ref a/\SqT K H a b/\b.length=n/\t b Z H Q
def Zqk(hc:X.calm=Wr)(h:PGs X es t)
 (hn:(assignEach es X.env).length=n:=by rfl) (hst:(assignEach es X.env).findIdx? (·.1)=M:=by rfl):PG X (.Tuple es k pos) (ZtD X.K n t):=by
 rintro aa s Z H v u Q I r⟨a,xs,e1,hq,hl,hw⟩;subst e1;cases r;obtain⟨its,rv,ht,hz⟩:=I.tuple hq;exact assign_Tuple_tuple (I.ok.hd hc) ht (by simp[hn,<-hl,rv.length]) hst λh' hx=>h _ _ _ H _ _ Q (I.kept (t':=s.toks) λb o e=>hx b o (Ou<|Yn e) e) (by trivial) hw
noncomputable def Zz7(to ti:TE)(t:Zt8):TG:=λv Z H Q=>to Z H λo H1=>ti Z H1 λi H2=>t o i v H2 λH3=>Q Z H3
def ZvN(ho:PE X o to)(hi:PE X i ti)(hs:Zt9 X t)
 (ha:∀v,assign (.Subscript o i pos) X.env v=(do
  let ov <- holding [v] (eval o X.env);let iv <- holding [v,ov] (eval i X.env)
  standAt pos
  holding [v,ov,iv] (setItem ov iv v)
  release [v,ov,iv] []):=by intro _;rfl):PG X (.Subscript o i pos) (Zz7 to ti t):=by
 intro g s Z H v u Q I r h;rw[ha];exact Ya (Wc (thn (ho _ s _ H _ I h) λov j a=>by obtain⟨x,H1,I1,b,c⟩:=a;exact Ya<|Wc (thn (hi _ _ _ _ _ I1 c) λiv k a=>by obtain⟨y,H2,I2,d,e⟩:=a;exact Ya<|wpAny_standAt<|Ya<|Wc<|thn (hs _ _ _ _ x y v _ _ u _ I2 b d r e) λ_ l ⟨H3,I3,f⟩=>wpAny_release ⟨_,_,I3,f⟩)))
noncomputable def Zn8(te:TE)(g:TG):TS:=λD Z H=>te Z H λx H1=>g x Z H1 D.nx
def Zqg(he:PE X e te)(hg:PG X tg g)(hs:swapsWithSole [tg] e pos.line X.env=pure Ws:=by rfl)(hw:swappedStores [tg] e X.env=pure M:=by rfl)
 (R:(assignEach [tg] X.env).map (·.2)=[assign tg X.env]:=by rfl):PS X (.Assign [tg] e pos) (Zn8 te g):=by
 intro d s Z H D I h;refine wpAny_Assign_stores (thn (he _ s _ H _ I h) λv f a=>?_) hs hw;obtain⟨x,H1,I1,b,c⟩:=a;rw[R];exact thn (hg _ _ _ _ x v _ I1 b c) λ_ i q=>q
def ZlP(hN:X.N.Nodup)(hi:X.N[i]?=J x)(hx:Loc X.env.scope x)(he:PE X e te)(hs:swapsWith e (J<|.Name x bC) pos.line X.env=pure Ws:=by rfl)(hf:X.fn x=Wr\/X.env.scope.names.lookup x=J .local:=by first|exact .inl rfl|exact .inr rfl|assumption):
 PS X (.Assign [.Name x bC] e pos) (Zn8 te<|ZbW i):=by
 intro d s Z H D I h;exact wpAny_Assign_Name (thn (he _ s _ H _ I h) λv f a=>by obtain⟨y,H1,I1,b,c⟩:=a;exact ZfF I1 hN hi hx b (λg I2=>⟨_,_,I2,c⟩) hf) hs
noncomputable def ZzF(i:Nat)(te:TE)(ti:TIp):TS:=λD Z H=>∃x,Z[i]?=J (J x)/\te Z H λy H1=>ti x y H1 λz H2=>D.nx (Z.set i<|J z) H2
def ZvH(hN:X.N.Nodup)(hi:X.N[i]?=J x)(hx:Loc X.env.scope x)(he:PE X e te)(ho:PIp X op ti)(hf:X.fn x=Wr\/X.env.scope.names.lookup x=J .local:=by first|exact .inl rfl|exact .inr rfl|assumption):
 PS X (.AugAssign (.Name x bC) op e pos) (ZzF i te ti):=by
 intro aa s Z H D I h;obtain⟨v,e1,h⟩:=h;obtain⟨m,hn,hl⟩:=I.loc;obtain⟨u,r,l⟩:=hl i x v hi e1 (by rcases hx with k|k;exact .inl k;exact .inr<|.inl k);refine wpAny_AugAssign_Name ?_;have go:YB _ _ _ (λw s₂=>YB _ _ _ (λr s₃=>YB (model X.prog X.w) X.A _ (λ_=>SP X _ D .next) X.xe _) _ _) _ s:=thn (he _ s _ H _ I h) λw s1 z9=>by obtain⟨y,H1,I1,r1,q1⟩:=z9;exact thn (ho _ _ _ _ v y u w _ I1 r r1 q1) λz s2 z9=>by obtain⟨zv,H2,I2,r2,q2⟩:=z9;exact ZfF I2 hN hi hx r2 (λs3 I3=>⟨_,_,I3,q2⟩) hf
 rcases l with⟨hk,hm⟩|⟨hk,c,hc,aL⟩
 . exact wpAny_loadName_local I.ok.kind hk hn hm go
 . rcases hk with hk|hk
   . exact wpAny_loadName_cell I.ok.kind hk hc aL go
   . rcases hx with k|k
     . have:X.env.scope.names.lookup x=J _:=hk;rw[k]at this;cases this
     . have:X.env.scope.names.lookup x=J _:=hk;rw[k]at this;cases this
noncomputable def ipI(f:Int->Int->Int):TIp:=λx y H Q=>∃i j,x=.int i/\y=.int j/\Q (.int<|f i j) H
def Zwx:PIp X .Add (ipI λi j=>i+j):=by rintro aa s Z H x y v u Q I r1 r2⟨i,j,e1,e2,q⟩;subst e1;subst e2;obtain⟨t,rfl⟩:=r1;obtain⟨t',rfl⟩:=r2;exact iadd_int ⟨.int _,H,I.tok _,⟨_,rfl⟩,q⟩
def ZpC(c:TT)(tb:TS):TS:=λD Z H=>∃W:Nat->St->Hp->Prop,(∃m,W m Z H)/\∀m Z H,W m Z H ->
 c Z H λb H1=>if b=Wr then ∃N:St->Hp->Prop,(∀σ' H',N σ' H'->∃a,a<m/\W a σ' H')/\tb {D with nx:=N,ct:=N,bk:=D.nx} Z H1 else D.nx Z H1
def Zqd(hp:PassesOwn (model X.prog X.w) X.A X.env X.xe)(hc:PT X c tc)(hb:PSs X body tb):PS X (.While c body [] pos) (ZpC tc tb):=by
 rintro aa s Z H D I⟨W,⟨m0,w0⟩,turn⟩;refine wpAny_While<|codeAny_whileLoop (λn s'=>∃σ' H',Inv X _ σ' H' s'/\W n σ' H') ?_ _ ⟨_,H,I,w0⟩;rintro n s1 ⟨σ1,H1,I1,w1⟩;refine wpAny_passesOwn hp<|thn (hc _ _ _ _ _ I1<|turn n _ _ w1) λb s2 z9=>?_;obtain⟨H2,I2,q2⟩:=z9;cases b with
 |true=>
  obtain⟨N,hN,q2⟩:=q2;refine wpAny_passesOwn hp<|thn (hb _ _ _ _ _ I2 q2) λf s3 q3=>?_;cases f with
  |next=>obtain⟨σ3,H3,I3,n3⟩:=q3;obtain⟨m',hm,w3⟩:=hN _ _ n3;exact⟨_,hm,_,_,I3,w3⟩
  |cont=>obtain⟨σ3,H3,I3,n3⟩:=q3;obtain⟨m',hm,w3⟩:=hN _ _ n3;exact⟨_,hm,_,_,I3,w3⟩
  |brk=>trivial
  |ret v=>trivial
 |false=>exact wpAny_execs_nil ⟨_,_,I2,q2⟩
end
structure It where
 go:Nat->Hp->Prop
 yld:Nat->Hp->V->Hp->Prop
 stop:Nat->Hp->Prop
def ZeI(X:Cx)(aa:List (Yj×Obj))(H:Hp)(b:Yj):Prop:=H b=M/\b≠X.env.locals/\b ∉ X.fs/\(b∈X.ex\/X.s₀.heap.objs.size<=b)/\(∀x c,X.env.cells.lookup x=J c->c≠b)/\∀p∈X.pn++aa,p.1≠b
def Inv.fpOk(I:Inv X aa Z H s)(hb:s.heap.objs.size<=b)(hn:H' b=M):ZeI X aa H' b:=by
 refine⟨hn,Nat.ne_of_gt<|Ot I.lt hb,I.nofs hb,.inr<|OE I.sz hb,λx c e z=>?_,λp hp z=>?_⟩
 . obtain⟨v,q⟩:=I.cell x c e;exact absurd (Ot q.lt<|by simp_all) (Yw _)
 . exact absurd (Ot (Yn (I.pin p hp).1)<|by simp_all) (Yw _)
structure Turn(P:Yi)(w:Yh)(K:Yl)(tg:Expr)(qb:It)(fp:List Yj)(it:Yj)(tn:Nat->YG->Prop):Prop where
 mem:it∈fp
 obj:∀i h,tn i h->∀b∈fp,∃o,h.get? b=J o/\∀v,o.data≠.cell v
 keep:∀i h h',tn i h->(∀b∈fp,∀o,h.get? b=J o->h'.get? b=J o)->tn i h'
 item:∀(X:Cx),X.prog=P->X.w=w->X.K=K->X.calm=Wr->∀(i:Nat) (aa:List (Yj×Obj)) (s:Yb) (Z:St) (H:Hp) (E:Yk->Yb->Prop),Inv X aa Z H s->(∀b∈fp,ZeI X aa H b)->tn i s.heap->qb.go i H ->
  YB (model P w) X.A (pyNext<|.ref it) (λr s1=>∃u,r=J u /\
   YB (model P w) X.A (letOwnedTupleGo tg (.ref it) u) (λ_ s2=>∃x H',Inv X aa Z H' s2/\RelV x u/\qb.yld i H x H'/\tn (i+1) s2.heap/\∀b∈fp,H' b=M) E s1) E s
 done:∀(X:Cx),X.prog=P->X.w=w->X.K=K->X.calm=Wr->∀(i:Nat) (aa:List (Yj×Obj)) (s:Yb) (Z:St) (H:Hp) (E:Yk->Yb->Prop),Inv X aa Z H s->(∀b∈fp,ZeI X aa H b)->tn i s.heap->qb.stop i H ->
  YB (model P w) X.A (pyNext<|.ref it) (λr s1=>r=M/\Inv X aa Z H s1) E s
 self:∀(A:YH) (i:Nat) (s:Yb) (Q:Yk->Yb->Prop) (E:Yk->Yb->Prop),tn i s.heap->Q (.ref it) s->YB (model P w) A (pyIter<|.ref it) Q E s
abbrev TI:=St->Hp->(It->Hp->Prop)->Prop
def PIE(X:Cx)(aa:List (Yj×Obj))(Z:St)(tg:Expr)(qe:It->Hp->Prop)(iq:Yk)(s2:Yb):Prop:=∃(it:Yj) (a:List Yj) (c:Nat->YG->Prop) (d:It) (H':Hp),iq=.ref it/\Inv X aa Z H' s2/\Turn X.prog X.w X.K tg d a it c/\c 0 s2.heap/\(∀b∈a,ZeI X aa H' b)/\qe d H'
def PI(X:Cx)(tg iter:Expr)(wi:TI):Prop:=
 ∀(aa:List (Yj×Obj)) (s:Yb) (Z:St) (H:Hp) (qe:It->Hp->Prop),Inv X aa Z H s->wi Z H qe ->
  YB (model X.prog X.w) X.A (eval iter X.env) (λv s1=>YB (model X.prog X.w) X.A (pyIter v) (PIE X aa Z tg qe) X.xe s1) X.xe s
theorem Zi0(ho:s.heap.get? it=J o)(hc:o.cls=.type n)(hd:o.data=.fields vs)
   (hn:["enumerate", "zip", "dict_itemiterator", "dict_reverseitemiterator", "odict_iterator", "itertools.zip_longest", "itertools.pairwise"].contains n=Ws) (hQ:Q () s):YB qd A (letOwnedTupleGo tg (.ref it) u) Q E s:=by
 cases tg<;>first
   |exact Yd hQ
   | (cases u<;>first
       |exact Yd hQ
       | (refine Ya (wpAny_load ho ?_)
          rw [hc,hd];show YB qd A (if (["enumerate", "zip", "dict_itemiterator", "dict_reverseitemiterator", "odict_iterator", "itertools.zip_longest", "itertools.pairwise"].contains n&&vs[0]?==J _)=Wr then _ else _) Q E s;rw [if_neg (by intro h;rw [hn,Bool.false_and] at h;lia)];exact Yd hQ))
noncomputable def Itl(K:Yl)(a:Yj):It:=⟨λi H=>∃b x,SqL K H a b/\b[i]?=J x,λi H x H'=>H'=H/\∀b,SqL K H a b->b[i]?=J x,λi H=>∃b,SqL K H a b/\b.length<=i⟩
noncomputable def Itt(K:Yl)(a:Yj):It:=⟨λi H=>∃b x,SqT K H a b/\b[i]?=J x,λi H x H'=>H'=H/\∀b,SqT K H a b->b[i]?=J x,λi H=>∃b,SqT K H a b/\b.length<=i⟩
noncomputable def Itr(lo:Int)(n:Nat):It:=⟨λi _=>i<n,λi H x H'=>H'=H/\x=.int (lo+i),λi _=>n<=i⟩
def Zn3{P}{w}{K}{tg}(a it):Turn P w K tg (Itl K a) [it] it (λi h=>h.IsListIter it a i) where
 mem:=by simp
 obj:=λi h st b f=>by
  have e:=by simpa using f
  subst e;obtain⟨o,e,c,d⟩:=st
  simp_all
 keep:=λi h j st k=>st.at λo e=>k _ (by simp) o e
 item:=by intro X l hw m y i z s Z H E I hf st n;subst l hw m;obtain⟨xs,x,g,q⟩:=n;obtain⟨its,r,p,A⟩:=I.list g;obtain⟨u,G,B⟩:=r.get q;obtain⟨f0,f1,f2,t,f4,v⟩:=hf it (by simp);refine wpAny_pyNext_list_item st p.isList (x:=u) (by simp_all) λj bn C=>?_;obtain⟨o,e,c,d⟩:=id bn;exact⟨u,rfl,Zi0 (s:={s with heap:=j}) e c d (by decide) ⟨x,H,I.turned (t':=s.toks) (λb o f e=>(C.2 b f).I e) f0 f1 t f4 v,B,⟨rfl,λJ D=>I.list_inj D g▸q⟩,bn,λb f=>(hf b f).1⟩⟩
 done:=by intro X l hw m y i z s Z H E I hf st n;subst l hw m;obtain⟨xs,g,q⟩:=n;obtain⟨its,r,p,A⟩:=I.list g;obtain⟨f0,f1,f2,t,f4,v⟩:=hf it (by simp);have L:=r.length;exact wpAny_pyNext_list_end (I.ok.hd y) st p.isList (by simp;lia) λj F=>⟨rfl,I.turned (t':=s.toks) (λb o f e=>F b o f e) f0 f1 t f4 v⟩
 self:=λ_ _ _ _ _ st h=>wpAny_pyIter_listiter st h
def Zlu{P}{w}{K}{tg}(a it):Turn P w K tg (Itt K a) [it] it (λi h=>h.IsTupleIter it a i) where
 mem:=by simp
 obj:=λi h st b f=>by
  have e:=by simpa using f
  subst e;obtain⟨o,e,c,d⟩:=st
  simp_all
 keep:=λi h j st k=>st.at λo e=>k _ (by simp) o e
 item:=by intro X l hw m y i z s Z H E I hf st n;subst l hw m;obtain⟨xs,x,g,q⟩:=n;obtain⟨its,r,p,A⟩:=I.tuple g;obtain⟨u,G,B⟩:=r.get q;obtain⟨f0,f1,f2,t,f4,v⟩:=hf it (by simp);refine wpAny_pyNext_tuple_item st (show s.heap.IsTuple a _ from p) (x:=u) (by simp_all) λj bn C=>?_;obtain⟨o,e,c,d⟩:=id bn;exact⟨u,rfl,Zi0 (s:={s with heap:=j}) e c d (by decide) ⟨x,H,I.turned (t':=s.toks) (λb o f e=>(C.2 b f).I e) f0 f1 t f4 v,B,⟨rfl,λJ D=>I.tuple_inj D g▸q⟩,bn,λb f=>(hf b f).1⟩⟩
 done:=by intro X l hw m y i z s Z H E I hf st n;subst l hw m;obtain⟨xs,g,q⟩:=n;obtain⟨its,r,p,A⟩:=I.tuple g;obtain⟨f0,f1,f2,t,f4,v⟩:=hf it (by simp);have L:=r.length;exact wpAny_pyNext_tuple_end (I.ok.hd y) st (show s.heap.IsTuple a its.toArray from p) (by simp;lia) λj F=>⟨rfl,I.turned (t':=s.toks) (λb o f e=>F b o f e) f0 f1 t f4 v⟩
 self:=λ_ _ _ _ _ st h=>wpAny_pyIter_tupleiter st h
def Zlv{P}{w}{K}{tg}(it)(lo)(n):Turn P w K tg (Itr lo n) [it] it (λi h=>IsRangeIter h it (lo+i*1) (n-i) 1) where
 mem:=by simp
 obj:=λi h st b a=>by simp_all
 keep:=λi h c st k=>k _ (by simp) _ st
 item:=by intro X d hw f g i p s Z H E I hf st j;subst d hw f;obtain⟨f0,f1,f2,l,f4,m⟩:=hf it (by simp);refine(Walks.range (prog:=X.prog) (w:=X.w) (I.ok.hd g) _ _ 1 n).item i s _ _ j st λv c q r bn u=>?_;obtain⟨t,rfl⟩:=r;refine⟨_,rfl,Zi0 (s:={s with heap:=c,toks:=q}) (n := "range_iterator") bn rfl rfl (by decide) ⟨.int _,H,I.turned (λb o a e=>u b o (by simp_all) e) f0 f1 l f4 m,⟨t,?_⟩,⟨rfl,rfl⟩,bn,λb a=>(hf b a).1⟩⟩;simp
 done:=by intro X d hw f g i p s Z H E I hf st j;subst d hw f;obtain⟨f0,f1,f2,l,f4,m⟩:=hf it (by simp);exact wpAny_pyNext_range_end (I.ok.hd g) st (by have:n<=i:=j;lia) λc x=>⟨rfl,I.turned (t':=s.toks) (λb o a e=>x b o a e) f0 f1 l f4 m⟩
 self:=λ_ _ _ _ _ st h=>wpAny_pyIter_rangeiter st h
section
variable {X:Cx}{tg:Expr}
def ZpR{aa}{Z:St}{H}{s}{qe}{E}{lo hi}{t u v}{tk}(I:Inv X aa Z H s)(R:-(2^62)<=lo)(h2:lo<2^62)(h3:-(2^62)<=hi)(h4:hi<2^62)
 (q:qe (Itr lo (hi-lo).toNat) H):YB (model X.prog X.w) X.A (pyIter<|.ref s.heap.objs.size) (PIE X aa Z tg qe) E {s with heap:=s.heap.push {cls:=.type "range",data:=.fields #[.int lo t,.int hi u,.int 1 v]},toks:=tk}:=by
 refine wpAny_pyIter_range (IsRange.new ..) (small_one R h2 h3 h4) ?_;have I1:Inv X _ _ H {s with heap:=s.heap.push {cls:=.type "range",data:=.fields #[.int lo t,.int hi u,.int 1 v]},toks:=tk}:=I.kept λb o e=>Od _ e;refine⟨_,_,_,_,H,rfl,
  I1.kept λb o e=>Od _ e,Zlv _ _ _,?_,λb a=>?_,q⟩
 . have c:lo+(0:Nat)*1=lo:=by simp
   have d:((hi-lo).toNat)-(0:Nat)=Builtin.Range.rangeSize lo hi 1:=by rw[rangeSize_one];lia
   rw[c,d];exact Oj _ rfl
 . have e:b=(s.heap.push {cls:=.type "range",data:=.fields #[.int lo t,.int hi u,.int 1 v]}).objs.size:=by simpa using a
   subst e;exact I1.fpOk (Oq _) (I1.hok.fresh<|Oq _)
def ZyK(ta:TA):TI:=λZ H qe=>ta Z H λa H1=>∃j:Int,a=[.int j]/\-(2^62)<=j/\j<2^62/\qe (Itr 0 j.toNat) H1
def Zox{a}{ta}{p pos}(hg:Gl X "range")(hm:X.mg "range"=M)(ha:PA X [a] ta)(hs:YA [a] X.env=[(Ws,eval a X.env)]:=by rfl):PI X tg (.Call (.Name "range" p) [a] [] pos) (ZyK ta):=by
 intro i s Z H qe I h;refine Call_<|ZcN I hg hm boot_range<|PyProof.Rows.callWith_type1 (thn (ha _ _ s _ H _ I h) λk l c=>?_) hs rfl;obtain⟨m,H1,I1,d,b⟩:=c;obtain⟨j,e,b,f,q⟩:=b;subst e;cases d with
 |cons r g=>cases g;obtain⟨t,rfl⟩:=r;exact call_range_1 (ZpR I1 (by lia) (by lia) b f<|by simp_all)
def ZzB(wi:TI)(g:TG)(tb:TS):TS:=λD Z H=>wi Z H λa H1=>∃W:Nat->Nat->St->Hp->Prop,(∃m,W 0 m Z H1)/\∀i m Z H,W i m Z H ->
 (a.stop i H/\D.nx Z H)\/(a.go i H/\∃N:St->Hp->Prop,(∀σ' H',N σ' H'->∃b,b<m/\W (i+1) b σ' H')/\∀x H',a.yld i H x H'->g x Z H' λσ2 H2=>tb {D with nx:=N,ct:=N,bk:=D.nx} σ2 H2)
noncomputable def ZhE(fp:List Yj)(h:YG):List (Yj×Obj):=fp.filterMap λb=>(h.get? b).map λo=>(b,o)
def Zdo(hb:b∈fp)(e:h.get? b=J o):(b,o)∈ZhE fp h:=List.mem_filterMap.mpr ⟨b,hb,by simp_all⟩
def ZoG(hp:p∈ZhE fp h):p.1∈fp/\h.get? p.1=J p.2:=by
 obtain⟨b,c,e⟩:=List.mem_filterMap.mp hp;cases q:h.get? b with
 |none=>simp_all
 |some o=>rw[q]at e;have a:=YF e;subst a;trivial
def Inv.pinned(I:Inv X aa Z H s)(hf:∀b∈fp,ZeI X aa H b)(ho:∀b∈fp,∃o,s.heap.get? b=J o/\∀v,o.data≠.cell v):Inv X (aa++ZhE fp s.heap) Z H s:=
 I.pins_of λp c=>(OD.mp c).elim (λz=>I.pin p<|Ov _ z) λz=>by
  obtain⟨a,e⟩:=ZoG z;obtain⟨f,g,h,_⟩:=hf _ a;obtain⟨o,i,d⟩:=ho _ a
  simp_all
def Inv.unpinned(I:Inv X (aa++pl) Z H s):Inv X aa Z H s:=I.pins_of λp a=>I.pin p (Ov _<|Ys _ a)
def ZvF(hp:PassesOwn (model X.prog X.w) X.A X.env X.xe)(hc:X.calm=Wr)(hi:PI X tg iter wi)(hg:PG X tg g)(hb:PSs X body tb)
 (hs:∀x,foldedSetIterable iter X.env x=pure x:=by intro _;rfl):PS X (.For tg iter body [] pos) (ZzB wi g tb):=by
 intro aa s Z H D I h;refine wpAny_For (thn (hi _ s _ H _ I h) λv s1 R=>thn R λiq s2 h2=>?_) hs;obtain⟨it,fp,tn,qb,H2,e,I2,T,bZ,f2,W,⟨m0,w0⟩,turn⟩:=h2;subst e;have bB:∀{H':Hp},(∀b∈fp,H' b=M)->∀b∈fp,ZeI X _ _ b:=λhn b hb=>⟨hn b hb,(f2 b hb).2⟩
 refine codeAny_forLoop_any (λn s'=>∃i σ' H',Inv X _ σ' H' s'/\tn i s'.heap/\(∀b∈fp,H' b=M)/\W i n σ' H') ?_ m0 ⟨0,Z,H2,I2,bZ,λb hb=>(f2 b hb).1,w0⟩;rintro n s3 ⟨i,σ3,H3,I3,st3,fr3,w3⟩;rcases turn i n σ3 H3 w3 with⟨stop,qn⟩|⟨go,N,hN,step⟩
 . refine wpAny_passesOwn hp (thn (T.done X rfl rfl rfl hc i aa s3 σ3 H3 X.xe I3 (bB fr3) st3 stop) λr s4 ⟨hr,I4⟩=>?_);subst hr;exact wpAny_execs_nil ⟨σ3,H3,I4,qn⟩
 . refine wpAny_passesOwn hp (thn (T.item X rfl rfl rfl hc i aa s3 σ3 H3 X.xe I3 (bB fr3) st3 go) λr s4 ⟨u,hr,h4⟩=>?_);subst hr;refine wpAny_passesOwn hp<|thn h4 λ_ s5 z9=>?_;obtain⟨x,H5,I5,r5,y5,eL,gK⟩:=z9;refine wpAny_passesOwn hp<|thn (hg _ s5 σ3 H5 x u _ (I5.pinned (bB gK)<|T.obj _ _ eL) r5<|step x H5 y5) λ_ s6 z9=>?_;obtain⟨σ6,H6,I6,q6⟩:=z9;refine wpAny_passesOwn hp<|thn (hb _ s6 σ6 H6 _ I6 q6) λf s7 q7=>?_;have again:∀{σ7:St}{H7:Hp},Inv X (aa++ZhE fp s5.heap) σ7 H7 s7->N σ7 H7->∃m,m<n/\∃i σ' H',Inv X aa σ' H' s7/\tn i s7.heap/\(∀b∈fp,H' b=M)/\W i m σ' H':=λ{σ7 H7} I7 n7=>by obtain⟨m',hm,w7⟩:=hN σ7 H7 n7;refine⟨m',hm,i+1,σ7,H7,I7.unpinned,T.keep _ _ _ eL λb hb o e=>(I7.pin (b,o)<|Ov _<|Ov _<|Zdo hb e).1,λb hb=>?_,w7⟩;obtain⟨o,e,d⟩:=T.obj _ _ eL b hb;exact(I7.pin (b,o)<|Ov _<|Ov _<|Zdo hb e).2.1
   cases f with
   |next=>obtain⟨σ7,H7,I7,n7⟩:=q7;exact again I7 n7
   |cont=>obtain⟨σ7,H7,I7,n7⟩:=q7;exact again I7 n7
   |brk=>obtain⟨σ7,H7,I7,q7⟩:=q7;exact⟨σ7,H7,I7.unpinned,q7⟩
   |ret v=>obtain⟨x7,σ7,H7,I7,r7,q7⟩:=q7;exact⟨x7,σ7,H7,I7.unpinned,r7,q7⟩
end
abbrev R2:=V->V->Hp->VK->Prop
def OpR(X:Cx)(f:Yk->Yk->Sem Yk)(r:R2):Prop:=
 ∀(aa:List (Yj×Obj)) (s:Yb) (Z:St) (H:Hp) (x y:V) (v u:Yk) (Q:VK),Inv X aa Z H s->RelV x v->RelV y u->r x y H Q ->
  YB (model X.prog X.w) X.A (f v u) (EP X aa Z Q) X.xe s
def UnR(X:Cx)(f:Yk->Sem Yk)(r:V->Hp->VK->Prop):Prop:=
 ∀(aa:List (Yj×Obj)) (s:Yb) (Z:St) (H:Hp) (x:V) (v:Yk) (Q:VK),Inv X aa Z H s->RelV x v->r x H Q ->
  YB (model X.prog X.w) X.A (f v) (EP X aa Z Q) X.xe s
def ZcH(X:Cx)(f:Yk)(r:List V->Hp->VK->Prop):Prop:=
 ∀(aa:List (Yj×Obj)) (s:Yb) (Z:St) (H:Hp) (xs:List V) (us:List Yk) (Q:VK),Inv X aa Z H s->Zt xs us->r xs H Q ->
  YB (model X.prog X.w) X.A (call f us) (EP X aa Z Q) X.xe s
def ZAp(X:Cx)(r:V->Hp->(Bool->Hp->Prop)->Prop):Prop:=
 ∀(aa:List (Yj×Obj)) (s:Yb) (Z:St) (H:Hp) (x:V) (v:Yk) (Q:Bool->Hp->Prop),Inv X aa Z H s->RelV x v->r x H Q ->
  YB (model X.prog X.w) X.A (truthy v) (TP X aa Z Q) X.xe s
def tOp(r:R2)(ta tb:TE):TE:=λZ H Q=>ta Z H λx H1=>tb Z H1 λy H2=>r x y H2 Q
noncomputable def tUn(r:V->Hp->VK->Prop)(ta:TE):TE:=λZ H Q=>ta Z H λx H1=>r x H1 Q
noncomputable def rI(C:Int->Int->Prop)(g:Int->Int->V):R2:=λx y H Q=>∃i j,x=.int i/\y=.int j/\C i j/\Q (g i j) H
noncomputable def rI0(g:Int->Int->V):R2:=λx y H Q=>∃i j,x=.int i/\y=.int j/\Q (g i j) H
def rU(g:Int->V):V->Hp->VK->Prop:=λx H Q=>∃i,x=.int i/\Q (g i) H
section
variable {X:Cx}{a b:Expr}{ta tb:TE}{pos:Pos}
def ZwZ(ha:PE X a ta)(hb:PE X b tb){aa}{s}{Z:St}{H}{qe:V->V->Hp->Prop}(I:Inv X aa Z H s)
 (h:ta Z H λx H1=>tb Z H1 λy H2=>qe x y H2) {Q}{f:Yk->Yk->Sem Yk}
 (hf:∀v u s2 x y H2,Inv X aa Z H2 s2->RelV x v->RelV y u->qe x y H2->YB (model X.prog X.w) X.A (f v u) Q X.xe s2) :
 YB (model X.prog X.w) X.A (eval a X.env) (λv s₁=>YB (model X.prog X.w) X.A (eval b X.env) (λu s₂=>YB (model X.prog X.w) X.A (f v u) Q X.xe s₂) X.xe s₁) X.xe s:=thn (ha _ s _ H _ I h) λv j c=>by obtain⟨x,H1,I1,d,e⟩:=c;exact thn (hb _ _ _ _ _ I1 e) λu s2 c=>by obtain⟨y,H2,I2,g,i⟩:=c;exact hf v u _ x y _ I2 d g i
def Zya{op}{r}(ho:OpR X (binaryOp op) r)(ha:PE X a ta)(hb:PE X b tb):PE X (.BinOp a op b pos) (tOp r ta tb):=by intro e s Z H Q I h;exact wpAny_BinOp (ZwZ ha hb I h λv u f x y H2 I2 c d q=>ho _ _ _ _ x y v u Q I2 c d q)
def Zx8{op}{r}(ho:UnR X (unaryOp op) r)(ha:PE X a ta):PE X (.UnaryOp op a pos) (tUn r ta):=by intro e s Z H Q I h;exact UnaryOp_ (thn (ha _ s _ H _ I h) λv f b=>by obtain⟨x,H1,I1,c,d⟩:=b;exact ho _ _ _ _ x v Q I1 c d)
def opI{f}{C}{g:Int->Int->Int}
 (rule:∀(i j) (t u) (s) (Q) (E),C i j->Q (.int (g i j) s.toks) {s with toks:=s.toks+1}->YB (model X.prog X.w) X.A (f (.int i t)<|.int j u) Q E s) :
 OpR X f (rI C λi j=>.int<|g i j):=by
 rintro aa s Z H x y v u Q I rx ry⟨i,j,rfl,rfl,hc,q⟩;obtain⟨t,rfl⟩:=rx;obtain⟨t',rfl⟩:=ry;exact rule i j t _ s _ _ hc ⟨.int _,H,I.tok _,⟨_,rfl⟩,q⟩
def Zyl{g:Int->Int->Int}
 (rule:∀(i j) (t u) (s) (Q) (E),Q (.int (g i j) s.toks) {s with toks:=s.toks+1}->YB (model X.prog X.w) X.A (f (.int i t)<|.int j u) Q E s) :
 OpR X f (rI0 λi j=>.int<|g i j):=by
 rintro aa s Z H x y v u Q I rx ry⟨i,j,rfl,rfl,q⟩;obtain⟨t,rfl⟩:=rx;obtain⟨t',rfl⟩:=ry;exact rule i j t _ s _ _ ⟨.int _,H,I.tok _,⟨_,rfl⟩,q⟩
def Zs9{g:Int->Int->Bool}
 (rule:∀(i j) (t u) (s) (Q) (E),Q (.bool<|g i j) s->YB (model X.prog X.w) X.A (f (.int i t)<|.int j u) Q E s) :
 OpR X f (rI0 λi j=>.bl<|g i j):=by
 rintro aa s Z H x y v u Q I rx ry⟨i,j,rfl,rfl,q⟩;obtain⟨t,rfl⟩:=rx;obtain⟨t',rfl⟩:=ry;exact rule i j t _ s _ _ ⟨.bl _,H,I,rfl,q⟩
def ZAr(i j:Int):Prop:=0<j/\j<1073741824
def ZAq(i j:Int):Prop:=0<=j/\j<=1000000/\i.natAbs<2^64
def Zv4:OpR X (binaryOp .Add) (rI0 λi j=>.int<|i+j):=Zyl λ_ _ _ _ _ _ _ q=>add_int q
def ZvY:OpR X (binaryOp .Sub) (rI0 λi j=>.int<|i-j):=Zyl λ_ _ _ _ _ _ _ q=>sub_int q
def ZsY:OpR X (binaryOp .FloorDiv) (rI ZAr λi j=>.int<|i/j):=opI λi j _ _ _ _ _ a q=>by have R:=a.1;have b:=a.2;exact floordiv_int (by lia) (by rw[Int.fdiv_eq_ediv_of_nonneg i<|by lia];exact q) (.inl<|PyProof.noPylong_small<|by lia)
def Zv0:OpR X (binaryOp .Mod) (rI (λ_ j=>0<j) λi j=>.int<|i%j):=opI λi j _ _ _ _ _ a q=>mod_int' (by lia) (by rw[Int.fmod_eq_emod_of_nonneg i<|by lia];exact q)
def ZvZ:OpR X (binaryOp .Pow) (rI ZAq λi j=>.int<|i^j.toNat):=opI λ_ _ _ _ _ _ _ a q=>pow_int_small a.1 a.2.1 a.2.2 q
def unI{g:Int->Int}
 (rule:∀(i) (t) (s) (Q) (E),Q (.int (g i) s.toks) {s with toks:=s.toks+1}->YB (model X.prog X.w) X.A (f<|.int i t) Q E s) :
 UnR X f (rU λi=>.int<|g i):=by
 rintro aa s Z H x v Q I rx⟨i,rfl,q⟩;obtain⟨t,rfl⟩:=rx;exact rule i t s _ _ ⟨.int _,H,I.tok _,⟨_,rfl⟩,q⟩
def ZuU:UnR X (unaryOp .USub) (rU λi=>.int<|-i):=unI λ_ _ _ _ _ q=>neg_int q
def ZjQ(I:Inv X aa Z H s)(q:Q (.bl k) H)(e:k=k'):EP X aa Z Q (.bool k') s:=by subst e;exact⟨.bl k,H,I,rfl,q⟩
def Zyf:OpR X (YM .Lt) (rI0 λi j=>.bl<|Wu<|i<j):=Zs9 λ_ _ _ _ _ _ _ q=>lt_int q
def Zyg:OpR X (YM .LtE) (rI0 λi j=>.bl<|Wu<|i<=j):=Zs9 λ_ _ _ _ _ _ _ q=>le_int q
def Zyh:OpR X (YM .Gt) (rI0 λi j=>.bl<|Wu<|j<i):=Zs9 λ_ _ _ _ _ _ _ q=>gt_int q
def Zyi:OpR X (YM .GtE) (rI0 λi j=>.bl<|Wu<|j<=i):=Zs9 λ_ _ _ _ _ _ _ q=>ge_int q
def Zv1:OpR X (YM .Is) (λx y H Q=>y=.non/\Q (.bl<|Wu<|x=.non) H):=by
 rintro aa s Z H x y v u Q I rx ry⟨rfl,q⟩;cases ry;refine is_none_gen<|ZjQ I q ?_;cases x<;>first
  |lia
  |(obtain⟨t,rfl⟩:=rx;rfl)
def ZsW:OpR X (YM .IsNot) (λx y H Q=>y=.non/\Q (.bl<|!Wu (x=.non)) H):=by
 rintro aa s Z H x y v u Q I rx ry⟨rfl,q⟩;cases ry;refine isnot_none_gen<|ZjQ I q ?_;cases x<;>first
  |lia
  |(obtain⟨t,rfl⟩:=rx;rfl)
def Znd{op}{r}(ho:OpR X (YM op) r)(ha:PE X a ta)(hb:PE X b tb)(hm:behindInMarks op b=Ws):PE X (.Compare a [op] [b] pos) (tOp r ta tb):=by intro e s Z H Q I h;exact wpAny_Compare1 (ZwZ ha hb I h λv u f x y H2 I2 c d q=>ho _ _ _ _ x y v u Q I2 c d q) hm
noncomputable def Zxx(t:TE):TT:=λZ H Q=>t Z H λx H'=>∃k,x=.bl k/\Q k H'
def Zm9{op}{r}(ho:OpR X (YM op) r)(ha:PE X a ta)(hb:PE X b tb)(hm:behindInMarks op b=Ws):PT X (.Compare a [op] [b] pos) (Zxx<|tOp r ta tb):=by
 intro n s Z H Q I h;refine wpAny_isTrue_Compare1 (thn (ha _ s _ H _ I h) λv o d=>?_) hm;obtain⟨x,H1,I1,f,g⟩:=d;refine thn (hb _ _ _ _ _ I1 g) λu p d=>?_
 obtain⟨y,H2,I2,i,j⟩:=d;refine thn (ho _ _ _ _ x y v u _ I2 f i j) λc q d=>?_;obtain⟨z,H3,I3,l,k,e,m⟩:=d;subst e;cases l;exact wpAny_truthy_bool ⟨_,I3,m⟩
def Zw3(K:Yl)(x:V)(H:Hp)(k:Bool):Prop:=
 match x with
 |.non=>k=Ws
 |.bl b=>k=b
 |.int i=>k=(i != 0)
 |.str y=>y.length<=Yc/\k=((y.length:Int) != 0)
 |.byt y=>y.size<=Yc/\k=((y.size:Int) != 0)
 |.ref p=>(∃a,SqL K H p a/\k=!a.isEmpty)\/(∃a,SqT K H p a/\k=!a.isEmpty)\/∃c,H p=J (.dK c)/\k=!c.isEmpty
 |_=>False
def Zmb(r:KV kvs vs):(!vs.isEmpty)=!kvs.isEmpty:=by cases r<;>rfl
def ZhN(r:Zt xs its):(!its.toArray.isEmpty)=!xs.isEmpty:=by cases r<;>simp
def ZcM:Yc<2^63:=by trivial
def Zu3:ZAp X (λx H Q=>∃k,Zw3 X.K x H k/\Q k H):=by
 rintro aa s Z H x v Q I rx⟨k,e,q⟩;have hs:=YC;cases x with
 |non=>cases rx;subst e;exact truthy_none ⟨H,I,q⟩
 |bl b=>cases rx;subst e;exact wpAny_truthy_bool ⟨H,I,q⟩
 |int i=>obtain⟨t,rfl⟩:=rx;subst e;exact PySem.P.truthy_int ⟨H,I,q⟩
 |str y=>obtain⟨t,rfl⟩:=rx;obtain⟨hy,e'⟩:y.length<=Yc/\k=((y.length:Int) != 0):=e;subst e';exact PySem.P.truthy_str (by lia) ⟨H,I.tok _,q⟩
 |byt y=>obtain⟨t,rfl⟩:=rx;obtain⟨hy,e'⟩:y.size<=Yc/\k=((y.size:Int) != 0):=e;subst e';exact PySem.W.truthy_bytes (by lia) ⟨H,I.tok _,q⟩
 |ref p=>
  cases rx;have e':(∃xs,SqL X.K H p xs/\k=!xs.isEmpty)\/(∃xs,SqT X.K H p xs/\k=!xs.isEmpty)\/∃kvs,H p=J (.dK kvs)/\k=!kvs.isEmpty:=e;rcases e' with⟨xs,hx,e'⟩|⟨xs,hx,e'⟩|⟨kvs,hx,e'⟩
  . subst e';obtain⟨its,r,pl,hz⟩:=I.list hx;have al:=r.length;exact wpAny_truthy_list pl.isList (by simp only[Of];lia) ⟨H,I.tok _,by rw[ZhN r];exact q⟩
  . subst e';obtain⟨its,r,pl,hz⟩:=I.tuple hx;have al:=r.length;exact truthy_tuple pl (by simp only[Of];lia) ⟨H,I.tok _,by rw[ZhN r];exact q⟩
  . subst e';obtain⟨hz,hS,vs,r,m⟩:kvs.length<=Yc/\(p==Yf)=Ws/\∃vs,KV kvs vs/\s.heap.DictOf (ZV X.prog X.w) p vs:=I.hok p _ hx;have al:kvs.length=vs.length:=Paired.length r;exact wpAny_truthy_dict hS m (by lia) ⟨H,I.tok _,by rw[Zmb r];exact q⟩
 |_=>exact(show False from e).elim
def Zqb(ha:PE X a ta)(he:∀aG,isTrue a X.env aG=(do let v <- aG;standAt a.pos;holding [v]<|truthy v)):
 PT X a (λZ H Q=>ta Z H λx H'=>∃k,Zw3 X.K x H' k/\Q k H'):=by
 intro e s Z H Q I h;exact isTrue_plain (thn (ha _ s _ H _ I h) λv f b=>by obtain⟨x,H1,I1,c,d⟩:=b;exact Zu3 _ _ _ _ x v Q I1 c d) (he _)
def ZlU:OpR X (binaryOp .Add) (λx y H Q=>∃i j,x=.str i/\y=.str j/\i.length+j.length<=Yc/\Q (.str<|i++j) H):=by rintro aa s Z H x y v u Q I rx ry⟨i,j,rfl,rfl,hz,q⟩;obtain⟨t,rfl⟩:=rx;obtain⟨t',rfl⟩:=ry;exact add_str (λt' tk=>⟨.str _,H,I.tok _,⟨_,rfl⟩,q⟩) hz
def vals1{x}{us}(r:Zt [x] us):∃u,us=[u]/\RelV x u:=by
 cases r with
 |cons a b=>cases b;exact⟨_,rfl,a⟩
def vals2{x y}{us}(r:Zt [x,y] us):∃u w',us=[u,w']/\RelV x u/\RelV y w':=by
 cases r with
 |cons a b=>
  cases b with
  |cons c d=>cases d;exact⟨_,_,rfl,a,c⟩
end
structure ObjM(h:YG)(x dx C:Yj)(mA:Str->Option Yk):Prop where
 obj:h.get? x=J (Wf C dx)
 ns:h.Ns1 dx mA
 ne:dx≠x
def ZoK{h:YG}(n:h.Ns1 dx mA):∃od,h.get? dx=J od/\∀name,PySem.W.lookIn name od=J (mA name):=by
 obtain⟨o,es,ep,ho,hd,hk,_,hm⟩:=n;refine⟨o,ho,λname=>?_⟩;have e:=hm name;unfold nsFind findBy at e;rw[<-Array.find?_toList]at e;unfold PySem.W.lookIn;rw[hd];dsimp;split
 . simp_all
 . have a:es.toList.any (·.refKey)=Ws:=by rw[List.any_eq_false];intro y hy;obtain⟨z,t,bU⟩:=hk y<|Array.mem_toList_iff.mp hy;simp[DictEntry.refKey,bU]
   simp_all
def ObjM.look(I:ObjM h x dx C mA):∃od,PySem.W.InstAt h x (Wf C dx) C (J od)/\∀name,PySem.W.lookIn name od=J (mA name):=
 let⟨od,a,b⟩:=ZoK I.ns
 ⟨_,⟨I.obj,rfl,rfl,a⟩,b⟩
section
variable {prog:Yi}{w:Yh}{A:YH}{E:Yk->Yb->Prop}{s:Yb}{K:Yl}{x dx C f:Yj}{mA:Str->Option Yk}{name:Str}{v:Yk}
def ZtC(X:K.In s.heap)(I:ObjM s.heap x dx C mA)(hg:PySem.W.plainGet K C name=Wr)(hh:PySem.W.hasDictIn K C=Wr)
 (ha:YJ K (.ref C) name=J M) (hv:mA name=J v) (gC:PySem.W.handedIn v=Wr) (h:Q v {s with toks:=s.toks+1}) :
 YB (model prog w) A (getAttr (.ref x) name expr) Q E s:=by
 obtain⟨b,a,c⟩:=I.look;exact PySem.W.get_value X a (PySem.W.plainGet_of hg).1 (PySem.W.findObj_own hh ha rfl<|by simp_all) gC h
def Zrf(X:K.In s.heap)(I:ObjM s.heap x dx C mA)(hg:PySem.W.plainGet K C name=Wr)
 (hf:YJ K (.ref C) name=J (J<|.ref f)) (ht:PySem.W.isFn K (.ref f)=Wr) (hv:mA name=M) (h:Q (.ref f,[.ref x]) s) :
 YB (model prog w) A (getMethod (.ref x) name pl) Q E s:=by
 obtain⟨b,a,c⟩:=I.look;exact PySem.W.method_fn X a (PySem.W.plainGet_of hg).1 (PySem.W.plainGet_of hg).2 hf (beq_iff_eq.mp ht) (by show(PySem.W.lookIn _ _).map _=J _;simp_all) h
def Zsk(X:K.In s.heap)(I:ObjM s.heap x dx C mA)
 (hs:YJ K (.ref C) "__setattr__"=J (J<|.builtin "object.__setattr__")) (hp:PySem.W.plainOver K C=Wr) (ht:PySem.W.takerIn K C name=J M) (hh:PySem.W.hasDictIn K C=Wr)
 (hw:PySem.Within mA ns) (bq:ns.length<=Yc)
 (h:∀h',ObjM h' x dx C (λy=>if y=name then J v else mA y)->Heap.SameBut dx s.heap h'->Q () {s with heap:=h',toks:=s.toks+2}) :
 YB (model prog w) A (setAttr (.ref x) name v) Q E s:=by
 obtain⟨k,a,l⟩:=I.look;refine PySem.W.set_plain X a hs<|PySem.W.osa_open X a hp ht λb=>?_;obtain⟨cd,e,f⟩:=PySem.W.any_some hh;refine Ya<|Yd<|Ya<|Ya<|wpAny_loadPart I.obj<|Ya<|PySem.W.Looks.here (PySem.W.looks_clsIn X e) ?_;rw[f];refine Yd<|Ya<|Yd<|Ya<|wpAny_nsSet1 I.ns λh' c d=>?_;obtain⟨m,n,o,g,i,j⟩:=c.count<|PySem.Within.cons _ v hw;exact Ya (wpAny_lookBehind g (i▸pastItsLine_dict (OE j<|by simp_all))<|Yd<|h _ ⟨(d.2 _<|YL I.ne).I I.obj,c,I.ne⟩ d)
def ZqN(X:K.In s.heap)(hm:PySem.W.makesIn K C=Wr)
 (hi:YJ K (.ref C) "__init__"=J (J<|.ref f)) (hf:PySem.W.typeIn K (.ref f)=J (.type "function"))
 (h:codeAny (model prog w) (A.under<|.builtin "type.__call__" ⟨.ref C::vs,kw⟩) (.call (.ref f) ⟨.ref (s.heap.objs.size+1)::vs,kw⟩) (PySem.W.InitBack (s.heap.objs.size+1) qe)
  {s with heap:=(s.heap.push PySem.W.emptyDict).push<|Wf C s.heap.objs.size}) :
 codeAny (model prog w) A (.call (.ref C) ⟨vs,kw⟩) qe s:=PySem.W.make_core (PySem.W.makes_of X hm) (PySem.W.looks_findIn X hi) (λa=>PySem.W.bind_fn X _ hf) (.inl rfl) h
end
noncomputable def Zc7(f:Str)(v:V):List (Str×V)->List (Str×V)
 |[]=>[(f,v)]
 |(g,x)::r=>if g=f then(g,v)::r else(g,x)::Zc7 f v r
theorem ZgN(f g)(v):∀fs ,(Zc7 f v fs).lookup g=if g=f then J v else fs.lookup g
 |[]=>by
  show Wh g [(f,v)]=_;by_cases h:g=f
  . simp_all
  simp_all
 |(k,x)::r=>by
  have ih:=ZgN f g v r;rw[show Zc7 f v _=(if k=f then(k,v)::r else(k,x)::Zc7 f v r)from rfl];by_cases hk:k=f
  . rw[if_pos hk];by_cases h:g=k
    . simp_all
    . simp[Wh,beq_eq_false_iff_ne.mpr h,if_neg (λe:g=f=>h<|e.I hk.symm)]
  . rw[if_neg hk];by_cases h:g=k
    . simp_all
    . simp[Wh,beq_eq_false_iff_ne.mpr h];trivial
theorem Zgx(f)(v):∀fs:List (Str×V),f∈(Zc7 f v fs).map (·.1)/\∀g,g∈fs.map (·.1)->g∈(Zc7 f v fs).map (·.1)
 |[]=>⟨by simp[Zc7],λg h=>by simp_all⟩
 |(k,x)::r=>by
  obtain⟨i1,i2⟩:=Zgx f v r;rw[show Zc7 f v _=(if k=f then(k,v)::r else(k,x)::Zc7 f v r)from rfl];by_cases hk:k=f
  . rw[if_pos hk];subst hk;simp
  . rw[if_neg hk];refine⟨?_,λg h=>?_⟩
    . exact Oh _ i1
    . rcases O3.mp h with e|e
      . exact O3.mpr (.inl e)
      . exact Oh _ (i2 g e)
theorem ZgP(f)(v):∀fs ,(Zc7 f v fs).length<=fs.length+1
 |[]=>by simp[Zc7]
 |(k,x)::r=>by
  have a:=ZgP f v r;rw[show Zc7 f v _=(if k=f then(k,v)::r else(k,x)::Zc7 f v r)from rfl];by_cases b:k=f
  . simp_all
  simp_all
def ZgL.some_of(r:ZgL (J v) o):∃u,o=J u/\RelV v u:=by
 cases o with
 |none=>trivial
 |some u=>exact⟨u,rfl,r⟩
def ZgL.none_of(r:ZgL M o):o=M:=by
 cases o with
 |none=>rfl
 |some u=>trivial
def ZoS(r:RelV v u):PySem.W.handedIn u=Wr:=by
 cases v with
 |non=>cases (r);rfl
 |bl b=>cases (r);rfl
 |int i=>obtain⟨t,e⟩:=(r);cases e;rfl
 |str x=>obtain⟨t,e⟩:=(r);cases e;rfl
 |byt b=>obtain⟨t,e⟩:=(r);cases e;rfl
 |flt b=>obtain⟨t,e⟩:=(r);cases e;rfl
 |ref a=>cases (r);rfl
 |ty n=>cases (r);rfl
section
variable {P:Yi}{w:Yh}{H:Hp}{h:YG}{a C dx:Yj}{fs:List (Str×V)}
def ZjL(hok:HOk P w H h)(e:H a=J (.ins C dx fs)):∃mA,ObjM h a dx C mA/\(∀f,ZgL (fs.lookup f)<|mA f)/\PySem.Within mA (fs.map (·.1))/\fs.length<=1000/\H dx=J (.own a):=by
 obtain⟨d,z,ne,b,mA,n,r,q⟩:=(hok a _ e)
 exact⟨_,⟨b,n,ne⟩,r,q,z,d⟩
end
structure Cls(K:Yl)(C:Yj):Prop where
 pg:PySem.W.plainGet K C Str.empty=Wr
 hd:PySem.W.hasDictIn K C=Wr
 po:PySem.W.plainOver K C=Wr
 sa:YJ K (.ref C) "__setattr__"=J (J<|.builtin "object.__setattr__")
def Cls.get{K}(c:Cls K C)(f):PySem.W.plainGet K C f=Wr:=c.pg
def Zby(K:Yl)(C:Yj)(f:Str):Prop:=YJ K (.ref C) f=J M
def Zby.taker{K}(n:Zby K C f):PySem.W.takerIn K C f=J M:=by unfold PySem.W.takerIn;rw[n];rfl
structure Meth(K:Yl)(C:Yj)(m:Str)(f:Yj):Prop where
 at_:YJ K (.ref C) m=J (J<|.ref f)
 fn:PySem.W.isFn K (.ref f)=Wr
 kp:Wb K (.ref f)=Wr
section
variable {X:Cx}{aa:List (Yj×Obj)}{Z:St}{H:Hp}{s:Yb}{a C dx:Yj}{fs:List (Str×V)}{f:Str}{v:V}{A:YH}{E:Yk->Yb->Prop}
def ZhR(I:Inv X aa Z H s)(e:H a=J (.ins C dx fs))(c:Cls X.K C)(n:Zby X.K C f)(l:fs.lookup f=J v)
 (h:∀u s',Inv X aa Z H s'->RelV v u->Q u s'):YB (model X.prog X.w) A (getAttr (.ref a) f b) Q E s:=by
 obtain⟨i,O_,r,_,_,_⟩:=ZjL I.hok e;obtain⟨u,g,d⟩:=ZgL.some_of<|l▸r f;exact ZtC I.kIn O_ (c.get f) c.hd n g (ZoS d) (h u _ (I.tok _) d)
def ZhQ(I:Inv X aa Z H s)(e:H a=J (.ins C dx fs))(c:Cls X.K C)(k:Meth X.K C m g)(l:fs.lookup m=M)
 (h:Q (.ref g,[.ref a]) s):YB (model X.prog X.w) A (getMethod (.ref a) m pl) Q E s:=by
 obtain⟨b,O_,r,_,_,_⟩:=ZjL I.hok e;exact Zrf I.kIn O_ (c.get m) k.at_ k.fn (ZgL.none_of<|l▸r m) h
def Zhu(I:Inv X aa Z H s)(e:H a=J (.ins C dx fs))(c:Cls X.K C)(n:Zby X.K C f)(hl:fs.length<1000)(ry:RelV y u)
 (h:∀s',Inv X aa Z (upd H a<|.ins C dx<|Zc7 f y fs) s'->Q () s'):YB (model X.prog X.w) A (setAttr (.ref a) f u) Q E s:=by
 obtain⟨mA,O_,r,wi,_,ho⟩:=ZjL I.hok e;refine Zsk I.kIn O_ c.sa c.po n.taker c.hd wi (by rw[Yu,YC];lia) λh' O' sb=>h _ (I.write (by rw[e];trivial) (.inr ho) (λb q hb z=>(sb.2 b hb).I z) (let⟨o,_,_,e',_⟩:=O'.ns;⟨o,e'⟩) ⟨by rw[Zq O_.ne];trivial,?_,O_.ne,O'.obj,_,O'.ns,λg=>?_,λg hg=>?_⟩)
 . have:=ZgP f y fs;lia
 . rw[ZgN];by_cases q:g=f
   . rw[if_pos q,if_pos q];trivial
   simp_all
 . by_cases q:g=f
   . rw[q];exact(Zgx f y _).1
   . refine(Zgx f y _).2 g<|wi g λz=>hg ?_;show(if g=f then J u else mA g)=M;rw[if_neg q];exact z
theorem Inv.made(I:Inv X aa Z H s):Inv X aa Z (upd (upd H s.heap.objs.size<|.own<|s.heap.objs.size+1) (s.heap.objs.size+1)<|.ins C s.heap.objs.size [])
   {s with heap:=(s.heap.push PySem.W.emptyDict).push<|Wf C s.heap.objs.size}:=by
 refine(I.laid (o:=.own _) (t':=s.toks) (λb u q=>Od _ q) (Oq _) ⟨_,Oj _ rfl⟩).laid (λb u q=>Od _ q) (Nat.le_of_eq<|Heap.size_push _ _) ⟨by rw [Zq<|Ou<|OH _,Zr],Yy _,(Ou<|OH _),by
   have:=Oj (s.heap.push PySem.W.emptyDict) (o:=Wf C s.heap.objs.size) rfl
   rwa [Heap.size_push] at this,_,(Heap.Ns1.of_empty ⟨_,_,_,Oj _ rfl,rfl,(λe he=>absurd he<|by simp),λ_=>rfl⟩).at λo q=>Od _ q,λ_=>True.intro,λy hy=>absurd rfl hy⟩
def Zt5(hb:attributeBase e f env (eval e env)=eval e env)
 (h:YB (model prog w) A (eval e env) (λo s₁=>YB (model prog w) A (getAttr o f Wr) Q E s₁) E s):YB (model prog w) A (eval (.Attribute e f pos) env) Q E s:=
 Attribute_any_ h (by rw[arm_eval_Attribute,hb])
end
def ZzC(K:Yl)(ta:TE)(f:Str):TE:=λZ H Q=>ta Z H λx H1=>∃a C b fs v,x=.ref a/\H1 a=J (.ins C b fs)/\Cls K C/\Zby K C f/\fs.lookup f=J v/\Q v H1
def ZzJ(K:Yl)(ta tv:TE)(f:Str):TS:=λD Z H=>tv Z H λy H1=>ta Z H1 λx H2=>∃a C b fs,x=.ref a/\H2 a=J (.ins C b fs)/\Cls K C/\Zby K C f/\fs.length<1000 /\
 D.nx Z (upd H2 a<|.ins C b<|Zc7 f y fs)
def Zzf(X:Cx)(op:Operator)(rd:V->V->Hp->VK->Prop):Prop:=∀(aa:List (Yj×Obj)) (s:Yb) (Z:St) (H:Hp) (x y:V) (u v:Yk) (Q:VK),Inv X aa Z H s->RelV x u->RelV y v->rd x y H Q->YB (model X.prog X.w) X.A (inplaceOp op u v) (EP X aa Z Q) X.xe s
def Zsm(K:Yl)(ta tv:TE)(rd:V->V->Hp->VK->Prop)(f:Str):TS:=λD Z H=>ta Z H λx H1=>∃a C d fs v,x=.ref a/\H1 a=J (.ins C d fs)/\Cls K C/\Zby K C f/\fs.lookup f=J v /\
 tv Z H1 λy H2=>rd v y H2 λz H3=>∃c b,H3 a=J (.ins C c b)/\b.length<1000/\D.nx Z (upd H3 a<|.ins C c<|Zc7 f z b)
section
variable {X:Cx}{o e value:Expr}{f:Str}{pos bC gX:Pos}{ta tv:TE}
def ZvU(he:PE X e ta)(hb:attributeBase e f X.env (eval e X.env)=eval e X.env):PE X (.Attribute e f pos) (ZzC X.K ta f):=by intro k s Z H Q I h;refine Zt5 hb<|thn (he _ s _ H _ I h) λu m b=>?_;obtain⟨x,H1,I1,d,a,C,o,fs,v,g,i,c,n,l,q⟩:=b;subst g;obtain rfl:u=YD a:=d;exact ZhR I1 i c n l λp r I2 j=>⟨v,_,I2,j,q⟩
def ZvG(ha:PE X o ta)(hv:PE X value tv)(hs:swapsWith value (J<|.Attribute o f bC) pos.line X.env=pure Ws):PS X (.Assign [.Attribute o f bC] value pos) (ZzJ X.K ta tv f):=by intro m s Z H D I h;refine plainObj_wpAny_Assign_Attribute (thn (hv _ s _ H _ I h) λu p b=>?_) hs;obtain⟨y,H1,I1,d,q⟩:=b;refine thn (ha _ _ _ _ _ I1 q) λe r b=>?_;obtain⟨x,H2,I2,g,a,C,t,fs,i,j,c,n,l,k⟩:=b;subst i;obtain rfl:e=YD a:=g;exact Zhu I2 j c n l d λv I3=>⟨_,_,I3,k⟩
def Zot(ha:PE X o ta)(hv:PE X value tv)(hop:Zzf X op rd):PS X (.AugAssign (.Attribute o f gX) op value pos) (Zsm X.K ta tv rd f):=by intro A s Z H D I h;refine wpAny_AugAssign_AttributeAny<|thn (ha _ s _ H _ I h) λd B b=>?_;obtain⟨x,H1,I1,e,a,C,E,fs,v,g,i,c,n,l,q⟩:=b;subst g;obtain rfl:d=YD a:=e;exact ZhR I1 i c n l λu F I2 j=>thn (hv _ _ _ _ _ I2 q) λG J b=>by obtain⟨y,H2,I3,k,m⟩:=b;exact thn (hop _ _ _ _ v y u _ _ I3 j k m) λL N b=>by obtain⟨z,H3,I4,p,O,P,r,t,w⟩:=b;exact Zhu I4 r c n t p λQ I5=>⟨_,_,I5,w⟩
def Zx2:V->V->Hp->VK->Prop:=λx y H Q=>∃i j,x=.int i/\y=.int j/\Q (.int<|i+j) H
def Zwy:Zzf X .Add Zx2:=by
 rintro aa s Z H x y u v Q I rx ry ⟨i,j,rfl,rfl,q⟩;obtain⟨t,rfl⟩:=(rx)
 obtain⟨t',rfl⟩:=(ry)
 exact PyProof.Rows.iadd_int ⟨.int _,H,I.tok _,⟨_,rfl⟩,q⟩
end
structure Room(k:Nat)(A:YH):Prop where
 hd:A.handled=M
 dp:A.depth+k+5<recursionLimit
 un:A.units+4*k+1300<cLine
 gd:A.guards=J []
def Room.mono(r:Room k A)(h:j<=k):Room j A:=⟨r.hd,by have:=r.dp;lia,by have:=r.un;lia,r.gd⟩
theorem Room.deeper(r:Room (k+1) A)(env):Room k (A.deeper env):=⟨r.hd,by have:=r.dp;show A.depth+1+k+5<_;lia,by have:=r.un;show A.units+3+4*k+1300<_;lia,r.gd⟩
def Zl3{A:YH}:(A.under<|.builtin "type.__call__" ⟨.ref C::us,kw⟩).depth=A.depth+1:=rfl
def Zl2{A:YH}:(A.under<|.builtin "type.__call__" ⟨.ref C::us,kw⟩).units=A.units+1:=rfl
def Room.make(r:Room (k+1) A)(C)(us)(kw):Room k (A.under<|.builtin "type.__call__" ⟨.ref C::us,kw⟩):=⟨r.hd,by have:=r.dp;rw[Zl3];lia,by have:=r.un;rw[Zl2];lia,by first|exact r.gd|lia⟩
theorem Room.depth(r:Room k A):A.depth<recursionLimit:=by have:=r.dp;lia
noncomputable def Zn7:TA:=λ_ H Q=>Q [] H
noncomputable def ZmV(ta:TE)(tr:TA):TA:=λZ H Q=>ta Z H λx H1=>tr Z H1 λa H2=>Q (x::a) H2
section
variable {X:Cx}{e:Expr}{es:List Expr}{te:TE}{t:TA}{pos:Pos}
def Zd9:PA X [] Zn7:=λ_ _ _ _ H Q I h=>Calls.spliced_nil ⟨_,H,I,.nil,h⟩
def Zcu(ha:PE X e te)(hr:PA X es t)(hs:YA (e::es) X.env=(Ws,eval e X.env)::YA es X.env:=by rfl):PA X (e::es) (ZmV te t):=by intro b i s Z H Q I h;rw[hs];exact Calls.spliced_cons (thn (ha _ s _ H _ I h) λu j a=>by obtain⟨x,H1,I1,c,d⟩:=a;exact thn (hr _ _ _ _ _ _ I1 d) λk l a=>by obtain⟨m,H2,I2,f,g⟩:=a;exact⟨_,_,I2,.cons c f,g⟩)
def Zzt(t:TA):TE:=λZ H Q=>t Z H λa H1=>a.length<=Yc/\∀p,H1 p=M->Q (.ref p) (upd H1 p<|.tup a)
def Zzz(t:TA):TE:=λZ H Q=>t Z H λa H1=>a.length<=Yc/\∀p,H1 p=M->Q (.ref p) (upd H1 p<|.lst a)
def ZvP{x1}(h:PA X es t):PE X (.Tuple es x1 pos) (Zzt t):=by intro d s Z H Q I a;exact wpAny_Tuple_spliced (thn (h _ _ s _ H _ I a) λf g c=>by obtain⟨i,H1,I1,r,z,q⟩:=c;exact⟨r.length▸z,⟨.ref _,upd _ _<|.tup _,I1.laid (λb u e=>Od _ e) (Oq _) ⟨z,_,r,⟨_,Oj _ rfl,rfl,rfl,_,rfl⟩⟩,rfl,q _<|I1.hok.fresh<|Oq _⟩⟩)
def ZvT(h:PA X es t):PE X (.List es pos) (Zzz t):=by intro d s Z H Q I a;exact wpAny_List_spliced (thn (h _ _ s _ H _ I a) λf g c=>by obtain⟨i,H1,I1,r,z,q⟩:=c;exact⟨r.length▸z,⟨.ref _,upd _ _<|.lst _,I1.laid (λb u e=>Od _ e) (Oq _) ⟨z,_,0,r,Oj _ rfl⟩,rfl,q _<|I1.hok.fresh<|Oq _⟩⟩)
end
abbrev Sp:=List V->Hp->VK->XK->Prop
abbrev CXT:=List Env->Hp->Yb->XK->Yk->Yb->Prop
structure Env0(P:Yi)(w:Yh)(K:Yl)(mg:Str->Option Yk)(base:YG)(A:YH)(outer:List Env)(s:Yb)(H:Hp):Prop where
 frames:A.frames=J outer
 mod:Mod K mg base
 bs:∀b o,base.get? b=J o->s.heap.get? b=J o/\H b=M
 bsz:base.objs.size<=s.heap.objs.size
 funs:s.heap.FunFrames base outer
 frf:∀b∈frs outer,H b=M
 hok:HOk P w H s.heap
 bare:AllBare s.gens
def CE(outer:List Env)(P:Yi)(w:Yh)(H:Hp)(s:Yb)(Q:VK)(u:Yk)(s':Yb):Prop:=∃v H',s'.os=s.os/\AllBare s'.gens/\Un (frs outer) [] H H' s.heap s'.heap/\HOk P w H' s'.heap/\RelV v u/\Q v H'
def CR(CX:CXT)(outer:List Env)(P:Yi)(w:Yh)(H:Hp)(s:Yb)(Q:VK)(E:XK)(r:Result)(s':Yb):Prop:=
 match r with
 |.ok (.ret u)=>CE outer P w H s Q u s'
 |.ok _=>False
 |.error e=>CX outer H s E e s'
structure FnOk(P:Yi)(w:Yh)(K:Yl)(mg:Str->Option Yk)(base:YG)(CX:CXT)(k:Nat)(f:Yj)(fd:FuncData)(ps:List Str)(sp:Sp):Prop where
 len:∀vs H Q E,sp vs H Q E->vs.length=ps.length
 run:∀(A:YH) (outer:List Env) (s:Yb) (H:Hp) (args:Args) (us:List Yk) (vs:List V) (Q:VK) (E:XK),Room k A->Env0 P w K mg base A outer s H->BindsTo s fd args (ps.zip us)->Zt vs us->sp vs H Q E ->
  codeAny (model P w) A (.call (.ref f) args) (CR CX outer P w H s Q E) s
def FnOk.imp{P}{w}{K}{mg}{base}{CX}{k}{f}{fd}{ps}{sp sp'}(F:FnOk P w K mg base CX k f fd ps sp)
 (h:∀vs H Q E,sp' vs H Q E->sp vs H Q E):FnOk P w K mg base CX k f fd ps sp':=
 ⟨λvs H Q E q=>F.len _ H Q E<|h _ _ _ _ q,λA a s H args i vs Q E b c d e g=>F.run A _ s H _ _ _ Q E b c d e<|h _ _ _ _ g⟩
def Env0.make{P}{w}{K}{mg}{base}{A}{outer}{s}{H}(e:Env0 P w K mg base A outer s H)(C)(us)(kw):
 Env0 P w K mg base (A.under<|.builtin "type.__call__" ⟨.ref C::us,kw⟩) outer s H:=⟨by first|exact e.frames|lia,e.mod,e.bs,e.bsz,e.funs,e.frf,e.hok,e.bare⟩
section
variable {X:Cx}{aa:List (Yj×Obj)}{Z:St}{H:Hp}{s s':Yb}
def Inv.env0(I:Inv X aa Z H s):Env0 X.prog X.w X.K X.mg X.base X.A X.stack s H:=⟨I.ok.frames,I.ok.mod,I.bs,OE I.ok.bsz I.sz,I.stack,I.stkFree,I.hok,I.bare⟩
def Inv.after(I:Inv X aa Z H s)(h:CE X.stack X.prog X.w H s Q u s'):EP X aa Z Q u s':=by obtain⟨v,H',os,bare,un,hok,r,q⟩:=h;obtain⟨hh,g,d,t,ki⟩:=s';obtain rfl:ki=s.os:=os;exact⟨v,_,I.call un hok bare<|λb z=>absurd z<|by simp,r,q⟩
end
noncomputable def ZxE(sp:Sp)(aZ:List V)(E:XK)(t:TA):TE:=λZ H Q=>t Z H λa H1=>sp (a++aZ) H1 Q E
def Zuk(C:Yj)(m:Str)(sp:Sp)(aZ:List V)(E:XK)(ta:TE)(t:TA):TE:=λZ H Q=>ta Z H λx H1=>∃a b fs,x=.ref a/\H1 a=J (.ins C b fs)/\fs.lookup m=M /\
 t Z H1 λc H2=>sp (x::(c++aZ)) H2 Q E
def Zul(C:Yj)(sp:Sp)(aZ:List V)(E:XK)(t:TA):TE:=λZ H Q=>t Z H λb H1=>∀x a,H1 x=M->H1 a=M->a≠x ->
 sp (.ref x::(b++aZ)) (upd (upd H1 a<|.own x) x<|.ins C a []) (λv H2=>v=.non/\Q (.ref x) H2) E
def Binds(K:Yl)(fd:FuncData)(ps:List Str)(ds:List Yk):Prop:=∀(s:Yb) (us:List Yk),K.In s.heap->(us++ds).length=ps.length->BindsTo s fd ⟨us,[]⟩ (ps.zip<|us++ds)
def Binds.all{K}(h:∀us ,us.length=ps.length->bindArgs fd ⟨us,[]⟩=pure (ps.zip us)):Binds K fd ps []:=λs us _ a=>by rw[Yt]at a ⊢;exact .of_eq (h _ a)
def Zcq(CX:CXT)(X:Cx)(E:XK):Prop:=∀(b:List (Yj×Obj)) (Z:St) (H:Hp) (s:Yb) (e:Yk) (a:Yb),Inv X b Z H s->CX X.stack H s E e a->X.xe e a
section
variable {X:Cx}{CX:CXT}{k:Nat}{f C:Yj}{fd:FuncData}{ps:List Str}{sp:Sp}{aZ:List V}{ds:List Yk}{E:XK}{x m:Str}{p pos au:Pos}{e o:Expr}{es:List Expr}{ta:TE}{t:TA}
def ZlC(F:FnOk X.prog X.w X.K X.mg X.base CX k f fd ps sp)(hr:Room k X.A)(hb:Binds X.K fd ps ds)(hd:Zt aZ ds)(hx:Zcq CX X E)
 (I:Inv X aa Z H s) (r:Zt vs us) (h:sp (vs++aZ) H Q E):YB (model X.prog X.w) X.A (call (.ref f) us) (EP X aa Z Q) X.xe s:=by
 refine wpAny_call<|codeAny_mono (F.run _ _ s H _ _ _ Q E hr I.env0 (hb s _ I.kIn<|((r.append hd).length).symm.I<|F.len _ _ _ _ h) (r.append hd) h) λr c a=>?_;cases r with
 |error e=>exact hx _ _ H s e _ I a
 |ok b=>
  cases b with
  |ret u=>exact I.after a
  |next=>trivial
  |brk=>trivial
  |cont=>trivial
def ZsS(F:FnOk X.prog X.w X.K X.mg X.base CX k f fd ps sp)(hr:Room k X.A)(hg:Gl X x)(hm:X.mg x=J (.ref f))(hk:Wb X.K (.ref f)=Wr)(hb:Binds X.K fd ps ds)(hd:Zt aZ ds)(hx:Zcq CX X E)
 (ha:PA X (e::es) t) (bv:(x==("__debug__" : Str))=Ws:=by decide) (he:YA (e::es) X.env=(Ws,eval e X.env)::YA es X.env:=by rfl) (aW:(YR pos<|YA es X.env).any (·.1)=Ws:=by rfl) :
 PE X (.Call (.Name x p) (e::es) [] pos) (ZxE sp aZ E t):=by
 intro b s Z H Q I h;exact YV (Zdp I hg hm (PySem.W.callWith_K I.ok.mod.kin hk (thn (ha _ _ s _ H _ I h) λc d a=>by obtain⟨g,H1,I1,r,q⟩:=a;exact⟨I1.kIn,ZlC F hr hb hd hx I1 r q⟩) he aW) bv)
def ZsM(he:PE X o ta)(c:Cls X.K C)(hm:Meth X.K C m f)(F:FnOk X.prog X.w X.K X.mg X.base CX k f fd ps sp)(hr:Room k X.A)(hb:Binds X.K fd ps ds)(hd:Zt aZ ds)(hx:Zcq CX X E)(ha:PA X (e::es) t)
 (hst:YA (e::es) X.env=(Ws,eval e X.env)::YA es X.env:=by rfl) (aW:(YR pos<|YA es X.env).any (·.1)=Ws:=by rfl)
 (ht:eval (.Call (.Attribute o m au) (e::es) [] pos) X.env=(do
  let ov <- eval o X.env
  standAt au.atName
  let (f,first) <- holding [ov] (getMethod ov m pl)
  callWith pos f first (YR pos<|YA (e::es) X.env) (backToKw pos<|YZ [] X.env)):=by rfl) :
 PE X (.Call (.Attribute o m au) (e::es) [] pos) (Zuk C m sp aZ E ta t):=by
 intro d s Z H Q I h;refine PySem.W.methodCall_KW (thn (he d s Z H _ I h) λu g b=>?_) ht;obtain⟨x,H1,I1,i,a,v,fs,j,n,l,q⟩:=b;subst j;obtain rfl:u=YD a:=i;exact ZhQ I1 n c hm l (PySem.W.callWith_K I.ok.mod.kin hm.kp (thn (ha pos d g Z H1 _ I1 q) λy z b=>by obtain⟨vs,H2,I2,r,p⟩:=b;exact⟨I2.kIn,ZlC (vs:=.ref a::vs) F hr hb hd hx I2 (.cons rfl r) p⟩) hst aW)
def Zqo(he:PE X o ta)(c:Cls X.K C)(hm:Meth X.K C m f)(F:FnOk X.prog X.w X.K X.mg X.base CX k f fd ps sp)(hr:Room k X.A)(hb:Binds X.K fd ps ds)(hd:Zt aZ ds)(hx:Zcq CX X E)
 (ht:eval (.Call (.Attribute o m au) [] [] pos) X.env=(do
  let ov <- eval o X.env
  standAt au.atName
  let (f,first) <- holding [ov] (getMethod ov m pl)
  callWith pos f first (YR pos<|YA [] X.env) (backToKw pos<|YZ [] X.env)):=by rfl) :
 PE X (.Call (.Attribute o m au) [] [] pos) (Zuk C m sp aZ E ta Zn7):=by
 intro b s Z H Q I h;refine PySem.W.methodCall_KW (thn (he b s Z H _ I h) λu j d=>?_) ht;obtain⟨x,H1,I1,e,a,n,fs,g,i,l,q⟩:=d;subst g;obtain rfl:u=YD a:=e;exact ZhQ I1 i c hm l (PySem.W.callWith_K0 I1.kIn hm.kp<|ZlC (vs:=[.ref a]) F hr hb hd hx I1 (.cons rfl .nil) q)
structure Mk(K:Yl)(C f:Yj):Prop where
 makes:PySem.W.makesIn K C=Wr
 init:YJ K (.ref C) "__init__"=J (J<|.ref f)
 fn:PySem.W.isFn K (.ref f)=Wr
 kp:Wb K (.ref C)=Wr
theorem Zkn(qd:Mk X.K C f)(F:FnOk X.prog X.w X.K X.mg X.base CX k f fd ps sp)(hr:Room (k+1) X.A)(hb:Binds X.K fd ps ds)(hd:Zt aZ ds)
   (hx:Zcq CX X E) (I:Inv X aa Z H s) (r:Zt vs us)
   (h:∀ x dx,H x=M->H dx=M->dx≠x->sp (.ref x::(vs++aZ)) (upd (upd H dx<|.own x) x<|.ins C dx []) (λv H2=>v=.non/\Q (.ref x) H2) E) :
   YB (model X.prog X.w) X.A (call (.ref C) us) (EP X aa Z Q) X.xe s:=by
 have b:=h _ _ (I.hok.fresh<|Wg _) (I.hok.fresh<|Oq _)<|Ou<|OH _;have I2:=Inv.made (C:=C) I;have c:Zt (V.ref _::(vs++aZ)) (YD (s.heap.objs.size+1)::(us++ds)):=.cons rfl<|r.append hd;refine wpAny_call (ZqN (f:=f) I.kIn qd.makes qd.init (beq_iff_eq.mp qd.fn) (codeAny_mono (F.run _ _ _ _ _ _ _ _ E (hr.make C _ _)
   (I2.env0.make C _ _) (hb _ _ I2.kIn (by
   have e:=c.length;rw [F.len _ _ _ _ b] at e;exact e.symm)) c b) λr j a=>?_))
 cases r with
 |error e=>exact hx _ _ _ _ e _ I2 a
 |ok d =>
   cases d with
   |ret u =>
     obtain⟨v,H',I3,g,ev,i⟩:=I2.after a;subst ev;exact⟨g,⟨V.ref _,_,I3,rfl,i⟩⟩
   |next=>exact False.elim a
   |brk=>exact False.elim a
   |cont=>exact False.elim a
def ZsO(qd:Mk X.K C f)(F:FnOk X.prog X.w X.K X.mg X.base CX k f fd ps sp)(hr:Room (k+1) X.A)(hg:Gl X x)(hm:X.mg x=J (.ref C))(hb:Binds X.K fd ps ds)(hd:Zt aZ ds)(hx:Zcq CX X E)
 (ha:PA X (e::es) t) (bv:(x==("__debug__" : Str))=Ws:=by decide) (he:YA (e::es) X.env=(Ws,eval e X.env)::YA es X.env:=by rfl) (aW:(YR pos<|YA es X.env).any (·.1)=Ws:=by rfl) :
 PE X (.Call (.Name x p) (e::es) [] pos) (Zul C sp aZ E t):=by
 intro b s Z H Q I h;exact YV (Zdp I hg hm (PySem.W.callWith_K I.ok.mod.kin qd.kp (thn (ha _ _ s _ H _ I h) λc d a=>by obtain⟨g,H1,I1,r,q⟩:=a;exact⟨I1.kIn,Zkn qd F hr hb hd hx I1 r q⟩) he aW) bv)
def Zqp(qd:Mk X.K C f)(F:FnOk X.prog X.w X.K X.mg X.base CX k f fd ps sp)(hr:Room (k+1) X.A)(hg:Gl X x)(hm:X.mg x=J (.ref C))(hb:Binds X.K fd ps ds)(hd:Zt aZ ds)(hx:Zcq CX X E)
 (bv:(x == "__debug__")=Ws:=by decide):PE X (.Call (.Name x p) [] [] pos) (Zul C sp aZ E Zn7):=by
 intro a s Z H Q I h;exact YV (Zdp I hg hm (PySem.W.callWith_K0 I.kIn qd.kp<|Zkn qd F hr hb hd hx I .nil h) bv)
end
structure FnScope(N P:List Str)(sc:Scope):Prop where
 kind:sc.kind=.function
 co:sc.isCoroutine=Ws
 gen:sc.isGenerator=Ws
 nd:N.Nodup
 pre:N.take P.length=P
 par:∀x∈P,sc.names.lookup x=J .local\/sc.names.lookup x=J .cell
 nofree:∀y∈sc.names,y.2≠.free
theorem Zjb{kindOf}:∀{binds}{m},(∀v,(x,v) ∉ binds)->bindL kindOf binds m x=m x
 |[],_,_=>rfl
 |(n,v)::r,m,h=>by
  unfold bindL;rw[Zjb λw hw=>h w<|Oh _ hw];split
  . have:x≠n:=by rintro rfl;exact h v Oi
    simp_all
  simp
theorem Zjd{kindOf}:∀{binds}{m},(∀v,(x,v) ∉ binds)->bindC kindOf binds m x=m x
 |[],_,_=>rfl
 |(n,v)::r,m,h=>by
  unfold bindC;rw[Zjd λw hw=>h w<|Oh _ hw];split
  . rfl
  . have:x≠n:=by rintro rfl;exact h v Oi
    simp_all
theorem Zjc{kindOf}:∀{P:List _}{vs}{i:Nat}{m},P.Nodup->P[i]?=J x->vs[i]?=J v->kindOf x=J .local ->
 bindL kindOf (P.zip vs) m x=J v
 |[],_,_,_,_,h,_,_=>by trivial
 |_::_,[],_,_,_,_,h,_=>by trivial
 |p::P,w::vs,0,m,nd,R,h2,hk=>by simp at R h2;subst R;subst h2;show bindL _ ((p,w)::P.zip _) m p=_;unfold bindL;rw[Zjb λv hv=>(List.nodup_cons.mp nd).1 (List.of_mem_zip hv).1,if_pos hk];simp
 |p::P,w::vs,i+1,m,nd,R,h2,hk=>by unfold bindL;exact Zjc (List.nodup_cons.mp nd).2 (by trivial) (by trivial) hk
theorem Zje{kindOf}:∀{P:List _}{vs}{i:Nat}{m},P.Nodup->P[i]?=J x->vs[i]?=J v->kindOf x≠J .local ->
 bindC kindOf (P.zip vs) m x=J v
 |[],_,_,_,_,h,_,_=>by trivial
 |_::_,[],_,_,_,_,h,_=>by trivial
 |p::P,w::vs,0,m,nd,R,h2,hk=>by simp at R h2;subst R;subst h2;show bindC _ ((p,w)::P.zip _) m p=_;unfold bindC;rw[Zjd λv hv=>(List.nodup_cons.mp nd).1 (List.of_mem_zip hv).1,if_neg hk];simp
 |p::P,w::vs,i+1,m,nd,R,h2,hk=>by unfold bindC;exact Zje (List.nodup_cons.mp nd).2 (by trivial) (by trivial) hk
noncomputable def start(N:List Str)(vs:List V):St:=vs.map J++YK (N.length-vs.length) M
def ZoV(CX:CXT)(P:Yi)(w:Yh)(K:Yl)(mg:Str->Option Yk)(base:YG)(N:List Str)(aj:Str)(scope:Scope)(f:Yj)(cd:Yk)(A:YH)(outer:List Env)(s:Yb)(H:Hp)(E:XK):Cx where
 prog:=P
 w:=w
 K:=K
 mg:=mg
 base:=base
 A:=A.deeper (envOfC aj scope s.heap.objs.size f cd)
 N:=N
 s₀:=s
 H₀:=H
 env:=envOfC aj scope s.heap.objs.size f cd
 outer:=outer
 stack:=envOfC aj scope s.heap.objs.size f cd::outer
 ex:=[]
 calm:=Wr
 fn:=λ_=>Wr
 pn:=[]
 xe:=λe s'=>YB (model P w) (A.deeper<|envOfC aj scope s.heap.objs.size f cd) (leaving (envOfC aj scope s.heap.objs.size f cd) e) (λ_ g7=>CX outer H s E e g7) (λe' g7=>CX outer H s E e' g7) s'
def Zk7{sc:Scope}(h:sc.names.lookup x=J .cell):∃c,(cellsFrom n sc.names []).lookup x=J c:=Option.isSome_iff_exists.mp (PySem.W.cellsFrom_some _ n _<|.inl h)
theorem ZoP{CX}{P}{w}{K}{mg:Str->Option _}{base}{N ps:List _}{aj}{scope}{f}{cd}{A:YH}{outer:List _}{s s1}{H}{E}{us:List _}{vs:List V}
   (S_:FnScope N ps scope) (hd:A.handled=M) (e0:Env0 P w K mg base A outer s H) (hl:vs.length=ps.length) (r:Zt vs us)
   (x:InCallC s s.heap.objs.size (bindL (envOfC aj scope s.heap.objs.size f cd).kindOf (ps.zip us) λ_=>M) (cellsFrom (s.heap.objs.size+1) scope.names []) (bindC (envOfC aj scope s.heap.objs.size f cd).kindOf (ps.zip us) λ_=>M) s1) :
   Inv (ZoV CX P w K mg base N aj scope f cd A outer s H E) [] (start N vs) H s1:=by
 have aW:ps.length<=N.length:=by have:=congrArg List.length S_.pre;rw [List.length_take] at this;lia
 obtain⟨R,tk,rfl,hk⟩:=x.done;have fB:∀ b:Yj,b ∉ (ZoV CX P w K mg base N aj scope f cd A outer s H E).ex:=λb z=>absurd (show b∈([]) from z) (by simp);refine⟨⟨e0.mod,S_.kind,rfl,rfl,Oq _,λy z c R h2=>?_,λy hy=>?_,λy c _ h=>?_,λ_=>hd,Around.frames_deeper e0.frames,.inr ⟨rfl,rfl⟩,λb z=>absurd z<|fB b,e0.bs,e0.bsz,λb _ _=>fB b,λb z=>absurd z<|fB b,e0.funs,e0.frf⟩,
   rfl,e0.bare,Un.kept hk,⟨_,x.toInCall.ns,λi y v R h2 h3=>?_⟩,λy c h=>⟨_,x.cell y c h⟩,e0.hok.fresh<|Oq _,λy c h=>?_,λp hp=>absurd (show p∈([]) from hp)<|by simp,e0.hok.kept hk,?_⟩
 . exact name_of_addr x.apart (YI R) (YI h2)
 . have hy:scope.names.lookup y=J .cell\/scope.names.lookup y=J .free:=hy;rcases hy with hy|hy
   . exact Zk7 hy
   . exact absurd rfl (S_.nofree _<|YI hy)
 . exact Nat.le_of_lt (x.above y c<|YI h)
 . have hi:i<vs.length:=by
     unfold start at h2;by_cases hi:i<vs.length
     . exact hi
     . rw [Om<|by simpa using hi,List.getElem?_replicate] at h2;split at h2<;>cases h2
   obtain⟨u,hu,rv⟩:=r.get (by
     unfold start at h2;rw [Oe<|by simpa using hi,O2] at h2;cases e:vs[i]? with
     |none=>rw [e] at h2;cases h2
     |some a=>rw [e] at h2;cases h2;rfl)
   have hp:ps[i]?=J y:=by
     rw [<-S_.pre,List.getElem?_take_of_lt<|by lia];exact R
   have jp:ps.Nodup:=S_.pre▸S_.nd.sublist (List.take_sublist _ _);refine⟨u,rv,?_⟩;rcases S_.par y (O1 hp) with k|k
   . exact .inl ⟨k,Zjc jp hp hu k⟩
   . obtain⟨c,e⟩:=Zk7 (n:=s.heap.objs.size+1) k;refine .inr ⟨.inl k,c,e,?_⟩;have q:=x.cell y c e;rw [Zje jp hp hu (by show scope.names.lookup y≠_;rw [k];decide)] at q;exact q
 . exact e0.hok.fresh (Nat.le_of_lt<|x.above y c<|YI h)
 . unfold start;show _=N.length;rw [OA,Yu,List.length_replicate]
   lia
theorem ZyQ{CX}{P}{w}{K:Yl}{mg:Str->Option _}{base}{k}{f}{name aj}{params}{body:List _}{scope}{dV kV a7 pm aQ ct oc}{an od:Option _}
   {b8:Array (Option _)}{N ps:List _}{sp:Sp} (lk:K.lookup f=J ⟨oc,od,.func<|PySem.W.fnOf name aj params body scope dV kV a7 pm an aQ ct,b8⟩) (cj:PySem.W.codeIn K aQ aj=Wr) (S_:FnScope N ps scope)
   (len:∀ vs H Q E,sp vs H Q E->vs.length=ps.length)
   (fX:∀ (A:YH) (outer:List _) (s) (H) (vs:List V) (Q) (E),Room k (A.deeper<|envOfC aj scope s.heap.objs.size f aQ)->sp vs H Q E ->
     ∃ t,PSs (ZoV CX P w K mg base N aj scope f aQ A outer s H E) body t/\t {nx:=λ_ H'=>Q .non H',rt:=Q} (start N vs) H) :
   FnOk P w K mg base CX (k+1) f (PySem.W.fnOf name aj params body scope dV kV a7 pm an aQ ct) ps sp:=by
 refine⟨len,λA outer s H args F vs Q E h d m r j=>?_⟩;have KX:=d.mod.kin.keeps λb o e=>(d.bs b o e).1;refine codeAny_call_function h.depth (KX _ _ lk) rfl S_.co S_.gen rfl (PySem.W.codeRec_of KX cj) (m _ _ _ _ (wpAny_newFunctionEnv_cells S_.kind (λ⟨n,v⟩ p=>by
   rcases S_.par n (List.of_mem_zip p).1 with q|q
   . exact .inl q
   . exact .inr ⟨q,PySem.W.cellsFrom_some _ _ _<|.inl q⟩) λy z G x=>?_))
 subst z;refine⟨(d.mod.nolimit.keeps λb o e=>(d.bs b o e).1).keeps x.toInCall.keep,codeAny_func ?_⟩;obtain⟨t,B,C⟩:=fX A _ s H _ Q E (h.deeper _) j;refine Yg (B _ _ _ H _ (ZoP S_ h.hd d (len _ _ _ _ j) r x) C) (λD l c=>?_) λe l c=>c;have g:∀ {σ'}{H'}{v}{u},Inv (ZoV CX P w K mg base N aj scope f aQ A _ s H E) [] σ' _ _->RelV v u->Q v _->CE outer P w H s Q u l :=
   λ{σ' H' v u} a i q=>⟨v,H',a.os,a.bare,a.base,a.hok,i,q⟩
 cases D with
 |ret u =>
   obtain⟨v,σ',H',a,i,q⟩:=c;exact g a i q
 |next =>
   obtain⟨σ',H',a,q⟩:=c;exact g (v:=V.non) (u:=Value.none) a rfl q
 |brk =>
   obtain⟨_,_,_,q⟩:=c;exact False.elim q
 |cont =>
   obtain⟨_,_,_,q⟩:=c;exact False.elim q
section
variable {X:Cx}{x:Str}{p pos:Pos}{e:Expr}{es:List Expr}{t:TA}{id T:String}{r:List V->Hp->VK->Prop}
noncomputable def tCB(r:List V->Hp->VK->Prop)(t:TA):TE:=λZ H Q=>t Z H λa H1=>r a H1 Q
def Zd7(hc:ZcH X (.builtin id) r)(hg:Gl X x)(hm:X.mg x=M)(hv:bootBuiltins x=J (.builtin id))(ha:PA X (e::es) t)(hn:x ≠ "__name__" := by decide)(bv:(x==("__debug__" : Str))=Ws:=by decide)
 (he:YA (e::es) X.env=(Ws,eval e X.env)::YA es X.env:=by rfl) (aW:(YR pos<|YA es X.env).any (·.1)=Ws:=by rfl):PE X (.Call (.Name x p) (e::es) [] pos) (tCB r t):=by
 intro d s Z H Q I h;exact YV (ZcN I hg hm hv (PyProof.Rows.callWith_builtin1 (thn (ha _ _ s _ H _ I h) λf g a=>by obtain⟨i,H1,I1,b,c⟩:=a;exact hc _ _ _ _ _ _ Q I1 b c) he aW) hn bv)
def Zoz(hc:ZcH X (.type T) r)(hg:Gl X x)(hm:X.mg x=M)(hv:bootBuiltins x=J (.type T))(ha:PA X (e::es) t)(hn:x ≠ "__name__" := by decide)(bv:(x==("__debug__" : Str))=Ws:=by decide)
 (he:YA (e::es) X.env=(Ws,eval e X.env)::YA es X.env:=by rfl) (aW:(YR pos<|YA es X.env).any (·.1)=Ws:=by rfl):PE X (.Call (.Name x p) (e::es) [] pos) (tCB r t):=by
 intro d s Z H Q I h;exact YV (ZcN I hg hm hv (PyProof.Rows.callWith_type1 (thn (ha _ _ s _ H _ I h) λf g a=>by obtain⟨i,H1,I1,b,c⟩:=a;exact hc _ _ _ _ _ _ Q I1 b c) he aW) hn bv)
end
end L2
namespace HT
open PySem PyProof.Rows
section
variable {prog:Yi}{w:Yh}{A:YH}{E:Yk->Yb->Prop}{s:Yb}
def ZtV(ht:IsTup s.heap t vs.toArray)(hb:IsTup s.heap b ws.toArray)(hv:vs≠[])
 (R:ws=[]->Q (.ref t) s) (h2:ws≠[]->Q (.ref s.heap.objs.size) {s with heap:=s.heap.push {cls:=.type "tuple",data:=.seq (vs++ws).toArray}})
 (bq:vs.length+ws.length<=Yc):YB (model prog w) A (binaryOp .Add (.ref t)<|.ref b) Q E s:=by
 obtain⟨⟨cls,k,data,l⟩,a,g,n,h⟩:=id ht;obtain⟨⟨cls2,m,d,o⟩,c,i,p,j⟩:=id hb;subst g h i j;have e:vs.toArray++ws.toArray=(vs++ws).toArray:=by simp
 by_cases f:ws=[]
 . exact concat_meets ⟨_,a,rfl⟩ ⟨_,c,rfl⟩ noFill_tuple_add seq_tuple_add PySem.F.slot_tuple_add PySem.F.entry_tuple_add (PySem.F.args_tuple_add_2 _ _)
    (tuple_addW1 t b _ _ n _ _ _ _ _ (by simpa using hv)<|by simp_all) ⟨a,c,R f⟩
 . refine concat_meets ⟨_,a,rfl⟩ ⟨_,c,rfl⟩ noFill_tuple_add seq_tuple_add PySem.F.slot_tuple_add PySem.F.entry_tuple_add (PySem.F.args_tuple_add_2 _ _)
    (tuple_addW2 t b _ _ n _ _ _ _ _ (by simpa using hv) (by simp_all)<|by trivial) ⟨a,c,?_⟩
   rw[e];exact h2 f
noncomputable def sIx(n d:Nat):Option Int->Nat
 |none=>d
 |some v=>if v<0 then(v+(n:Int)).toNat else min v.toNat n
def ZnK(v)(n d:Nat):(if v<0 then max (v+(n:Int)) 0 else min v n)=sIx n d (J v):=by
 show(if v<0 then max _ 0 else min v n)=(if v<0 then(v+n).toNat else min _ n)
 by_cases hv:v<0
 . simp_all
 . simp[if_neg hv];lia
def ZmJ(lo hi)(n:Nat):Builtin.Slice.sliceAdjust lo hi 1 n=((sIx n 0 lo:Int),(sIx n n hi:Int)):=by
 refine Prod.ext ?_ ?_
 . cases lo with
   |none=>rfl
   |some v=>exact ZnK v n 0
 . cases hi with
   |none=>rfl
   |some v=>exact ZnK v n n
def ZlS(i j:Nat):Builtin.Slice.slicePlaces i j 1=j-i:=by unfold Builtin.Slice.slicePlaces;simp;split<;>lia
def Zhs(p:IsPart v o)(h:Q o s):YB (model prog w) A (Builtin.Slice.slicePartIndex v) Q E s:=by
 cases p with
 |none=>exact slicePart_none h
 |int i t=>exact slicePart_int h
def Zc6{sl}{vl vu}{lo hi}{n}{Q:Int×Int×Nat->Yb->Prop}(hs:s.heap.IsSliceOf sl vl vu .none)(pl:IsPart vl lo)(pu:IsPart vu hi)
 (h:Q (sIx n 0 lo,1,sIx n n hi-sIx n 0 lo) s):YB (model prog w) A (Builtin.Slice.sliceApplied (.ref sl)<|pure n) Q E s:=by
 obtain⟨c,a,d,b⟩:=id hs;refine Ya<|Ya<|YQ a b (x:=vl) rfl<|Ya<|YQ a b (x:=vu) rfl<|Ya<|YQ a b rfl<|Yd<|Ya<|slicePart_none<|Ya<|Zhs pl<|Ya<|Zhs pu<|Ya<|Yd ?_;show YB _ _ (match Builtin.Slice.sliceAdjust _ _ 1 n with|(lo,hi)=>pure (lo,(1:Int),Builtin.Slice.slicePlaces lo hi 1)) _ _ s;rw[ZmJ _ _ n];show YB _ _ (pure _) _ _ s;rw[ZlS];exact Yd h
def Zqj(xs:Array Yk)(i k:Nat):((List.range k).filterMap λ(m:Nat)=>xs[(i+(m:Int)*1).toNat]?).toArray=((xs.toList.drop i).take k).toArray:=by
 have e:(λ(m:Nat)=>xs[(i+(m:Int)*1).toNat]?)=λm=>xs[i+m]? := by
  funext m;have:(i+(m:Int)*1).toNat=i+m:=by lia
  rw[this]
 rw[e];have:=pick_run xs i k;have e2:((λx=>xs[x]?) ∘ λx=>i+x)=λm=>xs[i+m]? := rfl
 simp_all
theorem ZfW{t sl}{items}{vl vu}{lo hi}{Q}(ht:IsTup s.heap t items)(hs:s.heap.IsSliceOf sl vl vu .none)(pl:IsPart vl lo)(pu:IsPart vu hi)
   (hw:¬ (sIx items.size 0 lo=0/\sIx items.size items.size hi=items.size))
   (h:Q (.ref s.heap.objs.size) {s with heap:=s.heap.push {cls:=.type "tuple",data:=.seq ((items.toList.drop<|sIx items.size 0 lo).take<|sIx items.size items.size hi-sIx items.size 0 lo).toArray}})
   (bq:items.size<=Yc):YB (model prog w) A (getItem (.ref t)<|.ref sl) Q E s:=by
 have bG:sizeOk (.seq ((items.toList.drop<|sIx items.size 0 lo).take<|sIx items.size items.size hi-sIx items.size 0 lo).toArray):=by
   show ((items.toList.drop<|sIx items.size 0 lo).take<|sIx items.size items.size hi-sIx items.size 0 lo).toArray.size<=Yc;rw [Of,List.length_take,List.length_drop,Array.length_toList]
   lia
 obtain⟨os,dC,gI,fU⟩:=id hs;unfold getItem
 try with_reducible refine Wc ?_
 refine Ya (wpAny_sequenceKey ht.typeIs (by decide) (Ya (Wa (name:=O "__getitem__") ht.typeIs Wi
   (We Wi ht.typeIs entry_tuple_getitem ?_<|args_tuple_getitem _ _))))
 show YB _ _ (Builtin.Tuple.tupleItemsOf (.ref t) >>= _) _ _ s;refine Ya<|tupleItemsOf_ ht<|Ya<|wpAny_typeOf ⟨os,dC,gI⟩ ?_;rw [if_pos<|by decide];refine Ya<|Zc6 hs pl pu ?_;show YB _ _ (if (((sIx items.size 0 lo):Int)==0&&(1)==1&&(sIx items.size items.size hi-sIx items.size 0 lo)==items.size)=Wr then _ else _) _ _ s;rw [if_neg (by
   intro q;rw [Oa,Oa] at q;have q1:((sIx items.size 0 lo):Int)=0:=eq_of_beq q.1.1;have q2:sIx items.size items.size hi-sIx items.size 0 lo=items.size:=eq_of_beq q.2;exact hw ⟨by lia,by lia⟩),Zqj]
 first
   |exact Ya (m:=Builtin.Tuple.tupleExact _) (Yr (Yd ⟨_,rfl,Yd h⟩) bG)
   |exact Ya (m:=Builtin.Tuple.tupleExact _) (Yr (Ya (Yd (Yd ⟨_,rfl,Yd h⟩))) bG)
   |exact Ya (Ya (m:=Builtin.Tuple.tupleExact _) (Yr (Yd (Yd ⟨_,rfl,Yd h⟩)) bG))
   |exact Ya (Ya (m:=Builtin.Tuple.tupleExact _) (Yr (Yd ⟨_,rfl,Yd h⟩) bG))
end
end HT
namespace L2
open PySem PySem.Spec PyProof.Rows
abbrev TO:=St->Hp->(Option Int->Hp->Prop)->Prop
def PO(X:Cx)(e:Option Expr)(t:TO):Prop:=
 ∀(aa:List (Yj×Obj)) (s:Yb) (Z:St) (H:Hp) (Q:Option Int->Hp->Prop),Inv X aa Z H s->t Z H Q ->
  YB (model X.prog X.w) X.A (evalPart e X.env) (λu s'=>∃o H',Inv X aa Z H' s'/\IsPart u o/\Q o H') X.xe s
noncomputable def Zsf:TO:=λ_ H Q=>Q M H
noncomputable def Zxy(t:TE):TO:=λZ H Q=>t Z H λx H1=>∃i,x=.int i/\Q (J i) H1
section
variable {X:Cx}{e:Expr}{te:TE}{lo hi:Option Expr}{tl th:TO}{pos p2:Pos}
def ZsH:PO X M Zsf:=by intro a s Z H Q I h;exact Yd ⟨_,H,I,.none,h⟩
def ZsG(h:PE X e te):PO X (J e) (Zxy te):=by intro f s Z H Q I a;refine thn (h _ s _ H _ I a) λu g b=>?_;obtain⟨x,H1,I1,c,d⟩:=b;obtain⟨i,rfl,q⟩:=d;obtain⟨t,rfl⟩:=c;exact⟨_,_,I1,.int i t,q⟩
def SlR(X:Cx)(r:V->Option Int->Option Int->Hp->VK->Prop):Prop:=
 ∀(aa:List (Yj×Obj)) (s:Yb) (Z:St) (H:Hp) (x:V) (v vl vu:Yk) (lo hi:Option Int) (sl:Yj) (Q:VK),Inv X aa Z H s->RelV x v->s.heap.IsSliceOf sl vl vu .none->IsPart vl lo->IsPart vu hi->r x lo hi H Q ->
  ∃T id,typeLookup (.type T) "__getitem__"=pure (J<|.builtin id)/\s.TypeIs v T/\YB (model X.prog X.w) X.A (getItem v<|.ref sl) (EP X aa Z Q) X.xe s
noncomputable def tSl(r:V->Option Int->Option Int->Hp->VK->Prop)(te:TE)(tl th:TO):TE:=λZ H Q=>te Z H λx H1=>tl Z H1 λl H2=>th Z H2 λu H3=>r x l u H3 Q
def Zql(hr:SlR X r)(he:PE X e te)(hl:PO X lo tl)(hu:PO X hi th):PE X (.Subscript e (.Slice lo hi M p2) pos) (tSl r te tl th):=by intro o s Z H Q I h;refine Subscript_<|thn (he _ s _ H _ I h) λv p a=>?_;obtain⟨x,H1,I1,c,d⟩:=a;refine wpAny_Slice<|thn (hl _ _ _ _ _ I1 d) λvl t a=>?_;obtain⟨l,H2,I2,f,g⟩:=a;refine thn (hu _ _ _ _ _ I2 g) λw y a=>?_;obtain⟨u,H3,I3,i,j⟩:=a;refine Yd ?_;obtain⟨T,id,k,m,n⟩:=hr _ _ _ _ x v _ _ l u _ Q (I3.kept λb z q=>Od _ q) c (Heap.IsSliceOf.new ..) f i j;exact tail_any m k n (rfl)
def ZoY(xs:List V)(lo hi:Option Int):List V:=(xs.drop<|HT.sIx xs.length 0 lo).take (HT.sIx xs.length xs.length hi-HT.sIx xs.length 0 lo)
def ZgZ(xs)(lo hi):(ZoY xs lo hi).length<=xs.length:=by
 unfold ZoY;rw[List.length_take,List.length_drop]
 lia
def ZzP(K:Yl):V->Option Int->Option Int->Hp->VK->Prop:=λx c d H Q=>∃a b,x=.ref a/\SqT K H a b /\
 ¬ (HT.sIx b.length 0 c=0/\HT.sIx b.length b.length d=b.length)/\∀p,H p=M->Q (.ref p) (upd H p<|.tup<|ZoY b c d)
def Zve:SlR X (ZzP X.K):=by rintro aa s Z H x v vl vu lo hi sl Q I rx hs pl pu⟨a,xs,rfl,hx,hw,q⟩;cases rx;obtain⟨its,r,ht,hz⟩:=I.tuple hx;have al:its.toArray.size=xs.length:=r.length.symm;refine⟨_,_,PyProof.Rows.slot_tuple_getitem.lookup,ht.typeIs,HT.ZfW ht hs pl pu (by rw[al];trivial) ?_ (by rw[al];trivial)⟩;rw[al];refine⟨.ref _,_,I.laid (λb ob q=>Od _ q) (Oq _) ?_,rfl,q _<|I.hok.fresh<|Oq _⟩;exact⟨OE (ZgZ _ _ _) hz,_,(r.drop _).take _,Zcs.fresh _ _⟩
def Zx0(K:Yl):R2:=λx y H Q=>∃a b xs c,x=.ref a/\y=.ref b/\SqT K H a xs/\SqT K H b c/\xs≠[]/\xs.length+c.length<=Yc /\
 (c=[]->Q (.ref a) H)/\(c≠[]->∀p,H p=M->Q (.ref p) (upd H p<|.tup<|xs++c))
def Zt.nil_iff(r:Zt xs us):us=[]↔xs=[]:=by
 cases r with
 |nil=>simp
 |cons _ _=>simp
def ZsZ:OpR X (binaryOp .Add) (Zx0 X.K):=by rintro aa s Z H x y v u Q I rx ry⟨a,b,xs,ys,rfl,rfl,ha,hb,hx,hz,q1,q2⟩;cases rx;cases ry;obtain⟨its,r1,p1,_⟩:=I.tuple ha;obtain⟨bp,r2,p2,_⟩:=I.tuple hb;refine HT.ZtV p1 p2 (λz=>hx<|r1.nil_iff.mp z) (λz=>⟨.ref a,H,I,rfl,q1<|r2.nil_iff.mp z⟩) (λz=>⟨.ref _,_,I.laid (λb ob q=>Od _ q) (Oq _) ?_,rfl,q2 (λw=>z<|r2.nil_iff.mpr w) _<|I.hok.fresh<|Oq _⟩) (by rw[<-r1.length,<-r2.length];trivial);exact⟨by simp_all,_,r1.append r2,Zcs.fresh _ _⟩
end
noncomputable def ixN(n:Nat)(i:Int):Option Nat:=if 0<=i then(if i<n then J i.toNat else M)else if -(n:Int)<=i then J (i+n).toNat else M
def atI(xs:List α)(i:Int):Option α:=(ixN xs.length i).bind λj=>xs[j]?
def Znx(h:ixN n i=J j):seqIndex? i n=J j/\j<n/\-n<=i/\i<n:=by
 unfold ixN at h;by_cases h0:0<=i
 . rw[if_pos h0]at h;by_cases R:i<n
   . rw[if_pos R]at h;exact⟨by rw[seqIndex_of h0 R,YF h],by lia,by lia,R⟩
   simp_all
 . rw[if_neg h0]at h;by_cases R:-n<=i
   . rw[if_pos R]at h;exact⟨by rw[seqIndex_neg (by lia) R,YF h],by lia,R,by lia⟩
   simp_all
def Zke(h:atI xs i=J v):∃j,seqIndex? i xs.length=J j/\xs[j]?=J v/\j<xs.length/\-(xs.length:Int)<=i/\i<xs.length:=by
 unfold atI at h;cases e:ixN xs.length i with
 |none=>simp_all
 |some j=>rw[e]at h;obtain⟨R,a,b,c⟩:=Znx e;exact⟨j,R,h,a,b,c⟩
def Zkg(b:Expr):Prop:=∀o i,subscripted b Ws o i=operate [o,i] (getItem o i)
def IxR(X:Cx)(r:R2):Prop:=
 ∀(value slice:Expr) (aa:List (Yj×Obj)) (s:Yb) (Z:St) (H:Hp) (x y:V) (v u:Yk) (Q:VK),Inv X aa Z H s->RelV x v->RelV y u->r x y H Q ->
  subscripted slice Ws v u=operate [v,u] (getItem v u)->YB (model X.prog X.w) X.A (subscriptTail value slice v u) (EP X aa Z Q) X.xe s
def MtR(X:Cx)(id:String)(r:V->List V->Hp->VK->Prop):Prop:=
 ∀(aa:List (Yj×Obj)) (s:Yb) (Z:St) (H:Hp) (x:V) (xs:List V) (v:Yk) (us:List Yk) (Q:VK),Inv X aa Z H s->RelV x v->Zt xs us->r x xs H Q ->
  YB (model X.prog X.w) X.A (call (.builtin id) (v::us)) (EP X aa Z Q) X.xe s
section
variable {X:Cx}{a b:Expr}{ta tb:TE}{pos:Pos}
def Zyb{r}(hr:IxR X r)(ha:PE X a ta)(hb:PE X b tb)(hs:Zkg b):PE X (.Subscript a b pos) (tOp r ta tb):=by intro e s Z H Q I h;exact Subscript_ (ZwZ ha hb I h λv u f x y H2 I2 c d q=>hr a b _ _ _ _ x y v u Q I2 c d q<|hs _ _)
def ZzV(K:Yl):R2:=λx y H Q=>∃p a i v,x=.ref p/\y=.int i/\SqL K H p a/\atI a i=J v/\Q v H
def ZzT(K:Yl):R2:=λx y H Q=>∃p a i v,x=.ref p/\y=.int i/\SqT K H p a/\atI a i=J v/\Q v H
def ZzU:R2:=λx y H Q=>∃z i c,x=.str z/\y=.int i/\z.length<=Yc/\atI z.cps.toList i=J c/\Q (.str ⟨#[c]⟩) H
def Zts:IxR X (ZzV X.K):=by
 intro a b E s Z H x y v u Q I l m h e;obtain⟨p,F,i,z,rfl,rfl,n,o,q⟩:=h;cases l;obtain⟨t,rfl⟩:=m;obtain⟨its,r,c,G⟩:=I.list n;obtain⟨j,R,A,J,B,C⟩:=Zke o;obtain⟨w,f,g⟩:=r.get A;have D:=r.length;have L:=ZcM;by_cases k:0<=i
 . have d:=by rw[seqIndex_of k C]at R;exact YF R
   exact item_listR c.isList k (by lia) (by rw[d];simpa using f) ⟨z,H,I,g,q⟩ e
 . have d:(i+(its.toArray.size)).toNat=j:=by rw[seqIndex_neg (by lia) B]at R;rw[Of,<-D];exact YF R
   exact subscriptTail_builtinR (x:=w) c.isList.typeIs slot_list_getitem.lookup
    (wpAny_getItem_list_neg (Q:=λr N=>r=w/\EP X _ _ Q r _) c.isList (by lia) (by simp_all) (by lia) (by rw[d];simpa using f) ⟨rfl,⟨z,H,I,g,q⟩⟩) e
def ZcP:IxR X (ZzT X.K):=by
 intro a b o s Z H x y v u Q I d e h f;obtain⟨p,A,i,z,rfl,rfl,g,k,q⟩:=h;cases d;obtain⟨t,rfl⟩:=e;obtain⟨its,r,c,B⟩:=I.tuple g;obtain⟨j,R,l,C,D,E⟩:=Zke k;obtain⟨w,m,n⟩:=r.get l;have F:=ZcM;exact subscriptTail_builtinR c.typeIs slot_tuple_getitem.lookup
  (getItem_tuple c (by lia) (by lia) (by rw[Of,<-r.length];trivial) (by simpa using m) ⟨rfl,⟨z,H,I,n,q⟩⟩) f
def Zwu:IxR X ZzU:=by
 intro a b o s Z H x y v u Q I d e h f;obtain⟨z,i,c,rfl,rfl,p,g,q⟩:=h;obtain⟨t,rfl⟩:=d;obtain⟨r,rfl⟩:=e;obtain⟨j,R,k,w,l,m⟩:=Zke g;have n:z.cps.toList.length=z.length:=rfl;rw[n]at R l m;have A:=ZcM;exact tail_any (typeIs_str s z t) slot_str_getitem.lookup (getItem_str (by lia) (by rw[R];simpa using k) ⟨.str _,H,I.tok _,⟨_,rfl⟩,q⟩) f
def Zl1(its:List _)(n j)(u):Obj.mapSeq (·.setIfInBounds j u) {cls:=.type "list",data:=.seq its.toArray n}={cls:=.type "list",data:=.seq (its.set j u).toArray n}:=by simp[Obj.mapSeq]
theorem Inv.lst(I:Inv X aa Z H s)(h:H p=J (.lst xs)):
 ∃(its:List _) (n:Nat),Zt xs its/\s.heap.get? p=J {cls:=.type "list",data:=.seq its.toArray n}/\xs.length<=Yc:=by
 obtain⟨z,its,n,r,e⟩:=I.hok p _ h;exact⟨_,n,r,e,z⟩
theorem Inv.lstUpd{aa}{Z:St}{H}{s}{p}{xs ys}{its bD:List _}{n n'}{f}(I:Inv X aa Z H s)(h:H p=J (.lst xs))
   (ho:s.heap.get? p=J {cls:=.type "list",data:=.seq its.toArray n}) (hf:f {cls:=.type "list",data:=.seq its.toArray n}={cls:=.type "list",data:=.seq bD.toArray n'}) (r:Zt ys bD) (hz:ys.length<=Yc) (t) :
   Inv X aa Z (upd H p<|.lst ys) {s with heap:=s.heap.update p f,toks:=t}:=I.write (by rw [h];trivial) (.inl rfl) (λb u a q=>(YN _ _<|YL a).I q) ⟨_,by
   rw [YU f ho (by rw [hf]<;>rfl),hf]⟩ ⟨hz,_,_,r,by
   rw [YU f ho (by rw [hf]<;>rfl),hf]⟩
def ZxX:V->V->V->Hp->(Hp->Prop)->Prop:=λo i v H Q=>∃p xs k j,o=.ref p/\i=.int k/\H p=J (.lst xs)/\ixN xs.length k=J j/\Q (upd H p<|.lst<|xs.set j v)
theorem set_list:Zt9 X ZxX:=by
 rintro aa s Z H o i v ov iv u Q I ro ri rv⟨p,xs,k,j,rfl,rfl,hp,hj,q⟩;cases ro;obtain⟨t,rfl⟩:=ri;obtain⟨its,n,r,ho,hz⟩:=I.lst hp;obtain⟨R,h2,h3,h4⟩:=Znx hj;have hn:=ZcM;have I' :=
   I.lstUpd hp ho (Zl1 _ n j u) (r.set rv j) (by simp_all) s.toks
 by_cases h0:0<=k
 . exact PySem.W.ki_setAt ho h0 (by lia) (by rw [Of,<-r.length];exact h4) (by
     rw [seqIndex_of h0 h4] at R;exact YF R▸⟨_,I',q⟩)
 . exact PySem.W.ki_setBack ho (by lia) (by rw [Of,<-r.length];exact h3) (by lia) (by
     rw [seqIndex_neg (by lia) h3] at R;rw [Of,<-r.length];exact YF R▸⟨_,I',q⟩)
def Zjq(lo hi)(n):(sliceBounds lo hi M n).1=(HT.sIx n 0 lo)/\(sliceBounds lo hi M n).2.1=(HT.sIx n n hi)/\(sliceBounds lo hi M n).2.2=1:=by
 refine⟨?_,?_,rfl⟩
 . cases lo with
   |none=>trivial
   |some i=>
    simp[sliceBounds,HT.sIx,if_true];by_cases h:i<0
    . simp only[h,if_true]<;>lia
    . simp only[h,if_false]<;>lia
 . cases hi with
   |none=>trivial
   |some i=>
    simp[sliceBounds,HT.sIx,if_true];by_cases h:i<0
    . simp only[h,if_true]<;>lia
    . simp only[h,if_false]<;>lia
def Ziz(its:List _)(lo hi):slicePick its.toArray lo hi M=((its.drop<|HT.sIx its.length 0 lo).take<|HT.sIx its.length its.length hi-HT.sIx its.length 0 lo).toArray:=by obtain⟨R,a,b⟩:=Zjq _ _ _;unfold slicePick;rw[R,a,b];simp only[sliceRange_one,pick_run]<;>rfl
def ZzR(K:Yl):V->Option Int->Option Int->Hp->VK->Prop:=λx c d H Q=>∃a b,x=.ref a/\SqL K H a b/\∀p,H p=M->Q (.ref p) (upd H p<|.lst<|ZoY b c d)
def Zsi:SlR X (ZzR X.K):=by rintro aa s Z H x v vl vu lo hi sl Q I rx hs pl pu⟨a,xs,rfl,hx,q⟩;cases rx;obtain⟨its,r,ht,hz⟩:=I.list hx;have al:=r.length;refine⟨_,_,slot_list_getitem.lookup,ht.isList.typeIs,wpAny_getItem_list_slice ht.isList hs pl pu .none (by simp) ?_<|by simp_all⟩;rw[Ziz,<-al];refine⟨.ref _,_,I.laid (λb ob q=>Od _ q) (Oq _) ?_,rfl,q _<|I.hok.fresh<|Oq _⟩;exact⟨OE (ZgZ _ _ _) hz,_,0,(r.drop _).take _,Oj _ rfl⟩
noncomputable def Zfd:V->Bool
 |.non=>Wr
 |.bl _=>Wr
 |.int _=>Wr
 |.str _=>Wr
 |_=>Ws
noncomputable def eqV:V->V->Bool
 |.non,.non=>Wr
 |.bl a,.bl b=>a==b
 |.bl a,.int b=>(if a then 1 else 0)==b
 |.int a,.bl b=>a==(if b then 1 else 0)
 |.int a,.int b=>a==b
 |.str a,.str b=>a==b
 |_,_=>Ws
def ZwT(ry:RelV y u)(rx:RelV x v)(fy:Zfd y=Wr)(fx:Zfd x=Wr):SeqAt.EqAt A s u v (eqV y x):=by
 cases y with
 |non=>
  cases ry;cases x with
  |non=>cases rx;exact SeqAt.EqAt.same _
  |bl b=>cases rx;exact SeqAt.EqAt.none_bool b
  |int b=>obtain⟨t,rfl⟩:=rx;exact SeqAt.EqAt.none_int b t
  |str b=>obtain⟨t,rfl⟩:=rx;exact SeqAt.EqAt.none_str b t
  |_=>exact absurd (show Ws=Wr from fx) Ow
 |bl a=>
  cases ry;cases x with
  |non=>cases rx;exact SeqAt.EqAt.bool_none a
  |bl b=>cases rx;exact SeqAt.EqAt.bool_bool a b
  |int b=>obtain⟨t,rfl⟩:=rx;exact SeqAt.EqAt.bool_int a b t
  |str b=>obtain⟨t,rfl⟩:=rx;exact SeqAt.EqAt.bool_str a b t
  |_=>exact absurd (show Ws=Wr from fx) Ow
 |int a=>
  obtain⟨t',rfl⟩:=ry;cases x with
  |non=>cases rx;exact SeqAt.EqAt.int_none a t'
  |bl b=>cases rx;exact SeqAt.EqAt.int_bool a t' b
  |int b=>obtain⟨t,rfl⟩:=rx;exact SeqAt.EqAt.int_int a t' b t
  |str b=>obtain⟨t,rfl⟩:=rx;exact SeqAt.EqAt.int_str a t' b t
  |_=>exact absurd (show Ws=Wr from fx) Ow
 |str a=>
  obtain⟨t',rfl⟩:=ry;cases x with
  |non=>cases rx;exact SeqAt.EqAt.str_none a t'
  |bl b=>cases rx;exact SeqAt.EqAt.str_bool a t' b
  |int b=>obtain⟨t,rfl⟩:=rx;exact SeqAt.EqAt.str_int a t' b t
  |str b=>obtain⟨t,rfl⟩:=rx;exact SeqAt.EqAt.str_str a t' b t
  |_=>exact absurd (show Ws=Wr from fx) Ow
 |_=>exact absurd (show Ws=Wr from fy) Ow
def eqU(x:V)(u:Yk):Bool:=match u with
 |.none=>eqV .non x
 |.bool b=>eqV (.bl b) x
 |.int i _=>eqV (.int i) x
 |.str z _=>eqV (.str z) x
 |_=>Ws
def Zrp(r:RelV y u)(f:Zfd y=Wr):eqU x u=eqV y x:=by
 cases y with
 |non=>cases r;rfl
 |bl b=>cases r;rfl
 |int i=>obtain⟨t,rfl⟩:=r;rfl
 |str z=>obtain⟨t,rfl⟩:=r;rfl
 |_=>trivial
theorem Zgk:∀{xs}{us},Zt xs us->xs.all Zfd=Wr->us.any (eqU x)=xs.any λy=>eqV y x
 |_,_,.nil,_=>rfl
 |y::xs,u::us,.cons r t,f=>by rw[List.all_cons,Oa]at f;rw[List.any_cons,List.any_cons,Zrp r f.1,Zgk t f.2]
theorem Zea(rx:RelV x v)(fx:Zfd x=Wr):∀{xs}{us},Zt xs us->xs.all Zfd=Wr->∀u∈us,SeqAt.EqAt A s u v (eqU x u)
 |_,_,.nil,_=>λu hu=>by trivial
 |y::xs,u::us,.cons r t,f=>λa hu=>by
  rw[List.all_cons,Oa]at f;rcases O3.mp hu with rfl|hu
  . rw[Zrp r f.1];exact ZwT r rx f.1 fx
  . exact Zea rx fx t f.2 _ hu
def inV(x:V)(xs:List V):Bool:=xs.any λy=>eqV y x
def rIn(K:Yl)(neg:Bool):R2:=λx y H Q=>∃p a,y=.ref p/\(SqL K H p a\/SqT K H p a)/\Zfd x=Wr/\a.all Zfd=Wr/\Q (.bl<|if neg then !inV x a else inV x a) H
def ZoD:OpR X (YM .In) (rIn X.K Ws):=by
 rintro aa s Z H x y v u Q I rx ry⟨p,xs,rfl,hq,fx,fs,q⟩;cases ry;rcases hq with hq|hq
 . obtain⟨its,r,pl,hz⟩:=I.list hq;refine SeqAt.in_listAt _ pl.isList (λw hw=>Zea rx fx r fs w<|by simp_all) ⟨.bl _,H,I,rfl,?_⟩;rw[show its.toArray.any _=its.any (eqU x) by simp,Zgk r fs];exact q
 . obtain⟨its,r,pl,hz⟩:=I.tuple hq;refine SeqAt.in_tupleAt _ pl (λw hw=>Zea rx fx r fs w<|by simp_all) ⟨.bl _,H,I,rfl,?_⟩;rw[show its.toArray.any _=its.any (eqU x) by simp,Zgk r fs];exact q
def ZjB:OpR X (YM .NotIn) (rIn X.K Wr):=by
 rintro aa s Z H x y v u Q I rx ry⟨p,xs,rfl,hq,fx,fs,q⟩;cases ry;rcases hq with hq|hq
 . obtain⟨its,r,pl,hz⟩:=I.list hq;refine SeqAt.notIn_listAt _ pl.isList (λw hw=>Zea rx fx r fs w<|by simp_all) ⟨.bl _,H,I,rfl,?_⟩;rw[show its.toArray.any _=its.any (eqU x) by simp,Zgk r fs];exact q
 . obtain⟨its,r,pl,hz⟩:=I.tuple hq;refine SeqAt.notIn_tupleAt _ pl (λw hw=>Zea rx fx r fs w<|by simp_all) ⟨.bl _,H,I,rfl,?_⟩;rw[show its.toArray.any _=its.any (eqU x) by simp,Zgk r fs];exact q
def Zj1:ZcH X (.builtin "len") (λxs H Q=>∃p ys,xs=[.ref p]/\(SqL X.K H p ys\/SqT X.K H p ys)/\Q (.int ys.length) H):=by
 rintro aa s Z H xs us Q I r⟨p,ys,rfl,hq,q⟩;obtain⟨u,rfl,rx⟩:=vals1 r;cases rx;have hn:=ZcM;rcases hq with hq|hq
 . obtain⟨its,r',pl,hz⟩:=I.list hq;have al:=r'.length;exact Calls.call_len_list pl.isList (by simp only[Of]<;>lia) ⟨.int _,H,I.tok _,⟨_,by rw[Of,al]⟩,q⟩
 . obtain⟨its,r',pl,hz⟩:=I.tuple hq;have al:=r'.length;exact len_tuple pl (by simp only[Of]<;>lia) ⟨.int _,H,I.tok _,⟨_,by rw[Of,al]⟩,q⟩
def Zj0:ZcH X (.builtin "len") (λxs H Q=>∃z,xs=[.str z]/\z.length<=Yc/\Q (.int z.length) H):=by rintro aa s Z H xs us Q I r⟨z,rfl,hz,q⟩;obtain⟨u,rfl,t,rfl⟩:=vals1 r;have hn:=ZcM;exact len_str (by lia) ⟨.int _,H,I.tok _,⟨_,rfl⟩,q⟩
def Zfi:ZcH X (.type "tuple") (λxs H Q=>∃p ys,xs=[.ref p]/\((SqL X.K H p ys/\∀l,H l=M->Q (.ref l) (upd H l<|.tup ys))\/(SqT X.K H p ys/\Q (.ref p) H))):=by
 rintro aa s Z H xs us Q I r⟨p,ys,rfl,h⟩;obtain⟨u,rfl,rx⟩:=vals1 r;cases rx;rcases h with⟨hq,q⟩|⟨hq,q⟩
 . obtain⟨its,r',pl,hz⟩:=I.list hq;have al:=r'.length;refine call_tuple_list pl.isList (λh' kp=>?_) (by simp_all);have I1:=I.kept (t':=s.toks) kp;exact⟨.ref _,_,I1.laid (t':=s.toks) (λb o e=>Od _ e) (Oq _)<|show ZaP _ _ _ _ _ (.tup _)from⟨hz,_,r',Zcs.fresh _ _⟩,rfl,q _<|I1.hok.fresh<|Oq _⟩
 . obtain⟨its,r',pl,hz⟩:=I.tuple hq;exact call_tuple_same pl ⟨.ref p,H,I,rfl,q⟩
def tyV(K:Yl)(T:String)(x:V)(H:Hp):Prop:=match x with
 |.str _=>T="str"
 |.int _=>T="int"
 |.ref p=>(T="list" /\ ∃b,SqL K H p b)\/(T="tuple" /\ ∃o,K.lookup p=J o/\o.cls=.type "tuple" /\ o.dict=M) \/
  (T="dict" /\ ((∃a,H p=J (.dK a))\/∃a,H p=J (.dT a)))\/(T="set" /\ ∃S_ n,H p=J (.set S_ n))
 |_=>False
def Zps(I:Inv X aa Z H s)(r:RelV x v)(ty:tyV X.K T x H):
 s.TypeIs v T/\∀a,v=.ref a->∃ob,s.heap.get? a=J ob/\ob.dict=M:=by
 cases x with
 |str z=>obtain⟨t,rfl⟩:=r;cases (ty);exact⟨typeIs_str s z t,λ_ e=>nomatch e⟩
 |int i=>obtain⟨t,rfl⟩:=r;cases (ty);exact⟨typeIs_int s i t,λ_ e=>nomatch e⟩
 |ref p=>
  cases r;rcases ty with⟨rfl,m,k⟩|⟨rfl,o,b,l,f⟩|⟨rfl,b⟩|⟨rfl,S_,n,b⟩
  . obtain⟨its,_,j,_⟩:=I.list k;refine⟨j.isList.typeIs,λa e=>?_⟩;cases e;obtain⟨o,n,e,c,f,_⟩:=j;exact⟨o,e,f⟩
  . refine⟨⟨o,I.kIn p o b,l⟩,λa e=>?_⟩;cases e;exact⟨o,I.kIn _ o b,f⟩
  . have z:∃o,s.heap.get? p=J o/\o.ExactDict:=by
     rcases b with⟨g,b⟩|⟨g,b⟩
     . obtain⟨_,_,_,_,o,_,_,e,d,_⟩:=I.hok p _ b;exact⟨o,e,d⟩
     . obtain⟨_,_,o,_,_,e,d,_⟩:=I.hok p _ b;exact⟨o,e,d⟩
    obtain⟨o,e,d⟩:=z;refine⟨⟨o,e,d.1⟩,λa h=>?_⟩;cases h;exact⟨o,e,d.2.1⟩
  . obtain⟨o,_,_,_,e,d,_⟩:=I.hok p _ b;refine⟨⟨o,e,d.1⟩,λa h=>?_⟩;cases h;exact⟨o,e,d.2.1⟩
 |_=>exact False.elim ty
noncomputable def ZzE(K:Yl)(T:String)(r:V->List V->Hp->VK->Prop)(to:TE):TE:=λZ H Q=>to Z H λx H1=>tyV K T x H1/\r x [] H1 Q
noncomputable def tBM(K:Yl)(T:String)(r:V->List V->Hp->VK->Prop)(to:TE)(t:TA):TE:=λZ H Q=>to Z H λx H1=>tyV K T x H1/\t Z H1 λa H2=>r x a H2 Q
variable {o e:Expr}{es:List Expr}{to:TE}{t:TA}{name:Str}{au aq:Pos}{T id:String}{r:V->List V->Hp->VK->Prop}
def ZvW(pa:PlainAttrs T)(slot:Slot T name id)(iB:typeOf (.builtin id)=pure (.type "method_descriptor"))(hm:MtR X id r)(ho:PE X o to)
 (aM:attributeBase o name X.env (eval o X.env)=eval o X.env:=by rfl) (aJ:(au.endLine==aq.line)=Wr:=by rfl):PE X (.Call (.Attribute o name au) [] [] aq) (ZzE X.K T r to):=by
 intro f s Z H Q I h;refine wpAny_Call_method0_late aM aJ<|thn (ho _ s _ H _ I h) λv g b=>?_;obtain⟨x,H1,I1,a,c,d⟩:=b;obtain⟨R,e⟩:=Zps I1 a c;exact⟨T,_,pa,slot,iB,R,e,Calls.callWith_builtin rfl<|PySem.evalArgs_none<|hm _ _ _ _ x _ v [] Q I1 a .nil d⟩
def Zyc(pa:PlainAttrs T)(slot:Slot T name id)(iB:typeOf (.builtin id)=pure (.type "method_descriptor"))(hm:MtR X id r)(ho:PE X o to)(ha:PA X (e::es) t)
 (aM:attributeBase o name X.env (eval o X.env)=eval o X.env:=by rfl)
 (dL:((YR aq<|YA (e::es) X.env).all (λx=>!x.1)&&(backToKw aq<|YZ [] X.env).all (λx=>x.1.isSome)
  && Wu ((e::es).length+([]:List Keyword).length+(if ([]:List Keyword).isEmpty then 0 else 1)<30))=Wr:=by rfl)
 (aJ:(au.endLine==aq.line)=Wr:=by rfl) (hs:YA (e::es) X.env=(Ws,eval e X.env)::YA es X.env:=by rfl) (iJ:(YR aq<|YA es X.env).any (·.1)=Ws:=by rfl) :
 PE X (.Call (.Attribute o name au) (e::es) [] aq) (tBM X.K T r to t):=by
 intro d s Z H Q I h;refine wpAny_Call_method_late aM dL aJ rfl<|thn (ho _ s _ H _ I h) λv p a=>?_;obtain⟨x,H1,I1,b,f,g⟩:=a;obtain⟨R,i⟩:=Zps I1 b f;refine⟨T,_,pa,slot,iB,R,i,?_⟩;have c:=ha aq _ _ _ _ _ I1 g;rw[hs]at c ⊢;exact Calls.callWith_builtin (by trivial) (Calls.evalArgs_plain (thn c λj k a=>by obtain⟨l,H2,I2,m,n⟩:=a;exact hm d k Z H2 x l v j Q I2 b m n))
end
def MtM(X:Cx)(id:String)(r:V->List V->Hp->VK->Prop):Prop:=
 ∀(aa:List (Yj×Obj)) (s:Yb) (Z:St) (H:Hp) (x:V) (xs:List V) (v:Yk) (us:List Yk) (Q:VK),Inv X aa Z H s->RelV x v->Zt xs us->r x xs H Q ->
  YB (model X.prog X.w) X.A (call (.builtin id) (v::us)) (EP X aa Z Q) X.xe s
def Zt.one:∀{x}{us},Zt [x] us->∃u,us=[u]/\RelV x u
 |_,_,.cons r .nil=>⟨_,rfl,r⟩
def Zt.zero:∀{us},Zt [] us->us=[]
 |_,.nil=>rfl
theorem Zt.dropLast(h:Zt xs us):Zt xs.dropLast us.dropLast:=by
 induction h with
 |nil=>exact .nil
 |cons r t a=>
  cases t with
  |nil=>trivial
  |cons q b=>exact .cons r a
theorem Zt.reverse(h:Zt xs us):Zt xs.reverse us.reverse:=by
 induction h with
 |nil=>exact .nil
 |cons r t a=>rw[List.reverse_cons,List.reverse_cons];exact Zt.append a (.cons r .nil)
section
variable {X:Cx}{aa:List (Yj×Obj)}{Z:St}{H:Hp}{s:Yb}{l:Yj}{xs ys:List V}
def Inv.lset{its bD:List _}{n}{f}{t'}(I:Inv X aa Z H s)(hH:H l=J (.lst xs))
 (e:s.heap.get? l=J {cls:=.type "list",data:=.seq its.toArray n}) (hf:f its.toArray=bD.toArray) (hv:Zt ys bD) (hz:ys.length<=Yc) :
 Inv X aa Z (upd H l<|.lst ys) {s with heap:=s.heap.update l<|Obj.mapSeq f,toks:=t'}:=by
 have q:=PySem.IsL.update e f;rw[hf]at q;exact I.write (by rw[hH];trivial) (.inl rfl) (λc u a b=>(YN _ _<|YL a).I b) ⟨_,q⟩ ⟨hz,_,_,hv,q⟩
def Inv.lnew(I:Inv X aa Z H s)(hv:Zt ys its)(hz:ys.length<=Yc):
 Inv X aa Z (upd H s.heap.objs.size<|.lst ys) {s with heap:=s.heap.push {cls:=.type "list",data:=.seq its.toArray},toks:=t'}:=
 I.laid (λ_ _ q=>Od _ q) (Oq _) ⟨hz,_,0,hv,Oj _ rfl⟩
theorem Inv.fresh(I:Inv X aa Z H s):H s.heap.objs.size=M:=I.hok.fresh (Oq _)
def Inv.lstM(I:Inv X aa Z H s)(hH:H l=J (.lst xs)):xs.length<=Yc/\∃(its:List _) (n:Nat),Zt xs its/\xs.length=its.length/\s.heap.get? l=J {cls:=.type "list",data:=.seq its.toArray n}:=by obtain⟨z,its,n,r,e⟩:=I.hok l _ hH;exact⟨z,_,n,r,r.length,e⟩
def ZkC{n}(h:n<=Yc):Wm n=Ws:=decide_eq_false (by lia)
end
section
variable {X:Cx}
def Zsy:V->List V->Hp->VK->Prop:=λx a H Q=>∃l xs y,x=.ref l/\a=[y]/\H l=J (.lst xs)/\xs.length<Yc/\Q .non (upd H l<|.lst<|xs++[y])
def ZiV:MtM X "list.append" Zsy:=by
 rintro aa s Z H x vs v us Q I rx rv⟨l,xs,y,rfl,rfl,hH,hz,q⟩;cases rx;obtain⟨u,rfl,ru⟩:=rv.one;obtain⟨z,its,n,r,hl,e⟩:=I.lstM hH;refine call_meets F.slot_list_append ⟨_,e,rfl⟩ F.entry_list_append (F.args_list_append_2 _ _) (PySem.list_append l _ n u<|by simp_all) ⟨e,⟨.non,_,I.lset hH e (by simp) (r.append<|.cons ru .nil) ?_,rfl,q⟩⟩;rw[OA,List.length_singleton]
 lia
def Zsx:V->List V->Hp->VK->Prop:=λx c H Q=>∃l b xs a,x=.ref l/\c=[.ref b]/\H l=J (.lst xs)/\H b=J (.lst a)/\xs.length+a.length<=Yc/\Q .non (upd H l<|.lst<|xs++a)
theorem ZoH:MtM X "list.extend" Zsx:=by
 rintro aa s Z H x vs v us Q I rx rv⟨l,b,xs,zs,rfl,rfl,hH,hB,hz,q⟩;cases rx;obtain⟨u,rfl,ru⟩:=rv.one;cases ru;obtain⟨z,its,n,r,hl,e⟩:=I.lstM hH;obtain⟨z2,bp,n2,r2,bM,e2⟩:=I.lstM hB;have bq:its.toArray.size+bp.toArray.size<=Yc:=by simp_all
 refine call_meets F.slot_list_extend ⟨_,e,rfl⟩ F.entry_list_extend (F.args_list_extend_2 _ _)
   (AutoSeq1.list_extend_list_list_0 l _ n b _ _ (by
   rw [ZkC bq];simp) (by simp_all) (by lia)) ⟨e,e2,⟨.non,_,I.lset hH e (by simp) (r.append r2) ?_,rfl,q⟩⟩
 simp_all
def ZzS:V->List V->Hp->VK->Prop:=λx b H Q=>∃l a y,x=.ref l/\b=[]/\H l=J (.lst a)/\a[a.length-1]?=J y/\Q y (upd H l<|.lst a.dropLast)
def Zwc:MtM X "list.pop" ZzS:=by
 rintro aa s Z H x vs v us Q I rx rv⟨l,xs,y,rfl,rfl,hH,hy,q⟩;cases rx;have fI:=rv.zero;subst fI;obtain⟨z,its,n,r,hl,e⟩:=I.lstM hH;obtain⟨u,hu,ru⟩:=r.get hy;refine call_meets F.slot_list_pop ⟨_,e,rfl⟩ F.entry_list_pop (F.args_list_pop_1 _) (MeetsSeq.list_pop_last l _ n u (by simp_all)<|by simp_all) ⟨e,⟨y,_,I.lset hH e ?_ r.dropLast ?_,ru,q⟩⟩
 . simp
 . rw[List.length_dropLast]
   lia
def Zp5:V->List V->Hp->VK->Prop:=λx b H Q=>∃l a,x=.ref l/\b=[]/\H l=J (.lst a)/\Q .non (upd H l<|.lst a.reverse)
def ZlZ:MtM X "list.reverse" Zp5:=by
 rintro aa s Z H x vs v us Q I rx rv⟨l,xs,rfl,rfl,hH,q⟩;cases rx;have fI:=rv.zero;subst fI;obtain⟨z,its,n,r,hl,e⟩:=I.lstM hH;refine call_meets F.slot_list_reverse ⟨_,e,rfl⟩ F.entry_list_reverse (F.args_list_reverse_1 _) (AutoSeq1.list_reverse_list_0 l _ n<|by simp_all) ⟨e,⟨.non,_,I.lset hH e (by simp) r.reverse ?_,rfl,q⟩⟩
 simp_all
def Zvz:V->List V->Hp->VK->Prop:=λx a H Q=>∃l b,x=.ref l/\a=[]/\H l=J (.lst b)/\Q .non (upd H l<|.lst [])
def ZqK:MtM X "list.clear" Zvz:=by rintro aa s Z H x vs v us Q I rx rv⟨l,xs,rfl,rfl,hH,q⟩;cases rx;have fI:=rv.zero;subst fI;obtain⟨z,its,n,r,hl,e⟩:=I.lstM hH;exact call_meets F.slot_list_clear ⟨_,e,rfl⟩ F.entry_list_clear (F.args_list_clear_1 _) (AutoSeq1.list_clear_list_0 l _ n<|by simp_all) ⟨e,⟨.non,_,I.lset hH e rfl .nil<|Yy _,rfl,q⟩⟩
def ZzX:R2:=λx y H Q=>∃l b xs a,x=.ref l/\y=.ref b/\H l=J (.lst xs)/\H b=J (.lst a)/\xs.length+a.length<=Yc/\∀p,H p=M->Q (.ref p) (upd H p<|.lst<|xs++a)
def Zv3:OpR X (binaryOp .Add) ZzX:=by
 rintro aa s Z H x y v u Q I rx ry⟨l,b,xs,zs,rfl,rfl,hH,hB,hz,q⟩;cases rx;cases ry;obtain⟨z,its,n,r,hl,e⟩:=I.lstM hH;obtain⟨z2,bp,n2,r2,bM,e2⟩:=I.lstM hB;refine PySem.P.add_list e e2 ?_ (by simp_all);have ea:its.toArray++bp.toArray=(its++bp).toArray:=by simp
 rw[ea];exact⟨.ref _,_,I.lnew (r.append r2)<|by simp_all,rfl,q _ I.fresh⟩
end
end L2
namespace Att
open PySem PySem.W PySem.Calls PyProof.Rows
def Zg9:∀(ns) (vs),WellAll P h vs (ns.map WData.int)->IntsAre vs ns:=by
 intro ns;induction ns with
 |nil=>intro vs w;cases w;exact .nil
 |cons n ns c=>
  intro vs w;cases w with
  |cons a b=>cases a;exact .cons _ _ (c _ b)
theorem Zog{l:OpenLaw}{n}(hn:l.most=J n){P}{h}{args}{bA}
   (cI:l.row.toRowW.claim.pre args=Wr) (iw:WellAll P h bA args) :
   ∃ a vs ns,bA=[YD a]/\args=[WData.list<|ns.map WData.int]/\h.get? a=J {cls:=.type "list",data:=.seq vs.toArray}/\IntsAre vs ns/\ns.length<=n:=by
 obtain⟨d,r,rfl,R,h2⟩:=hasAllW_cons (pre_splitW cI).1;obtain rfl:=hasAllW_nil h2;obtain⟨xs,rfl,h3⟩:=hasW_list R;obtain⟨ns,rfl⟩:=items_int h3;cases iw with
 |cons w1 w2 =>
   cases w2;cases w1 with
   |list ho aY=>exact⟨_,_,_,rfl,rfl,ho,Zg9 _ _ aY,by
   have h5:=condW_of (by
     have h4:=(holds_andW (pre_splitW cI).2).1;rw [hn] at h4;exact h4) (w_not<|w_lt w_lit<|w_len_list<|w_arg rfl)
   simp_all⟩
def Zou(l:OpenLaw)(args):l.row.toRowW.claim.post args (.bool Wr) args=Wr:=
 postW_of
  (rfl)
  (w_eq_bool (w_res rfl) w_lit) rfl
def Zlm{l:OpenLaw}{n}{q}{be}{XP}{YP}{d}
 (hn:l.most=J n) (fW:d.params.defaults=[])
 (call:∀(w) (s₀ s₁) (mg mb) (fa) (o) (pm cd a7) (a) (vs) (ns),
  Ground q be [] XP w s₀ mg mb s₁.heap->YP w s₁.heap ->
  s₁.heap.get? fa=J o->o.data=.func (docDef d.name d.params d.body d.scope pm cd a7)->s₁.heap.CodeRec cd d.name->mg d.name=J (.ref fa) ->
  s₁.heap.get? a=J {cls:=.type "list",data:=.seq vs.toArray}->IntsAre vs ns->ns.length<=n->s₁.gens=#[] ->
  codeAny (model l.prog w) callerA (.call (.ref fa) ⟨[.ref a],[]⟩) (λr s'=>r=.ok (.ret<|.bool Wr)/\OldK s₁.heap s'.heap/\s'.os=s₁.os/\AllBare s'.gens) s₁) :
 WalkO q be XP YP l.row.toRowW d [] (λf vs=>PySem.call f vs):=by
 intro w s₀ s₁ mg mb G Y fa o pm cd a7 c kV e g h b i j args A as k B C m D;obtain rfl:c=.none:=Dflts.none b fW;obtain rfl:kV=.none:=Dflts.noKw b;obtain⟨a,vs,ns,rfl,rfl,p,s,t⟩:=Zog hn k m;refine enter_call<|codeAny_mono (call w _ _ _ _ _ o _ _ _ a _ _ G Y e (fd_plain g) h i p s t j) λr s' u=>?_;obtain⟨rfl,v,x,y⟩:=u;exact⟨.inl ⟨_,_,_,rfl,λ_=>rfl,.bool _,Zou l _,λ_=>⟨List.Pairwise.nil,λ_ z=>(nomatch z)⟩⟩,v,x,y⟩
end Att
namespace L2
open PySem PySem.Spec PyProof.Rows
theorem Zgl:∀{vs}{ns},IntsAre vs ns->Zt (ns.map V.int) vs
 |_,_,.nil=>.nil
 |_,_,.cons n t h=>.cons ⟨t,rfl⟩ (Zgl h)
def Zua(H:Hp):Prop:=∀b,H b=M\/∃o a,H b=J (.frz o<|.lst a)
theorem ZqX{P}{w}{K:Yl}{mg mb:Str->Option _}{CX}{k}{fa a}{fd}{x}{sp}{s₁:Yb}{vs:List _}{ns:List _}
   (KX:K.In s₁.heap) (cR:s₁.heap.Ns Ye mg) (hb:s₁.heap.Ns builtinsNs mb) (iZ:∀ x:Str,x ≠ "__name__" -> mb x=bootBuiltins x) (iP:s₁.heap.NoLimit) (hg:s₁.gens=#[])
   (ha:s₁.heap.get? a=J {cls:=.type "list",data:=.seq vs.toArray}) (hi:IntsAre vs ns) (hl:ns.length<=Yc) (hr:Room k callerA)
   (F:∀ base:YG,K.In base->base.Ns Ye mg->FnOk P w K mg base CX k fa fd [x] sp) (fY:∀ (s) (u),BindsTo s fd ⟨[u],[]⟩ [(x,u)])
   (bK:∀ H:Hp,Zua H->SqL K H a (ns.map V.int)->sp [.ref a] H (λv _=>v=.bl Wr) λ_ _ _=>False)
   (i8:∀ H e s',CX [] H s₁ (λ_ _ _=>False) e s'->False) :
   codeAny (model P w) callerA (.call (.ref fa) ⟨[.ref a],[]⟩) (λr s'=>r=.ok (.ret<|.bool Wr)/\OldK s₁.heap s'.heap/\s'.os=s₁.os/\AllBare s'.gens) s₁:=by
 have ge:∀ H ,Zua H->SqL K H a (ns.map V.int)->HOk P w H s₁.heap->(∀ b,H b≠M->b=a)->(H a≠M->K.lookup a=M) ->
     codeAny (model P w) callerA (.call (.ref fa) ⟨[.ref a],[]⟩) (λr s'=>r=.ok (.ret<|.bool Wr)/\OldK s₁.heap s'.heap/\s'.os=s₁.os/\AllBare s'.gens) s₁:=by
   intro H hO hS hok hA hK;have fB:∀ {b:Yj}{o:Obj}{es:Array DictEntry}{ep:Nat},s₁.heap.get? b=J o->o.data=.dict es ep->H b=M:=λ{b o es ep} e d=>by
     cases q:H b with
     |none=>rfl
     |some u =>
       have e':b=a:=hA b (by rw [q];simp);subst e';rw [ha] at e;cases e;cases d
   have gA:∀ {b:Yj}{m:Str->Option Yk},s₁.heap.Ns b m->(ZoR s₁.heap H).Ns b m:=λ{b m} z9=>by obtain⟨o,es,ep,e,d,r⟩:=z9;exact⟨o,es,ep,(λe n=>ZkM e n) e<|fB e d,d,r⟩
   have jI:K.In (ZoR s₁.heap H):=λb o e=>(λe n=>ZkM e n) (KX b o e) (by
     cases q:H b with
     |none=>rfl
     |some u =>
       have e':b=a:=hA b (by rw [q];simp);subst e';rw [hK (by rw [q];simp)] at e;cases e)
   refine codeAny_mono ((F _ jI<|gA cR).run callerA [] s₁ H ⟨[.ref a],[]⟩ [.ref a] [.ref a] _ _ hr ⟨rfl,⟨jI,gA cR,⟨mb,gA hb,iZ⟩,let⟨mc,R,h2⟩:=iP;⟨mc,gA R,h2⟩⟩,λb o e=>Zta e,Nat.le_of_eq<|ZoQ _ _,trivial,λb hb=>absurd (show b∈([]) from hb)<|by simp,hok,.of_eq hg⟩ (fY s₁<|.ref a) (.cons rfl .nil)<|bK H hO hS) λr s' h=>?_;cases r with
   |error e=>exact(i8 H e s' h).elim
   |ok fl =>
     cases fl with
     |next=>exact False.elim h
     |brk=>exact False.elim h
     |cont=>exact False.elim h
     |ret u =>
       obtain⟨v,H',os,bare,un,iK,r',q⟩:=h;cases q;obtain rfl:u=Value.bool Wr:=r';refine⟨rfl,OldK.of_keep λb o e=>?_,os,bare⟩;cases q:H b with
       |none=>exact un.keep b o e q (by intro z;exact absurd (show b∈([]) from z)<|by simp) (by simp)
       |some u =>
         rcases hO b with z|⟨ob,xs,z⟩
         . rw [q] at z;cases z
         . obtain⟨e1,_⟩:=hok b _ z;obtain⟨e2,_⟩:=iK b _<|un.frzs b ob _ z;rw [e] at e1;cases e1;exact e2
 cases hk:K.lookup a with
 |some o =>
   have e:=KX a o hk;rw [ha] at e;cases e;refine ge (λ_=>M) (λ_=>.inl rfl) (.inr ⟨_,vs.toArray,_,hk,rfl,rfl,rfl,by rw [Of,hi.length];exact hl,by simpa using Zgl hi⟩) (λb u z=>by cases z) (λb z=>absurd rfl z) λz=>absurd rfl z
 |none =>
   refine ge (λb=>if b=a then J (.frz {cls:=.type "list",data:=.seq vs.toArray}<|.lst<|ns.map V.int) else M) (λb=>?_) (.inl<|.inr ⟨{cls:=.type "list",data:=.seq vs.toArray},if_pos rfl⟩) (λb u z=>?_) (λb z=>?_) λ_=>hk
   . by_cases hb:b=a
     . exact .inr ⟨_,_,if_pos hb⟩
     . exact .inl (if_neg hb)
   . by_cases hb:b=a
     . have z':=(if_pos hb).symm.I z;cases z';subst hb;exact⟨ha,by rw [Yu];exact hl,vs,_,Zgl hi,ha⟩
     . have z':=(if_neg hb).symm.I z;cases z'
   . by_cases hb:b=a
     . exact hb
     . exact absurd (if_neg hb) z
def Zr2{l:PySem.W.OpenLaw}{n k}{q}{be:List _}{XP:(Str->Option _)->YG->Prop}{YP:Yh->YG->Prop}{d:DefRec}{K:Params->Yl}{CX:Yh->CXT}{sp:Yh->Sp}{x}
 (hn:l.most=J n) (gG:n<=Yc) (fW:d.params.defaults=[]) (hr:Room k callerA)
 (hY:∀(w) (h),YP w h->(K w.params).In h)
 (F:∀(w) (mg:Str->Option _) (fa) (h),(K w.params).In h->h.Ns Ye mg->mg d.name=J (.ref fa) ->
  ∃fd:FuncData,(∀(s) (u),BindsTo s fd ⟨[u],[]⟩ [(x,u)]) /\
   ∀base:YG,(K w.params).In base->base.Ns Ye mg->FnOk l.prog w (K w.params) mg base (CX w) k fa fd [x] (sp w))
 (bK:∀(w) (H) (a) (ns:List _),ns.length<=n->Zua H->SqL (K w.params) H a (ns.map V.int)->sp w [.ref a] H (λv _=>v=.bl Wr) λ_ _ _=>False)
 (i8:∀(w) (H) (s) (e) (s'),CX w [] H s (λ_ _ _=>False) e s'->False) :
 PySem.W.WalkO q be XP YP l.row.toRowW d [] (λf vs=>PySem.call f vs):=by
 refine Att.Zlm hn fW λw A B mg C fa o D cd E a vs ns G Y I L N i j m c p=>?_;obtain⟨fd,r,t⟩:=F w _ _ _ (hY w _ Y) G.T.g i;exact ZqX (hY w _ Y) G.T.g G.T.b G.T.builtins G.T.nolimit p j m (OE c gG) hr t r (λH y z=>bK w H a _ c y z) λH e s'=>i8 w H _ e _
noncomputable def inClass(s:Stmt)(j:Nat):Stmt:=match s with
 |.ClassDef _ _ _ a _ _ _ _ _ _ _=>a.getD j (.Pass ⟨0,0,0,0⟩)
 |_=>.Pass ⟨0,0,0,0⟩
noncomputable def ZeX(s:Stmt):Arguments:=match s with
 |.FunctionDef _ a _ _ _ _ _ _ _ _=>a
 |_=>{posonlyargs:=[],args:=[],vararg:=M,kwonlyargs:=[],kw_defaults:=[],kwarg:=M,defaults:=[]}
noncomputable def ZcA(s:Stmt):List Stmt:=match s with
 |.FunctionDef _ _ b _ _ _ _ _ _ _=>b
 |_=>[]
def Z5(s:Stmt):Scope:=match s with
 |.FunctionDef _ _ _ _ _ _ a _ _ _=>a
 |_=>{kind:=.function,names:=[],isGenerator:=false,isCoroutine:=false}
noncomputable abbrev E0:XK:=λ_ _ _=>False
structure Fun(K:Yl)(x aj:Str)(st:Stmt)(f:Yj)(fd:FuncData):Prop where
 ex:∃(oc:Yk) (od:Option Yj) (kV a7 pm:Yk) (an:Option Yj) (aQ ct:Yk) (b8:Array (Option Yk)),
  fd=PySem.W.fnOf x aj (ZeX st) (ZcA st) (Z5 st) .none kV a7 pm an aQ ct/\K.lookup f=J ⟨oc,od,.func fd,b8⟩/\PySem.W.codeIn K aQ aj=Wr
 kp:Wb K (.ref f)=Wr
section
variable {K:Yl}
def Fun.binds{x aj}{st}{f}{fd}{ps}(F:Fun K x aj st f fd)
 (h:∀(kV a7 pm) (an) (aQ ct) (us),us.length=ps.length->bindArgs (PySem.W.fnOf x aj (ZeX st) (ZcA st) (Z5 st) .none kV a7 pm an aQ ct) ⟨us,[]⟩=pure (ps.zip us)):Binds K fd ps []:=by
 obtain⟨a,b,kV,a7,pm,an,aQ,ct,c,rfl,d,e⟩:=F.ex;exact .all (h _ _ _ _ _ _)
def Zrh{x aj}{st}{f}{oc}{od an}{b8}{kV a7 pm aQ ct}(l:K.lookup f=J ⟨oc,od,.func<|PySem.W.fnOf x aj (ZeX st) (ZcA st) (Z5 st) .none kV a7 pm an aQ ct,b8⟩)
 (c:PySem.W.codeIn K aQ aj=Wr) (k:Wb K (.ref f)=Wr):Fun K x aj st f (PySem.W.fnOf x aj (ZeX st) (ZcA st) (Z5 st) .none kV a7 pm an aQ ct):=⟨⟨_,_,_,_,_,_,_,_,_,rfl,l,c⟩,k⟩
end
def Zl9{A B_:Prop}(h:B_):if Ws=Wr then A else B_:=by trivial
def Zl8{A B_:Prop}(h:A):if Wr=Wr then A else B_:=by trivial
set_option tactic.hygienic false
section
variable {κ:Type}[DecidableEq κ]
def ZfC(kvs:List (κ×V))(k:κ):Option V:=(kvs.find? λkv=>Wu<|kv.1=k).map (·.2)
def putK(kvs:List (κ×V))(k:κ)(v:V):List (κ×V):=if (kvs.any λkv=>Wu<|kv.1=k)=Wr then kvs.map (λkv=>if kv.1=k then(kv.1,v)else kv)else kvs++[(k,v)]
def Zpm{p}{r}{k:κ}(e:p.1=k):ZfC (p::r) k=J p.2:=by simp[ZfC,e]
def Zpn{p}{r}{k:κ}(e:¬ p.1=k):ZfC (p::r) k=ZfC r k:=by simp[ZfC,e]
def ZgO(kvs)(k:κ)(v):(putK kvs k v).length<=kvs.length+1:=by
 unfold putK;split
 . simp
 simp
def ZgL.isSome_eq{o}{u}(r:ZgL o u):o.isSome=u.isSome:=by
 cases o with
 |none=>cases u with
  |none=>rfl
  |some _=>trivial
 |some _=>cases u with
  |none=>trivial
  |some _=>rfl
def KV.val{kvs}{vs}(r:KV kvs vs)(k:κ):ZgL (ZfC kvs k) (valueAt vs k):=by
 induction r with
 |nil=>trivial
 |@cons p q d a h t f=>
  obtain⟨R,g⟩:=h;by_cases e:p.1=k
  . have c:=R.symm.I e;have b:valueAt (q::a) k=J q.2:=by simp[valueAt,c]
    rw[Zpm e,b];trivial
  . have c:¬ q.1=k:=λz=>e<|R.I z;have b:valueAt (q::a) k=valueAt a k:=by simp[valueAt,c]
    rw[Zpn e,b];trivial
theorem KV.any{kvs}{vs}(r:KV kvs vs)(k:κ):(kvs.any λkv=>Wu<|kv.1=k)=vs.any λkv=>Wu (kv.1=k):=by
 induction r with
 |nil=>rfl
 |cons h t a=>simp_all
def KV.repl{kvs}{vs}(r:KV kvs vs)(k:κ){y}{u}(ry:RelV y u):
 KV (kvs.map λkv=>if kv.1=k then(kv.1,y)else kv) (vs.map λkv=>if kv.1=k then(kv.1,u)else kv):=by
 induction r with
 |nil=>exact .nil
 |@cons p q b c h t a=>
  refine .cons ?_ a;by_cases e:p.1=k
  . simp_all
  simp_all
def KV.put{kvs}{vs}(r:KV kvs vs)(k:κ){y}{u}(ry:RelV y u):KV (putK kvs k y) (stored vs k u):=by
 unfold putK stored;rw[r.any k];by_cases e:(vs.any λkv=>Wu<|kv.1=k)=Wr
 . rw[if_pos e,if_pos e];exact r.repl k ry
 . rw[if_neg e,if_neg e];exact Paired.snoc r ⟨rfl,ry⟩
theorem KV.length(r:KV kvs vs):kvs.length=vs.length:=Paired.length r
end
def ZkL(r:RelV (kV k) u):(ZV P w).is k u=Wr:=by
 cases k with
 |inl i=>obtain⟨t,e⟩:=(r);subst e;exact ZkG P w i t
 |inr x=>obtain⟨t,e⟩:=(r);subst e;exact ZkF P w x t
section
variable {P:Yi}{w:Yh}{H:Hp}{h:YG}{a:Yj}
def ZxN(ok:HOk P w H h)(e:Rd H a u):ZaP P w H h a u:=e.ok ok
def ZuE(ok:HOk P w H h)(e:Rd H a (.dK kvs)):kvs.length<=Yc/\(a==Yf)=Ws/\∃vs,KV kvs vs/\h.DictOf (ZV P w) a vs:=ZxN ok e
def ZuF(ok:HOk P w H h)(e:H a=J (.dK kvs)):kvs.length<=Yc/\(a==Yf)=Ws/\∃vs,KV kvs vs/\h.DictOf (ZV P w) a vs:=ZuE ok (.inl e)
end
section
variable {X:Cx}{aa:List (Yj×Obj)}{Z:St}{H:Hp}{s:Yb}{a:Yj}
def Inv.big(I:Inv X aa Z H s):Yf<s.heap.objs.size:=Nat.lt_trans (by decide) (I.mod.glob.keeps I.bk).lt
def ZnI(I:Inv X aa Z H s)(mu:Mut (H a))(hs:Heap.SameBut a s.heap h')(he:∃q,h'.get? a=J q)(new:ZaP X.prog X.w (upd H a ob) h' a ob):
 Inv X aa Z (upd H a ob) {s with heap:=h',toks:=t'}:=
 I.write mu (.inl rfl) (λb q c z=>(hs.2 b c).I z) he new
def Zrs(z:kvs.length<=Yc)(hd:(a==Yf)=Ws)(rel:KV kvs vs)(dd:h'.DictOf (ZV P w) a vs):
 ZaP P w H' h' a (.dK kvs):=⟨z,hd,_,rel,dd⟩
end
def ZkY(h:YG)(hb:Yf<h.objs.size):ZaP P w H (h.push {cls:=.type "dict",data:=.dict #[]}) h.objs.size (.dK []):=⟨Yy _,beq_eq_false_iff_ne.mpr<|YL<|Ou hb,_,.nil,Heap.DictOf.new h⟩
def Zva:TE:=λ_ H Q=>∀p,H p=M->Q (.ref p) (upd H p<|.dK [])
section
variable {X:Cx}{pos:Pos}
def Zqs:PE X (.Dict [] [] pos) Zva:=λa s Z H Q I h=>wpAny_Dict_empty ⟨.ref _,_,I.laid (λ_ _ q=>Od _ q) (Oq _)<|ZkY _ I.big,rfl,h _<|I.hok.fresh<|Oq _⟩
end
def Zjp:List (TE×TE)->St->Hp->(List (V×V)->Hp->Prop)->Prop
 |[],_,H,Q=>Q [] H
 |(a,tv)::r,Z,H,Q=>a Z H λx H1=>tv Z H1 λy H2=>Zjp r Z H2 λb H3=>Q ((x,y)::b) H3
abbrev VV:List (V×V)->List (Yk×Yk)->Prop:=Paired λp q=>RelV p.1 q.1/\RelV p.2 q.2
def PPs(X:Cx)(pos:Pos)(keys:List (Option Expr))(values:List Expr)(trs:List (TE×TE)):Prop:=
 ∀(aa:List (Yj×Obj)) (s:Yb) (Z:St) (H:Hp) (Q:List (V×V)->Hp->Prop),Inv X aa Z H s->Zjp trs Z H Q ->
  YB (model X.prog X.w) X.A (evalPairs<|pairTrees keys values X.env pos) (λvs s'=>∃ps H',Inv X aa Z H' s'/\VV ps vs/\Q ps H') X.xe s
def ZsF:PPs X pos [] [] []:=λa s Z H Q I h=>pairTrees_nil_walk ⟨_,H,I,.nil,h⟩
def Zqh(hk:PE X k tk)(hv:PE X v tv)(hr:PPs X pos ks vs trs):
 PPs X pos (J k::ks) (v::vs) ((tk,tv)::trs):=λi s Z H Q I h=>
 pairTrees_cons_walk (thn (hk _ s _ H _ I h) λu j ⟨x,H1,I1,c,d⟩=>thn (hv _ _ _ _ _ I1 d) λl m a=>by obtain⟨y,H2,I2,e,f⟩:=a;exact thn (hr _ _ _ _ _ I2 f) λn o a=>by obtain⟨p,H3,I3,b,g⟩:=a;exact⟨_,_,I3,.cons ⟨c,e⟩ b,g⟩)
def ZhH(kvs more:List (Key×V)):List (Key×V):=more.foldl (λa kv=>putK a kv.1 kv.2) kvs
theorem KV.merge:∀ {more}{rs}{kvs}{vs},KV more rs->KV kvs vs->KV (ZhH kvs more) (merged vs rs):=by
 intro more rs kvs vs r;induction r generalizing kvs vs with
 |nil=>intro q;exact q
 |@cons p q c d h t a =>
   intro b;exact a (by
     have:=b.put p.1 h.2
     simp_all)
theorem Zfb:∀(more kvs),(ZhH kvs more).length<=kvs.length+more.length
 |[],kvs=>by show kvs.length<=kvs.length+0;lia
 |p::r,kvs=>by have R:=Zfb r<|putK kvs p.1 p.2;have a:=ZgO kvs p.1 p.2;show(ZhH _ r).length<=_;rw[Os];lia
theorem Zij:∀{kvs}{ws},VV (kvs.map λkv=>(kV kv.1,kv.2)) ws->∃rs,Carries (ZV P w) ws rs/\KV kvs rs
 |[],_,r=>by cases r;exact⟨[],True.intro,.nil⟩
 |p::kvs,_,r=>by
  cases r with
  |@cons a b as bs h t=>obtain⟨rs,c,q⟩:=Zij (P:=P) (w:=w) t;exact⟨(p.1,b.2)::rs,⟨ZkL h.1,rfl,c⟩,.cons ⟨rfl,h.2⟩ q⟩
def ZxC(trs:List (TE×TE)):TE:=λZ H Q=>∀p,H p=M->Zjp trs Z (upd H p<|.dK []) λb H2=>H2 p=J (.dK [])/\∃a:List (Key×V),b=a.map (λkv=>(kV kv.1,kv.2))/\a.length<=15/\Q (.ref p) (upd H2 p<|.dK<|ZhH [] a)
theorem ZsQ(h:PPs X pos keys values trs)(aY:keys.all (·.isSome)=Wr)(hl:keys.length=values.length)(h0:keys≠[])
   (i9:keys.length<=15):PE X (.Dict keys values pos) (ZxC trs):=by
 intro p s Z H Q I q;refine wpAny_Dict_walk (knd:=ZV _ _) aY hl h0 i9<|thn (h _ _ _ _ _ (I.laid (t':=s.toks) (λ_ _ q=>Od _ q) (Oq _)<|ZkY _ I.big)<|q _<|I.hok.fresh<|Oq _) λr t f=>?_;obtain⟨u,H2,I2,a,e,b,g,v,i⟩:=f;subst g;obtain⟨w,c,j⟩:=Zij a;obtain⟨z,k,x,l,m⟩:=ZuF I2.hok e;cases l;exact⟨_,c,m,λy d n=>⟨.ref _,_,ZnI I2 (by rw [e];trivial) n (let⟨q,_,_,o,_⟩:=d;⟨q,o⟩) (Zrs (by
   have R:=Zfb b [];rw [List.length_nil] at R;rw [YC];lia) k (j.merge .nil) d),rfl,i⟩⟩
set_option tactic.hygienic true
theorem Zeb{env:Env}:∀(names:List (Str×NameKind)) (x),
 (names.map λ(n,k)=>if (k==Yo&&env.scope.kind==.function&&env.kindOf n==J .cell)then(n,NameKind.cell)else(n,k)).lookup x =
  (names.lookup x).map λk=>if (k==Yo&&env.scope.kind==.function&&env.kindOf x==J .cell)then NameKind.cell else k
 |[],_=>rfl
 |(n,k)::r,x=>by
  have ih:=@Zeb env r x;show Wh x ((if (k==Yo&&env.scope.kind==.function&&env.kindOf n==J _)=Wr then(n,NameKind.cell)else(n,k))::_)=_;cases hx:x==n with
  |true=>
   have e:=by simpa using hx
   subst e;by_cases hc:(k==Yo&&env.scope.kind==.function&&env.kindOf x==J .cell)=Wr
   . rw[if_pos hc];simp only[OF,hx,Yv,if_pos hc]
   . rw[if_neg hc];simp only[OF,hx,Yv,if_neg hc]
  |false=>
   by_cases hc:(k==Yo&&env.scope.kind==.function&&env.kindOf n==J .cell)=Wr
   . rw[if_pos hc];simp only[OF,hx];exact ih
   . rw[if_neg hc];simp only[OF,hx];exact ih
noncomputable def ZgG(env:Env):List (Str×NameKind)->List (Str×Yj)->List (Str×Yj)
 |[],a=>a
 |(n,k)::r,a=>ZgG env r (if (k==.free)=Wr then(n,(env.cells.lookup n).getD 0)::a else a)
theorem Zk5{env}:∀(l) (cs),(∀y∈l,y.2=.free->∃c,env.cells.lookup y.1=J c) ->
 (∀x c,(x,c)∈cs->env.cells.lookup x=J c)->∀x c,(x,c)∈ZgG env l cs->env.cells.lookup x=J c
 |[],cs,_,h2,x,c,hm=>h2 x c hm
 |(n,k)::r,cs,R,h2,x,c,hm=>by
  refine Zk5 r _ (λy hy=>R y<|Oh _ hy) (λx c hm=>?_) x c hm;by_cases hk:(k==Yo)=Wr
  . rw[if_pos hk]at hm;rcases O3.mp hm with e|hm
    . cases e;obtain⟨c,e⟩:=R _ Oi (by simp_all);rw[e];rfl
    . exact h2 x c hm
  . rw[if_neg hk]at hm;exact h2 x c hm
theorem Zi7:∀(l) (cs) (p),p∈cs->p∈ZgG env l cs
 |[],_,_,h=>h
 |(n,k)::r,cs,p,h=>by
  refine Zi7 r _ p ?_;by_cases hk:(k==Yo)=Wr
  . rw[if_pos hk];simp_all
  . rw[if_neg hk];exact h
theorem Zk6:∀(l) (cs) (y),y∈l->y.2=.free->∃c,(y.1,c)∈ZgG env l cs
 |(n,k)::r,cs,y,h,a=>by
  rcases O3.mp h with e|h
  . refine⟨(env.cells.lookup n).getD 0,Zi7 r _ _ ?_⟩
    simp_all
  . exact Zk6 r _ y h a
theorem Zfa:∀{l:List (Str×α)}{x}{c},(x,c)∈l->∃c',l.lookup x=J c'/\(x,c')∈l
 |(n,d)::r,x,c,h=>by
  cases a:x==n with
  |true=>simp_all
  |false=>
   rcases O3.mp h with e|h
   . simp_all
   . obtain⟨c',R,b⟩:=Zfa h;exact⟨_,by simp[OF,a];trivial,Oh _ b⟩
def ZiC(h:∀y∈scope.names,y.2=.free->∃c,env.cells.lookup y.1=J c):closureFor scope env=pure (ZgG env scope.names []):=by
 have all:∀(l) (cs),(∀y∈l,y.2=.free->∃c,env.cells.lookup y.1=J c) ->
  (forIn l cs λx r=>match x with|(name,kind)=>if (kind==Yo)=Wr then(do let a <- cellOf env name;pure<|ForInStep.yield ((name,a)::r))else pure (ForInStep.yield r):Sem _)=pure (ZgG env l cs):=by
  intro l;induction l with
  |nil=>intro cs _;rfl
  |cons y r ih=>
   intro cs hl;rw[List.forIn_cons];have hr:=λcs=>ih cs λy hy=>hl y<|Oh _ hy;by_cases hk:(y.2==Yo)=Wr
   . obtain⟨c,e⟩:=hl (y.1,y.2) Oi (by simp_all)
     have ec:cellOf env y.1=pure c:=by unfold cellOf;rw[e]
     simp only[hk,if_true,ec];show(forIn r ((y.1,c)::cs) _:Sem _)=_;rw[hr];show _=pure (ZgG env r (if (y.2==Yo)=Wr then(y.1,(env.cells.lookup y.1).getD 0)::cs else cs));rw[if_pos hk,e];rfl
   . simp only[hk];show(forIn r cs _:Sem _)=_;rw[hr];show _=pure (ZgG env r (if (y.2==Yo)=Wr then(y.1,(env.cells.lookup y.1).getD 0)::cs else cs));rw[if_neg hk]
 unfold closureFor;have z:=all scope.names [] h;dsimp only at z ⊢;rw[z];rfl
set_option tactic.hygienic false
def Zk2(I:Nat->Yb->Prop)
 (turn:∀n s,I n s->YB (model prog w) A (pyNext it) (λr s₁=>match r with
  |none=>qe (.ok .next) s₁
  |some v=>YB (model prog w) A (letOwnedTupleGo target it v) (λ_ s₁'=>YB (model prog w) A (assign target env v) (λ_ s₂=>
   YB (model prog w) A (forIn bf Wr λc r=>if r=Wr then do let ok <- isTrue c env (eval c env);pure (ForInStep.yield ok)else pure (ForInStep.yield r)) (λok s₃=>
    if ok=Wr then YB (model prog w) A (eval aE env) (λx s₄=>YB (model prog w) A (call (.builtin "list.append") [ag,x]) (λ_ s₅=>∃m,m<n/\I m s₅) (notedBy (model prog w) A env λe s'=>qe (.error e) s') s₄) (notedBy (model prog w) A env λe s'=>qe (.error e) s') s₃
    else ∃m,m<n/\I m s₃) (notedBy (model prog w) A env λe s'=>qe (.error e) s') s₂) (notedBy (model prog w) A env λe s'=>qe (.error e) s') s₁') (notedBy (model prog w) A env λe s'=>qe (.error e) s') s₁) (notedBy (model prog w) A env λe s'=>qe (.error e) s') s)
 (n) (h:I n s) :
 codeAny (model prog w) A (.compLoop (.ListComp aE [⟨target,iter,bf,0⟩] scope pos) 0 it ag env) qe s:=by
 refine codeAny_loop rfl I (λn s g=>wpAny_noted ?_) n h;rw[compTurn_list];refine Ya<|wpAny_standAt<|Ya<|Yg (turn n s g) (λr s₁ d=>?_) λ_ _ a=>a;cases r with
 |none=>exact Yd d
 |some v=>
  refine Ya<|Yg d (λ_ s₁' b=>Ya<|Yg b (λ_ s₂ i=>Ya<|Yg i (λok s₃ f=>?_) λ_ _ a=>a) λ_ _ a=>a) λ_ _ a=>a;cases ok with
  |false=>exact Yd ⟨rfl,f⟩
  |true=>exact Ya (Ya<|Yg f (λx s₄ j=>Ya<|Yg j (λ_ s₅ k=>Yd<|Yd ⟨rfl,k⟩) λ_ _ a=>a) λ_ _ a=>a)
structure CompSc(NC N:List Str)(js:List (Option Nat))(sc scope:Scope):Prop where
 kind:scope.kind=.function
 dkind:sc.kind=.function
 nocell:∀y∈scope.names,y.2≠.cell
 locs:∀y∈scope.names,y.2=.local->scope.names.lookup y.1=J .local
 free:∀y∈scope.names,y.2=.free->sc.names.lookup y.1=J .cell
 nd:NC.Nodup
 len:js.length=NC.length
 jok:((NC.zip js).all λp=>p.2.all λj=>Wu (N[j]?=J p.1)&&Wu (scope.names.lookup p.1=J .free))=Wr
theorem CompSc.at{NC N}{js}(S_:CompSc NC N js sc scope){i j:Nat}{x}(R:NC[i]?=J x)(h2:js[i]?=J (J j)):N[j]?=J x/\scope.names.lookup x=J .free:=by
 have h:=S_.jok;rw[OC]at h;have a:(x,J j)∈NC.zip js:=by refine O1 (i:=i) ?_;rw[List.getElem?_zip_eq_some];trivial
 have q:=h _ a;simp at q;exact q
def capt(js:List (Option Nat))(Z:St):St:=js.map λo=>o.bind λj=>(Z[j]?).join
def ZF(X:Cx)(NC:List Str)(scope:Scope)(C:Yj)(s3:Yb)(H3:Hp)(fp:List Yj):Cx:={X with N:=NC,s₀:=s3,H₀:=H3,env:=compEnvC scope (ZgG X.env scope.names []) C X.env,outer:=X.stack,stack:=X.stack,ex:=fp,fn:=λ_=>Ws,calm:=true,pn:=[],xe:=λ_ _=>False}
def ZmK(k:Nat)(g:TG):Prop:=∀x Z H Q,g x Z H Q->g x Z H λσ2 H2=>Q σ2 H2/\σ2.length=Z.length/\∀j,k<=j->σ2[j]?=Z[j]?
def Zlp(k:Nat)(g:TGs):Prop:=∀x Z H Q,g x Z H Q->g x Z H λσ2 H2=>Q σ2 H2/\σ2.length=Z.length/\∀j,k<=j->σ2[j]?=Z[j]?
def Zsa(h:i<k):ZmK k (ZbW i):=λx Z H Q q=>⟨q,List.length_set,λj a=>by rw[Oc<|by lia]⟩
def ZmT:Zlp k ZoT:=λx Z H Q q=>⟨q.1,q.2,rfl,λ_ _=>rfl⟩
def Zhp(h:i<k)(hu:Zlp k u):Zlp k (ZfX (ZbW i) u):=by
 rintro xs Z H Q ⟨v,r,e,q⟩;refine⟨v,r,e,?_⟩;have e2:∀j,k<=j->(Z.set i<|J v)[j]?=Z[j]? := λj hj=>Oc (by lia);have e3:(λσ2 H2=>Q σ2 H2/\σ2.length=Z.length/\∀j,k<=j->σ2[j]?=Z[j]?)=(λσ2 H2=>Q σ2 H2/\σ2.length=(Z.set i<|J v).length/\∀j,k<=j->σ2[j]?=(Z.set i<|J v)[j]?):=by simp_all
 rw[e3];exact hu r _ H Q q
def Zpy{K}(hu:Zlp k u):ZmK k (ZtD K n u):=by rintro x Z H Q ⟨a,xs,e,R,h2,q⟩;exact⟨a,_,e,R,h2,hu _ _ H Q q⟩
def PIf(X:Cx)(bf:List Expr)(t:TT):Prop:=
 ∀(aa:List (Yj×Obj)) (s:Yb) (Z:St) (H:Hp) (Q:Bool->Hp->Prop),Inv X aa Z H s->t Z H Q ->
  YB (model X.prog X.w) X.A (forIn bf Wr λc r=>if r=Wr then do let ok <- isTrue c X.env (eval c X.env);pure (ForInStep.yield ok)else pure (ForInStep.yield r)) (TP X aa Z Q) X.xe s
noncomputable def Zzr:TT:=λ_ H Q=>Q Wr H
def ZsJ{X}:PIf X [] Zzr:=λ_ _ _ H _ I h=>wpAny_tests_nil ⟨H,I,h⟩
def ZsI{X}{c}{t}(hc:PT X c t):PIf X [c] t:=λa s Z H Q I h=>wpAny_tests_one (hc _ s _ H Q I h)
def ZpD(wi:TI)(js:List (Option Nat))(g:TG)(tc:TT)(te:TE):TE:=λZ H Q=>wi Z H λc H1=>∀D,H1 D=M->∃W:Nat->Nat->List V->Hp->Prop,(∃m,W 0 m []<|upd H1 D<|.lst []) /\
 ∀i m ys H,W i m ys H->H D=J (.lst ys)->(c.stop i H/\Q (.ref D) H) \/
  (c.go i H/\ys.length<Yc/\∀x H',c.yld i H x H'->g x (capt js Z) H' λσ2 H2=>tc σ2 H2 λb H3=>
   if b=Wr then te σ2 H3 λy H4=>H4 D=J (.lst ys)/\∃a,a<m/\W (i+1) a (ys++[y]) (upd H4 D<|.lst<|ys++[y])
   else H3 D=J (.lst ys)/\∃a,a<m/\W (i+1) a ys H3)
section
variable {X:Cx}{aa:List (Yj×Obj)}{Z:St}{H:Hp}{s:Yb}
def Zrd{NC}{js}{sc scope}{C:Yj}{h4}{tk}{fp}{m}(S_:CompSc NC X.N js sc scope)(bH:X.env.scope=sc)(hc:X.calm=Wr)
 (I:Inv X aa Z H s) (f:∀b∈fp,ZeI X aa H b) (fo:∀b∈fp,∃o,s.heap.get? b=J o) (hC:C=s.heap.objs.size) (cR:h4.Ns C m) (hk:∀b o,s.heap.get? b=J o->h4.get? b=J o) :
 Inv (ZF X NC scope C s H fp) [] (capt js Z) H {s with heap:=h4,toks:=tk}:=by
 have eX:∀x c,(ZgG _ _ _).lookup x=J c->X.env.cells.lookup x=J c:=λx c e=>Zk5 _ [] (λy hy hf=>I.ok.has _<|.inl (show X.env.scope.names.lookup _=J _ by rw[bH];exact S_.free y hy hf)) (λ_ _ z=>by cases z) x c<|YI e;have jS:∀y∈scope.names,y.2=.free->∃c,(ZgG _ _ _).lookup _=J c:=λy hy hf=>by obtain⟨c,hm⟩:=Zk6 (env:=X.env) _ [] y hy hf;obtain⟨c',e,_⟩:=Zfa hm;exact⟨_,e⟩
 have kinds:∀x,(ZF X NC _ C s H fp).env.kindOf x=(scope.names.lookup x).map _:=λx=>Zeb _ x;have f8:∀x,scope.names.lookup x=J _->(ZF X _ _ C s H _).env.kindOf x=J .cell:=λx e=>by
  rw[kinds,e];have R:X.env.kindOf x=J .cell:=show X.env.scope.names.lookup x=J .cell by rw[bH];exact S_.free (x,.free) (YI e) rfl
  simp only[Yv,R,I.ok.kind];rfl
 have flt:∀b∈fp,b<s.heap.objs.size:=λb hb=>let⟨o,e⟩:=fo b hb;Yn e;refine⟨⟨I.ok.mod,S_.kind,I.ok.glob,I.ok.blt,Nat.le_of_eq hC.symm,λx y c R h2=>I.ok.inj x y c (eX x c R)<|eX y c h2,λx hx=>?_,λx c hf _=>absurd (show Ws=Wr from hf) Ow,λ_=>I.ok.hd hc,I.ok.frames,.inl rfl,λb hb=>⟨?_,λx c e=>(f b hb).2.2.2.2.1 x c<|eX x c e⟩,
  I.bs,OE I.ok.bsz I.sz,λb o e hb=>?_,λb hb hm=>?_,I.stack,I.stkFree⟩,
  rfl,I.bare,Un.kept hk,⟨m,cR,λi x v R h2 h3=>?_⟩,λx c e=>?_,?_,λx c e=>I.freeC x c<|eX x c e,λp hp=>absurd (show p∈([])from hp)<|by simp,I.hok.kept hk,?_⟩
 . rw[kinds]at hx;cases e:scope.names.lookup x with
   |none=>rw[e]at hx;rcases hx with hx|hx<;>cases hx
   |some k=>
    rw[e]at hx;have hm:=YI e;exact jS (x,k) hm (by
     by_cases hf:(k==Yo)=Wr
     . cases k<;>first|rfl|(exact absurd hf<|by decide)
     . simp only[Yv,Bool.eq_false_iff.mpr hf,Bool.false_and,OG,if_false]at hx;rcases hx with hx|hx
       . exact absurd (YF hx) (S_.nocell _ hm)
       . exact YF hx)
 . show b≠C;rw[hC];exact Ou (flt b hb)
 . obtain⟨_,_,_,f3,_⟩:=f b hb;rcases f3 with z|z
   . exact I.ok.noex b o e z
   . exact absurd (Ot (Yn e)<|OE I.ok.bsz z) (Yw _)
 . obtain⟨_,f1,f2,_⟩:=f b hb;exact(O3.mp<|I.stkSub b hm).elim f1 f2
 . have hj:∃j,js[i]?=J (J j)/\Z[j]?=J (J v):=by
    unfold capt at h2;rw[O2]at h2;cases e:js[i]? with
    |none=>rw[e]at h2;cases h2
    |some o=>
     rw[e]at h2;cases o with
     |none=>cases YF h2
     |some j=>
      refine⟨j,rfl,?_⟩;have f7:(Z[j]?).join=J v:=YF h2;cases q:Z[j]? with
      |none=>rw[q]at f7;cases f7
      |some r=>rw[q]at f7;rw[show r=J v from f7]
   obtain⟨j,hj,hσ⟩:=hj;obtain⟨hN,fQ⟩:=S_.at (show NC[i]?=J x from R) hj;have aL:X.env.scope.names.lookup x=J .cell:=bH▸S_.free (x,.free) (YI fQ) rfl;obtain⟨m0,_,hl⟩:=I.loc;obtain⟨u,r,l⟩:=hl j x v hN hσ<|.inr<|.inl aL;refine⟨u,r,?_⟩;rcases l with⟨k,_⟩|⟨_,c,e,z⟩
   . rw[show X.env.kindOf x=J .cell from aL]at k;cases k
   . obtain⟨c',e'⟩:=jS (x,.free) (YI fQ) rfl;have ec:=eX x c' e';rw[e]at ec;cases ec;obtain⟨o,ho,hd⟩:=z;exact .inr ⟨.inl<|f8 x fQ,c,e',o,hk _ _ ho,hd⟩
 . obtain⟨v,o,ho,hd⟩:=I.cell x c<|eX x c e;exact⟨v,o,hk _ _ ho,hd⟩
 . show H C=M;rw[hC];exact I.hok.fresh (Oq _)
 . unfold capt;rw[Yu];exact S_.len
end
section
variable {X:Cx}{aE tg iter:Expr}{bf:List Expr}{scope sc:Scope}{pos:Pos}{NC:List Str}{js:List (Option Nat)}{k:Nat}{wi:TI}{g:TG}{tc:TT}{te:TE}
def Inv.comp_out{aa}{Z σ':St}{H3 H'}{s3 s1}{C:Yj}{fp}{h''}(I3:Inv X aa Z H3 s3)(f:∀b∈fp,ZeI X aa H3 b)(hC:C=s3.heap.objs.size)
 (I':Inv (ZF X NC scope C s3 H3 fp) [] σ' H' s1) (hs:Heap.SameBut C s1.heap h''):Inv X aa Z H' {s1 with heap:=h''}:=by
 have ne:∀b o,s3.heap.get? b=J o->b≠C:=λb o e=>hC▸Ou (Yn e);have u:=I'.base;refine I3.call' (ch:=fp) I'.os ⟨λb o e n a d=>(hs.2 b<|ne b o e).I<|u.keep b o e n a d,λb o e n a d=>?_,u.free,λb o e d=>?_,u.tups,u.frzs,u.tbls⟩ ?_ I'.bare λb a=>?_
 . obtain⟨g,q⟩:=u.slot b o e n a d;exact⟨_,(hs.2 b<|ne b o e).I q⟩
 . obtain⟨h,q⟩:=u.there b o e d;exact⟨_,(hs.2 b<|ne b o e).I q⟩
 . have i:H' C=M:=I'.free;intro b j e;refine(I'.hok b _ e).stay (λc k l q=>(hs.2 c ?_).I q) (λ_ q=>q) λ_ _ q=>q
   lia
 . obtain⟨_,m,_,p,r,s⟩:=f b a;trivial
def ZoZ{aa}{Z}{H3}{s3 s4}{C Dd it}{fp}{tn}{qb}{W:Nat->Nat->List V->Hp->Prop}{Q:VK}{m0}{post}
 (hb:∀(C) (s3) (H3) (fp),PG (ZF X NC scope C s3 H3 fp) tg g/\PIf (ZF X NC scope C s3 H3 fp) bf tc/\PE (ZF X NC scope C s3 H3 fp) aE te)
 (hk:ZmK k g) (dI:∀j,j<k->js[j]?=J M) (hC:C=s3.heap.objs.size) (f3:∀b∈fp,ZeI X aa H3 b) (gL:∀b∈fp,∃o,s3.heap.get? b=J o) (I4:Inv (ZF X NC scope C s3 H3 fp) [] (capt js Z) H3 s4) (T:Turn X.prog X.w X.K tg qb fp it tn) (gu:tn 0 s4.heap) (lN:H3 Dd=J (.lst [])) (w0:W 0 m0 [] H3)
 (turn:∀i m ys H,W i m ys H->H Dd=J (.lst ys)->(qb.stop i H/\Q (.ref Dd) H)\/(qb.go i H/\ys.length<Yc/\∀x H',qb.yld i H x H'->g x (capt js Z) H' λσ2 H2=>tc σ2 H2 λb H3=>if b=Wr then te σ2 H3 λy H4=>H4 Dd=J (.lst ys)/\∃m',m'<m/\W (i+1) m' (ys++[y]) (upd H4 Dd<|.lst<|ys++[y])else H3 Dd=J (.lst ys)/\∃m',m'<m/\W (i+1) m' ys H3))
 (gZ:∀s6 H5,Inv (ZF X NC scope C s3 H3 fp) [] (capt js Z) H5 s6->Q (.ref Dd) H5->post (.ok .next) s6) :
 codeAny (model X.prog X.w) X.A (.compLoop (.ListComp aE [⟨tg,iter,bf,0⟩] scope pos) 0 (.ref it) (.ref Dd)<|compEnvC scope (ZgG X.env scope.names []) C X.env) post s4:=by
 have bB:∀{H':Hp},(∀b∈fp,H' b=M)->∀b∈fp,ZeI (ZF X NC scope C s3 H3 fp) [] H' b:=λhn b hb=>⟨hn b hb,(hC▸Ou (let⟨o,e⟩:=gL b hb;Yn e)),λhm=>I4.ok.exfs b hb hm,.inl hb,λx c e=>(I4.ok.exf b hb).2 x c e,λp hp=>absurd (show p∈([])from hp)<|by simp⟩
 refine Zk2 (λn s'=>∃i ys H',Inv (ZF X NC scope C s3 H3 fp) [] (capt js Z) H' s'/\tn i s'.heap/\(∀b∈fp,H' b=M)/\H' Dd=J (.lst ys)/\W i n ys H') ?_ m0
  ⟨0,[],_,I4,gu,λb hb=>(f3 b hb).1,lN,w0⟩
 rintro n s5 ⟨i,ys,H5,I5,eL,gK,lM,w5⟩;rcases turn i n ys H5 w5 lM with⟨stop,qn⟩|⟨go,al,step⟩
 . refine Yg (T.done (ZF X NC scope C s3 H3 fp) rfl rfl rfl rfl i [] s5 (capt js Z) H5 (λ_ _=>False) I5 (bB gK) eL stop) (λr s6 ⟨hr,I6⟩=>?_) λ_ _ z=>z.elim;subst hr;exact gZ s6 H5 I6 qn
 . refine Yg (T.item (ZF X NC scope C s3 H3 fp) rfl rfl rfl rfl i [] s5 (capt js Z) H5 (λ_ _=>False) I5 (bB gK) eL go) (λr s6 ⟨u,hr,h6⟩=>?_) λ_ _ z=>z.elim;subst hr;refine Yg h6 (λ_ s7 z9=>?_) λ_ _ z=>z.elim;obtain⟨x,H7,I7,r7,y7,g6,lP⟩:=z9;obtain⟨pg,ka,pe⟩:=hb C s3 H3 fp;refine Yg (pg _ s7 (capt js Z) H7 x u _ (I7.pinned (bB lP)<|T.obj _ _ g6) r7<|hk _ _ _ _<|step x H7 y7) (λ_ s8 z9=>?_) λ_ _ z=>z.elim;obtain⟨σ8,H8,I8,q8,l8,k8⟩:=z9;have back:∀{H9:Hp}{s9:Yb},Inv (ZF X NC scope C s3 H3 fp) ([]++ZhE fp s7.heap) σ8 H9 s9 ->
    Inv (ZF X NC scope C s3 H3 fp) [] (capt js Z) H9 s9/\tn (i+1) s9.heap/\∀b∈fp,H9 b=M:=λ{H9 s9} I9=>by
    refine⟨(I9.unpinned).weak l8.symm λj v e=>?_,T.keep _ _ _ g6 λb hb o e=>(I9.pin (b,o)<|Ov _<|Ov _<|Zdo hb e).1,λb hb=>?_⟩
    . by_cases hj:j<k
      . unfold capt at e;rw[O2,dI j hj]at e;cases e
      . rw[k8 j<|Nat.le_of_not_lt hj];exact e
    . obtain⟨o,e,d⟩:=T.obj _ _ g6 b hb;exact(I9.pin (b,o)<|Ov _<|Ov _<|Zdo hb e).2.1
   refine Yg (ka _ s8 σ8 H8 _ I8 q8) (λok s9 z9=>?_) λ_ _ z=>z.elim;obtain⟨H9,I9,q9⟩:=z9;cases ok with
   |false=>rw[if_neg Ow]at q9 ⊢;obtain⟨lL,m',hm,w9⟩:=q9;obtain⟨b1,b2,b3⟩:=back I9;exact⟨m',hm,i+1,ys,H9,b1,b2,b3,lL,w9⟩
   |true=>
    rw[if_pos rfl]at q9 ⊢;refine Yg (pe _ s9 σ8 H9 _ I9 q9) (λy j4 z9=>?_) λ_ _ z=>z.elim;obtain⟨v,jX,mh,j7,i7,m',hm,j0⟩:=z9;refine Yg (ZiV (X:=ZF X NC scope C s3 H3 fp) _ j4 σ8 jX (.ref Dd) [v] (.ref Dd) [y]
     (λ_ jW=>jW=upd jX Dd (.lst<|ys++[v])) mh rfl (.cons j7 .nil) ⟨_,ys,v,rfl,rfl,i7,al,rfl⟩) (λ_ mq z9=>?_) λ_ _ z=>z.elim
    obtain⟨_,jW,mf,_,lV⟩:=z9;subst lV;obtain⟨b1,b2,b3⟩:=back mf;exact⟨m',hm,i+1,ys++[v],_,b1,b2,b3,Zr,j0⟩
def Zk1{U}{Q0}{Q}{aa}{Z:St}{H}{s}(S_:CompSc NC X.N js sc scope)(bH:X.env.scope=sc)(hc:X.calm=Wr)(hi:PI X tg iter wi)
 (hb:∀(C) (s3) (H3) (fp),PG (ZF X NC scope C s3 H3 fp) tg g/\PIf (ZF X NC scope C s3 H3 fp) bf tc/\PE (ZF X NC scope C s3 H3 fp) aE te)
 (hk:ZmK k g) (dI:∀j,j<k->js[j]?=J M) (hs:∀x,foldedSetIterable iter X.env x=pure x) (I:Inv X aa Z H s) (h:ZpD wi js g tc te Z H Q)
 (gZ:∀C Dd (s3 s6:Yb) H3 H5 fp,C=s3.heap.objs.size->Inv X aa Z H3 s3->(∀b∈fp,ZeI X aa H3 b)->Inv (ZF X NC scope C s3 H3 fp) [] (capt js Z) H5 s6->Q (.ref Dd) H5->compPost (model X.prog X.w) X.A X.xe U Q0 (.ref Dd) C (.ok .next) s6) :
 YB (model X.prog X.w) X.A (comprehension (.ListComp aE [⟨tg,iter,bf,0⟩] scope pos) scope X.env posn (newList []) Ws (eval iter X.env) U) Q0 X.xe s:=by
 refine wpAny_comprehension_free rfl hs (ZiC λy hy hf=>I.ok.has y.1<|.inl (show X.env.scope.names.lookup y.1=J .cell by rw[bH];exact S_.free y hy hf)) S_.kind S_.locs<|thn (hi aa s Z H _ I h) λxv s1 R=>thn R λiq s2 h2=>?_;obtain⟨it,fp,tn,qb,H2,e,I2,T,bZ,f2,rest⟩:=h2;subst e;obtain⟨W,⟨m0,w0⟩,turn⟩:=rest s2.heap.objs.size<|I2.hok.fresh<|Oq _;refine Yr (wpAny_newFunctionEnv S_.nocell (by intro y hy;simp at hy) (λh4 cR iF=>?_) S_.kind);have I3:Inv X aa Z (upd H2 s2.heap.objs.size<|.lst []) {s2 with heap:=s2.heap.push {cls:=.type "list",dict:=M,data:=.seq ([]).toArray}}:=I2.lnew (t':=s2.toks) (ys:=[]) (its:=[]) .nil<|Yy _;dsimp only at cR iF ⊢;generalize hs3:({s2 with heap:=s2.heap.push {cls:=.type "list",dict:=M,data:=.seq ([]).toArray}})=s3 at I3;have eh:s2.heap.push {cls:=.type "list",dict:=M,data:=.seq ([]).toArray}=s3.heap:=by rw[<-hs3]
 have eD:s2.heap.objs.size<s3.heap.objs.size:=by rw[<-eh,Heap.size_push];exact OH _
 rw[eh]at cR iF;have keep:∀b o,s3.heap.get? b=J o->h4.get? b=J o:=λb o e=>(iF.2 b<|Ou<|Yn e).I<|Od _ e;have gL:∀b∈fp,∃o,s3.heap.get? b=J o:=λb hb=>by obtain⟨o,e,_⟩:=T.obj 0 _ bZ b hb;exact⟨o,eh▸Od _ e⟩
 have ku:∀b∈fp,b≠s2.heap.objs.size:=λb hb=>by obtain⟨o,e,_⟩:=T.obj 0 _ bZ b hb;exact Ou (Yn e)
 have f3:∀b∈fp,ZeI X aa (upd H2 s2.heap.objs.size<|.lst []) b:=λb hb=>⟨(Zq<|ku b hb).I<|(f2 b hb).1,(f2 b hb).2⟩
 have gu:tn 0 h4:=T.keep 0 _ _ bZ λb hb o e=>keep b o<|eh▸Od _ e;have eC:(s2.heap.push {cls:=.type "list",dict:=M,data:=.seq ([]).toArray}).objs.size=s3.heap.objs.size:=by rw[eh]
 have loop:∀s4:Yb,s4={s3 with heap:=h4,toks:=s2.toks+([]:List (Str×Yk)).length} ->
  codeAny (model X.prog X.w) X.A (.compLoop (.ListComp aE [⟨tg,iter,bf,0⟩] scope pos) 0 (.ref it) (.ref s2.heap.objs.size)<|compEnvC scope (ZgG X.env scope.names []) s3.heap.objs.size X.env)
   (compPost (model X.prog X.w) X.A X.xe U Q0 (.ref s2.heap.objs.size) s3.heap.objs.size) s4:=by
  rintro s4 rfl;exact ZoZ hb hk dI rfl f3 gL (Zrd (tk:=s2.toks+([]).length) S_ bH hc I3 f3 gL rfl cR keep) T gu Zr w0 turn λs6 H5 I6 qn=>gZ _ _ s3 s6 _ H5 fp rfl I3 f3 I6 qn
 rw[eC];exact codeAny_compStart_list (loop _<|by rw[<-hs3]) (T.self X.A 0 _ _ _ gu<|loop _<|by rw[<-hs3])
def ZsR(S_:CompSc NC X.N js sc scope)(bH:X.env.scope=sc)(hc:X.calm=Wr)(hi:PI X tg iter wi)
 (hb:∀(C:Yj) (s3:Yb) (H3:Hp) (fp:List _),PG (ZF X NC scope C s3 H3 fp) tg g/\PIf (ZF X NC scope C s3 H3 fp) bf tc/\PE (ZF X NC scope C s3 H3 fp) aE te)
 (hk:ZmK k g) (dI:∀j,j<k->js[j]?=J M) (hs:∀x,foldedSetIterable iter X.env x=pure x:=by intro _;rfl) :
 PE X (.ListComp aE [⟨tg,iter,bf,0⟩] scope pos) (ZpD wi js g tc te):=λf s Z H Q I h=>Zk1 S_ bH hc hi hb hk dI hs I h λC Dd s3 i H3 H5 fp a I3 b I6 c=>by obtain⟨m,d,_⟩:=I6.loc;exact⟨m,d,λl e=>⟨.ref _,_,I3.comp_out b a I6 e,rfl,c⟩⟩
end
set_option tactic.hygienic true
section
variable {X:Cx}
def TyN(K:Yl)(x:V)(H:Hp)(t:String):Prop:=match x with
 |.int _=>t="int"
 |.str _=>t="str"
 |.bl _=>t="bool"
 |.non=>t="NoneType"
 |.ref p=>(t="list" /\ ∃a,SqL K H p a)\/(t="tuple" /\ ∃a,SqT K H p a)
 |_=>False
def ZrG:ZcH X (.builtin "isinstance") (λxs H Q=>∃x t T b,xs=[x,.ty T]/\TyN X.K x H t/\PySem.W.kitOne X.K (.type t) (.type T)=J b/\Q (.bl b) H):=by
 rintro aa s Z H xs us Q I r⟨x,t,T,b,rfl,ty,e,q⟩;obtain⟨u,w',rfl,rx,rT⟩:=vals2 r;obtain rfl:w'=Value.type T:=rT;have fin:∀tk,EP X _ _ Q _ _:=λtk=>⟨.bl b,H,I.tok tk,rfl,q⟩
 cases x with
 |int i=>obtain⟨tk,rfl⟩:=rx;obtain rfl:t="int" := ty;exact PySem.W.kia_one PySem.W.kitx_int I.kIn trivial e (by simp) fin
 |str i=>obtain⟨tk,rfl⟩:=rx;obtain rfl:t="str" := ty;exact PySem.W.kia_one PySem.W.kitx_str I.kIn trivial e (by simp) fin
 |bl i=>obtain rfl:u=Value.bool i:=rx;obtain rfl:t="bool" := ty;exact PySem.W.kia_one PySem.W.kitx_bool I.kIn trivial e (by simp) fin
 |non=>obtain rfl:u=Value.none:=rx;obtain rfl:t="NoneType" := ty;exact PySem.W.kia_one PySem.W.kitx_none I.kIn trivial e (by simp) fin
 |ref p=>
  obtain rfl:u=YD p:=rx;rcases ty with⟨rfl,xs,hx⟩|⟨rfl,xs,hx⟩
  . obtain⟨its,_,pl,_⟩:=I.list hx;exact PySem.W.kia_one PySem.W.kitx_list I.kIn pl.isList.typeIs e (by simp) fin
  . obtain⟨its,_,pl,_⟩:=I.tuple hx;exact PySem.W.kia_one PySem.W.kitx_tuple I.kIn pl.typeIs e (by simp) fin
 |_=>trivial
def ZoN{K}(h:PySem.W.kitOne [] (.type t) (.type T)=J b):PySem.W.kitOne K (.type t) (.type T)=J b:=h
def ZzQ:V->Option Int->Option Int->Hp->VK->Prop:=λx a b H Q=>∃y,x=.str y/\y.length<=Yc/\Q (.str<|Yq y a b) H
def Zvf:SlR X ZzQ:=by
 rintro aa s Z H x v vl vu lo hi sl Q I rx hs pl pu⟨y,rfl,hz,q⟩;obtain⟨t,rfl⟩:=rx;refine⟨_,_,F.slot_str_getitem.lookup,typeIs_str _ _ _,?_⟩;have go:∀(l u),vl=partValue l->vu=partValue u->lo=l.map (·.1)->hi=u.map (·.1)->YB (model X.prog X.w) X.A (getItem (.str y t)<|.ref sl) (EP X aa Z Q) X.xe s:=by rintro l u rfl rfl rfl rfl;refine wpAny_getItem_str_slice (l:=l) (u:=u) (st:=M) hs rfl (post_val_or_str ⟨OE (Txt.slice_le y _ _) hz,λt' k=>⟨.str _,H,I.tok k,⟨t',rfl⟩,q⟩⟩)
 cases pl with
 |none=>
  cases pu with
  |none=>exact go M M rfl rfl rfl rfl
  |int j tj=>exact go M (J (j,tj)) rfl rfl rfl rfl
 |int i ti=>
  cases pu with
  |none=>exact go (J (i,ti)) M rfl rfl rfl rfl
  |int j tj=>exact go (J (i,ti)) (J (j,tj)) rfl rfl rfl rfl
end
def ZaP.there(x:ZaP P w H h a o):∃ob,h.get? a=J ob:=by
 cases o with
 |lst c=>obtain⟨_,_,_,_,e⟩:=x;exact⟨_,e⟩
 |tup c=>obtain⟨_,_,_,ob,e,_⟩:=x;exact⟨_,e⟩
 |dK b=>obtain⟨_,_,_,_,o,_,_,e,_⟩:=x;exact⟨_,e⟩
 |dT b=>obtain⟨_,_,o,_,_,e,_⟩:=x;exact⟨_,e⟩
 |set S_ n=>obtain⟨o,_,_,_,e,_⟩:=x;exact⟨_,e⟩
 |ins C d fs=>exact⟨_,x.2.2.2.1⟩
 |own y=>obtain⟨_,e⟩:=x;exact⟨_,e⟩
 |xd fs=>obtain⟨_,⟨_,_,_,e,_⟩,_⟩:=x;exact⟨_,e⟩
 |rng g i=>obtain⟨_,_,_,e⟩:=x;exact⟨_,e⟩
 |frz ob u=>exact⟨_,x.1⟩
 |tbl j|met f y=>exact⟨_,(show h.get? a=J _ from x)⟩
 |ext φ=>obtain⟨_,⟨_,e⟩,_⟩:=x;exact⟨_,e⟩
def Kept(fs:List Yj)(H':Hp)(h R B_:YG):Prop:=∀b o,R.get? b=J o->(H' b≠M\/((∃a,h.get? b=J a)/\b ∉ fs))->B_.get? b=J o
def CXF(P:Yi)(w:Yh):CXT:=λb H s E e c=>
 ∃(a:Yj) (d f:Yk) (H':Hp) (B_:YG),e=.ref a/\c.os=s.os/\AllBare c.gens/\Un (frs b) [] H H' s.heap c.heap/\HOk P w H' c.heap /\
  Heap.FlyingW B_ b a d f c.heap/\Kept (frs b) H' s.heap c.heap B_/\H' a=M/\E d M H'
def Zfn(un:Un fs [] H H' h R)(hok:HOk P w H' R)(kb:Kept fs H' h R B_)(stay:B_.StaysIn h2)(up:R.UpToSlots h2)
 (hf:∀b∈fs,∃o,R.get? b=J o/\∀vs,o.data≠.fields vs):Un fs [] H H' h h2/\HOk P w H' h2/\Kept fs H' h h2 B_:=by
 have tr:∀b u,H' b=J u->∃o,R.get? b=J o/\h2.get? b=J o/\B_.get? b=J o:=λb u e=>by obtain⟨o,q⟩:=(hok b u e).there;have z:=kb b o q (.inl<|by simp_all);exact⟨o,q,stay _ _ z,z⟩
 have old:∀b o,h.get? b=J o->b ∉ fs->∃o1,R.get? b=J _/\h2.get? b=J _/\B_.get? b=J _:=λb o e hb=>by obtain⟨o1,q⟩:=un.there b o e (by simp);have z:=kb b _ q<|.inr ⟨⟨o,e⟩,hb⟩;exact⟨o1,q,stay _ _ z,z⟩
 refine⟨⟨λb o e n hb _=>?_,λb o e n hb _=>?_,λb o e n _=>un.free b o e n<|by simp,λb o e _=>?_,un.tups,un.frzs,un.tbls⟩,λb u e=>?_,λb o e hb=>?_⟩
 . obtain⟨o1,q1,q2,_⟩:=old b o e hb;have z:=un.keep b o e n hb (by simp)
   simp_all
 . obtain⟨sl,z⟩:=un.slot b o e n hb (by simp);obtain⟨o',z',nf⟩:=hf b hb;rw[z]at z';cases z';obtain⟨eM,q⟩:=up b _ z nf;exact⟨eM,q⟩
 . by_cases hb:b∈fs
   . obtain⟨o',z',nf⟩:=hf b hb;obtain⟨eM,q⟩:=up b _ z' nf;exact⟨_,q⟩
   . obtain⟨o1,_,q2,_⟩:=old b o e hb;exact⟨_,q2⟩
 . refine(hok b u e).stay (λc v hc q=>?_) (λ_ q=>q) λ_ _ q=>q;have cV:∃u',H' c=J u':=by
    rcases hc with rfl|hc
    . exact⟨u,e⟩
    . exact⟨_,hc⟩
   obtain⟨u',e'⟩:=cV;obtain⟨o,q1,q2,_⟩:=tr c u' e';rw[q]at q1;cases q1;exact q2
 . rcases hb with hb|⟨⟨o',e'⟩,hb⟩
   . cases q:H' b with
     |none=>exact absurd q hb
     |some u=>obtain⟨o1,q1,q2,q3⟩:=tr b u q;rw[e]at q2;cases q2;exact q3
   . obtain⟨o1,q1,q2,q3⟩:=old b o' e' hb;rw[e]at q2;cases q2;exact q3
def Zkf(X:Cx)(E:XK):Prop:=∀(b:List (Yj×Obj)) (Z:St) (H:Hp) (s:Yb) (a:YG) (e:Yj) (cls:Yk) (c:List Yk),Inv X b Z H s->Heap.MadeExcOf s.heap a e cls c->E cls M H->X.xe (.ref e) {s with heap:=a}
section
variable {P:Yi}{w:Yh}{K:Yl}{mg:Str->Option Yk}{base:YG}{N:List Str}{aj:Str}{scope:Scope}{f:Yj}{cd:Yk}{A:YH}{outer:List Env}{s0:Yb}{H0:Hp}{E:XK}
def ZpS:Zkf (ZoV (CXF P w) P w K mg base N aj scope f cd A outer s0 H0 E) E:=by
 intro aa Z H s h' e cls vs I hx hE;refine wpAny_leaves_madeW I.ok.frames rfl (λb o q=>PySem.W.of_hideAll _ q) (PySem.W.funFrames_hide I.stack λenv he b hb=>List.mem_filterMap.mpr ⟨_,he,hb⟩) hx λh'' t x1 x2 x3 x4=>?_;obtain⟨r1,r2,r3⟩:=Zfn (I.base.I<|Un.kept hx.keeps) (I.hok.kept hx.keeps) λb o e1 hb=>by
  rcases hb with hb|⟨⟨o',e'⟩,hb⟩
  . cases q:H b with
    |none=>trivial
    |some u=>
     obtain⟨o1,q1⟩:=(I.hok b u q).there;have q2:=hx.keeps b _ q1;rw[e1]at q2;cases q2;exact PySem.W.hideAll_get _ q1 λhm=>by have z:=I.stkFree b hm;trivial
  . obtain⟨o1,q1⟩:=I.base.there b _ e'<|List.not_mem_nil;have q2:=hx.keeps b _ q1;rw[e1]at q2;cases q2;refine PySem.W.hideAll_get _ q1 λhm=>?_;rcases O3.mp (I.stkSub b hm)with z|z
    . rw[z]at e';exact absurd (Yn e') (Yw _)
    trivial x1.1 x4 λb hb=>by
  obtain⟨_,o,q,nf⟩:=I.funs.mem hb;exact⟨o,hx.keeps _ _ q,nf⟩
 refine⟨e,_,_,H,_,rfl,I.os,I.bare,r1,r2,x1,r3,?_,hE⟩;cases q:H e with
 |none=>rfl
 |some u=>obtain⟨o1,q1⟩:=(I.hok e u q).there;rw[hx.new]at q1;cases q1
def ZsU(h:∀cls H',E1 cls M H'->E cls M H'):Zcq (CXF P w) (ZoV (CXF P w) P w K mg base N aj scope f cd A outer s0 H0 E) E1:=by
 rintro aa Z H s e s' I⟨a,cls,a0,H',B_,rfl,os,bare,un,hok,fl,kb,ha,hE⟩;have I':=I.call' os un hok bare (λb z=>absurd z<|by simp);refine wpAny_leaves_onW I.ok.frames rfl fl λh'' x1 x4=>?_;obtain⟨r1,r2,r3⟩:=Zfn I'.base hok λb o e1 hb=>by
  refine kb b o e1 ?_;rcases hb with hb|⟨⟨o',e'⟩,hb⟩
  . exact .inl hb
  . obtain⟨o1,q1⟩:=I.base.there b _ e'<|List.not_mem_nil;refine .inr ⟨⟨_,q1⟩,λhm=>?_⟩;rcases O3.mp (I.stkSub b hm)with z|z
    . rw[z]at e';exact absurd (Yn e') (Yw _)
    trivial x1.1 x4 λb hb=>by
  obtain⟨_,o,q,nf⟩:=I'.funs.mem hb;exact⟨o,q,nf⟩
 exact⟨a,_,_,_,B_,rfl,I'.os,bare,r1,r2,x1,r3,ha,h _ _ hE⟩
end
def ZiT:Zcq (CXF P w) X E0:=by rintro _ _ _ _ _ _ _⟨_,_,_,_,_,_,_,_,_,_,_,_,_,z⟩;trivial
def ZwH{p:Prop}{mro:List Yk}{f:Yj->List Yk->String->Bool}{l:List (Option Yk)}:(match mro,l with|.ref c::bm,[_,_,_,_,J<|.builtin n,_]=>f c bm n|_,_=>Ws)=Wr->(∀c bm k0 k1 k2 k3 n k5,mro=.ref c::bm->l=[k0,k1,k2,k3,J<|.builtin n,k5]->f c bm n=Wr->p)->p:=by
 have no:∀{p:Prop},Ws=Wr->p:=λz=>Bool.noConfusion z;rcases mro with _|⟨v,bm⟩
 . exact λq _=>no q
 cases v with
 |ref c=>
  intro q k;rcases l with _|⟨k0,_|⟨k1,_|⟨k2,_|⟨k3,_|⟨a,l⟩⟩⟩⟩⟩
  iterate 5 exact no q
  rcases a with _|v
  . exact no q
  cases v with
  |builtin n=>
   rcases l with _|⟨k5,_|⟨_,l⟩⟩
   . exact no q
   . exact k _ _ _ _ _ _ _ _ rfl rfl q
   exact no q
  |_=>exact no q
 |_=>exact λq _=>no q
def ZtI{p:Prop}{K}{h}{C}{gf}{bc}(X:K.In h)(q:PySem.W.excIn K C gf bc=Wr)
 (k:∀bm N nm qn bs hdct sn sub ab col dd k0 k1 k2 k3 k5 mN,h.get? C=J (excClassObj nm qn C N bs bm hdct sn sub ab col dd k0 k1 k2 k3 k5 bc)->h.Ns N mN->mN "__init__"=M->OwnTail h gf bm->p):p:=by
 unfold PySem.W.excIn at q;split at q
 . rename_i dd cd d e;obtain⟨l⟩:=d;obtain⟨nm,bs,g,b,qn,r,sn,sub,ab,col,dl⟩:=cd;refine ZwH (f:=λc bm n=>c==C&&n==bc&&!dl&&PySem.W.tailIn K _ _&&PySem.W.nsOkIn K b&&Ym K b _==J _) q λC' bm k0 k1 k2 k3 n k5 i j q=>?_;simp only[Oa,beq_iff_eq,Bool.not_eq_true']at q;obtain⟨⟨⟨⟨⟨rfl,rfl⟩,rfl⟩,m⟩,a⟩,o⟩:=q;subst i j;exact k _ _ _ _ _ _ _ _ _ _ _ _ _ _ _ _ _ (X _ _ e) (.of_isNs<|PySem.W.isNs_of_in X a) (PySem.W.nsMap_none_of_in X a o) (PySem.W.tail_of_in X m)
 trivial
section
variable {X:Cx}{x:Str}{C:Yj}{gf:List Yk}{B_ bc dj:String}{np aq pos:Pos}{e:Expr}{es:List Expr}{t:TA}{E:XK}
noncomputable def Zu9(C:Yj)(E:XK)(t:TA):TS:=λ_ Z H=>t Z H λa H1=>a.length<=Yc/\E (.ref C) M H1
def Zqe(hR:Zkf X E)(hc:X.calm=Wr)(FB:ExcBaseFacts B_ bc dj gf)(hg:Gl X x)(hm:X.mg x=J (.ref C))(hq:PySem.W.excIn X.K C gf bc=Wr)(ha:PA X (e::es) t)
 (bv:(x==("__debug__" : Str))=Ws:=by decide) (he:YA (e::es) X.env=(Ws,eval e X.env)::YA es X.env:=by rfl) (aW:(YR aq<|YA es X.env).any (·.1)=Ws:=by rfl) :
 PS X (.Raise (J<|.Call (.Name x np) (e::es) [] aq) M pos) (Zu9 C E t):=by
 intro b s Z H D I h;refine ZtI I.mod.kin hq λn N nm q bs hdct sn sub ab col dd k0 k1 k2 k3 k5 o c d f T=>wpAny_Raise_call_subT (nm:=nm) (q:=q) (N:=N) (bs:=bs) (hdct:=hdct) (sn:=sn) (sub:=sub) (ab:=ab) (col:=col) (dd:=dd) (k0:=k0) (k1:=k1) (k2:=k2) (k3:=k3) (k5:=k5)
  FB (T.hasType FB.hasBase) (I.ok.hd hc) (by rw[he];trivial) f (Zdp I hg hm ⟨rfl,?_⟩ bv)
 have R:=ha aq _ s _ H _ I h;rw[he]at R ⊢;exact Calls.evalArgs_plain (thn R λg i ⟨p,H2,I2,j,r,k⟩=>⟨rfl,by rw[<-j.length];trivial,I2.bk _ _ c,d.keeps I2.bk,T.keeps I2.bk,λl a m=>hR b Z H2 i l a _ g I2 m k⟩)
end
def cxH(X:Cx)(a:Yj)(oe:Obj):Cx:={X with A:=X.A.mark<|J<|.ref a,calm:=false,pn:=X.pn++[(a,oe)],xe:=λ_ _=>False}
abbrev cxM(X:Cx)(a:Yj):Cx:={X with A:=X.A.mark<|J<|.ref a,calm:=false,xe:=λ_ _=>False}
section
variable {X:Cx}{aa:List (Yj×Obj)}{Z:St}{H:Hp}{s:Yb}{a:Yj}{oe:Obj}
def Inv.toM(I:Inv X aa Z H s)(a):Inv (cxM X a) aa Z H s:=⟨⟨I.ok.mod,I.ok.kind,I.ok.glob,I.ok.blt,I.ok.above,I.ok.inj,I.ok.has,I.ok.cab,λz=>absurd z Ow,I.ok.frames,I.ok.stk,I.ok.exf,I.ok.bs,I.ok.bsz,I.ok.noex,I.ok.exfs,I.ok.funs,I.ok.frf⟩,I.os,I.bare,I.base,I.loc,I.cell,I.free,I.freeC,I.pin,I.hok,I.len⟩
def Inv.toH(I:Inv X aa Z H s)(R:s.heap.get? a=J oe)(h2:H a=M)(h3:a≠X.env.locals)(h4:a ∉ X.fs)(h5:∀v,oe.data≠.cell v):Inv (cxH X a oe) aa Z H s:=
 ⟨⟨I.ok.mod,I.ok.kind,I.ok.glob,I.ok.blt,I.ok.above,I.ok.inj,I.ok.has,I.ok.cab,λz=>absurd z Ow,I.ok.frames,I.ok.stk,I.ok.exf,I.ok.bs,I.ok.bsz,I.ok.noex,I.ok.exfs,I.ok.funs,I.ok.frf⟩,I.os,I.bare,I.base,I.loc,I.cell,I.free,I.freeC,
  λp hp=>by
   rcases OD.mp (hp)with z|z
   . rcases OD.mp z with z|z
     . exact I.pin p (Ys _ z)
     . have e:p=(a,oe):=by simpa using z
       subst e;exact⟨R,h2,h3,h4,h5⟩
   . exact I.pin p (Ov _ z),I.hok,I.len⟩
theorem Inv.ofH(I:Inv (cxH X a oe) aa Z H s)(hd:X.calm=Wr->X.A.handled=M):Inv X aa Z H s :=
 ⟨⟨I.ok.mod,I.ok.kind,I.ok.glob,I.ok.blt,I.ok.above,I.ok.inj,I.ok.has,I.ok.cab,hd,I.ok.frames,I.ok.stk,I.ok.exf,I.ok.bs,I.ok.bsz,I.ok.noex,I.ok.exfs,I.ok.funs,I.ok.frf⟩,I.os,I.bare,I.base,I.loc,I.cell,I.free,I.freeC,
   λp b=>I.pin p (by
     rcases OD.mp b with z|z
     . exact Ys _ (Ys _ z)
     . exact Ov _ z),I.hok,I.len⟩
end
theorem ZkV {K} (X:K.In s.heap) (R:PySem.W.typeIn K (.ref C2)=J (.type "type")) (h0:(PySem.W.clsIn K C2).isSome=Wr)
   (h2:YT K (.ref C2) (.type "BaseException")=J Wr) (h3:YT K (.ref C) (.ref C2)=J Wr) (he:s.heap.get? a=J oe) (hc:oe.cls=.ref C) (q:Q Wr s):YB qd A (excMatches (.ref a)<|.ref C2) Q E s:=by
 have L1:=PySem.W.looks_instIn (M:=qd) X (by
   unfold PySem.W.instIn;rw [R];show YT K (.type "type") (.type "tuple")=J Ws;show YT [] (.type "type") (.type "tuple")=J Ws;decide +kernel)
 have L2:=PySem.W.looks_subIn (M:=qd) X h2;have L3:=PySem.W.looks_subIn (M:=qd) X h3;have L0:PySem.W.Looks qd s.heap (isType<|.ref C2) Wr:=by
   unfold PySem.W.clsIn at h0;split at h0
   . rename_i c' d' mZ eM ho;intro A' Q' E' s' k q;unfold isType loadHead;exact Ya (wpAny_loadPart (k _ _<|X _ _ ho)<|Yd q)
   . cases h0
 have LT:PySem.W.Looks qd s.heap (typeOf<|.ref a) (.ref C):=hc▸(PySem.W.Looks.ld he).andThen .now;unfold excMatches isExcClass
 repeat (any_goals (first|assumption|lk|wp_step))
structure ExcN(K:Yl)(C2:Yj):Prop where
 ty:PySem.W.typeIn K (.ref C2)=J (.type "type")
 cls:(PySem.W.clsIn K C2).isSome=Wr
 exc:YT K (.ref C2) (.type "BaseException")=J Wr
def Def(P:Yi)(w:Yh)(K:Yl)(mg:Str->Option Yk)(base:YG)(k:Nat)(x:Str)(ps:List Str)(sp:Sp):Prop:=∃f a,mg x=J (.ref f)/\Wb K (.ref f)=Wr/\Binds K a ps []/\FnOk P w K mg base (CXF P w) k f a ps sp
section
variable {X:Cx}{k:Nat}{x:Str}{ps:List Str}{sp:Sp}{E:XK}{e:Expr}{es:List Expr}{t:TA}{p pos:Pos}
noncomputable def ZzD(sp:Sp)(E:XK)(t:TA):TE:=λZ H Q=>t Z H λa H1=>sp a H1 Q E
def ZvV(D:Def X.prog X.w X.K X.mg X.base k x ps sp)(hr:Room k X.A)(hg:Gl X x)(hx:Zcq (CXF X.prog X.w) X E)(ha:PA X (e::es) t)
 (bv:(x==("__debug__" : Str))=Ws:=by decide) (he:YA (e::es) X.env=(Ws,eval e X.env)::YA es X.env:=by rfl) (aW:(YR pos<|YA es X.env).any (·.1)=Ws:=by rfl) :
 PE X (.Call (.Name x p) (e::es) [] pos) (ZzD sp E t):=by
 obtain⟨f,d,R,a,b,c⟩:=D;intro g s Z H Q I h;refine ZsS c hr hg R a b .nil hx ha bv he aW _ s _ H Q I ?_;have z:t _ H _:=h;show t _ H _
 simp_all
end
section
variable {X:Cx}{aa:List (Yj×Obj)}{Z:St}{H:Hp}{s:Yb}{h':YG}
def Znz{ch:List _}(hf:∀b∈ch,ZeI X aa H b):∀b∈ch,(b∈X.ex\/X.s₀.heap.objs.size<=b)/\b≠X.env.locals/\(∀x c,X.env.cells.lookup x=J c->c≠b)/\∀p∈X.pn++aa,p.1≠b:=λb a=>by obtain⟨_,d,_,e,f,g⟩:=hf b a;trivial
def Inv.turnL{t'}{ch:List _}(I:Inv X aa Z H s)(hf:∀b∈ch,ZeI X aa H b)(k:∀b o,b ∉ ch->s.heap.get? b=J o->h'.get? b=J o):Inv X aa Z H {s with heap:=h',toks:=t'}:=by
 have d:∀b u,H b=J u->b ∉ ch:=λb u e z=>by rw[(hf b z).1]at e;lia
 refine I.step (Znz hf) (λb o _ _ a e _=>k b o a e) (λb o _ _ a e _=>⟨_,k b o a e⟩) (λ_ _ _ _ n=>n)
  (λb o a e=>⟨o,k b o a e⟩) (λ_ _ e=>e) (λ_ _ _ e=>e) (λb h e=>⟨#[],by trivial⟩) (λm f=>?_) (λb u e=>?_) I.bare
 . obtain⟨o,i,j,g,r⟩:=f;exact⟨o,_,_,k _ o (λz=>(hf _ z).2.1 rfl) g,r⟩
 . refine(I.hok b u e).stay (λc v a q=>k c v ?_ q) (λ_ q=>q) λ_ _ q=>q;rcases a with z|z
   . rw[z];exact d b u e
   . exact d c _ z
def Inv.turnT{t'}{ch:List _}{us}(I:Inv X aa Z H s)(hf:∀b∈ch,ZeI X aa H b)(k:∀b o,b ∉ ch->s.heap.get? b=J o->h'.get? b=J o)
 (hT:s.heap.objs.size<=T) (tup:Zcs h' T us.toArray) (rv:Zt vs us) (hz:vs.length<=Yc):Inv X aa Z (upd H T<|.tup vs) {s with heap:=h',toks:=t'}:=by
 have f:∀b u,H b=J u->b ∉ ch:=λb u e z=>by rw[(hf b z).1]at e;lia
 have d:=I.hok.fresh hT;refine I.step (Znz hf) (λb o _ _ a e _=>k b o a e) (λb o _ _ a e _=>⟨_,k b o a e⟩) (λb o _ e n=>(Zq<|(λb o e=>Ou<|Ot (Yn e) hT) b o e).I n)
  (λb o a e=>⟨o,k b o a e⟩) (λb h e=>(Zq<|Z0 e d).I e) (λb o u e=>(Zq<|Z0 e d).I e) (λb l e=>⟨#[],by rw[Zq<|Z0 e d,e];simp⟩) (λm i=>?_) (λb u e=>?_) I.bare
 . obtain⟨o,p,t,j,r⟩:=i;exact⟨o,_,_,k _ o (λz=>(hf _ z).2.1 rfl) j,r⟩
 . by_cases g:b=T
   . subst g;rw[Zr]at e;cases e;exact⟨hz,_,rv,tup⟩
   . rw[Zq g]at e;refine(I.hok b u e).stay (λc v a q=>k c v ?_ q) (λc q=>(Zq<|Z0 q d).I q) λc h q=>(Zq<|Z0 q d).I q;rcases a with z|z
     . rw[z];exact f b u e
     . exact f c _ z
end
def Ite(K:Yl)(a:Yj):It:=⟨λi H=>∃b x,SqL K H a b/\b[i]?=J x,λi H v H'=>∃p,v=.ref p/\H p=M/\∃x,(∀b,SqL K H a b->b[i]?=J x)/\H'=upd H p (.tup [.int i,x]),λi H=>∃b,SqL K H a b/\b.length=i⟩
theorem Zn4{P}{w}{K}{es}{kk}{tp}(a it e)(cT:e≠it)(eW:a≠e)(eU:a≠it) :
   Turn P w K (.Tuple es kk tp) (Ite K a) [e,it] e (λi h=>(∃ old,IsEnum h e it i old)/\h.IsListIter it a i) where
 mem:=by simp
 obj:=λi h st b hb=>by
   obtain⟨⟨old,he⟩,o,e1,c,d⟩:=st;rcases O3.mp hb with rfl|hb
   . exact⟨_,he,λv z=>by cases z⟩
   simp_all
 keep:=λi h h' st k=>by
   obtain⟨⟨old,he⟩,st⟩:=st;exact⟨⟨old,k e (by simp) _ he⟩,st.at λo z=>k it (by simp) o z⟩
 item:=by
   intro X hP hw hK hc i aa s Z H E I hf st hg;subst hP hw hK;obtain⟨xs,x,hq,hx⟩:=hg;obtain⟨its,rv,p,hz⟩:=I.list hq;have hl:=rv.length;have hi:i<xs.length:=(Ob.mp hx).1;have W:=WalksT.enumerate (prog:=X.prog) (w:=X.w) (I.ok.hd hc) e it a cT eW eU its.toArray;have kB:∀ (Q':Option Yk->Yb->Prop) (E':Yk->Yb->Prop),(∀ T bA h' tk,(∃ t x,its.toArray[i]?=J x/\bA=#[.int i t,x])->s.heap.objs.size<=T->Zcs h' T bA ->
       ((∃ x,IsEnumOut h' e it ((i)+1) x T)/\h'.IsListIter it a (i+1)/\h'.IsList a its.toArray/\T≠e/\T≠it)->(∀ b o,b ∉ [e,it]->s.heap.get? b=J o->h'.get? b=J o)->Q' (J<|.ref T) {s with heap:=h',toks:=tk}) ->
       YB (model X.prog X.w) X.A (pyNext<|.ref e) Q' E' s:=by
     intro Q' E' hQ;obtain⟨⟨old,he⟩,aw⟩:=st;refine wpAny_pyNext_enum_item he aw p.isList (Array.getElem?_eq_getElem (by simp;lia)) cT λh' ho bE hT bq hk=>?_;exact hQ s.heap.objs.size _ h' (s.toks+1) ⟨_,_,(Array.getElem?_eq_getElem (by simp;lia)),rfl⟩ (Oq _) ⟨_,hT,rfl,rfl,_,rfl⟩ ⟨⟨_,ho⟩,bE,p.isList.at λo z=>hk a o eW eU z,Nat.ne_of_gt<|Yn he,Nat.ne_of_gt (by obtain⟨_,z,_⟩:=aw;exact Yn z)⟩
       λb o hb z=>hk b o (λe'=>hb<|by simp [e']) (λe'=>hb<|by simp [e']) z
   refine kB _ _ λT bA R tk hP hT tup mid kk=>⟨_,rfl,W.go _ _ _ i T {s with heap:=R,toks:=tk} _ _ mid λh2 bZ kk2=>?_⟩
   obtain⟨t,y,hy,rfl⟩:=hP;have cC:its[i]?=J y:=by simpa using hy
   obtain⟨u,hu,ru⟩:=rv.get hx;rw [cC] at hu;cases hu;have fZ:T ∉ [e,it]:=W.apart i T R mid;have I2:Inv X aa Z (upd H T<|.tup [.int i,x]) {s with heap:=h2,toks:=tk}:=I.turnT hf (λb o hb q=>kk2 b o hb<|kk b o hb q) hT (us:=[.int i t,y]) (by
     obtain⟨o,q,r⟩:=tup;exact⟨o,kk2 T o fZ q,r⟩) (.cons ⟨t,rfl⟩<|.cons ru .nil) (by show 2<=Yc;decide)
   refine⟨.ref T,_,I2,rfl,⟨T,rfl,I.hok.fresh hT,x,λys hy=>I.list_inj hy hq▸hx,rfl⟩,⟨bZ.1,bZ.2.1⟩,λb hb=>?_⟩;rw [Zq λz=>fZ (by rw [<-z];exact hb)];exact(hf b hb).1
 done:=by
   intro X hP hw hK hc i aa s Z H E I hf st hg;subst hP hw hK;obtain⟨xs,hq,hx⟩:=hg;obtain⟨its,rv,p,hz⟩:=I.list hq;have hl:=rv.length;have e1:its.toArray.size=i:=by simp;lia
   refine(WalksT.enumerate (prog:=X.prog) (w:=X.w) (I.ok.hd hc) e it a cT eW eU its.toArray).done s _ _ ?_ λR tk kk=>⟨rfl,I.turnL hf kk⟩
   rw [e1];exact⟨st.1,st.2,p.isList⟩
 self:=λA i s Q E st h=>by
   obtain⟨⟨old,he⟩,_⟩:=st;exact wpAny_pyIter_enum he h
def ZyM(K:Yl)(ta:TA):TI:=λZ H qe=>ta Z H λb H1=>∃a,b=[.ref a]/\(∃c,SqL K H1 a c)/\qe (Ite K a) H1
def ZsL{X}{es}{kk}{tp}{l}{ta}{p pos}(hg:Gl X "enumerate")(hm:X.mg "enumerate"=M)(ha:PA X [l] ta)(hs:YA [l] X.env=[(Ws,eval l X.env)]:=by rfl):
 PI X (.Tuple es kk tp) (.Call (.Name "enumerate" p) [l] [] pos) (ZyM X.K ta):=by
 intro r s Z H qe I h;refine Call_<|ZcN I hg hm boot_enumerate<|PyProof.Rows.callWith_type1 (thn (ha _ _ s _ H _ I h) λt g i=>?_) hs rfl;obtain⟨v,H1,I1,j,k⟩:=i;obtain⟨a,rfl,⟨w,m⟩,q⟩:=k;obtain⟨u,rfl,n⟩:=vals1 j;obtain rfl:u=YD a:=n;obtain⟨its,x,c,y⟩:=I1.list m;have d:a<g.heap.objs.size:=by obtain⟨_,_,e,_⟩:=c;exact Yn e
 refine call_enumerate_list c.isList λz f o A kk=>wpAny_pyIter_enum f ⟨_,_,_,_,_,rfl,I1.kept kk,Zn4 a _ _ (Nat.succ_ne_self _) (Ou<|Nat.lt_succ_of_lt d)<|Ou d,⟨⟨_,f⟩,o⟩,λb hb=>?_,q⟩;rcases O3.mp hb with rfl|hb
 . exact I1.fpOk (Wg _) (I1.hok.fresh<|Wg _)
 . have e:=by simpa using hb
   subst e;exact I1.fpOk (Oq _) (I1.hok.fresh<|Oq _)
end L2
namespace L2
open PySem PySem.Spec PyProof.Rows PySem.Builtin PySem.Builtin.ObjectAttr PySem.Builtin.Getset_descriptor
structure ExcA(K:Yl)(D:Yj):Prop where
 ga:YJ K (.ref D) "__getattribute__"=J (J<|.builtin "BaseException.__getattribute__")
 ga2:YJ K (.ref D) "__getattr__"=J M
 cl:YJ K (.ref D) "__class__"=J (J<|.builtin "object.__class__")
 get:PySem.W.specialIn K (.builtin "object.__class__") "__get__"=J (J<|.builtin "getset_descriptor.__get__")
 takes:PySem.W.takesIn K (.builtin "object.__class__")=J Wr
 obj:PySem.W.mroIn K D (.type "object")=J Wr
 base:YT K (.ref D) (.type "BaseException")=J Wr
 isc:(PySem.W.clsIn K D).isSome=Wr
end L2
namespace L2
open PySem PySem.Spec PyProof.Rows
def ZtX(h:PSs X b t)(r:t D Z H):∃t,PSs X b t/\t D Z H:=⟨t,h,r⟩
def Zan:RelV (.str x) (.str x t):=⟨t,rfl⟩
def ZfK:RelV (.int x) (.int x t):=⟨t,rfl⟩
def Zaf:RelV (.ref a) (.ref a):=rfl
def isSome_of{K:Yl}(h:PySem.W.isClsIn K C=Wr):(PySem.W.clsIn K C).isSome=Wr:=h
def DkK(P:Yi)(w:Yh)(K:Yl)(a:Yj)(kvs:List (Key×V)):Prop:=∃(o:Obj) (b:Array DictEntry) (d:Nat) (c:List (Key×Yk)),K.lookup a=J o/\o.ExactDict/\o.data=.dict b d/\KeysOf (ZV P w) b/\Pairs (ZV P w) b.toList c/\(c.map (·.1)).Nodup/\KV kvs c/\kvs.length<=Yc/\(a==Yf)=Ws
def Dk(P:Yi)(w:Yh)(K:Yl)(H:Hp)(a:Yj)(kvs:List (Key×V)):Prop:=Rd H a (.dK kvs)\/DkK P w K a kvs
section
variable {X:Cx}{aa:List (Yj×Obj)}{Z:St}{H:Hp}{s:Yb}{a:Yj}
def Inv.dk(I:Inv X aa Z H s)(h:Dk X.prog X.w X.K H a kvs):kvs.length<=Yc/\(a==Yf)=Ws/\∃vs,KV kvs vs/\s.heap.DictOf (ZV X.prog X.w) a vs:=by
 rcases h with h|⟨o,j,k,vs,b,c,d,e,f,g,kv,z,i⟩
 . exact ZuE I.hok h
 . exact⟨z,i,_,kv,o,_,_,I.kIn a o b,c,d,e,f,g⟩
def ZxZ(P:Yi)(w:Yh)(K:Yl)(neg:Bool):R2:=λx y H Q=>∃a b k,y=.ref a/\x=kV k/\Dk P w K H a b/\Q (.bl<|if neg then !(ZfC b k).isSome else(ZfC b k).isSome) H
def Zv2:OpR X (YM .In) (ZxZ X.prog X.w X.K Ws):=by rintro aa s Z H x y v u Q I rx ry⟨a,kvs,k,rfl,rfl,hd,q⟩;cases ry;obtain⟨z,hm,vs,rel,dd⟩:=I.dk hd;refine wpAny_in_of (ZkL rx) hm dd.mapOf ?_;rw[<-(rel.val k).isSome_eq];exact⟨.bl _,H,I.tok _,rfl,q⟩
def ZoB:OpR X (YM .NotIn) (ZxZ X.prog X.w X.K Wr):=by rintro aa s Z H x y v u Q I rx ry⟨a,kvs,k,rfl,rfl,hd,q⟩;cases ry;obtain⟨z,hm,vs,rel,dd⟩:=I.dk hd;refine wpAny_notIn_of (ZkL rx) hm dd.mapOf ?_;rw[<-(rel.val k).isSome_eq];exact⟨.bl _,H,I.tok _,rfl,q⟩
def ZzW(P:Yi)(w:Yh)(K:Yl):R2:=λx y H Q=>∃a b k v,x=.ref a/\y=kV k/\Dk P w K H a b/\ZfC b k=J v/\Q v H
def Ztt:IxR X (ZzW X.prog X.w X.K):=by intro b c o s Z H x y v u Q I f g h i;obtain⟨a,j,k,z,rfl,rfl,l,hv,q⟩:=h;cases f;obtain⟨_,p,r,d,e⟩:=I.dk l;obtain⟨t,m,n⟩:=ZgL.some_of<|hv▸d.val k;exact subscriptTail_builtinR e.typeIs PySem.F.slot_dict_getitem.lookup (wpAny_getItem_of (ZkL g) e.mapOf m ⟨rfl,z,H,I.tok _,n,q⟩) i
def Zy3(I:Inv X aa Z H s)(e:H a=J (.dK kvs))(l:kvs.length<Yc)(ry:RelV (kV k) u)(rv:RelV v r)
 (h:∀s',Inv X aa Z (upd H a<|.dK<|putK kvs k v) s'->Q () s'):YB (model X.prog X.w) A (setItem (.ref a) u r) Q E s:=by
 obtain⟨z,d,f,b,g⟩:=ZuF I.hok e;have m:f.length<=Yc:=b.length▸z;exact wpAny_setItem_pairs (ZkL ry) g λn c i=>h _ (ZnI I (by rw[e];trivial) i (let⟨q,_,_,j,_⟩:=c;⟨q,j⟩)<|Zrs (by have:=ZgO kvs k v;lia) d (b.put k rv) c)
def ZxK:Zt8:=λo i v H Q=>∃a b k,o=.ref a/\i=kV k/\H a=J (.dK b)/\b.length<Yc/\Q (upd H a<|.dK<|putK b k v)
def set_dict:Zt9 X ZxK:=by rintro aa s Z H o i v ov iv u Q I ro ri rv⟨a,kvs,k,rfl,rfl,e,l,q⟩;cases ro;exact Zy3 I e l ri rv λs' I'=>⟨_,I',q⟩
end
set_option tactic.hygienic false
section
variable {X:Cx}{aE tg iter:Expr}{bf:List Expr}{scope sc:Scope}{pos:Pos}{NC:List Str}{js:List (Option Nat)}{k:Nat}{wi:TI}{g:TG}{tc:TT}{te:TE}
theorem ZlO(hN:X.N.Nodup)(hy:X.N[i0]?=J y)(hx:Loc X.env.scope y)(hf:X.fn y=Wr\/X.env.scope.names.lookup y=J .local)(S_:CompSc NC X.N js sc scope)(bH:X.env.scope=sc)(hc:X.calm=Wr)(hi:PI X tg iter wi)
   (hb:∀ (C:Yj) (s3:Yb) (H3:Hp) (fp:List _),PG (ZF X NC scope C s3 H3 fp) tg g/\PIf (ZF X NC scope C s3 H3 fp) bf tc/\PE (ZF X NC scope C s3 H3 fp) aE te)
   (hk:ZmK k g) (dI:∀ j,j<k->js[j]?=J M) (hs:∀ x,foldedSetIterable iter X.env x=pure x:=by intro _;rfl) (iC:swapsWith (.ListComp aE [⟨tg,iter,bf,0⟩] scope pos) (J<|.Name y py) spos.line X.env=pure Wr:=by rfl) :
   PS X (.Assign [.Name y py] (.ListComp aE [⟨tg,iter,bf,0⟩] scope pos) spos) (Zn8 (ZpD wi js g tc te)<|ZbW i0):=by
 intro aa s Z H D0 I h;rw [exec_Assign_Name_used _ _ _ _ iC];refine Ya<|wpAny_standAt<|Ya ?_;show YB _ X.A (do let _ <- comprehension (.ListComp aE [⟨tg,iter,bf,0⟩] scope pos) scope X.env _ (newList []) Ws (eval iter X.env) (J<|assign (.Name y py) X.env)) _ _ s;refine Ya<|Yg (Zk1 (Q:=λx H1=>ZbW i0 x Z H1 D0.nx) (Q0:=λ_ s'=>SP X aa D0 .next s') S_ bH hc hi hb hk dI hs I h λC Dd s3 s6 H3 H5 fp hC I3 f3 I6 qn=>?_) (λ_ s' hq=>Yd<|Yd hq) λ_ _ e=>e;obtain⟨m,hm,_⟩:=I6.loc;have fC:ZeI X aa H5 C:=I3.fpOk (Nat.le_of_eq hC.symm) I6.free;show YB _ X.A (assign (.Name y py) X.env<|.ref Dd) _ _ _;exact wpAny_assign_Name (ZiM (I3.comp_out (h'':=s6.heap) f3 hC I6 ⟨rfl,λ_ _=>rfl⟩) hN hy hx (v:=.ref Dd) rfl (by rintro s8 I8⟨a8,j3,lD⟩;exact⟨m,hm.sameBut j3 λz=>by
   rcases lD with e|e
   . exact fC.2.1 (z.I e)
   . exact fC.2.2.2.2.1 _ _ e z.symm,λh' cQ=>⟨_,H5,I8.turnL (t':=s8.toks) (ch:=[C]) (λb hb=>Ox.mp hb▸fC)<|λb o hb e=>(cQ.2 b<|λz=>hb<|z▸List.mem_singleton_self _).I e,qn⟩⟩) hf)
end
set_option tactic.hygienic true
mutual
inductive Dp(K:Yl)(H:Hp):V->PyData->Prop
 |non:Dp K H .non .none
 |bl (b:Bool):Dp K H (.bl b) (.bool b)
 |int (i:Int):Dp K H (.int i) (.int i)
 |str (x:Str) (ok:Yp x=Wr):Dp K H (.str x) (.str x)
 |lst {a:Yj}{xs:List V}{ds:List PyData}:SqL K H a xs->Dps K H xs ds->Dp K H (.ref a) (.list ds)
 |tup {a:Yj}{xs:List V}{ds:List PyData}:SqT K H a xs->Dps K H xs ds->Dp K H (.ref a) (.tuple ds)
inductive Dps(K:Yl)(H:Hp):List V->List PyData->Prop
 |nil:Dps K H [] []
 |cons {v:V}{vs:List V}{d:PyData}{ds:List PyData}:Dp K H v d->Dps K H vs ds->Dps K H (v::vs) (d::ds)
end
section
variable {K:Yl}{H:Hp}
mutual
theorem Dp.lay:∀{v:V}{d:PyData},Dp K H v d->d.canLay0=Wr
 |_,_,.non=>rfl
 |_,_,.bl b=>rfl
 |_,_,.int i=>rfl
 |_,_,.str x ok=>ok
 |_,_,.lst h r=>Dps.lay r
 |_,_,.tup h r=>Dps.lay r
theorem Dps.lay:∀{v:List V}{d:List PyData},Dps K H v d->PyData.canLayAll0 d=Wr
 |_,_,.nil=>rfl
 |_,_,.cons h r=>by rw[PyData.canLayAll0,Dp.lay h,Dps.lay r];rfl
end
end
section
variable {X:Cx}{aa:List (Yj×Obj)}{Z:St}{H:Hp}{s:Yb}
mutual
theorem Inv.reads(I:Inv X aa Z H s):∀{v:V}{d:PyData}{u:Yk},Dp X.K H v d->RelV v u->∃as,Reads s.heap u d as
 |_,_,_,.non,r=>by cases r;exact⟨_,.none⟩
 |_,_,_,.bl b,r=>by cases r;exact⟨_,.bool b⟩
 |_,_,_,.int i,r=>by obtain⟨t,rfl⟩:=r;exact⟨_,.int i t⟩
 |_,_,_,.str x ok,r=>by obtain⟨t,rfl⟩:=r;exact⟨_,.str x t⟩
 |_,_,_,.lst h rs,r=>by cases r;obtain⟨its,rv,⟨o,n,e,c,_,dd⟩,_⟩:=I.list h;obtain⟨as,q⟩:=Inv.readsAll I rs rv;exact⟨_,.list e c dd<|by simpa using q⟩
 |_,_,_,.tup h rs,r=>by cases r;obtain⟨its,rv,⟨o,e,c,n,dd⟩,_⟩:=I.tuple h;obtain⟨as,q⟩:=Inv.readsAll I rs rv;exact⟨_,.tuple e c dd<|by simpa using q⟩
theorem Inv.readsAll(I:Inv X aa Z H s):∀{v:List V}{d:List PyData}{u:List Yk},Dps X.K H v d->Zt v u->∃as,ReadsAll s.heap u d as
 |_,_,_,.nil,r=>by cases r;exact⟨_,.nil⟩
 |_,_,_,.cons h rs,r=>by
  cases r with
  |cons r1 r2=>obtain⟨as,q⟩:=Inv.reads I h r1;obtain⟨bs,q2⟩:=Inv.readsAll I rs r2;exact⟨_,.cons q q2⟩
end
end
set_option tactic.hygienic false
namespace Rv
def own:Manifest.owners.lookup (String.ofList ['d','e','s','r','e','v','e','r'].reverse)=J Manifest.sig_reversed:=by kernel_rfl
def next:Slot "reversed" "__next__" "reversed.__next__" :=
 .of (owner := "reversed") (n := "__next__") (rfl) (rfl) (rfl) (rfl) (by first|exact .inl (by decide +kernel)|exact .inr (by decide +kernel)) (by rw[isSubtype_type]<;>kernel_rfl)
def ZuD:entryFor table "reversed.__next__"=J Builtin.«reversed.__next__»:=entryFor_of_tree (rfl)
def ZuN(a):argsOk "reversed.__next__" ⟨[a],[]⟩:=by unfold argsOk;rw[signature?_of (n:=['_','_','t','x','e','n','_','_']) (rfl) own];trivial
def iter:Slot "reversed" "__iter__" "reversed.__iter__" :=
 .of (owner := "reversed") (n := "__iter__") (rfl) (rfl) (rfl) (rfl) (by first|exact .inl (by decide +kernel)|exact .inr (by decide +kernel)) (by rw[isSubtype_type]<;>kernel_rfl)
def Zzd(a):argsOk "reversed.__iter__" ⟨[a],[]⟩:=by unfold argsOk;rw[signature?_of (n:=['_','_','r','e','t','i','_','_']) (rfl) own];trivial
def Zy1:entryFor table "reversed.__iter__"=J Builtin.«dict_keyiterator.__iter__» :=entryFor_alias (id' := "dict_keyiterator.__iter__") (rfl) (rfl) (by decide +kernel) (by kernel_rfl)
def Zym:typeLookup (.type "tuple") "__reversed__"=pure M:=by rw[typeLookup_type]<;>kernel_rfl
def ZmW:isSubtype (.type "reversed") (.type "reversed")=pure Wr:=by rw[isSubtype_type]<;>kernel_rfl
def init:Slot "reversed" "__init__" "object.__init__" :=
 .of (owner := "object") (n := "__init__") (by rw[typeLookup_type]<;>kernel_rfl) (rfl) (rfl) (by decide +kernel) (by first|exact .inl (by decide +kernel)|exact .inr (by decide +kernel)) (by rw[isSubtype_type]<;>kernel_rfl)
def called:TypeCalled "reversed" "reversed.__new__" "object.__init__" := ⟨rfl,F.create_reversed,⟨_,_,F.mro_reversed⟩,F.made_reversed,by decide +kernel,ZmW,init⟩
noncomputable def obj(l:Yj)(i:Int):Obj:={cls:=.type "reversed",data:=.fields #[.ref l,rawInt i]}
def Is(h:YG)(a l:Yj)(i:Int):Prop:=∃o,h.get? a=J o/\o.cls=.type "reversed" /\ o.data=.fields #[.ref l,rawInt i]
section
variable {prog:Yi}{w:Yh}{A:YH}{E:Yk->Yb->Prop}{s:Yb}
def Is.typeIs(x:Is s.heap a l i):s.TypeIs (.ref a) "reversed" := let⟨o,b,c,_⟩:=x;⟨o,b,c⟩
def Is.at(x:Is h a l i)(e:∀o,h.get? a=J o->h'.get? a=J o):Is h' a l i:=let⟨o,b,r⟩:=x;⟨o,e _ b,r⟩
def new(hl:IsTup s.heap l items)(hz:items.size<=Yc)
 (h:Q (.ref s.heap.objs.size) {s with heap:=s.heap.push<|obj l<|items.size-1,toks:=s.toks+1+1}) :
 codeAny (model prog w) A (.call (.builtin "reversed.__new__") ⟨[.type "reversed",.ref l],[]⟩) (wants Q E) s:=by
 refine codeAny_of_tree<|Ya<|Wj (F.newCall_reversed_1 _)<|Yd ⟨plainId_quiet F.plain_reversed_new _,codeAny_builtin F.entry_reversed_new ?_⟩;rw[Around.under_plainId F.plain_reversed_new _];unfold Builtin.«reversed.__new__»;refine Ya (Wj (newClass_reversed _) ?_)
 try dsimp only
 refine Ya (Wj (a:=()) (by first|rfl|kernel_rfl)<|Ya<|Wj (a:=()) (by first|rfl|kernel_rfl) ?_)
 try dsimp only
 refine Ya (wpAny_specialOf hl.typeIs Zym ?_)
 try dsimp only
 refine Ya ?_;show YB _ _ (isInstance (.ref l) (.type "dict") >>= λb=>_) _ _ s;refine Ya<|wpAny_isInstance hl.typeIs F.sub_tuple_dict ?_;show YB _ _ (specialOf (.ref l) "__getitem__" >>= λb=>_) _ _ s;refine Ya (wpAny_specialOf hl.typeIs slot_tuple_getitem.lookup<|Wj (a:=true) (by rfl) ?_);show YB _ _ (call (.builtin "len") [.ref l] >>= λb=>_) _ _ s;refine Ya (len_tuple hl (by have:=ZcM;lia) ?_);show YB _ _ (asInt? (.int _ _) >>= λb=>_) _ _ _;refine Ya<|Yd ?_;show YB _ _ (newObj (.type "reversed") (.fields #[.ref l,rawInt<|(items.size)-1]) >>= λb=>_) _ _ _;exact Ya (Yr<|Yd h)
theorem call(hl:IsTup s.heap l items)(hz:items.size<=Yc)
 (h:Q (.ref s.heap.objs.size) {s with heap:=s.heap.push<|obj l<|items.size-1,toks:=s.toks+1+1}):YB (model prog w) A (PySem.call (.type "reversed") [.ref l]) Q E s:=by
 refine callType_codes called (F.typeCall_reversed_1 _) F.entry_object_init (new (Q:=λo s1=>o=.ref _/\s1={s with heap:=s.heap.push _,toks:=s.toks+1+1}) hl hz ⟨rfl,rfl⟩) ?_;rintro _ _ ⟨rfl,rfl⟩;exact⟨⟨_,Oj _ rfl,rfl⟩,F.args_object_init_2 _ _,object_init_meets init.lookup F.made_reversed (rfl) _ w _ _ _ ⟨⟨_,Oj _ rfl,rfl⟩,rfl,h⟩⟩
def next_item{it l}{i:Nat}{Q}(aw:Is s.heap it l i)(hl:IsTup s.heap l items)(hz:items.size<=Yc)(hx:items[i]?=J x)
 (hQ:∀h' t',Is h' it l (i-1)->Heap.SameBut it s.heap h'->Q (J x) {s with heap:=h',toks:=t'}):YB (model prog w) A (pyNext<|.ref it) Q E s:=by
 obtain⟨o,ho,hc,hd⟩:=id aw;have hi:i<items.size:=(Array.getElem?_eq_some_iff.mp hx).1;have mv:=ZcM;refine Ya<|wpAny_attempt<|Wa (name:=O "__next__") aw.typeIs next (We next aw.typeIs ZuD (Ya<|Wj (a:=(YD it,[])) rfl<|Ya<|YQ ho hd (x:=.ref l) rfl<|Ya<|YQ ho hd (x:=rawInt<|i) rfl ?_) (ZuN _));show YB _ _ (if (i:Int)<0 then _ else _) _ _ s;rw[if_neg<|by lia];show YB _ _ (specialOf (.ref l) "__getitem__" >>= λb=>_) _ _ s;refine Ya<|wpAny_specialOf hl.typeIs slot_tuple_getitem.lookup ?_;show YB _ _ (mkInt (i) >>= λb=>_) _ _ s;refine Ya (wpAny_mkInt<|Ya<|wpAny_attempt<|getItem_tuple (s:={s with toks:=s.toks+1}) (j:=i) (x:=x) hl (by lia) (by lia) (seqIndex_of (by lia)<|by lia) hx ?_);show YB _ _ (field (.ref it) 1 >>= λb=>_) _ _ _;refine Ya<|YQ ho hd (x:=rawInt<|i) rfl ?_;show YB _ _ (setField (.ref it) 1 (rawInt<|(i)-1) >>= λb=>_) _ _ _;exact Ya (wpAny_setField ho hd (by simp)<|Yd ⟨x,rfl,Yd<|hQ _ _ ⟨_,YU _ ho<|Obj.isFreed_of_fields<|YW hd _,(Obj.cls_mapFields ..).I hc,by rw[YW hd]<;>simp⟩<|Heap.SameBut.update ..⟩)
def next_end(hh:A.handled=M)(aw:Is s.heap it l (-1))(hQ:∀h',Heap.ExtBut it s.heap h'->Q M {s with heap:=h'}):YB (model prog w) A (pyNext<|.ref it) Q E s:=by
 obtain⟨o,ho,hc,hd⟩:=id aw;refine Ya (wpAny_attempt<|Wa (name:=O "__next__") aw.typeIs next (We next aw.typeIs ZuD (Ya<|Wj (a:=(YD it,[])) rfl ?_) (ZuN _)))
 try dsimp only
 refine Ya<|YQ ho hd (x:=.ref l) rfl<|Ya<|YQ ho hd (x:=rawInt<|-1) rfl ?_;show YB _ _ (if (-1)<0 then _ else _) _ _ s;rw[if_pos<|by decide];refine Ya<|wpAny_rule ?_;show YB _ _ ((setField (.ref it) 1 (rawInt<|-1) >>= λ_=>setField (.ref it) 0 .none) >>= λb=>_) _ _ _;refine Ya (Ya (wpAny_setField ho hd (by simp) (wpAny_setField (YU (Obj.mapFields (·.setIfInBounds 1 (rawInt<|-1))) ho<|Obj.isFreed_of_fields<|YW hd _) (YW hd _) (by simp) ?_)));refine Ya ?_;show YB _ _ (newExc (.type "StopIteration") [] >>= λb=>_) _ _ _;refine Ya ?_;simp only;refine Ya (Yr (Ya (m:=firstArgMember _ _)<|Wj (a:=Value.none) (by first|rfl|(simp only[firstArgMember]<;>rfl))<|Yr ?_<|by size_fits)<|by size_fits);simp only;refine Ya<|wpAny_handled ?_;rw[show A.in1.handled=M from hh];refine Ya<|Yd<|wpAny_throw ?_;exact Ya (wpAny_isInstance (T := "StopIteration") (b:=true) ⟨_,Oj _ rfl,rfl⟩ isSubtype_stop<|Yd<|hQ _<|((((Heap.ExtBut.refl _ _).trans (Heap.SameBut.update ..).extBut).trans (Heap.SameBut.update ..).extBut).push _).push _)
def Zgy(aw:Is s.heap it l i)(h:Q (.ref it) s):YB (model prog w) A (pyIter<|.ref it) Q E s:=wpAny_pyIter_slot aw.typeIs iter (We iter aw.typeIs Zy1 (Yd ⟨_,rfl,_,_,aw.typeIs,next.lookup,h⟩)<|Zzd _)
end
end Rv
noncomputable def Itv(K:Yl)(a:Yj)(n:Nat):It:=⟨λi H=>∃b x,SqT K H a b/\b.length=n/\b.reverse[i]?=J x,λi H x H'=>H'=H/\∀b,SqT K H a b->b.reverse[i]?=J x,λi H=>∃b,SqT K H a b/\b.length=n/\n=i⟩
def Zpu{P}{w}{K}{tg}(a it)(n):Turn P w K tg (Itv K a n) [it] it (λi h=>i<=n/\Rv.Is h it a (n-1-i)) where
 mem:=by simp
 obj:=λi h st b f=>by
  have e:b=it:=by simpa using f
  subst e;obtain⟨_,o,e,c,d⟩:=st;exact⟨o,e,λv z=>by simp_all⟩
 keep:=λi h j st k=>⟨st.1,st.2.at λo e=>k it (by simp) o e⟩
 item:=by
  intro X l hw m A i F s Z H E I hf st q;subst l hw m;obtain⟨V,st⟩:=st;obtain⟨xs,x,r,B,g⟩:=q;obtain⟨its,C,p,W⟩:=I.tuple r;have Y:=C.length;have G:i<xs.length:=by simpa using (Ob.mp g).1
  have L:xs[n-1-i]?=J x:=by rw[List.getElem?_reverse G]at g;rw[<-B];exact g
  obtain⟨u,N,O⟩:=C.get L;obtain⟨f0,f1,f2,t,f4,y⟩:=hf it (by simp);have Q:(n)-1-(i)=((n-1-i:Nat):Int):=by lia
  rw[Q]at st;refine Rv.next_item st p (by simp;lia) (x:=u) (by simpa using N) λj t' bn R=>?_;obtain⟨o,e,c,d⟩:=id bn;have S:((n-1-i:Nat))-1=(n)-1-((i+1:Nat):Int):=by lia
  refine⟨u,rfl,Zi0 (s:={s with heap:=j,toks:=t'}) e c d (by decide) ⟨x,H,I.turned (t':=t') (λb o f e=>(R.2 b f).I e) f0 f1 t f4 y,O,⟨rfl,λys T=>I.tuple_inj T r▸g⟩,⟨by lia,by rw[<-S];exact bn⟩,λb f=>(hf b f).1⟩⟩
 done:=by intro X l hw m A i F s Z H E I hf st q;subst l hw m;obtain⟨xs,r,B,g⟩:=q;obtain⟨f0,f1,f2,t,f4,y⟩:=hf it (by simp);have D:=st.2;rw[show(n:Int)-1-(i:Nat)=-1 by lia]at D;exact Rv.next_end (I.ok.hd A) D λj U=>⟨rfl,I.turned (t':=s.toks) (λb o f e=>U b o f e) f0 f1 t f4 y⟩
 self:=λ_ _ _ _ _ st h=>Rv.Zgy st.2 h
theorem Zgm:∀{vs}{ss},StrsAre vs ss->Zt (ss.map V.str) vs
 |_,_,.nil=>.nil
 |_,_,.cons y t h=>.cons ⟨t,rfl⟩ (Zgm h)
section
variable {prog:Yi}{w:Yh}{A:YH}{E:Yk->Yb->Prop}{s:Yb}
def Zlw
 (iW:∀qe ,(∀(h') (tk) (vs),s.heap.objs.size<=h'.objs.size->(∀b o,s.heap.get? b=J o->h'.get? b=J o)->StrsAre vs ss->qe vs {s with heap:=h',toks:=tk})->YB (model prog w) A.in1 (collect<|.ref r) qe E s)
 (jK:ss.length<64)
 (h:∀(D:Yj) (h') (tk) (out) (bz) (n),(∀b o,s.heap.get? b=J o->h'.get? b=J o)->s.heap.objs.size<=D->h'.get? D=J {cls:=.type "list",data:=.seq out.toArray n}->StrsAre out bz->bz.Perm ss->sortedS bz=Wr ->
  Q (.ref D) {s with heap:=h',toks:=tk}):YB (model prog w) A (call (.builtin "sorted") [.ref r]) Q E s:=by
 refine Calls.call_function_entry kind_sorted plain_sorted entry_sorted (args_sorted1 _)<|Ya (m:=checkCount "sorted" 1 1 _)<|Yd<|Ya<|iW _ λh' tk vs bq hk hS=>?_;have al:vs.length=ss.length:=by simpa using ((Zgm hS).length).symm
 refine Ya (wpAny_newList (Ya<|Wc<|We slot_list_sort ⟨_,Oj _ rfl,rfl⟩ entry_list_sort (list_sort_treeK strKind_oneLt (Oj _ rfl) hS.keysOf (λv₁ v₂ rest e=>keyKind_strs<|e▸hS) (by lia) λbn a1 a2=>⟨_,rfl,Yd ⟨_,rfl,?_⟩⟩)<|args_list_sort _) (by rw[YC];lia));obtain⟨bz,R,h2,h3⟩:=sorted_out_str hS a1 a2;obtain⟨e,he⟩:=sortedHeap_at (out:=(arrOf bn).map (·.2))<|Oj _ rfl;refine h h'.objs.size _ tk ((arrOf bn).map (·.2)).toList bz e (λb o q=>?_) bq (Array.toArray_toList.symm▸he) R h2 h3;have ay:=Yn<|hk b o q;rw[sortedHeap_old (Ou ay) (by rw[size_push'];exact Nat.lt_succ_of_lt ay)];exact Od _ (hk b o q)
def Zk3(K:PySem.W.KdlSrc prog w T r d n P OK)(hh:A.handled=M)(hok:OK s.heap)(hn:n<=Yc)
 (h:∀(h') (tk) (ag),s.heap.objs.size<=h'.objs.size->(∀b o,s.heap.get? b=J o->h'.get? b=J o)->ItemsOf P ag n->qe ag.toList {s with heap:=h',toks:=tk}) :
 YB (model prog w) A (collect<|.ref r) qe E s:=by
 refine Ya (wpAny_runValue (codeAny_builtin entry_proto_collect' (Ya (Yr (Yd ⟨plainId_quiet PySem.F.plain_list_iadd _,codeAny_builtin entry_list_iadd' (Yg (PySem.W.kdl_extend (A:=A) (s:={s with heap:=s.heap.push {cls:=.type "list",data:=.seq ([]).toArray}})
  (R:=λ(q) (j)=>∃(h':YG) (tk:Nat) (ag:Array Yk) (c:Nat),q=.ok (.ret<|.ref s.heap.objs.size)/\j={s with heap:=h',toks:=tk}/\(∀b o,s.heap.get? b=J o->h'.get? b=J o)/\h'.get? s.heap.objs.size=J {cls:=.type "list",dict:=M,data:=.seq ag c,slots:=#[]}/\ItemsOf P ag n)
  K hh (K.keep _ _ hok λb _ o e=>Od _ e) s.heap.objs.size (Nat.ne_of_gt (K.there _ hok).1) (Nat.ne_of_gt (K.there _ hok).2) (.ref s.heap.objs.size) 0 (Oj _ rfl) (λh' tk ag c g a i=>⟨h',tk,ag,c,rfl,rfl,λb o e=>g b o (Ou<|Yn e)<|Od _ e,a,i⟩) hn) (λk j x=>?_) λe j x=>?_)⟩)))))
 . cases k with
   |done f=>obtain⟨h',tk,ag,c,e,rfl,g,a,i⟩:=x;cases e;exact Ya (wpAny_load a<|Yd<|h h' tk ag (Nat.le_of_lt<|Yn a) g i)
   |again l=>refine⟨x.1,codeAny_mono x.2 λq m y=>?_⟩;obtain⟨h',tk,ag,c,rfl,rfl,g,a,i⟩:=y;exact Ya (wpAny_load a<|Yd<|h h' tk ag (Nat.le_of_lt<|Yn a) g i)
 . obtain⟨_,_,_,_,z,_⟩:=x;cases z
end
theorem ZhF:∀{xs:List α}{ys:List β},Paired qe xs ys->∀{i:Nat}{x},xs[i]?=J x->∃y,ys[i]?=J y/\qe x y
 |_,_,.nil,i,x,e=>by trivial
 |_,_,.cons h r,0,x,e=>by simp_all
 |_,_,.cons h r,i+1,x,e=>by obtain⟨y,R,a⟩:=ZhF r (by trivial);exact⟨y,by trivial,a⟩
theorem Zhq:∀(ss) (vs),vs.length=ss.length->(∀(j:Nat) (v),vs[j]?=J v->∃x,ss[j]?=J x/\(ZV P w).is (YE x) v=Wr)->StrsAre vs ss
 |[],[],_,_=>.nil
 |s::ss,v::vs,a,h=>by obtain⟨x,e,b⟩:=h 0 v rfl;cases e;obtain⟨t,rfl⟩:=Value.isStrOf_shape b;exact .cons s t (Zhq _ _ (by simpa using a) λj u c=>h (j+1) u<|by trivial)
section
variable {X:Cx}
def Zp4(P:Yi)(w:Yh)(K:Yl):List V->Hp->VK->Prop:=λd H Q=>∃a b c,d=[.ref a]/\Dk P w K H a b/\b.map (·.1)=c.map YE/\c.length<64/\∀p bz,H p=M->bz.Perm c->sortedS bz=Wr->Q (.ref p) (upd H p<|.lst<|bz.map V.str)
def ZjZ(hc:X.A.handled=M):ZcH X (.builtin "sorted") (Zp4 X.prog X.w X.K):=by
 rintro aa s Z H xs us Q I r⟨a,kvs,ss,rfl,hd,iR,jK,q⟩;obtain⟨u,rfl,ru⟩:=vals1 r;cases ru;obtain⟨z,hm,vs,rel,dd⟩:=I.dk hd;obtain⟨ep,i5⟩:=dd.dictAt;have hl:=(Paired.length rel).symm;have bM:=by simpa using congrArg List.length iR
 have bU:∀(j:Nat) k x,vs[j]?=J (k,x)->∃y,ss[j]?=J y/\k=YE y:=λj k x e=>by
  have hj:j<vs.length:=(Ob.mp e).1;have R:kvs[j]?=J kvs[j]:=Og (by lia);obtain⟨u,hu,bS⟩:=ZhF rel R;rw[e]at hu;cases hu;have h3:(kvs.map (·.1))[j]?=J kvs[j].1:=by rw[O2,R];rfl
  rw[iR,O2]at h3;obtain⟨y,hy,e3⟩:=Oo.mp h3;exact⟨y,hy,bS.1.symm.I e3.symm⟩
 refine Zlw (ss:=ss) (λqe hR=>Zk3 (PySem.W.kdl_dict (knd:=ZV X.prog X.w) (kvs:=vs) (ep:=ep) hm) hc i5 (by lia) λh' tk ag bq hk av=>?_) jK λD h' tk out bz n hk hD ho hS hp hs=>?_
 . refine hR h' tk ag.toList bq hk (Zhq (P:=X.prog) (w:=X.w) ss ag.toList (by rw[Array.length_toList,av.1];lia) λj v hv=>?_);obtain⟨k,x,e,la⟩:=av.2 j v<|Array.getElem?_toList.symm.I hv;obtain⟨y,hy,rfl⟩:=bU j k x e;exact⟨y,hy,la⟩
 . refine⟨.ref D,_,I.laid (a:=D) (o:=.lst<|bz.map V.str) (t':=tk) hk hD ⟨by simpa using by rw[hp.length_eq];lia,out,n,Zgm hS,ho⟩,rfl,q D bz (I.hok.fresh hD) hp hs⟩
end
set_option tactic.hygienic true
theorem Ze8:∀{ns}{vs},Zt (ns.map V.int) vs->IntsAre vs ns
 |[],vs,h=>by cases h;exact .nil
 |s::b,vs,h=>by
  cases h with
  |cons R a=>obtain⟨t,rfl⟩:=R;exact .cons s t (Ze8 a)
noncomputable def Zg6(z:Str)(n:Nat):Str:=⟨(YK n z.cps).foldl (·++·) #[]⟩
theorem ZhV(a:Array _):∀(n) (i:Array Nat),((YK n a).foldl (·++·) i).size=i.size+n*a.size
 |0,i=>by simp
 |n+1,i=>by
  rw[List.replicate_succ,List.foldl_cons,ZhV a n _,Array.size_append,Nat.succ_mul]
  lia
def ZfJ(z)(n):(Zg6 z n).length=n*z.length:=by show((YK n _).foldl _ #[]).size=_;rw[ZhV];simp;rfl
section
variable {X:Cx}
def Zo1(hc:X.A.handled=M):ZcH X (.builtin "sum") (λxs H Q=>∃(a:Yj) (ns:List _),xs=[.ref a]/\SqL X.K H a (ns.map V.int)/\Q (.int ns.sum) H):=by
 rintro aa s Z H xs us Q I r⟨a,ns,rfl,hq,q⟩;obtain⟨u,rfl,ru⟩:=vals1 r;cases ru;obtain⟨its,rv,pl,hz⟩:=I.list hq;have hi:=Ze8 rv;obtain⟨ys,e⟩:=hi.allInts.items;refine sum_intListG hc (e▸pl.isList) λh' tk t' hk=>⟨.int _,H,I.kept hk,⟨t',?_⟩,q⟩
 have e2:=hi.numsOf;have e3:numsOf (intItems ys).toList=ns:=by rw[<-e];trivial
 rw[nums_intItems]at e3;rw[preSum_eq,List.take_of_length_le<|by simp,e3]
def ZsX:OpR X (binaryOp .Mult) (λx y H Q=>∃z n,x=.str z/\y=.int n/\0<=n/\n<=1000/\z.length<=1000/\Q (.str<|Zg6 z n.toNat) H):=by
 rintro aa s Z H x y v u Q I rx ry⟨z,n,rfl,rfl,h0,R,h2,q⟩;obtain⟨t,rfl⟩:=rx;obtain⟨t2,rfl⟩:=ry;have hl:z.length*n.toNat<=1000000:=Nat.mul_le_mul h2 (by lia:n.toNat<=1000);have hs:(1000000)<=Yc:=by decide
 refine PySem.P.mul_str (by rw[decide_eq_false<|by lia,decide_eq_false<|by lia]<;>rfl) (λ_ _=>?_) (λ_ _=>?_) ?_
 . have h3:1<=n:=by lia
   have h4:(9223372036854775807)/n ≥ 1000:=by exact(Int.le_ediv_iff_mul_le<|by lia).mpr (by lia)
   show ¬ ((z.length) > (2^63-1)/n);rw[show(2^63-1:Int)=9223372036854775807 by decide]
   lia
 . unfold Builtin.Str.tooLong;exact decide_eq_false (by lia)
 . by_cases hn:n<1
   . rw[if_pos hn];refine⟨by decide,.str _,H,I.tok _,⟨_,rfl⟩,?_⟩;rw[show n.toNat=0 by lia]at q;exact q
   . rw[if_neg hn];by_cases h5:(n==1||z.length==0)=Wr
     . rw[if_pos h5];refine⟨.str _,H,I,⟨_,rfl⟩,?_⟩;have e:Zg6 z n.toNat=z:=by
        rw[Wo]at h5;rcases h5 with h5|h5
        . have e1:n.toNat=1:=by have:=eq_of_beq h5;lia
          rw[e1];unfold Zg6;simp
        . have e1:z.length=0:=eq_of_beq h5;have e2:(Zg6 z n.toNat).length=0:=by rw[ZfJ,e1];simp
          have f:∀y:Str,y.length=0->y=⟨#[]⟩:=λy hy=>by cases y with|mk c=>rw[show c=#[]from Array.eq_empty_of_size_eq_zero hy]
          exact(f _ e2).I (f z e1).symm
       rw[e]at q;exact q
     . rw[if_neg h5];refine⟨?_,.str _,H,I.tok _,⟨_,rfl⟩,q⟩;show(Zg6 z n.toNat).length<=Yc;rw[ZfJ,Nat.mul_comm]
       lia
def ZjH(hi:i.natAbs<2^2000)(hj:j.natAbs<2^2000):IntMulOk i j:=by
 have a:∀k ,k.natAbs<2^2000->Builtin.Int.intBits k<=2000:=λk b=>by
  unfold Builtin.Int.intBits;split
  . lia
  . rename_i h;have:=(Nat.log2_lt<|by simp_all).mpr b
    lia
 have R:=a i hi;have c:=a j hj;have d:Builtin.Int.intTooBig (Builtin.Int.intBits i+Builtin.Int.intBits j)=Ws:=by
  unfold Builtin.Int.intTooBig;have:bitsLine=134217728:=rfl;rw[this]
  lia
 intro q
 simp_all
def ZoC:OpR X (binaryOp .Mult) (rI (λi j=>i.natAbs<2^2000/\j.natAbs<2^2000) λi j=>.int<|i*j):=opI λ_ _ _ _ _ _ _ a q=>mul_int q (ZjH a.1 a.2)
noncomputable def Zx1(K:Yl):R2:=λx y H Q=>∃a b c,x=.ref a/\y=.ref b/\SqT K H a []/\SqT K H b c/\Q (.ref b) H
def Zs0:OpR X (binaryOp .Add) (Zx1 X.K):=by
 rintro aa s Z H x y v u Q I rx ry⟨a,b,ys,rfl,rfl,ha,hb,q⟩;cases rx;cases ry;obtain⟨its,r1,ht,_⟩:=I.tuple ha;obtain⟨bp,r2,hb,_⟩:=I.tuple hb;cases r1;obtain⟨⟨cls,dd,data,sl⟩,ho,hc,n,hd⟩:=id ht;obtain⟨⟨cls2,lW,data2,j2⟩,dG,iY,n2,iV⟩:=id hb;subst hc hd iY iV;exact concat_meets ⟨_,ho,rfl⟩ ⟨_,dG,rfl⟩ noFill_tuple_add seq_tuple_add PySem.F.slot_tuple_add PySem.F.entry_tuple_add (PySem.F.args_tuple_add_2 _ _)
  (tuple_addW0 a b _ _ n _ _ _ _ _<|rfl) ⟨ho,dG,⟨.ref b,H,I,rfl,q⟩⟩
end
end L2
namespace HT
open PySem PyProof.Rows
section
variable {prog:Yi}{w:Yh}{A:YH}{E:Yk->Yb->Prop}{s:Yb}
theorem Ze1{t sl}{items}{lo hi}{Q}(ht:IsTup s.heap t items)(hs:s.heap.IsSliceOf sl vl vu .none)(pl:IsPart vl lo)(pu:IsPart vu hi)
   (hw:sIx items.size 0 lo=0/\sIx items.size items.size hi=items.size) (h:Q (.ref t) s):YB (model prog w) A (getItem (.ref t)<|.ref sl) Q E s:=by
 obtain⟨os,dC,gI,fU⟩:=id hs;unfold getItem
 try with_reducible refine Wc ?_
 refine Ya (wpAny_sequenceKey ht.typeIs (by decide) (Ya (Wa (name:=O "__getitem__") ht.typeIs Wi
   (We Wi ht.typeIs entry_tuple_getitem ?_<|args_tuple_getitem _ _))))
 show YB _ _ (Builtin.Tuple.tupleItemsOf (.ref t) >>= _) _ _ s;refine Ya<|tupleItemsOf_ ht<|Ya<|wpAny_typeOf ⟨os,dC,gI⟩<|Ya<|Zc6 hs pl pu ?_;show YB _ _ (if (((sIx items.size 0 lo):Int)==0&&(1)==1&&(sIx items.size items.size hi-sIx items.size 0 lo)==items.size)=Wr then _ else _) _ _ s;rw [if_pos (by
   rw [hw.1,hw.2];simp)]
 refine Ya<|Ya<|wpAny_typeOf ht.typeIs<|Yd ?_;rw [if_pos<|by decide];exact Ya (wpAny_rule<|Yd ⟨_,rfl,Yd h⟩)
end
end HT
namespace L2
open PySem PySem.Spec PyProof.Rows
section
variable {X:Cx}
def ZzO(K:Yl):V->Option Int->Option Int->Hp->VK->Prop:=λx c d H Q=>∃a b,x=.ref a/\SqT K H a b /\
 (HT.sIx b.length 0 c=0/\HT.sIx b.length b.length d=b.length)/\Q (.ref a) H
def ZpJ:SlR X (ZzO X.K):=by rintro aa s Z H x v vl vu lo hi sl Q I rx hs pl pu⟨a,xs,rfl,hx,hw,q⟩;cases rx;obtain⟨its,r,ht,hz⟩:=I.tuple hx;have al:its.toArray.size=xs.length:=r.length.symm;exact⟨_,_,PyProof.Rows.slot_tuple_getitem.lookup,ht.typeIs,HT.Ze1 ht hs pl pu (by rw[al];trivial) ⟨.ref a,H,I,rfl,q⟩⟩
end
end L2
namespace L2
set_option tactic.hygienic false
namespace Mx
open PySem PyProof.Rows
def nm:toString "max" ++ toString ".loop"="max.loop" := rfl
section
variable {prog:Yi}{w:Yh}{A:YH}{Z_:Result->Yb->Prop}{qb:Yj}{fo wo:List Yj}{m:Nat}{P:Nat->Yk->Prop}{S_:Nat->YG->Prop}
theorem loop(W:Walks prog w A.in1 qb fo wo m P S_)(bt)(hb:CmpOf prog w A.in1 .Gt P bt)(C)(hC:C ∉ fo)(kw):∀(d j) (s) (u) (c),
 m-(j+1)=d->j+1<=m->S_ (j+1) s.heap->P (argBest bt j) u->s.heap.get? C=J {cls:=.type "list",dict:=M,data:=.seq #[u,u] c,slots:=#[]} ->
 (∀v hp tk,P (argBest bt<|m-1) v->(∀b o,b ∉ wo->b≠C->s.heap.get? b=J o->hp.get? b=J o)->Z_ (.ok<|.ret v) {s with heap:=hp,toks:=tk}) ->
 codeAny (model prog w) A (.builtin "max.loop" ⟨[.ref qb,.none,.ref C],kw⟩) Z_ s:=by
 have jJ:=λz=>hC<|W.sub _ z;intro d;induction d with
 |zero=>
  intro j s u c e1 e2 st pu hc hz;have em:j+1=m:=by omega
  refine codeAny_builtin PySem.F.entry_max_loop ?_;rw[Around.under_plainId YS _];show YB (model prog w) A.in1 (seqItems? (YD C) >>= _) _ _ s;refine Ya<|wpAny_seqItems hc rfl ?_;show YB (model prog w) A.in1 (tryCatch (pyNext<|YD qb) _ >>= _) _ _ s;refine Ya<|wpAny_tryCatch<|W.done s _ _ (em▸st) λhp tk kp=>?_;have cU:=kp C _ jJ hc;show YB (model prog w) A.in1 (updateSeq C (λ_=>#[]) >>= _) _ _ _;exact Ya (wpAny_updateSeq cU rfl<|Ya<|wpAny_letGo<|Yd<|hz u _ tk (em▸pu) λb o b1 b2 e=>(YN _ _<|YL b2).I<|kp b o b1 e)
 |succ d ih=>
  intro j s u c e1 e2 st pu hc hz;have lt:j+1<m:=by omega
  refine codeAny_builtin PySem.F.entry_max_loop ?_;rw[Around.under_plainId YS _];show YB (model prog w) A.in1 (seqItems? (YD C) >>= _) _ _ s;refine Ya<|wpAny_seqItems hc rfl ?_;show YB (model prog w) A.in1 (tryCatch (pyNext<|YD qb) _ >>= _) _ _ s;refine Ya<|wpAny_tryCatch<|W.item (j+1) s _ _ lt st λv hp tk pv b7 kp=>?_;have cU:=kp C _ jJ hc;show YB (model prog w) A.in1 (tryCatch (holding [v,v]<|richCompare CmpOp.Gt v u >>= _) _ >>= _) _ _ _;refine Ya<|wpAny_tryCatch<|Wc<|Ya<|hb (j+1) (argBest bt j) v u _ _ _ pv pu<|Ya<|Wc<|wpAny_truthy_bool<|Ya<|wpAny_letGo<|Yd ?_;cases q:bt (j+1) (argBest bt j)with
  |true=>
   simp only;refine Ya<|wpAny_updateSeq cU rfl<|Ya<|wpAny_letGo ?_;rw[nm];refine Yd ⟨plainId_quiet YS _,ih (j+1) _ v _ (by omega) lt (W.frame _ _ _ b7 λb b1 o e=>?_) (by simp only[argBest,q,if_true];exact pv) (YU _ cU rfl) λv2 fL fi fu fE=>?_⟩
   . exact(YN _ _ (λz:C=b=>hC (by rw[z];exact b1))).I e
   . exact hz v2 fL fi fu λb o b1 b2 e=>fE b o b1 b2 ((YN _ _<|YL b2).I<|kp b o b1 e)
  |false=>simp only[OG,if_false];refine Ya<|wpAny_letGo ?_;rw[nm];exact Yd ⟨plainId_quiet YS _,ih (j+1) _ u c (by omega) lt b7 (by simp only[argBest,q,OG,if_false];exact pu) cU λv2 fL fi fu fE=>hz v2 fL fi fu λb o b1 b2 e=>fE b o b1 b2<|kp b o b1 e⟩
def first(W:Walks prog w A.in1 qb fo wo m P S_)(bt)(hb:CmpOf prog w A.in1 .Gt P bt)(C)(hC:C ∉ fo)(dn)(dv)(st:S_ 0 s.heap)
 (hc:s.heap.get? C=J {cls:=.type "list",dict:=M,data:=.seq #[] c,slots:=#[]})
 (hz:∀v hp tk,(m=0->v=dv)->(0<m->P (argBest bt<|m-1) v)->(∀b o,b ∉ wo->b≠C->s.heap.get? b=J o->hp.get? b=J o)->Z_ (.ok<|.ret v) {s with heap:=hp,toks:=tk}) :
 codeAny (model prog w) A (.builtin "max.loop" ⟨[.ref qb,.none,.ref C],[(dn,dv)]⟩) Z_ s:=by
 refine codeAny_builtin PySem.F.entry_max_loop<|Ya<|wpAny_seqItems hc rfl ?_;show YB (model prog w) A.in1 (tryCatch (pyNext<|YD qb) _ >>= _) _ _ s;by_cases hm:0<m
 . refine Ya (wpAny_tryCatch<|W.item 0 s _ _ hm st λv hp tk pv b7 kp=>?_);have cU:=kp C _ (λz=>hC<|W.sub _ z) hc;show YB (model prog w) A.in1 (updateSeq C (λ_=>#[v,v]) >>= _) _ _ _;refine Ya<|wpAny_updateSeq cU rfl ?_;rw[nm];refine Yd ⟨plainId_quiet YS _,loop W bt hb C hC _ _ 0 _ v _ rfl hm (W.frame _ _ _ b7 λb b1 o e=>?_) pv (YU _ cU rfl) λv2 fL fi fu fE=>?_⟩
   . exact(YN _ _ (λz:C=b=>hC<|z▸b1)).I e
   . exact hz v2 fL fi (λz=>by omega) (λ_=>fu) λb o b1 b2 e=>fE b o b1 b2 ((YN _ _<|YL b2).I<|kp b o b1 e)
 . have h0:m=0:=by omega
   exact Ya (wpAny_tryCatch<|W.done s _ _ (h0▸st) λhp tk kp=>Ya<|wpAny_rule<|Yd<|hz dv hp tk (λ_=>rfl) (λz=>absurd z hm) λb o b1 _ e=>kp b o b1 e)
end
section
variable {prog:Yi}{w:Yh}{A:YH}{E:Yk->Yb->Prop}{s:Yb}
def args(a d):argsOk "max" ⟨[a],[("default",d)]⟩:=rfl
theorem call
 (h:YB (model prog w) A.in1 (pyIter x) (λit s2=>∃qb fo wo m P S_ bt,it=.ref qb/\Walks prog w A.in1 qb fo wo m P S_/\S_ 0 s2.heap/\(∀b∈fo,b<s2.heap.objs.size)/\CmpOf prog w A.in1 .Gt P bt /\
  ∀v hp tk,(m=0->v=dv)->(0<m->P (argBest bt<|m-1) v)->(∀b o,b ∉ wo->s2.heap.get? b=J o->hp.get? b=J o)->Q v {s2 with heap:=hp,toks:=tk}) E s) :
 YB (model prog w) A (PySem.call (.builtin "max") [x] [("default",dv)]) Q E s:=by
 refine wpAny_call<|codeAny_call_builtin PySem.F.plain_max PySem.F.entry_max ?_;simp only[checkBuiltinCall,PySem.F.kind_max];have go:YB (model prog w) A.in1 (Builtin.«max» ⟨[x],[("default",dv)]⟩) (λfin s'=>match fin with
  |.done f=>(match Except.ok f with|.ok (.ret v)=>Q v s'|.ok _=>False|.error e=>E e s')
  |.again c'=>c'.quiet=Wr/\codeAny (model prog w) A c' (λr s'=>match r with|.ok (.ret v)=>Q v s'|.ok _=>False|.error e=>E e s') s') E s:=by
  show YB (model prog w) A.in1 (Builtin.Builtins.bindParams "max" ["key", "default"] 0 ⟨[],[("default",dv)]⟩ >>= _) _ _ s;refine Ya<|Wj (show Builtin.Builtins.bindParams "max" ["key", "default"] 0 ⟨[],[("default",dv)]⟩=pure [M,J dv]from rfl)<|Ya<|Yd<|Ya<|Yg h (λit s2 q=>?_) λ_ _ e=>e;obtain⟨qb,fo,wo,m,P,S_,bt,rfl,W,st,iT,hb,hQ⟩:=q;refine Ya<|Yr ?_;rw[nm];exact Yd ⟨plainId_quiet YS _,first W bt hb s2.heap.objs.size (λz=>Yw _<|iT _ z) _ dv (W.frame _ _ _ st λb _ o e=>Od _ e) (Oj _ rfl) λv hp tk a1 a2 kp=>hQ v hp tk a1 a2 λb o b1 e=>kp b o b1 (Ou<|Yn e)<|Od _ e⟩
 cases hs:Manifest.signature? "max" with
 |none=>exact Yd go
 |some sig=>have ha:=args x dv;simp only[argsOk,hs]at ha;show YB _ A.in1 (Bind.checkArgs "max" sig ⟨[x],[("default",dv)]⟩) _ _ s;rw[ha];exact Yd go
end
end Mx
end L2
namespace L2
open PySem PySem.Spec PyProof.Rows
set_option tactic.hygienic false
noncomputable def Zgv:List Int->Int->Int
 |[],d=>d
 |x::r,_=>r.foldl (λm y=>if y > m then y else m) x
theorem Zjf(ns:List _):∀k,k<ns.length->(argBest (λi j=>Wu<|ns.getD i 0 > ns.getD j 0) k)<ns.length/\ns.getD (argBest (λi j=>Wu<|ns.getD i 0 > ns.getD j 0) k) 0=Zgv (ns.take<|k+1) 0
 |0,h=>by
  cases ns with
  |nil=>simp_all
  |cons x r=>trivial
 |k+1,h=>by
  obtain⟨R,h2⟩:=Zjf ns k (by lia);have e:Zgv (ns.take<|k+1+1) 0=if ns.getD (k+1) 0 > Zgv (ns.take<|k+1) 0 then ns.getD (k+1) 0 else Zgv (ns.take<|k+1) 0:=by
   cases ns with
   |nil=>simp_all
   |cons x r=>
    have hk:=by simpa using h
    show((r.take _).foldl _ x)=_;rw[List.take_succ_eq_append_getElem _,List.foldl_append];have:(x::r).getD (k+1) 0=r[k]:=by simp_all
    rw[this];rfl
  rw[e,<-h2];have ea:argBest (λi j=>Wu<|ns.getD i 0 > ns.getD j 0) (k+1)=if decide _=Wr then k+1 else argBest _ k:=rfl;rw[ea];by_cases q:ns.getD (k+1) 0 > ns.getD (argBest (λi j=>Wu<|ns.getD i 0 > ns.getD j 0) k) 0
  . rw[if_pos<|decide_eq_true q,if_pos q];exact⟨h,rfl⟩
  . rw[if_neg<|by simpa using q,if_neg q];exact⟨R,rfl⟩
section
variable {X:Cx}
def ZqM(hc:X.calm=Wr)(I:Inv X aa Z H s)(hx:SqL X.K H a (ns.map V.int))(q:Q (.int<|Zgv ns d) H):
 YB (model X.prog X.w) X.A (PySem.call (.builtin "max") [.ref a] [("default",.int d t)]) (EP X aa Z Q) X.xe s:=by
 obtain⟨its,rv,pl,hz⟩:=I.list hx;have ay:a<s.heap.objs.size:=by obtain⟨_,_,e,_⟩:=pl;exact Yn e
 have hl:=by have:=rv.length;rw[Yu]at this;exact this.symm
 have val:∀{i:Nat}{v:Yk},its.toArray[i]?=J v->i<ns.length/\∃t,v=.int (ns.getD i 0) t:=λ{i v} hv=>by
  have gC:its[i]?=J v:=by simpa using hv
  have hi:i<ns.length:=hl▸(Ob.mp gC).1;obtain⟨u',e',r'⟩:=rv.get (by rw[O2,Og hi]<;>rfl);rw[gC]at e';cases e';obtain⟨t,rfl⟩:=r';exact⟨hi,t,by simp_all⟩
 refine Mx.call (wpAny_pyIter_list pl.isList ⟨s.heap.objs.size,_,_,_,_,_,λi j=>Wu<|ns.getD i 0 > ns.getD j 0,rfl,Walks.list (A:=X.A.in1) (show X.A.in1.handled=M from I.ok.hd hc) s.heap.objs.size a (Ou ay) its.toArray,⟨⟨_,Oj _ rfl,rfl,rfl⟩,pl.isList.push _⟩,?_,?_,λv hp tk a1 a2 kp=>?_⟩)
 . intro b hb;simpa[Heap.push]using by
    simp at hb;rcases hb with rfl|rfl
    . exact OH _
    . exact Nat.lt_succ_of_lt ay
 . exact CmpOf.ints_gt (λi=>ns.getD i 0) λi v hv=>(val hv).2
 . refine⟨.int<|Zgv ns d,H,I.kept λb o e=>kp b o (λz=>?_)<|Od _ e,?_,q⟩
   . have:b=s.heap.objs.size:=by simpa using z
     subst this;exact absurd (Yn e) (Yw _)
   . have bq:its.toArray.size=ns.length:=by rw[Of,hl]
     by_cases h0:ns=[]
     . subst h0;have:=a1 (by rw[bq];rfl);subst this;exact⟨t,rfl⟩
     . have kM:0<ns.length:=List.length_pos_iff.mpr h0;obtain⟨_,t3,ev⟩:=val<|a2<|bq▸kM;refine⟨t3,?_⟩;rw[ev,bq,(Zjf ns (ns.length-1)<|by omega).2,List.take_of_length_le<|by omega];cases ns with
       |nil=>exact absurd rfl h0
       |cons x r=>rfl
def ZxA(K:Yl)(ta tb:TE):TE:=λZ H Q=>ta Z H λv H1=>tb Z H1 λu H2=>∃a b d,v=.ref a/\u=.int d/\SqL K H2 a (b.map V.int)/\Q (.int<|Zgv b d) H2
def ZsN(hg:Gl X "max")(hm:X.mg "max"=M)(hc:X.calm=Wr)(ha:PE X x ta)(hb:PE X y tb)(he:YA [x] X.env=[(Ws,eval x X.env)]):
 PE X (.Call (.Name "max" p) [x] [⟨J "default",y,kp⟩] pos) (ZxA X.K ta tb):=by
 intro k s Z H Q I h;refine YV (ZcN I hg hm boot_max<|PyProof.Rows.callWith_kw ?_ (by rw[he];rfl) (by rw[he];rfl));rw[he];refine Calls.spliced_cons<|thn (ha _ s _ H _ I h) λv c b=>?_;obtain⟨l,H1,I1,e,f⟩:=b;refine Calls.spliced_nil<|kws_cons<|thn (hb _ c Z H1 _ I1 f) λu m b=>?_;obtain⟨n,H2,I2,g,i⟩:=b;refine kws_nil ?_;obtain⟨a,o,d,rfl,rfl,j,q⟩:=i;cases e;obtain⟨t,rfl⟩:=g;exact ZqM hc I2 j q
end
end L2
namespace L2
open PySem PySem.Spec PyProof PyProof.Rows PySem.AutoSeq1
set_option maxRecDepth 8000 in
def Zmg(l:Yj)(items:Array Yk)(n:Nat)(b:Yj)(aH:Array Yk)(n2:Nat)(od:Option Yj)(sl:Array (Option Yk))(mz:¬(!items.isEmpty&&Wm (items.size+aH.size))=Wr)(kJ:items.size<=Yc)(gE:items.size+aH.size<=Yc+1):
 Meets (Builtin.«list.extend» ⟨[.ref l,.ref b],[]⟩) (λ_ qe s=>s.heap.get? l=J {cls:=.type "list",dict:=M,data:=.seq items n,slots:=#[]}/\s.heap.get? b=J {cls:=.type "tuple",dict:=od,data:=.seq aH n2,slots:=sl}/\qe (.ok<|.ret Value.none) {s with heap:=s.heap.update l<|Obj.mapSeq λx=>x++aH,toks:=s.toks}):=
 .of_wp λprog w A qe s h=>by
  obtain⟨hp,g,d,tk,os⟩:=s;obtain⟨hl,hb,h⟩:=h;have f1:=idx_int;have f2:=AutoSeq1.sub_tuple_tuple;have f3:=AutoSeq1.sub_list_list;have f4:=AutoSeq1.sub_tuple_list;have f5:=AutoSeq1.sub_list_tuple;have eO:(items++aH).size<=Yc+1:=by rw[Array.size_append];exact gE
  wp_walk using (wpAny_updateSeq hl rfl (hz:=kJ) (_hz':=eO)),wpAny_loadPart' hl,wpAny_loadPart' hb;exact⟨_,rfl,h⟩
section
variable {X:Cx}
def Zp6(K:Yl):V->List V->Hp->VK->Prop:=λx c H Q=>∃l b xs a,x=.ref l/\c=[.ref b]/\H l=J (.lst xs)/\SqT K H b a/\xs.length+a.length<=Yc/\Q .non (upd H l<|.lst<|xs++a)
theorem Zl0:MtM X "list.extend" (Zp6 X.K):=by
 rintro aa s Z H x vs v us Q I rx rv⟨l,b,xs,zs,rfl,rfl,hH,hB,hz,q⟩;cases rx;obtain⟨u,rfl,ru⟩:=rv.one;cases ru;obtain⟨z,its,n,r,hl,e⟩:=I.lstM hH;obtain⟨bp,r2,⟨o,e2,oc,n2,od⟩,z2⟩:=I.tuple hB;obtain⟨cls,dc,mY,sl⟩:=o;subst oc;subst od;have bM:=r2.length;have bq:its.toArray.size+bp.toArray.size<=Yc:=by simp_all
 refine call_meets F.slot_list_extend ⟨_,e,rfl⟩ F.entry_list_extend (F.args_list_extend_2 _ _)
   (Zmg l _ n b _ _ _ _ (by
   rw [ZkC bq];simp) (by simp_all) (by lia)) ⟨e,e2,⟨.non,_,I.lset hH e (by simp) (r.append r2) ?_,rfl,q⟩⟩
 simp_all
end
end L2
namespace L2
open PySem PySem.Spec PyProof.Rows
noncomputable def Zw4(K:Yl)(a:Yj)(n:Nat):It:=⟨λi H=>∃b x,SqL K H a b/\b.length=n/\b.reverse[i]?=J x,λi H x H'=>H'=H/\∀b,SqL K H a b->b.reverse[i]?=J x,λi H=>∃b,SqL K H a b/\b.length=n/\n=i⟩
def Zn2{P}{w}{K}{tg}(a it)(n):Turn P w K tg (Zw4 K a n) [it] it (λi h=>i<=n/\h.IsRevIter it a (n-1-i)) where
 mem:=by simp
 obj:=λi h st b f=>by
  have e:=by simpa using f
  subst e;obtain⟨_,o,e,c,d⟩:=st
  simp_all
 keep:=λi h j st k=>⟨st.1,st.2.at λo e=>k _ (by simp) o e⟩
 item:=by
  intro X l hw m y i C s Z H E I hf st q;subst l hw m;obtain⟨T,st⟩:=st;obtain⟨xs,x,r,z,g⟩:=q;obtain⟨its,A,p,U⟩:=I.list r;have V:=A.length;have D:i<xs.length:=by simpa using (Ob.mp g).1
  have F:xs[n-1-i]?=J x:=by rw[List.getElem?_reverse D]at g;rw[<-z];exact g
  obtain⟨u,G,L⟩:=A.get F;obtain⟨f0,f1,f2,t,f4,v⟩:=hf it (by simp);have N:(n)-1-(i)=((n-1-i:Nat):Int):=by lia
  rw[N]at st;refine wpAny_pyNext_rev_item st p.isList (x:=u) (by simpa using G) λj bn O=>?_;obtain⟨o,e,c,d⟩:=id bn;have Q:((n-1-i:Nat))-1=(n)-1-((i+1:Nat):Int):=by lia
  exact⟨u,rfl,Zi0 (s:={s with heap:=j}) e c d (by decide) ⟨x,H,I.turned (t':=s.toks) (λb o f e=>(O.2 b f).I e) f0 f1 t f4 v,L,⟨rfl,λW R=>I.list_inj R r▸g⟩,⟨by lia,Q▸bn⟩,λb f=>(hf b f).1⟩⟩
 done:=by intro X l hw m y i C s Z H E I hf st q;subst l hw m;obtain⟨xs,r,z,g⟩:=q;obtain⟨f0,f1,f2,t,f4,v⟩:=hf it (by simp);have B:=st.2;rw[show(n:Int)-1-(i:Nat)=-1 by lia]at B;exact wpAny_pyNext_rev_end (I.ok.hd y) B λj S=>⟨rfl,I.turned (t':=s.toks) (λb o f e=>S b o f e) f0 f1 t f4 v⟩
 self:=λ_ _ _ _ _ st h=>wpAny_pyIter_revIter st.2 h
def ZyL(K:Yl)(ta:TA):TI:=λZ H qe=>ta Z H λc H1=>∃a b,c=[.ref a]/\((SqT K H1 a b/\qe (Itv K a b.length) H1)\/(SqL K H1 a b/\qe (Zw4 K a b.length) H1))
def ZsK{X}{tg l}{ta}{p pos}(hg:Gl X "reversed")(hm:X.mg "reversed"=M)(ha:PA X [l] ta)(hs:YA [l] X.env=[(Ws,eval l X.env)]:=by rfl):
 PI X tg (.Call (.Name "reversed" p) [l] [] pos) (ZyL X.K ta):=by
 intro y s Z H qe I h;refine Call_<|ZcN I hg hm boot_reversed<|PyProof.Rows.callWith_type1 (thn (ha _ _ s _ H _ I h) λz c n=>?_) hs rfl;obtain⟨A,H1,I1,r,t⟩:=n;obtain⟨a,d,rfl,q⟩:=t;obtain⟨u,rfl,v⟩:=vals1 r;obtain rfl:u=YD a:=v;rcases q with⟨g,q⟩|⟨g,q⟩
 . obtain⟨its,i,j,w⟩:=I1.tuple g;have x:=i.length;refine Rv.call j (by simp;lia) ?_;have k:(its.toArray.size)-1=(d.length)-1-((0:Nat):Int):=by simp;lia
   have f:Rv.Is (c.heap.push<|Rv.obj a<|(its.toArray.size)-1) c.heap.objs.size a ((d.length)-1-((0:Nat))):=⟨_,Oj _ rfl,rfl,by rw[<-k];rfl⟩
   refine Rv.Zgy f ⟨c.heap.objs.size,[c.heap.objs.size],_,_,H1,rfl,I1.kept (t':=c.toks+1+1) λb o e=>Od _ e,Zpu a _ d.length,⟨Yy _,f⟩,λb m=>?_,q⟩;have e:b=c.heap.objs.size:=by simpa using m
   subst e;exact I1.fpOk (Oq _) (I1.hok.fresh<|Oq _)
 . obtain⟨its,i,j,w⟩:=I1.list g;have x:=i.length;refine call_reversed_list j.isList ?_;have k:(its.toArray.size)-1=(d.length)-1-((0:Nat):Int):=by simp;lia
   have f:(c.heap.push<|revObj a<|(its.toArray.size)-1).IsRevIter c.heap.objs.size a ((d.length)-1-((0:Nat))):=⟨_,Oj _ rfl,rfl,by rw[<-k];rfl⟩
   refine wpAny_pyIter_revIter f ⟨c.heap.objs.size,[c.heap.objs.size],_,_,H1,rfl,I1.kept (t':=c.toks) λb o e=>Od _ e,Zn2 a _ d.length,⟨Yy _,f⟩,λb m=>?_,q⟩;have e:b=c.heap.objs.size:=by simpa using m
   subst e;exact I1.fpOk (Oq _) (I1.hok.fresh<|Oq _)
set_option tactic.hygienic false
namespace Rv
def ZwA:Slot "reversed" "__length_hint__" "reversed.__length_hint__" :=
 .of (owner := "reversed") (n := "__length_hint__") (rfl) (rfl) (rfl) (rfl) (by first|exact .inl (by decide +kernel)|exact .inr (by decide +kernel)) (by rw[isSubtype_type]<;>kernel_rfl)
def Zy2:entryFor table "reversed.__length_hint__"=J Builtin.«reversed.__length_hint__»:=entryFor_of_tree (rfl)
def Zze(a):argsOk "reversed.__length_hint__" ⟨[a],[]⟩:=by unfold argsOk;rw[signature?_of (n:=['_','_','t','n','i','h','_','h','t','g','n','e','l','_','_']) (rfl) own];trivial
def Zyn:typeLookup (.type "reversed") "__len__"=pure M:=by rw[typeLookup_type]<;>kernel_rfl
section
variable {prog:Yi}{w:Yh}{A:YH}{E:Yk->Yb->Prop}{s:Yb}
def walks(hh:A.handled=M)(I l)(dH:l≠I)(items)(hz:items.size<=Yc):
 Walks prog w A I [I,l] [I] items.size (λi v=>items[items.size-1-i]?=J v) (λi h=>i<=items.size/\Is h I l (items.size-1-i)/\IsTup h l items) where
 sub:=λb hb=>by simp_all
 frame:=λ_ _ _ x hk=>⟨x.1,x.2.1.at λo e=>hk I (by simp) o e,let⟨o,e,r⟩:=x.2.2;⟨o,hk l (by simp) o e,r⟩⟩
 item:=λi s Q E hi x hQ=>by have aw:=x.2.1;rw[show(items.size)-1-(i)=((items.size-1-i:Nat):Int) by lia]at aw;refine next_item aw x.2.2 hz (Array.getElem?_eq_getElem<|by lia) λh' t' bE cQ=>?_;rw[show((items.size-1-i:Nat))-1=(items.size)-1-((i+1):Int) by lia]at bE;exact hQ _ h' t' (Array.getElem?_eq_getElem<|by lia) ⟨hi,bE,let⟨o,e,r⟩:=x.2.2;⟨o,(cQ.2 l dH).I e,r⟩⟩ λb o hb eo=>cQ.extBut b o (λh=>hb<|by simp[h]) eo
 done:=λs Q E x hQ=>by have aw:=x.2.1;rw[show(items.size)-1-(items.size:Int)=-1 by lia]at aw;exact next_end hh aw λh' lv=>hQ h' s.toks λb o hb eo=>lv b o (λh=>hb<|by simp[h]) eo
 self:=λ_ _ _ _ x hQ=>Zgy x.2.1 hQ
def Ztz(aw:Is s.heap it l (items.size-1))(hl:IsTup s.heap l items)(hz:items.size<=Yc)
 (hQ:∀u tk,s.toks<=tk->Q (.int items.size u) {s with toks:=tk}):YB (model prog w) A (PySem.call (.builtin "reversed.__length_hint__") [.ref it]) Q E s:=by
 obtain⟨o,ho,hc,hd⟩:=id aw;refine We ZwA aw.typeIs Zy2 (Ya<|Wj (a:=YD _) rfl<|Ya<|YQ ho hd (x:=.ref l) rfl<|Ya<|len_tuple hl (by have:=ZcM;lia)<|Ya (m:=asInt? _)<|Yd ?_)<|Zze _;dsimp only;refine Ya<|YQ ho hd (x:=rawInt _) rfl ?_;show YB _ _ (if (items.size)<(items.size:Int)-1+1 then _ else _) _ _ _;rw[if_neg<|by lia,show(items.size:Int)-1+1=items.size by lia];unfold retInt;exact Ya (wpAny_mkInt<|Yd ⟨_,rfl,hQ _ _ (by simp only;lia)⟩)
def Zwz:typeLookup (.type "reversed") "__length_hint__"=pure (J<|.builtin "reversed.__length_hint__"):=ZwA.lookup
def collects(hh:A.handled=M)(aw:Is s.heap I l ((items.size:Int)-1))(hl:IsTup s.heap l items)(dH:l≠I)(hz:items.size<=Yc)(h0:0<items.size)
 (hQ:∀s' ag,Moved [I] (λa b=>b=a) s s'->ItemsOf (λi v=>items[items.size-1-i]?=J v) ag items.size->Q ag.toList s'):YB (model prog w) A (collect<|.ref I) Q E s:=by
 have W:=(walks (prog:=prog) (w:=w) (A:=A.in1) hh I l dH items hz).toS;have hst:0<=items.size/\Is s.heap I l ((items.size:Int)-1-((0:Nat):Int))/\IsTup s.heap l items:=⟨Yy _,by simpa using aw,hl⟩
 have lr:∀b∈[I,l],b<s.heap.objs.size:=λb hb=>by
  rcases O3.mp hb with rfl|hb
  . obtain⟨o,ho,_⟩:=aw;exact Yn ho
  . rw[Ox.mp hb];obtain⟨o,ho,_⟩:=hl;exact Yn ho
 have i6:s.heap.objs.size ∉ [I,l]:=λhm=>absurd (lr _ hm)<|Yw _;have lG:s.heap.objs.size≠I:=λe=>i6 (by rw[e];simp);unfold collect;refine Ya<|wpAny_runValue ?_;refine codeAny_builtin F.entry_proto_collect ?_;rw[Around.under_plainId F.plain_proto_collect _];show YB _ A.in1 (newList [] >>= λk=>again<|.builtin "list.__iadd__" ⟨[k,.ref I],[]⟩) _ _ s;refine Ya<|Yr<|Yd ⟨plainId_quiet F.plain_list_iadd _,?_⟩;refine codeAny_builtin F.entry_list_iadd ?_;rw[Around.under_plainId F.plain_list_iadd _];generalize eR:({cls:=.type "list",data:=.seq ([]:List Yk).toArray}:Obj)=ob;have bT:=W.frame 0 s (s.heap.push ob) s.toks hst (Oq _) λb _ o e=>Od _ e;have jH:(s.heap.push ob).get? s.heap.objs.size=J ob:=Oj _ (by rw[<-eR];rfl);have e1:Builtin.List.listSameRef (.ref s.heap.objs.size) (.ref I)=Ws:=by simp[Builtin.List.listSameRef,lG]
 have hT:Shared.TypeIs {s with heap:=s.heap.push ob} (.ref I) "reversed" := bT.2.1.typeIs;show YB _ A.in1 (Builtin.List.listExtendWith (.ref s.heap.objs.size) (.ref I)<|.ref s.heap.objs.size) _ _ _;unfold Builtin.List.listExtendWith;refine Ya<|wpAny_typeOf hT ?_;rw[if_neg (by rw[e1];decide)];refine Ya<|W.self 0 _ _ _ bT<|Ya<|Wc ?_;unfold Builtin.List.listLengthHint;refine Ya<|wpAny_specialOf hT Zyn ?_;show YB _ A.in1 (specialOf (YD I) (O "__length_hint__") >>= _) _ _ _;refine Ya<|wpAny_specialOf hT Zwz ?_;have bK:splitId "reversed.__length_hint__"=J ("reversed", "__length_hint__"):=by decide +kernel
 dsimp only;rw[bK];dsimp only;refine Ya<|wpAny_isInstance (b:=true) hT ZmW ?_;rw[if_neg<|by decide,if_neg<|by decide +kernel];refine Ya<|wpAny_rule<|Ya<|Wj (ZwA.bind _) ?_;dsimp only;refine Ya (wpAny_attempt<|Ztz (by simpa using bT.2.1) bT.2.2 hz λu tk jv=>?_);dsimp only;have ea:asInt? (Value.int (items.size:Int) u)=pure (J (items.size:Int)):=rfl;rw[ea];clear ea;generalize hk:(items.size:Int)=kk;refine Ya ?_;refine Yd ?_;dsimp only;have l1:Builtin.List.listFitsIndex kk=Wr:=by
  have:=ZcM;unfold Builtin.List.listFitsIndex;rw[Oa,decide_eq_true_iff,decide_eq_true_iff]
  lia
 have l2:Wm kk.toNat=Ws:=by
  unfold Wm;rw[decide_eq_false_iff_not]
  lia
 rw[if_neg (by rw[l1];decide),if_neg<|by lia,if_neg (by rw[l2];decide)];refine Yd ?_;rw[if_pos (by rw[Wo];left;rw[bne_iff_ne];lia)];subst eR;refine Ya<|wpAny_rule<|Ya ?_;show YB _ A.in1 (updateSeq s.heap.objs.size (·.push .none) >>= λ_=>updateSeq s.heap.objs.size (·.pop)) _ _ _;refine Ya<|wpAny_updateSeq jH rfl ?_;have jG:=YU (Obj.mapSeq (·.push Value.none)) jH rfl;refine wpAny_updateSeq jG rfl ?_;have lI:=YU (Obj.mapSeq (·.pop)) jG rfl;generalize eR:({cls:=.type "list",data:=.seq ([]:List Yk).toArray}:Obj)=ob at *;have ji:∀b o,b≠s.heap.objs.size->(s.heap.push ob).get? b=J o->(((s.heap.push ob).update s.heap.objs.size (Obj.mapSeq (·.push Value.none))).update s.heap.objs.size (Obj.mapSeq (·.pop))).get? b=J o:=λb o hb e=>(YN _ _<|YL hb).trans ((YN _ _<|YL hb).trans e)
 have iD:=W.frame 0 ({s with heap:=s.heap.push ob}:Yb) _ tk bT jv λb hb o e=>ji b o (λh=>i6<|h▸hb) e;obtain⟨c,lH⟩:∃c,(((s.heap.push ob).update s.heap.objs.size (Obj.mapSeq (·.push Value.none))).update s.heap.objs.size (Obj.mapSeq (·.pop))).get? s.heap.objs.size=J {cls:=.type "list",dict:=M,data:=.seq #[] c,slots:=#[]}:=by subst eR;exact⟨_,lI⟩
 refine Yd ⟨plainId_quiet F.plain_extend_loop _,?_⟩;refine codeAny_extend_loopS W hz _ i6 _ items.size 0 _ #[] _ rfl (Yy _) iD lH (ItemsOf.nil _) λs' jb c' hm lJ av=>?_;show YB _ A (load s.heap.objs.size >>= _) _ _ s';refine Ya<|wpAny_load lJ<|Yd<|hQ s' jb ?_ av;refine Moved.drop_new (o:=ob) (tk:=tk) (Moved.trans W.gtrans ?_ hm) jv;exact⟨λb o hb e=>ji b o (λh=>hb<|h▸Oi) e,rfl,rfl,rfl,Oq _⟩
def ZuW(hh:A.handled=M)(aw:Is s.heap I l ((items.size:Int)-1))(hl:IsTup s.heap l items)(dH:l≠I)(hz:items.size<=Yc)(h0:0<items.size)
 (h:∀s' ag,Moved [I] (λa b=>b=a) s s'->ItemsOf (λi v=>items[items.size-1-i]?=J v) ag items.size->Q (.ref s'.heap.objs.size) {s' with heap:=s'.heap.push {cls:=.type "tuple",data:=.seq ag}}) :
 codeAny (model prog w) A (.call (.builtin "tuple.__new__") ⟨[.type "tuple",.ref I],[]⟩) (wants Q E) s:=by
 refine codeAny_of_tree ?_;show YB _ A.in1 (checkBuiltinCall "tuple.__new__" ⟨[.type "tuple",.ref I],[]⟩ >>= λ_=>again<|.builtin "tuple.__new__" ⟨[.type "tuple",.ref I],[]⟩) _ _ s;refine Ya<|Wj (F.newCall_tuple_1 _)<|Yd ⟨plainId_quiet F.plain_tuple_new _,?_⟩;refine codeAny_builtin F.entry_tuple_new ?_;rw[Around.under_plainId F.plain_tuple_new _];have cF:=sub_tuple_self;have jB:=init_tuple_lookup;have mE:=madeHere_tuple;have lF:=aw.typeIs
 wp_walk using wpAny_typeOf lF,collects (A:=A.in1) hh aw hl dH hz h0
 intro s' ag hm av;show YB _ _ (Builtin.Tuple.tupleExact ag.toList.toArray >>= λv=>ret v) _ _ _;have e:ag.toList.toArray=ag:=by simp
 rw[e];unfold Builtin.Tuple.tupleExact;refine Ya (Yr (Yd<|h s' ag hm av) (by show ag.size<=Yc;rw[av.1];exact hz))
def Zr6(hh:A.handled=M)(aw:Is s.heap I l ((items.size:Int)-1))(hl:IsTup s.heap l items)(dH:l≠I)(hz:items.size<=Yc)(h0:0<items.size)
 (h:∀s' ag,Moved [I] (λa b=>b=a) s s'->ItemsOf (λi v=>items[items.size-1-i]?=J v) ag items.size->Q (.ref s'.heap.objs.size) {s' with heap:=s'.heap.push {cls:=.type "tuple",data:=.seq ag}}) :
 YB (model prog w) A (PySem.call (.type "tuple") [.ref I]) Q E s:=by
 refine callType_codes (Q₁:=λobj c=>c.TypeIs obj "tuple" /\ Q obj c) F.called_tuple (F.typeCall_tuple_1 _) F.entry_object_init (ZuW hh aw hl dH hz h0 λs' ag d e=>⟨⟨_,Oj _ rfl,rfl⟩,h s' ag d e⟩) λobj c R=>?_;exact⟨R.1,F.args_object_init_2 obj _,object_init_meets F.called_tuple.init.lookup F.called_tuple.made (by decide) prog w A.in1 _ c ⟨R.1,rfl,R.2⟩⟩
end
end Rv
def Zse(K:Yl)(ta:TA):TE:=λZ H Q=>ta Z H λc H1=>∃a b,c=[.ref a]/\SqT K H1 a b/\b≠[]/\∀p,H1 p=M->Q (.ref p) (upd H1 p<|.tup b.reverse)
theorem Zoy (hc:X.calm=Wr) (ln:Gl X "tuple") (kX:X.mg "tuple"=M) (lq:Gl X "reversed") (kY:X.mg "reversed"=M) (ha:PA X [l] ta)
   (hs:YA [l] X.env=[(Ws,eval l X.env)]:=by rfl):PE X (.Call (.Name "tuple" p) [.Call (.Name "reversed" p2) [l] [] pos2] [] pos) (Zse X.K ta):=by
 intro aa s Z H Q I h;refine Call_<|ZcN I ln kX boot_tuple<|PyProof.Rows.callWith_type1 ?_ rfl rfl;show YB _ _ (spliced ((Ws,eval (.Call (.Name "reversed" p2) [l] [] pos2) X.env)::[])) _ _ s;refine Calls.spliced_cons ?_;refine Call_<|ZcN I lq kY boot_reversed<|PyProof.Rows.callWith_type1 (thn (ha pos2 aa s Z H _ I h) λus s1 z9=>?_) hs rfl;obtain⟨vs,H1,I1,r1,q1⟩:=z9;obtain⟨a,xs,rfl,hq,kD,q⟩:=q1;obtain⟨u,rfl,ru⟩:=vals1 r1;obtain rfl:u=YD a:=ru;obtain⟨its,rv,pl,hz⟩:=I1.tuple hq;have kZ:=rv.length;have hpos:0<its.toArray.size:=by
   cases xs with
   |nil=>exact absurd rfl kD
   |cons x r=>simp at kZ ⊢;lia
 have ju:its.toArray.size<=Yc:=by simp;lia
 refine Rv.call pl ju<|Calls.spliced_nil ?_;have ay:a<s1.heap.objs.size:=by obtain⟨o,ho,_⟩:=pl;exact Yn ho
 refine Rv.Zr6 (I.ok.hd hc) (l:=a) (items:=its.toArray) ⟨_,Oj _ rfl,rfl,rfl⟩ (pl.push _) (Ou ay) ju hpos λs' ag hm av=>?_;obtain⟨hk,hg,hd,ho,ht⟩:=hm;have kp:∀ b o,s1.heap.get? b=J o->s'.heap.get? b=J o:=λb o e=>hk b o (λhb=>by
   rw [Ox.mp hb] at e;exact absurd (Yn e)<|Yw _) (Od _ e)
 have es:s'={s1 with heap:=s'.heap,toks:=s'.toks}:=by
   obtain⟨a1,a2,a3,a4,a5⟩:=s';simp only at hg hd ho;simp only [hg,hd,ho]
 have ea:ag.toList=its.reverse:=by
   apply List.ext_getElem?;intro j;rcases Nat.lt_or_ge j its.length with hj|hj
   . have jA:j<ag.size:=by rw [av.1];simpa using hj
     have e1:=av.2 j ag[j]<|Array.getElem?_eq_getElem jA;rw [List.getElem?_reverse hj,Array.getElem?_toList,Array.getElem?_eq_getElem jA,<-e1];simp
   . rw [List.getElem?_eq_none (by have:=av.1;simp at this ⊢;lia),List.getElem?_eq_none<|by simpa using hj]
 have I2:Inv X aa Z H1 s':=by
   rw [es];exact I1.kept (t':=s'.toks) kp
 have ev:ag=its.reverse.toArray:=by rw [<-ea]
 have rr:Zt xs.reverse its.reverse:=rv.reverse;have I3:Inv X aa Z (upd H1 s'.heap.objs.size<|.tup xs.reverse) {s' with heap:=s'.heap.push {cls:=.type "tuple",data:=.seq ag}}:=by
   rw [ev];exact I2.laid (t':=s'.toks) (λb o e=>Od _ e) (Oq _) (show ZaP X.prog X.w _ _ _ (.tup xs.reverse) from⟨by simpa using hz,its.reverse,rr,Zcs.fresh _ _⟩)
 exact⟨.ref s'.heap.objs.size,_,I3,rfl,q _<|I2.hok.fresh<|Oq _⟩
set_option tactic.hygienic true
namespace Tx
noncomputable def place(x:Str):List Str->Option Nat
 |[]=>M
 |y::r=>if y=x then J 0 else(place x r).map (·+1)
theorem Zkz:∀{ys:List Str}{j:Nat},place x ys=J j->ys[j]?=J x/\∀m,m<j->∀y,ys[m]?=J y->y≠x
 |[],j,h=>by cases h
 |y::r,j,h=>by
  unfold place at h;by_cases e:y=x
  . rw[if_pos e]at h;cases h;exact⟨by simp[e],λm hm=>absurd hm<|Nat.not_lt_zero _⟩
  . rw[if_neg e]at h;obtain⟨k,hk,rfl⟩:=Oo.mp h;obtain⟨R,h2⟩:=Zkz hk;refine⟨by simpa using R,λm hm z hz=>?_⟩;cases m with
    |zero=>simp at hz;rw[<-hz];exact e
    |succ m=>exact h2 m (by lia) z (by simpa using hz)
section
variable {prog:Yi}{w:Yh}{A:YH}{E:Yk->Yb->Prop}{s:Yb}
def Zml(hl:IsTup s.heap t items)(hn:items.size=ys.length)(hi:∀(i:Nat) (y:Str),ys[i]?=J y->∃t,items[i]?=J (Value.str y t))(hj:place x ys=J j)
 (hQ:∀u tk,Q (.int (j:Int) u) {s with toks:=tk}):YB (model prog w) A (PySem.call (.builtin "tuple.index") [.ref t,.str x tx]) Q E s:=by
 obtain⟨o,ho,hc,n,hd⟩:=id hl;refine We F.slot_tuple_index hl.typeIs F.entry_tuple_index ?_<|F.args_tuple_index_2 _ _;unfold Builtin.«tuple.index»;refine Ya<|Wj (a:=(YD t,[Value.str x tx])) rfl ?_;dsimp only;unfold Builtin.Tuple.tupleItemsOf;refine Ya (Ya<|wpAny_seqItems ho hd<|Yd ?_)
 try dsimp only
 refine Ya<|Yd ?_;refine Ya<|Yd ?_;rw[Std.Legacy.Range.forIn_eq_forIn_range'];obtain⟨p1,p2⟩:=Zkz hj;have mI:j<ys.length:=(Ob.mp p1).1;have e0:List.range' [:min items.size items.size].start [:min items.size items.size].size [:min items.size items.size].step=List.range' 0 (items.size-0):=by show List.range' 0 ((min items.size items.size-0+1-1)/1) 1=_;simp
 rw[e0];refine Ya (wpAny_forIn_list _ (λl b s'=>∃i,l=List.range' i (items.size-i)/\b=(M,())/\s'=s/\i<=j) _ ?_ ?_ _ _ ⟨0,rfl,rfl,rfl,Yy _⟩)
 . rintro i rest b s' ⟨k,hk,rfl,rfl,hkj⟩;have iR:k<items.size:=by lia
   rw[show items.size-k=(items.size-(k+1))+1 by lia,List.range'_succ]at hk;obtain⟨rfl,rfl⟩:=List.cons.inj hk;obtain⟨y,hy⟩:∃y,ys[i]?=J y:=⟨ys[i]'(by lia),Og<|by lia⟩
   obtain⟨ty,ht⟩:=hi i y hy;rw[ht];dsimp only;refine Ya<|eqBool_str ?_;by_cases e:i=j
   . subst e;rw[p1]at hy;cases hy;rw[if_pos<|by simp];unfold retInt;refine Ya<|Ya<|wpAny_mkInt<|Yd<|Yd ?_;exact Yd ⟨_,rfl,hQ _ _⟩
   . rw[if_neg (by have:=p2 i (by lia) y hy;simpa using this)];exact Yd ⟨i+1,rfl,rfl,rfl,by lia⟩
 . rintro b s' ⟨k,hk,rfl,rfl,hkj⟩;have:=congrArg List.length hk;simp at this
   lia
end
end Tx
def ZlL(K:Yl):V->List V->Hp->VK->Prop:=λx c H Q=>∃a b y j,x=.ref a/\c=[.str y]/\SqT K H a (b.map .str)/\Tx.place y b=J j/\Q (.int (j:Int)) H
def ZqJ:MtR X "tuple.index" (ZlL X.K):=by
 rintro aa s Z H x vs v us Q I rx rv⟨a,ys,y,j,rfl,rfl,hq,hp,q⟩;cases rx;obtain⟨u,rfl,ru⟩:=rv.one;obtain⟨t,rfl⟩:=ru;obtain⟨its,rs,pl,hz⟩:=I.tuple hq;have hl:=rs.length;refine Tx.Zml pl (by simpa using hl.symm) (λi z hi=>?_) hp λu tk=>?_
 . obtain⟨u,hu,ru⟩:=rs.get (i:=i) (x:=.str z) (by simp[hi]);obtain⟨t2,rfl⟩:=ru;exact⟨t2,by simpa using hu⟩
 . exact⟨.int j,H,I.kept (h':=s.heap) (t':=tk)<|λb o e=>e,⟨u,rfl⟩,q⟩
noncomputable def Zc5(K:Yl):Bool:=K.all λp=>!Wu (p.2.cls=.type "tuple")||p.2.dict.isNone
def Zt4{K:Yl}(h:Zc5 K=Wr)(e:K.lookup a=J o)(hc:o.cls=.type "tuple"):o.dict=M:=by
 have d:∃b,(b,o)∈K:=by
  induction K with
  |nil=>cases e
  |cons p r f=>
   rw[OF]at e;split at e
   . cases e;exact⟨p.1,Oi⟩
   . obtain⟨b,c⟩:=f (by unfold Zc5 at h ⊢;rw[List.all_cons,Oa]at h;exact h.2) e;exact⟨b,Oh _ c⟩
 obtain⟨b,c⟩:=d;have:=OC.mp h _ c;simp only[hc,decide_true,Bool.not_true,Bool.false_or]at this;simpa using this
noncomputable def Zzu(K:Yl)(to:TE)(t:TA):TE:=λZ H Q=>to Z H λx H1=>(∃a b,x=.ref a/\SqT K H1 a b)/\t Z H1 λc H2=>ZlL K x c H2 Q
def ZvQ{X:Cx}(hK:Zc5 X.K=Wr)(ho:PE X o to)(ha:PA X [e] t)
 (aM:attributeBase o "index" X.env (eval o X.env)=eval o X.env)
 (dL:((YR aq<|YA [e] X.env).all (λx=>!x.1)&&(backToKw aq<|YZ [] X.env).all (λx=>x.1.isSome)&&Wu ([e].length+([]:List Keyword).length+(if ([]:List Keyword).isEmpty then 0 else 1)<30))=Wr)
 (aJ:(au.endLine==aq.line)=Wr) (hs:YA [e] X.env=[(Ws,eval e X.env)]) :
 PE X (.Call (.Attribute o "index" au) [e] [] aq) (Zzu X.K to t):=by
 intro f s Z H Q I h;refine wpAny_Call_method_late aM dL aJ rfl<|thn (ho f s Z H _ I h) λv l g=>?_;obtain⟨x,H1,I1,u,w,y⟩:=g;obtain⟨a,N,rfl,i⟩:=w;cases u;have A:∃c,l.heap.get? a=J c/\c.cls=.type "tuple" /\ c.dict=M:=by
  rcases i with i|⟨c,its,n,m,p,hs,O,r⟩
  . obtain⟨z,its,r,c,d,j,k,_⟩:=i.ok I1.hok;exact⟨c,d,j,k⟩
  . exact⟨c,I1.kIn a c m,p,Zt4 hK m p⟩
 obtain⟨c,d,j,k⟩:=A;refine⟨"tuple", "tuple.index",F.plainAttrs_tuple,F.slot_tuple_index,F.type_tuple_index,⟨c,d,j⟩,λb B=>by cases B;exact⟨c,d,k⟩,?_⟩;have q:=ha aq f l Z H1 _ I1 y;rw[hs]at q ⊢;refine Calls.callWith_builtin rfl<|Calls.evalArgs_plain ?_;exact thn q λC D g=>by obtain⟨E,H2,I2,G,L⟩:=g;exact ZqJ f D Z H2 (.ref a) E (.ref a) C Q I2 rfl G L
end L2
namespace L2
open PySem PySem.Spec PyProof.Rows
open PySem.AutoSeq1 (wpAny_loadPart')
namespace En1
section
variable {prog:Yi}{w:Yh}{A:YH}{E:Yk->Yb->Prop}{s:Yb}
def Zr9(st:s.heap.IsTupleIter qb T k)(tt:s.heap.IsTuple T us)(hy:us[k]?=J y)
 (q:∀R,R.IsTupleIter qb T (k+1)->Heap.SameBut qb s.heap R->Q y {s with heap:=R}):YB (model prog w) A (Builtin.SmallTypes.nextOf<|.ref qb) Q E s:=by
 obtain⟨ob,g1,g2,g3⟩:=id st;obtain⟨ot,g4,_,m,g5⟩:=tt;refine Ya (Wa st.typeIs F.slot_tuple_iterator_next<|We F.slot_tuple_iterator_next st.typeIs F.entry_tuple_iterator_next ?g<|F.args_tuple_iterator_next_1 _)
 case g=>show YB _ _ (field _ 0 >>= _) _ _ s;refine Ya<|YQ g1 g3 (x:=.ref T) rfl<|Ya<|YQ g1 g3 rfl<|Ya<|wpAny_seqItems g4 g5 ?_;simp[hy];exact Ya (wpAny_setField g1 g3 (by simp)<|Yd ⟨y,rfl,Yd<|q _ ⟨_,YU _ g1<|Obj.isFreed_of_fields<|YW g3 _,(Obj.cls_mapFields ..).I g2,by rw[YW g3];trivial⟩<|Heap.SameBut.update ..⟩)
def Zu5(calm:A.handled=M)(st:s.heap.IsTupleIter qb T k)(tt:s.heap.IsTuple T us)(hy:us[k]?=M)
 (q:∀R x,Heap.ExtBut qb s.heap R->(∃ob,R.get? x=J ob/\ob.cls=.type "StopIteration")->E (.ref x) {s with heap:=R}):YB (model prog w) A (Builtin.SmallTypes.nextOf<|.ref qb) Q E s:=by
 obtain⟨ob,g1,g2,g3⟩:=id st;obtain⟨ot,g4,_,m,g5⟩:=tt;refine Ya (Wa st.typeIs F.slot_tuple_iterator_next<|We F.slot_tuple_iterator_next st.typeIs F.entry_tuple_iterator_next ?g<|F.args_tuple_iterator_next_1 _)
 case g=>
  show YB _ _ (field (.ref qb) 0 >>= _) _ _ s;refine Ya<|YQ g1 g3 (x:=.ref T) rfl<|Ya<|YQ g1 g3 (x:=.int k 0) rfl<|Ya<|wpAny_seqItems g4 g5 ?_;simp only[Int.toNat_natCast,hy];refine Ya (wpAny_rule<|Ya<|wpAny_setField g1 g3 (by simp)<|Ya ?_);simp only[newExc,newTuple];refine Ya (Yr (Ya (m:=firstArgMember _ _)<|Wj (a:=Value.none) (by first|rfl|(simp only ;rfl))<|Yr ?_<|by size_fits)<|by size_fits);simp only;refine Ya (wpAny_handled ?_)
  first|rw[show A.in1.handled=M from calm]|rw[calm]
  exact Ya (Yd<|wpAny_throw<|q _ _ (((Heap.SameBut.update ..).extBut.push _).push _) ⟨_,Oj _ rfl,rfl⟩)
def dr(calm:A.handled=M)(qb T)(ne:T≠qb)(us):Draws prog w A qb [qb,T] (us.size+1) (λk y=>∃j,k=j+1/\us[j]?=J y) (λk h=>∃j,k=j+1/\h.IsTupleIter qb T j/\h.IsTuple T us) where
 live:=λ_ _ z=>let⟨_,_,⟨ob,g,_⟩,_⟩:=z;⟨ob,g⟩
 frame:=λ_ _ _ z kp=>by obtain⟨j,e,⟨o1,a1,b1⟩,o2,a2,b2⟩:=z;exact⟨j,e,⟨o1,kp qb (by simp) _ a1,b1⟩,o2,kp T (by simp) _ a2,b2⟩
 item:=λk s Q E lt z q=>by
  obtain⟨j,rfl,a,b⟩:=z;have lj:j<us.size:=by lia
  exact Zr9 a b (y:=us[j]) (by simp) λR a1 sb=>q _ R s.toks ⟨j,rfl,by simp⟩ ⟨j+1,rfl,a1,b.extBut sb.extBut ne⟩ sb
 done:=λs Q E z q=>by
  obtain⟨j,e,a,b⟩:=z;have:j=us.size:=by lia
  subst this;exact Zu5 calm a b (by simp) q
end
end En1
namespace En1
def ct(a v):checkTypeCall "enumerate" ⟨[a],[("start",v)]⟩=pure ():=by kernel_rfl
def cb(a v):checkBuiltinCall "enumerate.__new__" ⟨[.type "enumerate",a],[("start",v)]⟩=pure ():=by kernel_rfl
def ao(o a v):argsOk "object.__init__" ⟨[o,a],[("start",v)]⟩:=by kernel_rfl
def ini:Meets (Builtin.«object.__init__» ⟨[o,a],[("start",v)]⟩) (λ_ qe s=>s.TypeIs o "enumerate" /\ qe (.ok<|.ret .none) s):=by
 refine Meets.of_wp λb w A qe s z=>?_;obtain⟨c,q⟩:=z;have d:=F.called_enumerate.init.lookup;have e:=F.called_enumerate.made
 repeat (any_goals (first|assumption|wp_step))
 exact⟨_,rfl,q⟩
def nw(T)(us:Array Yk)(n:Nat)(dc:Option Yj)(sl:Array (Option Yk))(t:Tok):
 Meets (Builtin.«enumerate.__new__» ⟨[.type "enumerate",.ref T],[("start",.int 1 t)]⟩) (λ_ qe s=>s.heap.get? T=J {cls:=.type "tuple",dict:=dc,data:=.seq us n,slots:=sl} /\
  qe (.ok<|.ret<|.ref (s.heap.push {cls:=.type "tuple_iterator",data:=.fields #[.ref T,.int 0 0]}).objs.size)
   {s with heap:=(s.heap.push {cls:=.type "tuple_iterator",data:=.fields #[.ref T,.int 0 0]}).push {cls:=.type "enumerate",data:=.fields #[.none,.bool Ws,.ref s.heap.objs.size,rawInt 1,.none,.none]}}):=
 .of_wp λb w A qe s z=>by
  obtain⟨f,g,d,h,i⟩:=s;obtain⟨e,q⟩:=z;have j:=sub_enumerate;have a:Heap.IsTuple (Shared.heap ⟨f,g,d,h,i⟩) T us:=⟨_,e,rfl,n,rfl⟩
  wp_walk using wpAny_loadPart' e
  refine wpAny_stack_any λk=>Yd ?_;split
  . rename_i c _ _ _ _ _;cases (c==Value.type "enumerate")
    . wp_walk using wpAny_loadPart' e,wpAny_pyIter_tuple a
      exact⟨_,rfl,q⟩
    . wp_walk using wpAny_loadPart' e,wpAny_pyIter_tuple a
      exact⟨_,rfl,q⟩
  . wp_walk using wpAny_loadPart' e,wpAny_pyIter_tuple a
    exact⟨_,rfl,q⟩
end En1
end L2
namespace L2
open PySem PySem.Spec PyProof.Rows
namespace En1
section
variable {prog:Yi}{w:Yh}{A:YH}{E:Yk->Yb->Prop}{s:Yb}
def mk(tt:s.heap.IsTuple T us)
 (q:∀R,IsEnum R (s.heap.objs.size+1) s.heap.objs.size 1 .none->R.IsTupleIter s.heap.objs.size T 0->(∀b o,s.heap.get? b=J o->R.get? b=J o)->Q (.ref<|s.heap.objs.size+1) {s with heap:=R}) :
 YB (model prog w) A (call (.type "enumerate") [.ref T] [("start",.int 1 t)]) Q E s:=by
 obtain⟨⟨c,dc,dt,sl⟩,e,hc,n,hd⟩:=tt;obtain rfl:c=.type "tuple" := hc;obtain rfl:dt=.seq us n:=hd;have ft:=F.called_enumerate;have cS:=ft.made;have cF:=ft.sub;have lA:=ct (.ref T)<|.int 1 t;refine wpAny_call<|codeAny_of_tree ?_;show YB _ _ (callAny (.type "enumerate") _) _ _ _;refine Yd ⟨Code.quiet_builtin _<|by decide +kernel,codeAny_builtin F.entry_type_call ?_⟩;rw[Around.under_plain (weight_type_call_type "enumerate" [.ref T] [("start",.int 1 t)])<|units_type_call_type "enumerate" [.ref T] [("start",.int 1 t)]];have R:=ft.notType;have h2:=ft.canCreate
 repeat (any_goals (first|assumption|wp_step))
 refine codeAny_mono (codeAny_call_builtin ft.plain F.entry_enumerate_new<|Wj (cb (.ref T)<|.int 1 t)<|nw T us n dc sl t prog w A.in1 (wants (λobj s1=>s1.TypeIs obj "enumerate" /\ Q obj s1) E) s ⟨e,?_⟩) λr s1 hr=>?_
 . have hz:(s.heap.push {cls:=.type "tuple_iterator",data:=.fields #[.ref T,.int 0 0]}).objs.size=s.heap.objs.size+1:=Heap.size_push ..;show _/\_;rw[hz];have he:IsEnum ((s.heap.push {cls:=.type "tuple_iterator",data:=.fields #[.ref T,.int 0 0]}).push {cls:=.type "enumerate",data:=.fields #[.none,.bool Ws,.ref s.heap.objs.size,rawInt 1,.none,.none]}) (s.heap.objs.size+1) s.heap.objs.size 1 .none:=by have:=Oj (s.heap.push {cls:=.type "tuple_iterator",data:=.fields #[.ref T,.int 0 0]}) (o:={cls:=.type "enumerate",data:=.fields #[.none,.bool Ws,.ref s.heap.objs.size,rawInt 1,.none,.none]}) rfl;rw[hz]at this;exact this
   exact⟨⟨_,he,rfl⟩,q _ he ⟨_,Od _<|Oj _ rfl,rfl,rfl⟩ λb o x=>Od _<|Od _ x⟩
 cases r with
 |error e=>exact hr
 |ok fl=>
  cases fl with
  |ret obj=>
   obtain⟨hT,hq⟩:=hr;have mG:=ft.init.lookup;have mK:=ft.init.bind obj
   repeat (any_goals (first|assumption|wp_step))
   refine codeAny_mono (codeAny_call_builtin ft.init.plain F.entry_object_init<|ft.init.check _ _ _ _ _ _ _ _ hT (ao obj (.ref T)<|.int 1 t)<|ini prog w A.in1 (wants (λr s2=>r=.none/\Q obj s2) E) s1 ⟨hT,rfl,hq⟩) λr2 s2 iH=>?_;cases r2 with
   |error e=>exact iH
   |ok fl2=>
    cases fl2 with
    |ret r=>
     obtain⟨rfl,hq⟩:=iH
     repeat (any_goals (first|assumption|wp_step))
    |_=>exact iH.elim
  |_=>exact hr.elim
end
end En1
def It1(K:Yl)(a:Yj):It:=⟨λi H=>∃b x,SqT K H a b/\b[i]?=J x,λi H v H'=>∃p,v=.ref p/\H p=M/\∃x,(∀b,SqT K H a b->b[i]?=J x)/\H'=upd H p (.tup [.int (i+1:Nat),x]),λi H=>∃b,SqT K H a b/\b.length=i⟩
def Zpv{P}{w}{K}{es}{kk}{tp}(a it e)(cT:e≠it)(eW:a≠e)(eU:a≠it):
 Turn P w K (.Tuple es kk tp) (It1 K a) [e,it] e (λi h=>(∃old,IsEnum h e it (i+1:Nat) old)/\h.IsTupleIter it a i) where
 mem:=by simp
 obj:=λi h st b hb=>by
  obtain⟨⟨old,he⟩,o,e1,c,d⟩:=st;rcases O3.mp hb with rfl|hb
  . exact⟨_,he,λv z=>by cases z⟩
  simp_all
 keep:=λi h h' st k=>by obtain⟨⟨old,he⟩,st⟩:=st;exact⟨⟨old,k e (by simp) _ he⟩,st.at λo z=>k it (by simp) o z⟩
 item:=by
  intro X t hw B C i L s Z H E I hf st F;subst t hw B;obtain⟨xs,x,g,l⟩:=F;obtain⟨its,m,p,U⟩:=I.tuple g;have V:=m.length;have hi:i<xs.length:=(Ob.mp l).1;have D:=En1.dr (prog:=X.prog) (w:=X.w) (A:=X.A.in1) (I.ok.hd C) it a eU its.toArray;obtain⟨⟨old,he⟩,n⟩:=st;refine wpAny_pyNext_enum_itemD D he ⟨i,rfl,n,p⟩ (by simp;lia) cT (by simp[cT,YL eW]) λy R r f W G Y bq hk=>?_;obtain⟨j,ej,f⟩:=f;obtain rfl:i=j:=by lia
  have N:s.heap.objs.size≠e:=Nat.ne_of_gt<|Yn he;have O:s.heap.objs.size≠it:=Nat.ne_of_gt (by obtain⟨_,z,_⟩:=n;exact Yn z);refine⟨_,rfl,(WalksT.enumerateD (A:=X.A) D e cT (by simp[cT,YL eW])<|by simp).go _ _ _ (i+1) s.heap.objs.size {s with heap:=R,toks:=r+1} _ _ ⟨⟨_,W⟩,G,N,O⟩ λh2 bZ kk2=>?_⟩;have cC:its[i]?=J y:=by simpa using f
  obtain⟨u,S,ru⟩:=m.get l;rw[cC]at S;cases S;have T:s.heap.objs.size ∉ [e,it]:=by simp[N,O]
  have I2:Inv X L Z (upd H s.heap.objs.size<|.tup [.int<|(i+1:Nat),x]) {s with heap:=h2,toks:=r+1}:=I.turnT hf (λb o hb q=>kk2 b o hb<|hk b o (λz=>hb<|by simp[z]) (λz=>hb<|by simp[z]) q) (Oq _) (us:=[.int ((i+1:Nat)) r,y]) ⟨_,kk2 _ _ T Y,rfl,rfl,_,rfl⟩ (.cons ⟨r,rfl⟩<|.cons ru .nil) (by show 2<=Yc;decide);obtain⟨s3,j,mW,s4,s5⟩:=bZ;obtain rfl:j=i+1:=by lia
  refine⟨.ref s.heap.objs.size,_,I2,rfl,⟨_,rfl,I.hok.fresh<|Oq _,x,λys f=>I.tuple_inj f g▸l,rfl⟩,⟨s3,s4⟩,λb hb=>?_⟩;rw[Zq λz=>T (by rw[<-z];exact hb)];exact(hf b hb).1
 done:=by intro X t hw B C i L s Z H E I hf st F;subst t hw B;obtain⟨xs,g,l⟩:=F;obtain⟨its,m,p,U⟩:=I.tuple g;have V:=m.length;have D:=En1.dr (prog:=X.prog) (w:=X.w) (A:=X.A.in1) (I.ok.hd C) it a eU its.toArray;obtain⟨⟨old,he⟩,n⟩:=st;refine wpAny_pyNext_enum_endD D he ⟨i,by simp;lia,n,p⟩ λR ex=>⟨rfl,I.turnL (t':=s.toks) hf λb o hb q=>ex b o (λz=>hb<|by simp[z]) q⟩
 self:=λA i s Q E st h=>by obtain⟨⟨old,he⟩,_⟩:=st;exact wpAny_pyIter_enum he h
section
variable {qd:Model}{A:YH}{E:Yk->Yb->Prop}{s:Yb}{env:Env}
def ZrH(he:YA [e] env=[(Ws,eval e env)])
 (h:YB qd A (spliced<|YR pos<|YA [e] env) (λvs s1=>YB qd A (evalAll ((backToKw pos<|YZ kws env).map (·.2)))
  (λkvs s2=>YB qd A (call (.type T) vs (((backToKw pos<|YZ kws env).filterMap (·.1)).zip kvs)) Q E s2) E s1) E s)
 (aY:(backToKw pos<|YZ kws env).all (·.1.isSome)=Wr:=by rfl) (k9:(backToKw pos<|YZ kws env).any (·.1.isNone)=Ws:=by rfl) :
 YB qd A (callWith pos (.type T) [] (YR pos<|YA [e] env)<|backToKw pos<|YZ kws env) Q E s:=by
 have b:(YR pos<|YA [e] env).any (·.1)=Ws:=by rw[he];rfl
 have g:YB qd A (evalArgs (.type T) Wr (YR pos<|YA [e] env)<|backToKw pos<|YZ kws env) (λa s1=>YB qd A (call (.type T) ([]++a.pos) a.kw) Q E s1) E s:=by rw[he]at h ⊢;exact evalArgs_kwB aY h
 refine Ya<|Wc<|Yg g (λa s1 R=>Ya<|wpAny_standAt ?_) λ_ _ z=>z;simp only[b,k9];exact Ya (Yd<|Ya<|Yg R (λr s2 c=>Ya<|Wc<|wpAny_point<|Yd c) λ_ _ z=>z)
end
def Zz6(K:Yl)(tl tk:TE):TI:=λZ H qe=>tl Z H λv H1=>tk Z H1 λu H2=>∃a,v=.ref a/\u=.int 1/\(∃b,SqT K H2 a b)/\qe (It1 K a) H2
def ZvK{X}{es}{kk}{tp}{l y}{tl tk}{p kp pos}(hg:Gl X "enumerate")(hm:X.mg "enumerate"=M)(hl:PE X l tl)(hy:PE X y tk)(he:YA [l] X.env=[(Ws,eval l X.env)]):
 PI X (.Tuple es kk tp) (.Call (.Name "enumerate" p) [l] [⟨J "start",y,kp⟩] pos) (Zz6 X.K tl tk):=by
 intro f s Z H qe I h;refine YV<|ZcN I hg hm boot_enumerate<|ZrH he ?_;rw[he];refine Calls.spliced_cons<|thn (hl f s Z H _ I h) λv i d=>?_;obtain⟨w,H1,I1,j,k⟩:=d;refine Calls.spliced_nil<|kws_cons<|thn (hy f i Z H1 _ I1 k) λu c d=>?_;obtain⟨x,H2,I2,m,n⟩:=d;refine kws_nil ?_;obtain⟨a,rfl,rfl,⟨A,o⟩,q⟩:=n;cases j;obtain⟨t,rfl⟩:=m;obtain⟨its,B,pt,C⟩:=I2.tuple o;have g:a<c.heap.objs.size:=by obtain⟨_,z,_⟩:=pt;exact Yn z
 refine En1.mk pt λR he r kk=>wpAny_pyIter_enum he ⟨c.heap.objs.size+1,[c.heap.objs.size+1,c.heap.objs.size],_,_,H2,rfl,I2.kept kk,Zpv a c.heap.objs.size (c.heap.objs.size+1) (Nat.succ_ne_self _) (Ou<|Nat.lt_succ_of_lt g)<|Ou g,⟨⟨_,he⟩,r⟩,λb hb=>?_,q⟩;rcases O3.mp hb with rfl|hb
 . exact I2.fpOk (Wg _) (I2.hok.fresh<|Wg _)
 . have e:b=c.heap.objs.size:=by simpa using hb
   subst e;exact I2.fpOk (Oq _) (I2.hok.fresh<|Oq _)
section
variable {X:Cx}{aa:List (Yj×Obj)}{Z:St}{H:Hp}{s:Yb}
def Inv.freeze(I:Inv X aa Z H s)(e:H a=J (.dK kvs))(ho:s.heap.get? a=J o):Inv X aa Z (upd H a<|.frz o<|.dK kvs) s:=by
 have ne:∀b,(∀kvs,H b≠J _)->b≠a:=λb q z=>q _<|z▸e;refine I.un ⟨λb u q n _ _=>q,λb u q n _ _=>⟨_,q⟩,λb u q n _=>?_,λb u q _=>⟨u,q⟩,λb c q=>?_,λb u v q=>?_,λb d q=>⟨#[],?_⟩⟩ ?_
 . rw[Zq<|ne b λk z=>by simp_all];exact n
 . rw[Zq<|ne b λk z=>by simp_all];exact q
 . rw[Zq<|ne b λk z=>by simp_all];exact q
 . rw[Zq<|ne b λk z=>by simp_all,q];simp
 . exact I.hok.write (by rw[e];trivial) (.inl rfl) (λb u _ q=>q) ⟨o,ho⟩ ⟨ho,I.hok a _ e⟩
end
def Ztr(h:ZhM k u=Wr):RelV (kV k) u:=by
 rcases ZR h with⟨i,t,rfl,rfl⟩|⟨x,t,rfl,rfl⟩
 . exact⟨t,rfl⟩
 . exact⟨t,rfl⟩
theorem Znu:∀{kvs:List (Key×V)}{vs:List (Key×Yk)},KV kvs vs->kvs.map (·.1)=vs.map (·.1)
 |_,_,.nil=>rfl
 |_,_,.cons h t=>by rw[Op,Op,Znu t,h.1]
def Itd(a:Yj)(o:Obj)(kvs:List (Key×V)):It:=⟨λi H=>H a=J (.frz o<|.dK kvs)/\i<kvs.length,λi H x H'=>H'=H/\∃k v,kvs[i]?=J (k,v)/\x=kV k,λi H=>H a=J (.frz o<|.dK kvs)/\kvs.length<=i⟩
theorem Zr5{P}{w}{K}{tg}(a it)(o)(kvs)(es)(ep)(hd:o.data=.dict es ep):Turn P w K tg (Itd a o kvs) [it] it (λi h=>h.IsKeyIter it a i kvs.length ep) where
 mem:=by simp
 obj:=λi h st b f=>by
   have e:=by simpa using f
   subst e;obtain⟨o,e,c,d⟩:=st
   simp_all
 keep:=λi h t st k=>st.at λo e=>k it (by simp) o e
 item:=by
   intro X u hw x J i N s Z H E I hf st y;subst u hw x;obtain⟨z,g⟩:=y;obtain⟨g1,O,Q,j,n,R,S,T,g2,A,m,B,C,D⟩:=I.hok a _ z;rw [g1] at g2;cases g2;rw [hd] at m;cases m;have p:=n.length;have r:i<j.length:=by lia
   obtain⟨f0,f1,f2,F,f4,G⟩:=hf it (by simp);refine wpAny_pyNext_dict_item (knd:=ZV X.prog X.w) (kvs:=j) (k:=(j[i]'r).1) (v:=(j[i]'r).2) (p▸st) ⟨o,es,g1,A,hd,B,C,D⟩ (by simp [r]) λkey t U L V=>?_;obtain⟨Y,e,c,d⟩:=id L;exact⟨key,rfl,Zi0 (s:={s with heap:=t}) e c d (by decide) ⟨kV (kvs[i]'g).1,H,I.turned (t':=s.toks) (λb o f e=>(V.2 b f).I e) f0 f1 F f4 G,by
     have q:=congrArg (λl=>l[i]?)<|Znu n;simp only [O2,Og g,Og r,Yv] at q;exact YF q▸Ztr U,⟨rfl,(kvs[i]'g).1,(kvs[i]'g).2,by simp [g],rfl⟩,p▸L,λb f=>(hf b f).1⟩⟩
 done:=by
   intro X u hw x J i N s Z H E I hf st y;subst u hw x;obtain⟨z,g⟩:=y;obtain⟨g1,O,Q,j,n,R,S,T,g2,A,m,B,C,D⟩:=I.hok a _ z;rw [g1] at g2;cases g2;rw [hd] at m;cases m;have p:=n.length;obtain⟨f0,f1,f2,F,f4,G⟩:=hf it (by simp);exact wpAny_pyNext_dict_end (knd:=ZV X.prog X.w) (kvs:=j) (I.ok.hd J) (p▸st) ⟨o,es,g1,A,hd,B,C,D⟩ (by simp;lia) λt W=>⟨rfl,I.turned (t':=s.toks) (λb o f e=>W b o f e) f0 f1 F f4 G⟩
 self:=λ_ _ _ _ _ st h=>wpAny_pyIter_keyiter st h
def iDk(tl:TE):TI:=λZ H qe=>tl Z H λx H1=>∃a b,x=.ref a/\((H1 a=J (.dK b)/\∀o,qe (Itd a o b)<|upd H1 a<|.frz o<|.dK b)\/∃o,H1 a=J (.frz o<|.dK b)/\qe (Itd a o b) H1)
def Zx7{X}{tg l}{tl}(hl:PE X l tl):PI X tg l (iDk tl):=by
 intro aa s Z H qe I h;refine thn (hl _ s _ H _ I h) λv s1 z9=>?_;obtain⟨x,H1,I1,r1,q1⟩:=z9;obtain⟨a,kvs,rfl,q⟩:=q1;cases r1;have main:∀(o) (H2),Inv X aa Z H2 s1->H2 a=J (.frz o<|.dK kvs)->qe (Itd a o kvs) H2->YB (model X.prog X.w) X.A (pyIter<|.ref a) (PIE X aa Z tg qe) X.xe s1:=by
  intro o H2 I2 ea hR;obtain⟨g1,hz,gD,vs,rv,o2,es,ep,g2,x1,x2,x3,x4,x5⟩:=I2.hok a _ ea;rw[g1]at g2;cases g2;refine wpAny_pyIter_dict gD ⟨o,_,g1,x1,x2,x3,x4,x5⟩ ⟨_,_,_,_,_,rfl,I2.kept λb o e=>Od _ e,Zr5 a _ o _ _ _ x2,⟨_,Oj _ rfl,rfl,by rw[rv.length];rfl⟩,λb hb=>?_,hR⟩;have e:=by simpa using hb
  subst e;exact I2.fpOk (Oq _) (I2.hok.fresh<|Oq _)
 rcases q with⟨ea,hR⟩|⟨o,ea,hR⟩
 . obtain⟨hz,gD,vs,rv,o,es,ep,g2,r⟩:=I1.hok a _ ea;exact main o _ (I1.freeze ea g2) Zr (hR o)
 . exact main o _ I1 ea hR
def ZyD(X:Cx)(hs:List ExceptHandler)(Q:Flow->Yb->Prop):Yk->Yb->Prop:=λe s₁=>YB (model X.prog X.w) X.A (noteFrame e X.env) (λ_ s₂=>YB (model X.prog X.w) X.A (setFlight e M) (λ_ s₃=>YB (model X.prog X.w) X.A (handleBy e X.env hs) Q X.xe s₃) X.xe s₂) X.xe s₁
section
variable {X:Cx}{cx:Str}{np hpos:Pos}{C2:Yj}{b0:Stmt}{bj:List Stmt}
def ZoA(iS:Gl X cx)(iO:X.mg cx=J (.ref C2))(hC:ExcN X.K C2)(cH:X.stack=X.env::X.outer)(dJ:X.env.frame=J X.env.locals)
 (dM:(cx==("__debug__" : Str))=Ws) (hE:∀cls H',E1 cls M H'->YT X.K cls (.ref C2)=J Wr/\∀C,cls=.ref C->∀a oe s',oe.cls=cls->Inv (cxH X a oe) aa Z H' s'->YB (model X.prog X.w) (cxH X a oe).A (execs (b0::bj) X.env) Q (λ_ _=>False) s')
 (iX:∀cls H',E1 cls M H'->∃C,cls=.ref C) (I1:Inv X aa Z H s) (hq:CXF X.prog X.w X.stack H s E1 e s'):ZyD X [.ExceptHandler (J<|.Name cx np) M (b0::bj) hpos] Q e s':=by
 obtain⟨a,cls,a0,H',B_,rfl,os,bare,un,hok,fl,kb,kU,R⟩:=hq;obtain⟨C,rfl⟩:=iX _ _ R;obtain⟨cF,kF⟩:=hE _ _ R;have fQ:X.A.frames=J (X.env::X.outer):=by rw[<-cH];exact I1.ok.frames
 have lQ:Heap.FlyingW B_ (X.env::X.outer) a (.ref C) a0 s'.heap:=by rw[<-cH];exact fl
 have I':=I1.call' (ch:=[]) os un hok bare (λb z=>absurd z<|by simp);have iT:∀b∈frs X.stack,∃o,s'.heap.get? b=J o/\∀vs,o.data≠.fields vs:=λb hb=>by obtain⟨_,o,q,nf⟩:=I'.stack.mem hb;exact⟨o,q,nf⟩
 have jV:∀h2:YG,B_.StaysIn h2->s'.heap.UpToSlots h2->∀tk,Inv X aa Z H' {s' with heap:=h2,toks:=tk}:=λh2 st up tk=>by obtain⟨r1,r2,_⟩:=Zfn un hok kb st up iT;exact I1.call' (s':={s' with heap:=h2,toks:=tk}) (ch:=[]) os r1 r2 bare (λb z=>absurd z<|by simp)
 refine wpAny_looks_onW fQ dJ lQ λh4 fT jf=>?_;refine wpAny_landsW fT λh5 ja je=>?_;have I5:Inv X aa Z H' {s' with heap:=h5}:=jV h5 ja.1 (jf.trans je) s'.toks;refine wpAny_handleBy_cons (codeAny_handlers_test<|Zdp (X:=cxM X a) (I5.toM a) iS iO ?_ dM) (by intro q;cases q);obtain⟨oe,kN,gF⟩:=ja.there;refine ZkV (s:={s' with heap:=h5}) I5.kIn hC.ty hC.cls hC.exc cF kN gF<|codeAny_handlers_suite ?_;refine lands_againW ja λh6 jO j1=>?_;have I6:Inv X aa Z H' {s' with heap:=h6}:=jV h6 jO.1 ((jf.trans je).trans j1) s'.toks;obtain⟨jm,ws,dD,iM,dE,_⟩:=jO.first;have kR:a≠X.env.locals:=λz=>by obtain⟨m,⟨o,jQ,ep,ho,hd,_⟩,_⟩:=I6.loc;rw[<-z,dD]at ho;cases ho;rw[dE]at hd;cases hd
 have kS:a ∉ X.fs:=λz=>by obtain⟨_,o,q,nf⟩:=I6.funs.mem z;rw[dD]at q;cases q;exact nf _ dE
 have IH:Inv (cxH X a jm) aa Z H' {s' with heap:=h6}:=I6.toH dD kU kR kS (λv z=>by rw[dE]at z;cases z);exact Yg (kF C rfl a jm _ iM IH) (λ_ _ z=>z) λ_ _ z=>z.elim
end
noncomputable def Zui(K:Yl)(sp:Sp)(C2:Yj)(i:Nat)(ts:Yj->Obj->TS)(t:TA):TS:=λD Z H=>t Z H λc H1=>sp c H1 (λv H2=>D.nx (Z.set i<|J v) H2) (λb _ H2=>∃C,b=.ref C/\YT K (.ref C) (.ref C2)=J Wr/\∀a d,ts a d D Z H2)
section
variable {X:Cx}{k:Nat}{x cx n:Str}{ps:List Str}{sp:Sp}{e:Expr}{es:List Expr}{t:TA}{p np aq au hpos pos px:Pos}{C2:Yj}{i:Nat}{b0:Stmt}{bj:List Stmt}{ts:Yj->Obj->TS}
def Zos(F:Def X.prog X.w X.K X.mg X.base k x ps sp)(hr:Room k X.A)(hg:Gl X x)(ha:PA X.nox (e::es) t)
 (iS:Gl X cx) (iO:X.mg cx=J (.ref C2)) (hC:ExcN X.K C2) (hN:X.N.Nodup) (hi:X.N[i]?=J n) (hx:Loc X.env.scope n) (hf:X.fn n=Wr\/X.env.scope.names.lookup n=J .local) (cH:X.stack=X.env::X.outer) (dJ:X.env.frame=J X.env.locals)
 (dz:∀a oe,PSs (cxH X a oe) (b0::bj)<|ts a oe) (bv:(x==("__debug__" : Str))=Ws) (dM:(cx==("__debug__" : Str))=Ws) (he:YA (e::es) X.env=(Ws,eval e X.env)::YA es X.env) (aW:(YR aq<|YA es X.env).any (·.1)=Ws)
 (iC:swapsWith (.Call (.Name x p) (e::es) [] aq) (J<|.Name n px) au.line X.env=pure Ws:=by rfl) :
 PS X (.Try [.Assign [.Name n px] (.Call (.Name x p) (e::es) [] aq) au] [.ExceptHandler (J<|.Name cx np) M (b0::bj) hpos] [] [] pos) (Zui X.K sp C2 i ts t):=by
 obtain⟨f,fd,E,G,L,F⟩:=F;intro g s Z H D I h;refine wpAny_Try_except<|wpAny_execs_cons<|wpAny_Assign_Name (YV<|Zdp I hg E ?_ bv) iC;refine PySem.W.callWith_K (h₀:=X.base) I.ok.mod.kin G (Yg (ha aq g s Z H _ (I.wish _) h) (λj l O=>?_) λ_ _ z=>z.elim) he aW;obtain⟨P,H1,R,r,q⟩:=O;have I1:Inv X g Z H1 l:=R.unwish;refine⟨I1.kIn,?_⟩;have S:(j++[]).length=ps.length:=by rw[Yt,<-r.length];exact F.len _ _ _ _ q
 have B:=L l j I1.kIn S;rw[Yt]at B;refine wpAny_call<|codeAny_mono (F.run X.A X.stack l H1 ⟨j,[]⟩ j P _ _ hr I1.env0 B r q) λr m c=>?_;cases r with
 |ok o=>
  cases o with
  |ret u=>obtain⟨v,H',I',T,U⟩:=I1.after c;exact ZfF I' hN hi hx T (λs2 I2=>wpAny_execs_nil<|wpAny_execs_nil ⟨_,H',I2,U⟩) hf
  |next=>exact False.elim c
  |brk=>exact False.elim c
  |cont=>exact False.elim c
 |error ev=>
  have c:CXF X.prog X.w X.stack H1 l (λd _ H2=>∃C,d=.ref C/\YT X.K (.ref C) (.ref C2)=J Wr/\∀a oe,ts a oe D Z H2) ev m:=c;refine ZoA (np:=np) (hpos:=hpos) (Z:=Z) (Q:=SP X g D) iS iO hC cH dJ dM (λd H' z=>?_) (λd H' z=>?_) I1 c
  . obtain⟨C,rfl,V,ht⟩:=z;refine⟨V,λ_ _ a oe m _ I'=>?_⟩;refine Yg (dz a oe g m Z H' D I'<|ht a oe) (λo s8 b=>?_) λ_ _ z=>z;cases o with
    |next=>obtain⟨σ',H8,I8,b⟩:=b;exact⟨σ',H8,I8.ofH I.ok.hd,b⟩
    |brk=>obtain⟨σ',H8,I8,b⟩:=b;exact⟨σ',H8,I8.ofH I.ok.hd,b⟩
    |cont=>obtain⟨σ',H8,I8,b⟩:=b;exact⟨σ',H8,I8.ofH I.ok.hd,b⟩
    |ret v=>obtain⟨y,σ',H8,I8,Y,b⟩:=b;exact⟨y,σ',H8,I8.ofH I.ok.hd,Y,b⟩
  . obtain⟨C,rfl,_⟩:=z;exact⟨C,rfl⟩
end
noncomputable def ZwC(K:Yl)(n:Nat)(t:TGs):TG:=λv Z H Q=>∃a b,v=.ref a/\SqL K H a b/\b.length=n/\t b Z H Q
def ZvM(hc:X.calm=Wr)(h:PGs X es t)
 (hn:(assignEach es X.env).length=n:=by rfl) (hst:(assignEach es X.env).findIdx? (·.1)=M:=by rfl):PG X (.Tuple es k pos) (ZwC X.K n t):=by
 rintro aa s Z H v u Q I r⟨a,xs,e1,hq,hl,hw⟩;subst e1;cases r;obtain⟨its,rv,ht,hz⟩:=I.list hq;rw[assign_Tuple];refine Ya<|wpAny_standAt ?_;unfold unpack;rw[show(assignEach es X.env).length=its.toArray.size by simp[hn,<-hl,rv.length],hst];refine Ya<|Wc<|PySem.W.kun_itemsOf (I.ok.hd hc) ht.isList λh' hx=>?_;have I1:Inv X aa Z H {s with heap:=h'}:=I.kept (t':=s.toks) λb o e=>hx b o (Ou<|Yn e) e;exact h aa _ Z H xs _ Q I1 (by simpa using rv) hw
noncomputable def Zsj(d:PyData):Bool:=isDisplay d&&(PyData.showable d&&(PyData.intsShort 13 d&&(Wu (PyData.weight d<=2^20)&&Wu (PyData.depth d<=1000))))
def Zm6(K:Yl):List V->Hp->VK->Prop:=λa H Q=>∃v d,a=[v]/\Dp K H v d/\Zsj d=Wr/\Q (.str d.shown) H
theorem Zo2 (hr:Room k X.A):ZcH X (.builtin "repr") (Zm6 X.K):=by
 rintro aa s Z H vs us Q I r⟨v,d,rfl,hd,ho,q⟩;obtain⟨u,rfl,ru⟩:=vals1 r;obtain⟨as,r1⟩:=I.reads hd ru;unfold Zsj at ho;simp at ho;obtain⟨R,h2,h3,h4,h5⟩:=ho;obtain⟨a,rfl⟩:=isRef_of_reads r1 R;have:=hr.un;exact repr_of_reads' r1 h2 (PyData.noDict_hsm<|PyData.hasDict_of_canLay d hd.lay) hr.gd (by lia) (λ_ _ e=>e) (λh' t tk hk=>⟨.str d.shown,H,I.kept hk,⟨t,rfl⟩,q⟩) (by
   have:=PyData.shown_le 13 (by simp) d<|PyData.leavesShort_of_canLay0 13 d hd.lay h3;rw [YC]
   lia)
noncomputable def ZxY(o:Bool):R2:=λx y H Q=>∃a b,x=.str a/\y=.str b/\Q (.bl<|bif o then !Wu (a=b)else Wu (a=b)) H
def Zqv:∀{o},OpR X (YM<|bif o then .NotEq else .Eq) (ZxY o):=by
 intro o;rintro aa s Z H x y v u Q I rx ry⟨a,b,rfl,rfl,q⟩;obtain⟨t,rfl⟩:=rx;obtain⟨t',rfl⟩:=ry;cases o
 . exact eq_str (ZjQ I q (by by_cases e:a=b<;>simp[e]))
 . exact ne_str (ZjQ I q<|congrArg not (by by_cases e:a=b<;>simp[e]))
structure XAs(K:Yl)(a b:Yj):Prop extends ExcN K a where
 sub:YT K (.ref b) (.ref a)=J Wr
 eY:ExcA K b
 one:PySem.W.kitOne K (.ref b) (.ref b)=J Wr
noncomputable def tx(l:List Nat):Str:=⟨l.toArray⟩
def ClV(mg:Str->Option Yk)(W:Str)(v:Yk):Prop:=(mg W=J v/\∃a,v=.ref a)\/(W=O "ValueError" /\ mg W=M/\v=.type "ValueError")
def KyS(K:Yl)(H:Hp)(b:Yj)(k:NK):Prop:=∃c,SqT K H b [.int k.1,.ref c]/\SqT K H c (k.2.map .str)
abbrev KN(K:Yl)(H:Hp):List (NK×V)->List (NK×Yj×Yk)->Prop:=Paired λp q=>p.1=q.1/\KyS K H q.2.1 p.1/\RelV p.2 q.2.2
end L2
namespace IV
open PySem PySem.Spec PyProof.Rows L2
set_option tactic.hygienic false
set_option genInjectivity true in
inductive D where
 |non|bl (b:Bool)|int (i:Int)|str (x:Str)|tup (xs:List D)|ref (i:Nat)|ty (n:String)
 |ro (xs:List D)|kd (x:Str)
set_option genInjectivity true in
inductive DO where
 |lst (xs:List D)|dic (kvs:List (Key×D))|ins (C:Str) (fs:List (Str×D))
 |fdic (kvs:List (Key×D))
 |dnk (kvs:List (NK×D))
noncomputable abbrev Hd:=List DO
set_option genInjectivity true in
inductive qe(α:Type) where
 |bad|ok (a:α) (h:Hd)|exc (c:Str) (h:Hd)
noncomputable def qe.bind(r:qe α)(k:α->Hd->qe β):qe β:=match r with
 |.bad=>.bad
 |.ok a h=>k a h
 |.exc c h=>.exc c h
def qe.bind_ok:(qe.ok a h).bind k=k a h:=rfl
def qe.bind_bad:(qe.bad:qe α).bind k=.bad:=rfl
noncomputable def qe.ofO(o:Option α)(h:Hd):qe α:=match o with
 |some a=>.ok a h
 |none=>.bad
def qe.ofO_some:qe.ofO (J a) h=.ok a h:=rfl
noncomputable abbrev Ev:=List (Option D)
inductive Bf where
 |len
 |isi
 |int
 |tup
 |lst
 |sum
 |srt
 deriving DecidableEq
inductive Mf where
 |app|ext|pop|rev|clr
 deriving DecidableEq
inductive Tf where
 |spl
 |joi
 deriving DecidableEq
mutual
inductive Ex where
 |var (i:Nat)
 |cst (d:D)
 |glo (x:Str)
 |bin (op:Operator) (a b:Ex)
 |cmp (op:CmpOp) (a b:Ex)
 |neg (a:Ex)
 |nt (a:Ex)
 |ands (es:Exs)
 |ors (es:Exs)
 |ite (c:Tx) (a b:Ex)
 |tupl (es:Exs)
 |lstl (es:Exs)
 |ix (a i:Ex)
 |sl (a:Ex) (lo hi:Option Ex)
 |blt (f:Bf) (es:Exs)
 |call (f:Str) (es:Exs)
 |meth (m:Mf) (o:Ex) (es:Exs)
 |comp (NC:List Str) (js:List (Option Nat)) (it:Ix) (g:Tg) (c:Option Tx) (e:Ex)
 |dictl (ps:Exs)
 |maxd (e d:Ex)
 |att (Cs:List Str) (o:Ex) (f:Str)
 |mk (C:Str) (es:Exs)
 |mcl (C m:Str) (o:Ex) (es:Exs)
 |any
 |trev (e:Ex)
 |tix (o e:Ex)
 |rpn (o:Bool) (a b:Ex)
inductive Exs where
 |nil|cons (e:Ex) (es:Exs)
inductive Ix where
 |pl (e:Ex)
 |rng (e:Ex)
 |enu (e:Ex)
 |rev (e:Ex)
 |en1 (e:Ex)
 |dk (e:Ex)
inductive Tg where
 |nm (i:Nat)|two (i j:Nat)|many (is:List Nat)
inductive Tx where
 |ex (e:Ex)|ands (ts:Txs)|ors (ts:Txs)|nt (a:Tx)
inductive Txs where
 |one (t:Tx)|cons (t:Tx) (ts:Txs)
end
noncomputable abbrev Ex.ci(i:Int):Ex:=.cst (.int i)
noncomputable abbrev Ex.Ci_(x:String):Ex:=.cst (.str<|O x)
mutual
inductive Sx where
 |ret (e:Ex)
 |set (g:Tg) (e:Ex)
 |put (o i e:Ex)
 |aug (i:Nat) (op:Operator) (e:Ex)
 |drp (e:Ex)
 |iff (c:Tx) (a b:Sxs)
 |whl (c:Tx) (b:Sxs)
 |forr (g:Tg) (it:Ix) (b:Sxs)
 |pas
 |brk
 |cnt
 |seta (Cs:List Str) (o:Ex) (f:Str) (e:Ex)
 |auga (Cs:List Str) (o:Ex) (f:Str) (e:Ex)
 |any
 |rai (C:Str) (e:Ex)
 |trs (i:Nat) (f:Str) (es:Exs) (C:Str)
 |unl (i j:Nat) (e:Ex)
inductive Sxs where
 |nil|cons (s:Sx) (r:Sxs)
 |trq (i n:Nat) (f:Str) (es:Exs) (C c W A B_:Str)
end
noncomputable abbrev Ex.v:=Ex.var
noncomputable abbrev Exs.c:=Exs.cons
noncomputable abbrev Exs.n:=Exs.nil
noncomputable abbrev Sxs.c:=Sxs.cons
noncomputable abbrev Sxs.n:=Sxs.nil
noncomputable abbrev Txs.c:=Txs.cons
noncomputable abbrev K0:=Ex.ci 0
noncomputable abbrev K1:=Ex.ci 1
noncomputable abbrev K10:=Ex.ci 10
noncomputable abbrev K12:=Ex.ci 12
noncomputable abbrev K15:=Ex.ci 15
noncomputable abbrev K2:=Ex.ci 2
noncomputable abbrev K20:=Ex.ci 20
noncomputable abbrev K26:=Ex.ci 26
noncomputable abbrev K29:=Ex.ci 29
noncomputable abbrev K3:=Ex.ci 3
noncomputable abbrev K30:=Ex.ci 30
noncomputable abbrev K4:=Ex.ci 4
noncomputable abbrev K5:=Ex.ci 5
noncomputable abbrev K6:=Ex.ci 6
noncomputable abbrev K7:=Ex.ci 7
noncomputable abbrev K8:=Ex.ci 8
noncomputable abbrev V0:=Ex.var 0
noncomputable abbrev V1:=Ex.var 1
noncomputable abbrev V2:=Ex.var 2
noncomputable abbrev V3:=Ex.var 3
noncomputable abbrev V4:=Ex.var 4
noncomputable abbrev V5:=Ex.var 5
noncomputable abbrev V6:=Ex.var 6
noncomputable abbrev V7:=Ex.var 7
noncomputable abbrev V8:=Ex.var 8
noncomputable abbrev V9:=Ex.var 9
noncomputable abbrev Exs.o(a:Ex):Exs:=.cons a .nil
noncomputable abbrev Sxs.o(a:Sx):Sxs:=.cons a .nil
noncomputable abbrev Exs.w(a b:Ex):Exs:=.cons a (.cons b .nil)
noncomputable abbrev Sxs.w(a b:Sx):Sxs:=.cons a (.cons b .nil)
noncomputable abbrev Exs.u(a b c:Ex):Exs:=.cons a (.cons b<|.cons c .nil)
noncomputable abbrev Sxs.u(a b c:Sx):Sxs:=.cons a (.cons b<|.cons c .nil)
noncomputable abbrev Exs.z(a b c d:Ex):Exs:=.cons a (.cons b<|.cons c<|.cons d .nil)
noncomputable abbrev Sxs.z(a b c d:Sx):Sxs:=.cons a (.cons b<|.cons c<|.cons d .nil)
noncomputable abbrev Exs.y(a b c d e:Ex):Exs:=.cons a (.cons b<|.cons c<|.cons d<|.cons e .nil)
noncomputable abbrev Sxs.y(a b c d e:Sx):Sxs:=.cons a (.cons b<|.cons c<|.cons d<|.cons e .nil)
noncomputable abbrev Tx.q(a b:Ex):Tx:=.ex (.cmp .Eq a b)
noncomputable abbrev Tx.nq(a b:Ex):Tx:=.ex (.cmp .NotEq a b)
noncomputable abbrev Tx.x(o:PySem.CmpOp)(a b:Ex):Tx:=.ex (.cmp o a b)
noncomputable abbrev Sx.s(i:Nat)(e:Ex):Sx:=.set (.nm i) e
noncomputable abbrev Ex.f(f:String)(e:Exs):Ex:=.call (O f) e
noncomputable abbrev Ex.a(c:String)(x:Ex)(f:String):Ex:=.att [O c] x (O f)
noncomputable abbrev Ex.m(c f:String)(x:Ex)(e:Exs):Ex:=.mcl (O c) (O f) x e
noncomputable abbrev Sx.sa(c:String)(x:Ex)(f:String)(e:Ex):Sx:=.seta [O c] x (O f) e
noncomputable instance:DecidableEq D:=λa b=>Classical.propDecidable (a=b)
noncomputable instance:DecidableEq DO:=λa b=>Classical.propDecidable (a=b)
mutual
noncomputable def D.py(rd:Nat->Option PyData):D->Option PyData
 |.non=>J .none
 |.bl b=>J (.bool b)
 |.int i=>J (.int i)
 |.str x=>J (.str x)
 |.tup xs=>(D.pys rd xs).map .tuple
 |.ro xs=>(D.pys rd xs).map .list
 |.ref i=>rd i
 |_=>M
noncomputable def D.pys(rd:Nat->Option PyData):List D->Option (List PyData)
 |[]=>J []
 |x::xs=>(D.py rd x).bind λd=>(D.pys rd xs).map λds=>d::ds
end
def Zjt(h:Hd):Nat->Nat->Option PyData
 |0,_=>M
 |n+1,i=>match h[i]? with
  |some (.lst a)=>(D.pys (Zjt h n) a).map .list
  |_=>M
def ZlN(h:Hd)(d:D):Option PyData:=D.py (Zjt h 4) d
noncomputable def ZeY(o:DO)(h:Hd):qe D:=.ok (.ref h.length) (h++[o])
noncomputable def lstOf(d:D)(h:Hd):Option (List D):=match d with
 |.ref i=>match h[i]? with
  |some (.lst a)=>J a
  |_=>M
 |.ro a=>J a
 |_=>M
noncomputable def dicOf(GD:Str->Option (List<|Key×D))(d:D)(h:Hd):Option (List<|Key×D):=match d with
 |.ref i=>match h[i]? with
  |some (.dic a)=>J a
  |some (.fdic a)=>J a
  |_=>M
 |.kd x=>GD x
 |_=>M
noncomputable def keyOf:D->Option Key
 |.int i=>J (.inl i)
 |.str x=>J (.inr x)
 |_=>M
noncomputable def Zao(kvs:List (Key×D))(k:Key):Option D:=(kvs.find? λp=>Wu<|p.1=k).map (·.2)
def putD(kvs:List (Key×D))(k:Key)(v:D):List (Key×D):=if (kvs.any λkv=>Wu<|kv.1=k)=Wr then kvs.map (λkv=>if kv.1=k then(kv.1,v)else kv)else kvs++[(k,v)]
def cutD(xs:List D)(lo hi:Option Int):List D:=(xs.drop<|HT.sIx xs.length 0 lo).take (HT.sIx xs.length xs.length hi-HT.sIx xs.length 0 lo)
noncomputable def D.flat:D->Bool
 |.int _|.str _|.bl _|.non=>Wr
 |_=>Ws
noncomputable def eqF:D->D->Bool
 |.int i,.int j=>i==j
 |.str i,.str j=>i==j
 |.non,.non=>Wr
 |.bl i,.bl j=>i==j
 |.int i,.bl j=>i==(if j then 1 else 0)
 |.bl i,.int j=>(if i then 1 else 0)==j
 |_,_=>Ws
noncomputable def Zfk(GD:Str->Option (List<|Key×D))(d:D)(h:Hd):Option Bool:=match d with
 |.non=>J Ws
 |.bl b=>J b
 |.int i=>J (i != 0)
 |.str x=>if x.length<=Yc then J (!(x.length==0))else M
 |.tup a=>J (!a.isEmpty)
 |.ref i=>match h[i]? with
  |some (.lst a)=>J (!a.isEmpty)
  |some (.dic a)=>J (!a.isEmpty)
  |_=>M
 |.ro a=>J (!a.isEmpty)
 |_=>M
noncomputable def int2(x y:D)(k:Int->Int->qe D):qe D:=match x with
 |.int i=>match y with
  |.int j=>k i j
  |_=>.bad
 |_=>.bad
def Zt6(x y:D)(h:Hd):qe D:=match x with
 |.int i=>match y with
  |.int j=>.ok (.int<|i+j) h
  |_=>.bad
 |.str i=>match y with
  |.str j=>if i.length+j.length<=Yc then .ok (.str<|i++j) h else .bad
  |_=>.bad
 |.tup xs=>match y with
  |.tup a=>if xs.length+a.length<=Yc then .ok (.tup<|xs++a) h else .bad
  |_=>.bad
 |.ref i=>match y with
  |.ref j=>match h[i]? with
   |some (.lst xs)=>match h[j]? with
    |some (.lst a)=>if xs.length+a.length<=Yc then ZeY (.lst<|xs++a) h else .bad
    |_=>.bad
   |_=>.bad
  |_=>.bad
 |_=>.bad
def Zyt(x y:D)(h:Hd):qe D:=match x with
 |.str z=>match y with
  |.int n=>if 0<=n/\n<=1000/\z.length<=1000 then .ok (.str<|Zg6 z n.toNat) h else .bad
  |_=>.bad
 |x=>int2 x y λi j=>if i.natAbs<2^2000/\j.natAbs<2^2000 then .ok (.int<|i*j) h else .bad
def opB(op:Operator)(x y:D)(h:Hd):qe D:=match op with
 |.Add=>Zt6 x y h
 |.Sub=>int2 x y λi j=>.ok (.int<|i-j) h
 |.Mult=>Zyt x y h
 |.Mod=>int2 x y λi j=>if 0<j then .ok (.int<|i%j) h else .bad
 |.FloorDiv=>int2 x y λi j=>if 0<j/\j<1073741824 then .ok (.int<|i/j) h else .bad
 |.Pow=>int2 x y λi j=>if 0<=j/\j<=1000000/\i.natAbs<2^64 then .ok (.int<|i^j.toNat) h else .bad
 |_=>.bad
def ZdW(neg:Bool)(x y:D)(h:Hd):qe D:=match ZlN h x,ZlN h y with
 |some a,J b=>if min a.depth b.depth<=1100 then .ok (.bl<|if neg then !PyData.eqv a b else PyData.eqv a b) h else .bad
 |_,_=>.bad
def seqOf(d:D)(h:Hd):Option (List D):=match d with
 |.tup a=>J a
 |d=>lstOf d h
def ZdK(GD:Str->Option (List<|Key×D))(neg:Bool)(x y:D)(h:Hd):qe D:=match seqOf y h with
 |some b=>if x.flat&&b.all D.flat then .ok (.bl<|if neg then !b.any (λz=>eqF z x)else b.any λz=>eqF z x) h else .bad
 |none=>match dicOf GD y h,keyOf x with
  |some a,J k=>.ok (.bl<|if neg then !(Zao a k).isSome else(Zao a k).isSome) h
  |_,_=>.bad
noncomputable def ZjC(f:Int->Int->Bool)(x y:D)(h:Hd):qe D:=match x,y with
 |.int i,.int j=>.ok (.bl<|f i j) h
 |_,_=>.bad
noncomputable def opN(neg:Bool)(x y:D)(h:Hd):qe D:=match y with
 |.non=>.ok (.bl<|if neg then !Wu (x=.non)else Wu (x=.non)) h
 |_=>.bad
def opC(GD:Str->Option (List<|Key×D))(op:CmpOp)(x y:D)(h:Hd):qe D:=match op with
 |.Eq=>ZdW Ws x y h
 |.NotEq=>ZdW Wr x y h
 |.Lt=>ZjC (λi j=>Wu<|i<j) x y h
 |.LtE=>ZjC (λi j=>Wu<|i<=j) x y h
 |.Gt=>ZjC (λi j=>Wu<|j<i) x y h
 |.GtE=>ZjC (λi j=>Wu<|j<=i) x y h
 |.In=>ZdK GD Ws x y h
 |.NotIn=>ZdK GD Wr x y h
 |.Is=>opN Ws x y h
 |.IsNot=>opN Wr x y h
def ZaQ(GD:Str->Option (List<|Key×D))(x y:D)(h:Hd):qe D:=match y with
 |.int i=>match seqOf x h with
  |some b=>qe.ofO (atI b i) h
  |none=>match x with
   |.str z=>if z.length<=Yc then qe.ofO ((atI z.cps.toList i).map λc=>.str ⟨#[c]⟩) h else .bad
   |_=>match dicOf GD x h with
    |some a=>qe.ofO (Zao a<|.inl i) h
    |none=>.bad
 |.str z=>match dicOf GD x h with
  |some a=>qe.ofO (Zao a<|.inr z) h
  |none=>.bad
 |_=>.bad
def ZfN(x:D)(l u:Option Int)(h:Hd):qe D:=match x with
 |.tup a=>.ok (.tup<|cutD a l u) h
 |.str y=>if y.length<=Yc then .ok (.str<|Yq y l u) h else .bad
 |d=>match lstOf d h with
  |some a=>ZeY (.lst<|cutD a l u) h
  |none=>.bad
def Zxo(d:D)(h:Hd):Option String:=match d with
 |.int _=>J "int"
 |.str _=>J "str"
 |.bl _=>J "bool"
 |.non=>J "NoneType"
 |.tup _=>J "tuple"
 |d=>(lstOf d h).map λ_ => "list"
noncomputable def Zma(t T:String):Option Bool:=if T∈["int", "str", "bool", "tuple", "list"]/\t∈["int", "str", "bool", "tuple", "list", "NoneType"]then J (t==T||(t == "bool" && T == "int"))else M
noncomputable def intsOf:List D->Option (List Int)
 |[]=>J []
 |.int i::r=>(intsOf r).map λz=>i::z
 |_=>M
noncomputable def strsOf:List D->Option (List Str)
 |[]=>J []
 |.str i::r=>(strsOf r).map λz=>i::z
 |_=>M
noncomputable def ZeR:List (Key×D)->Option (List Str)
 |[]=>J []
 |(.inr x,_)::r=>(ZeR r).map λz=>x::z
 |_=>M
noncomputable def Zor(x:Str):List Str->List Str
 |[]=>[x]
 |y::r=>if ltCps y.cps.toList x.cps.toList then y::Zor x r else x::y::r
def ZdI:List Str->List Str
 |[]=>[]
 |x::r=>Zor x (ZdI r)
def ZmI(xs:List D)(h:Hd):qe D:=match xs with
 |[.str y]=>if y.length<=Yc then .ok (.int y.length) h else .bad
 |[d]=>qe.ofO ((seqOf d h).map λxs=>.int xs.length) h
 |_=>.bad
def Zw0(xs:List D)(h:Hd):qe D:=match xs with
 |[d,.ty T]=>qe.ofO ((Zxo d h).bind λt=>(Zma t T).map .bl) h
 |_=>.bad
noncomputable def ZAk(xs:List D)(h:Hd):qe D:=match xs with
 |[.int i]=>.ok (.int i) h
 |[.bl b]=>.ok (.int<|if b then 1 else 0) h
 |_=>.bad
def ZmH(xs:List D)(h:Hd):qe D:=match xs with
 |[.tup xs]=>.ok (.tup xs) h
 |[d]=>qe.ofO ((lstOf d h).map .tup) h
 |_=>.bad
def ZAj(xs:List D)(h:Hd):qe D:=match xs with
 |[d]=>match seqOf d h with
  |some xs=>ZeY (.lst xs) h
  |none=>.bad
 |_=>.bad
def ZrP(xs:List D)(h:Hd):qe D:=match xs with
 |[d]=>qe.ofO (((lstOf d h).bind intsOf).map λa=>.int a.sum) h
 |_=>.bad
def Zgj(GD:Str->Option (List<|Key×D))(xs:List D)(h:Hd):qe D:=match xs with
 |[d]=>match (dicOf GD d h).bind ZeR with
  |some a=>if a.length<64/\a.all Yp=Wr then ZeY (.lst<|(ZdI a).map .str) h else .bad
  |none=>.bad
 |_=>.bad
def ZnY(x d:D)(h:Hd):qe D:=match d with
 |.int d=>qe.ofO (((lstOf x h).bind intsOf).map λa=>.int<|Zgv a d) h
 |_=>.bad
def Zb6(GD:Str->Option (List<|Key×D)):Bf->List D->Hd->qe D
 |.len=>ZmI
 |.isi=>Zw0
 |.int=>ZAk
 |.tup=>ZmH
 |.lst=>ZAj
 |.sum=>ZrP
 |.srt=>Zgj GD
noncomputable def ZrO(x:D)(h:Hd):qe D:=match x with
 |.tup (y::a)=>.ok (.tup (y::a).reverse) h
 |_=>.bad
noncomputable def ZyH:D->Bool
 |.tup _=>Wr
 |_=>Ws
def Zo9(x y:D)(h:Hd):qe D:=match x,y with
 |.tup a,.str z=>match strsOf a with
  |some b=>qe.ofO ((Tx.place z b).map λ(j:Nat)=>.int (j:Int)) h
  |none=>.bad
 |_,_=>.bad
def Zd8:List D->Option (List<|Key×D)
 |[]=>J []
 |k::v::r=>match keyOf k,Zd8 r with
  |some k,J r=>J ((k,v)::r)
  |_,_=>M
 |_=>M
def ZcL(kvs more:List (Key×D)):List (Key×D):=more.foldl (λa kv=>putD a kv.1 kv.2) kvs
noncomputable def ZqP(i:Nat)(ys xs:List D)(h:Hd):qe D:=match xs with
 |[d]=>if ys.length<Yc then .ok .non (h.set i<|.lst<|ys++[d])else .bad
 |_=>.bad
noncomputable def ZqO(i:Nat)(ys xs:List D)(h:Hd):qe D:=match xs with
 |[.ref j]=>match h[j]? with
  |some (.lst a)=>if ys.length+a.length<=Yc then .ok .non (h.set i<|.lst<|ys++a)else .bad
  |_=>.bad
 |[.tup a]=>if ys.length+a.length<=Yc then .ok .non (h.set i<|.lst<|ys++a)else .bad
 |_=>.bad
noncomputable def Zti(i:Nat)(ys xs:List D)(h:Hd):qe D:=match xs with
 |[]=>match ys[ys.length-1]? with
  |some y=>.ok y (h.set i<|.lst ys.dropLast)
  |none=>.bad
 |_=>.bad
noncomputable def Zyw(i:Nat)(ys xs:List D)(h:Hd):qe D:=match xs with
 |[]=>.ok .non (h.set i<|.lst ys.reverse)
 |_=>.bad
noncomputable def Zyx(i:Nat)(ys xs:List D)(h:Hd):qe D:=match xs with
 |[]=>.ok .non (h.set i<|.lst [])
 |_=>.bad
def shD(x:D)(h:Hd):qe Str:=match ZlN h x with
 |some d=>if L2.Zsj d=Wr then .ok d.shown h else .bad
 |none=>.bad
def Zgu:Mf->Nat->List D->List D->Hd->qe D
 |.app=>ZqP
 |.ext=>ZqO
 |.pop=>Zti
 |.rev=>Zyw
 |.clr=>Zyx
def ZaA(m:Mf)(o:D)(xs:List D)(h:Hd):qe D:=match o with
 |.ref i=>match h[i]? with
  |some (.lst a)=>Zgu m i a xs h
  |_=>.bad
 |_=>.bad
noncomputable def ZgT(o:D)(h:Hd):Bool:=match o with
 |.ref i=>match h[i]? with
  |some (.lst _)=>Wr
  |_=>Ws
 |_=>Ws
def ZbV(o i v:D)(h:Hd):qe Unit:=match o with
 |.ref a=>match h[a]? with
  |some (.lst xs)=>match i with
   |.int k=>match ixN xs.length k with
    |some j=>.ok () (h.set a<|.lst<|xs.set j v)
    |none=>.bad
   |_=>.bad
  |some (.dic b)=>match keyOf i with
   |some k=>if b.length<Yc then .ok () (h.set a<|.dic<|putD b k v)else .bad
   |none=>.bad
  |_=>.bad
 |_=>.bad
structure Wk where
 src:List (Nat×List D)
 xs:List D
noncomputable def Wk.stays:List (Nat×List D)->Hd->Bool
 |[],_=>Wr
 |(i,a)::r,h=>Wu (h[i]?=J (.lst a))&&Wk.stays r h
noncomputable def ZaT(d:D)(h:Hd):Option Wk:=match d with
 |.tup a=>J ⟨[],a⟩
 |.ro a=>J ⟨[],a⟩
 |.ref i=>match h[i]? with
  |some (.lst a)=>J ⟨[(i,a)],a⟩
  |_=>M
 |_=>M
noncomputable def Zhn(d:D)(h:Hd):Option Wk:=match d with
 |.ro a=>J ⟨[],a⟩
 |.ref i=>match h[i]? with
  |some (.lst a)=>J ⟨[(i,a)],a⟩
  |_=>M
 |_=>M
noncomputable def Zhm(d:D)(h:Hd):Option Wk:=match d with
 |.tup a=>J ⟨[],a⟩
 |.ref i=>match h[i]? with
  |some (.lst a)=>J ⟨[(i,a)],a⟩
  |_=>M
 |_=>M
noncomputable def ZbQ(lo:Int)(n:Nat):List D:=(List.range n).map λ(k:Nat)=>.int (lo+(k:Int))
noncomputable def Zej(xs:List D):List D:=xs.mapIdx λk x=>.tup [.int (k:Int),x]
noncomputable def Zfs(xs:List D):List D:=xs.mapIdx λk x=>.tup [.int ((k+1:Nat):Int),x]
noncomputable def Zq6:Key->D
 |.inl i=>.int i
 |.inr x=>.str x
def Zri(x:D)(h:Hd):qe Wk:=match x with
 |.ref i=>match h[i]? with
  |some (.dic a)=>.ok ⟨[],a.map λp=>Zq6 p.1⟩ (h.set i<|.fdic a)
  |some (.fdic a)=>.ok ⟨[],a.map λp=>Zq6 p.1⟩ h
  |_=>.bad
 |_=>.bad
noncomputable def ZeM(i:Int):Bool:=Wu (-(2^62)<=i)&&Wu (i<2^62)
noncomputable def Zlz:List Nat->List D->Ev->Ev
 |i::is,x::a,S=>Zlz is a (S.set i<|J x)
 |_,_,S=>S
def ZbK(g:Tg)(d:D)(S:Ev):Option Ev:=match g with
 |.nm i=>J (S.set i<|J d)
 |.two i j=>match d with
  |.tup [a,b]=>J ((S.set i<|J a).set j<|J b)
  |_=>M
 |.many is=>match d with
  |.tup c=>if c.length=is.length then J (Zlz is c S)else M
  |_=>M
def ZbY(js:List (Option Nat))(S:Ev):Ev:=js.map λo=>o.bind λj=>(S[j]?).join
inductive Fl where
 |nx|bk|ct|rt (d:D)
def ZG(src:List (Nat×List D))(g:Tg)(body:Ev->Hd->qe (Fl×Ev)):List D->Ev->Hd->qe (Fl×Ev)
 |[],S,h=>if Wk.stays src h then .ok (.nx,S) h else .bad
 |d::ds,S,h=>if Wk.stays src h then match ZbK g d S with
  |none=>.bad
  |some ρ1=>(body ρ1 h).bind λp a=>match p with
   |(.nx,ρ2)=>ZG src g body ds ρ2 a
   |(.ct,ρ2)=>ZG src g body ds ρ2 a
   |(.bk,ρ2)=>.ok (.nx,ρ2) a
   |(.rt d,ρ2)=>.ok (.rt d,ρ2) a
  else .bad
noncomputable def ZH(test:Ev->Hd->qe Bool)(body:Ev->Hd->qe (Fl×Ev)):Nat->Ev->Hd->qe (Fl×Ev)
 |0,_,_=>.bad
 |n+1,S,h=>(test S h).bind λb R=>if b then(body S R).bind λp a=>match p with
  |(.nx,ρ2)=>ZH test body n ρ2 a
  |(.ct,ρ2)=>ZH test body n ρ2 a
  |(.bk,ρ2)=>.ok (.nx,ρ2) a
  |(.rt d,ρ2)=>.ok (.rt d,ρ2) a
  else .ok (.nx,S) R
@[reducible] def qe.plain:qe α->qe α
 |.exc _ _=>.bad
 |r=>r
def ZI(src:List (Nat×List D))(g:Tg)(test:Ev->Hd->qe Bool)(aE:Ev->Hd->qe D):List D->Ev->List D->Hd->qe (List D)
 |[],_,a,h=>if Wk.stays src h then .ok a h else .bad
 |d::ds,S,a,h=>if Wk.stays src h/\a.length<Yc then match ZbK g d S with
  |none=>.bad
  |some ρ1=>(test ρ1 h).plain.bind λb R=>if b then(aE ρ1 R).plain.bind λx c=>ZI src g test aE ds S (a++[x]) c else ZI src g test aE ds S a R
  else .bad
noncomputable def ZwW(C:Str)(S:Ev)(r:qe D):qe (Fl×Ev):=match r with
 |.exc c h=>if c=C then .ok (.rt<|.bl Wr,S) h else .bad
 |_=>.bad
noncomputable def Zii(C:Str)(i:Nat)(S:Ev)(r:qe D):qe (Fl×Ev):=match r with
 |.bad=>.bad
 |.ok v h=>.ok (.nx,S.set i<|J v) h
 |.exc c h=>if c=C then .ok (.nx,S.set i<|J .non) h else .bad
noncomputable def mnm(C m:Str):Str:=C++(O "." ++ m)
def Z8(d:D)(h:Hd):Option (Str×List (Str×D)):=match d with
 |.ref i=>match h[i]? with
  |some (.ins C fs)=>J (C,fs)
  |_=>M
 |_=>M
def Zgz(Cs:List Str)(f:Str)(x:D)(h:Hd):qe D:=match Z8 x h with
 |some (C,fs)=>if C∈Cs then qe.ofO (fs.lookup f) h else .bad
 |none=>.bad
noncomputable def ZhD(f:Str)(v:D):List (Str×D)->List (Str×D)
 |[]=>[(f,v)]
 |(g,x)::r=>if g=f then(g,v)::r else(g,x)::ZhD f v r
def Zgo(Cs:List Str)(f:Str)(x d:D)(h:Hd):qe D:=match x with
 |.ref i=>match h[i]? with
  |some (.ins C fs)=>if C∈Cs/\fs.length<1000 then .ok .non (h.set i<|.ins C<|ZhD f d fs)else .bad
  |_=>.bad
 |_=>.bad
def Zg7(Cf:Str->List D->Hd->qe D)(C:Str)(xs:List D)(h:Hd):qe D:=(Cf (mnm C<|O "__init__") (.ref h.length::xs)<|h++[.ins C []]).bind λd a=>match d with
 |.non=>.ok (.ref h.length) a
 |_=>.bad
structure Tb where
 G:Str->Option D
 GD:Str->Option (List<|Key×D)
 C:Str->List D->Hd->qe D
 L:Nat
mutual
noncomputable def ev(T:Tb):Ex->Ev->Hd->qe D
 |.var i,S,h=>qe.ofO (S[i]?).join h
 |.cst d,_,h=>.ok d h
 |.glo x,_,h=>qe.ofO (T.G x) h
 |.bin op a b,S,h=>(ev T a S h).bind λx R=>(ev T b S R).bind λy h2=>opB op x y h2
 |.cmp op a b,S,h=>(ev T a S h).bind λx R=>(ev T b S R).bind λy h2=>opC T.GD op x y h2
 |.neg a,S,h=>(ev T a S h).bind λx R=>match x with
  |.int i=>.ok (.int<|-i) R
  |_=>.bad
 |.nt a,S,h=>(ev T a S h).bind λx R=>match x with
  |.bl b=>.ok (.bl<|!b) R
  |_=>.bad
 |.ands es,S,h=>evAnd T es S h
 |.ors es,S,h=>evOr T es S h
 |.ite c a b,S,h=>(tst T c S h).bind λc R=>if c then ev T a S R else ev T b S R
 |.tupl es,S,h=>(evs T es S h).bind λxs R=>if xs.length<=Yc then .ok (.tup xs) R else .bad
 |.lstl es,S,h=>(evs T es S h).bind λxs R=>if xs.length<=Yc then ZeY (.lst xs) R else .bad
 |.ix a i,S,h=>(ev T a S h).bind λx R=>(ev T i S R).bind λy h2=>ZaQ T.GD x y h2
 |.sl a lo hi,S,h=>(ev T a S h).bind λx R=>(evo T lo S R).bind λl h2=>(evo T hi S h2).bind λu h3=>ZfN x l u h3
 |.blt f es,S,h=>(evs T es S h).bind λxs R=>Zb6 T.GD f xs R
 |.call f es,S,h=>(evs T es S h).bind λxs R=>T.C f xs R
 |.meth m o es,S,h=>(ev T o S h).bind λx R=>if ZgT x R then(evs T es S R).bind λxs h2=>ZaA m x xs h2 else .bad
 |.comp _ js it g c e,S,h=>(evi T it S h).bind λw R=>(ZI w.src g (tsto T c) (ev T e) w.xs (ZbY js S) [] R).bind λxs h2=>ZeY (.lst xs) h2
 |.maxd e d,S,h=>(ev T e S h).bind λx R=>(ev T d S R).bind λy h2=>ZnY x y h2
 |.dictl ps,S,h=>(evs T ps S h).bind λxs R=>match Zd8 xs with
  |some kvs=>if kvs.length<=15 then ZeY (.dic<|ZcL [] kvs) R else .bad
  |none=>.bad
 |.att Cs o f,S,h=>(ev T o S h).bind λx R=>Zgz Cs f x R
 |.mk C es,S,h=>(evs T es S h).bind λxs R=>Zg7 T.C C xs R
 |.mcl C m o es,S,h=>(ev T o S h).bind λx R=>match Z8 x R with
  |some (C',fs)=>if C'=C/\fs.lookup m=M then(evs T es S R).bind λxs h2=>T.C (mnm C m) (x::xs) h2 else .bad
  |none=>.bad
 |.any,_,_=>.bad
 |.trev e,S,h=>(ev T e S h).bind λx R=>ZrO x R
 |.tix o e,S,h=>(ev T o S h).bind λx R=>if ZyH x then(ev T e S R).bind λy h2=>Zo9 x y h2 else .bad
 |.rpn o a b,S,h=>(ev T a S h).bind λx R=>(shD x R).bind λp R=>(ev T b S R).bind λy h2=>(shD y h2).bind λq h3=>.ok (.bl<|bif o then !Wu (p=q)else Wu (p=q)) h3
noncomputable def evs(T:Tb):Exs->Ev->Hd->qe (List D)
 |.nil,_,h=>.ok [] h
 |.cons e es,S,h=>(ev T e S h).bind λx R=>(evs T es S R).bind λxs h2=>.ok (x::xs) h2
noncomputable def evAnd(T:Tb):Exs->Ev->Hd->qe D
 |.nil,_,_=>.bad
 |.cons e es,S,h=>match es with
  |.nil=>ev T e S h
  |.cons _ _=>(ev T e S h).bind λx R=>match x with
   |.bl Wr=>evAnd T es S R
   |.bl Ws=>.ok (.bl Ws) R
   |_=>.bad
noncomputable def evOr(T:Tb):Exs->Ev->Hd->qe D
 |.nil,_,_=>.bad
 |.cons e es,S,h=>match es with
  |.nil=>ev T e S h
  |.cons _ _=>(ev T e S h).bind λx R=>match x with
   |.bl Wr=>.ok (.bl Wr) R
   |.bl Ws=>evOr T es S R
   |_=>.bad
noncomputable def evo(T:Tb):Option Ex->Ev->Hd->qe (Option Int)
 |none,_,h=>.ok M h
 |some e,S,h=>(ev T e S h).bind λx R=>match x with
  |.int i=>.ok (J i) R
  |_=>.bad
noncomputable def tst(T:Tb):Tx->Ev->Hd->qe Bool
 |.ex e,S,h=>(ev T e S h).bind λx R=>qe.ofO (Zfk T.GD x R) R
 |.ands ts,S,h=>tstAnd T ts S h
 |.ors ts,S,h=>tstOr T ts S h
 |.nt a,S,h=>(tst T a S h).bind λc R=>.ok (!c) R
noncomputable def tstAnd(T:Tb):Txs->Ev->Hd->qe Bool
 |.one t,S,h=>tst T t S h
 |.cons t ts,S,h=>(tst T t S h).bind λc R=>if c then tstAnd T ts S R else .ok Ws R
noncomputable def tstOr(T:Tb):Txs->Ev->Hd->qe Bool
 |.one t,S,h=>tst T t S h
 |.cons t ts,S,h=>(tst T t S h).bind λc R=>if c then .ok Wr R else tstOr T ts S R
noncomputable def tsto(T:Tb):Option Tx->Ev->Hd->qe Bool
 |none,_,h=>.ok Wr h
 |some e,S,h=>tst T e S h
noncomputable def evi(T:Tb):Ix->Ev->Hd->qe Wk
 |.pl e,S,h=>(ev T e S h).bind λx R=>qe.ofO (ZaT x R) R
 |.rng e,S,h=>(ev T e S h).bind λx R=>match x with
  |.int j=>if ZeM j then .ok ⟨[],ZbQ 0 j.toNat⟩ R else .bad
  |_=>.bad
 |.enu e,S,h=>(ev T e S h).bind λx R=>qe.ofO ((Zhn x R).map λw=>⟨w.src,Zej w.xs⟩) R
 |.rev e,S,h=>(ev T e S h).bind λx R=>qe.ofO ((Zhm x R).map λw=>⟨w.src,w.xs.reverse⟩) R
 |.en1 e,S,h=>(ev T e S h).bind λx R=>match x with
  |.tup xs=>.ok ⟨[],Zfs xs⟩ R
  |_=>.bad
 |.dk e,S,h=>(ev T e S h).bind λx R=>Zri x R
end
def Zpq(i j:Nat)(S:Ev)(x:D)(h:Hd):qe (Fl×Ev):=match lstOf x h with
 |some [a,b]=>.ok (.nx,(S.set i<|J a).set j<|J b) h
 |_=>.bad
mutual
noncomputable def xs1(T:Tb):Sx->Ev->Hd->qe (Fl×Ev)
 |.ret e,S,h=>(ev T e S h).bind λx R=>.ok (.rt x,S) R
 |.set g e,S,h=>(ev T e S h).bind λx R=>(qe.ofO (ZbK g x S) R).bind λρ1 h2=>.ok (.nx,ρ1) h2
 |.put o i e,S,h=>(ev T e S h).bind λx R=>(ev T o S R).bind λy h2=>(ev T i S h2).bind λz h3=>(ZbV y z x h3).bind λ_ h4=>.ok (.nx,S) h4
 |.aug i op e,S,h=>(qe.ofO (S[i]?).join h).bind λx R=>(ev T e S R).bind λy h2=>match op,x,y with
  |.Add,.int a,.int b=>.ok (.nx,S.set i<|J<|.int<|a+b) h2
  |_,_,_=>.bad
 |.drp e,S,h=>(ev T e S h).bind λ_ R=>.ok (.nx,S) R
 |.iff c a b,S,h=>(tst T c S h).bind λt R=>if t then xs2 T a S R else xs2 T b S R
 |.whl c b,S,h=>ZH (tst T c) (xs2 T b) T.L S h
 |.forr g it b,S,h=>(evi T it S h).bind λw R=>ZG w.src g (xs2 T b) w.xs S R
 |.pas,S,h=>.ok (.nx,S) h
 |.brk,S,h=>.ok (.bk,S) h
 |.cnt,S,h=>.ok (.ct,S) h
 |.seta Cs o f e,S,h=>(ev T e S h).bind λd R=>(ev T o S R).bind λx h2=>(Zgo Cs f x d h2).bind λ_ h3=>.ok (.nx,S) h3
 |.auga Cs o f e,S,h=>(ev T o S h).bind λx R=>(Zgz Cs f x R).bind λv h2=>(ev T e S h2).bind λy h3=>match v,y with
  |.int a,.int b=>if (Z8 x R).map (·.1)=(Z8 x h3).map (·.1)then(Zgo Cs f x (.int<|a+b) h3).bind λ_ h4=>.ok (.nx,S) h4 else .bad
  |_,_=>.bad
 |.any,_,_=>.bad
 |.rai C e,S,h=>(ev T e S h).bind λ_ R=>.exc C R
 |.trs i f es C,S,h=>(evs T es S h).plain.bind λxs R=>Zii C i S (T.C f xs R)
 |.unl i j e,S,h=>(ev T e S h).bind λx R=>Zpq i j S x R
noncomputable def xs2(T:Tb):Sxs->Ev->Hd->qe (Fl×Ev)
 |.nil,S,h=>.ok (.nx,S) h
 |.trq _ _ f es _ c _ _ _,S,h=>(evs T es S h).plain.bind λxs R=>ZwW c S (T.C f xs R)
 |.cons s r,S,h=>(xs1 T s S h).bind λp R=>match p with
  |(.nx,ρ1)=>xs2 T r ρ1 R
  |p=>.ok p R
end
structure Fd where
 ps:List Str
 N:List Str
 body:Sxs
noncomputable abbrev fd_(n:Nat)(l:List String)(b:Sxs):Fd:=⟨(l.map O).take n,l.map O,b⟩
structure Pg where
 tb:List (Str×Fd)
 G:Str->Option D
 GD:Str->Option (List<|Key×D)
 L:Nat
 ms:List (Str×Fd):=[]
noncomputable def Pg.look(P:Pg)(f:Str):Option Fd:=match P.tb.lookup f with
 |some a=>J a
 |none=>P.ms.lookup f
noncomputable def Zx(N:List Str)(ds:List D):Ev:=ds.map J++YK (N.length-ds.length) M
noncomputable def Zf:qe (Fl×Ev)->qe D
 |.ok (.rt d,_) h=>.ok d h
 |.ok (.nx,_) h=>.ok .non h
 |.exc c h=>.exc c h
 |_=>.bad
def run(P:Pg):Nat->Str->List D->Hd->qe D
 |0,_,_,_=>.bad
 |n+1,f,ds,h=>match P.look f with
  |none=>.bad
  |some a=>if ds.length=a.ps.length then Zf (xs2 ⟨P.G,P.GD,run P n,P.L⟩ a.body (Zx a.N ds) h)else .bad
def Pg.tbl(P:Pg)(n:Nat):Tb:=⟨P.G,P.GD,run P n,P.L⟩
def FzL(K:Yl)(H:Hp)(a:Yj)(xs:List V):Prop:=(∃o,H a=J (.frz o<|.lst xs))\/∃(o:Obj) (its:Array Yk) (n:Nat),K.lookup a=J o/\o.cls=.type "list" /\ o.dict=M/\o.data=.seq its n/\its.size<=Yc/\Zt xs its.toList
def FzL.sq{K}(h:FzL K H a xs):SqL K H a xs:=h.elim (λ⟨o,h⟩=>.inl<|.inr ⟨o,h⟩) .inr
structure Yx where
 K:Yl
 mg:Str->Option Yk
mutual
inductive RD(Y:Yx)(H:Hp)(B:List Yj):D->V->Prop
 |non:RD Y H B .non .non
 |bl (b:Bool):RD Y H B (.bl b) (.bl b)
 |int (i:Int):RD Y H B (.int i) (.int i)
 |str (x:Str) (ok:Yp x=Wr):RD Y H B (.str x) (.str x)
 |tup {a:Yj}{vs:List V}{ds:List D}:SqT Y.K H a vs->RDs Y H B ds vs->RD Y H B (.tup ds) (.ref a)
 |ref {i:Nat}{a:Yj}:B[i]?=J a->RD Y H B (.ref i) (.ref a)
 |ty (n:String):RD Y H B (.ty n) (.ty n)
 |ro {a:Yj}{vs:List V}{ds:List D}:FzL Y.K H a vs->RDs Y H B ds vs->RD Y H B (.ro ds) (.ref a)
 |kd {x:Str}{a:Yj}:Y.mg x=J (.ref a)->RD Y H B (.kd x) (.ref a)
inductive RDs(Y:Yx)(H:Hp)(B:List Yj):List D->List V->Prop
 |nil:RDs Y H B [] []
 |cons {d:D}{v:V}{ds:List D}{vs:List V}:RD Y H B d v->RDs Y H B ds vs->RDs Y H B (d::ds) (v::vs)
end
inductive RKs(Y:Yx)(H:Hp)(B:List Yj){κ:Type}:List (κ×D)->List (κ×V)->Prop
 |nil:RKs Y H B [] []
 |cons {k:κ}{d:D}{v:V}{ds:List (κ×D)}{vs:List (κ×V)}:RD Y H B d v->RKs Y H B ds vs->RKs Y H B ((k,d)::ds) ((k,v)::vs)
def RO(Y:Yx)(H:Hp)(B:List Yj)(a:Yj):DO->Prop
 |.lst ds=>∃d,H a=J (.lst d)/\RDs Y H B ds d
 |.dic b=>∃c,H a=J (.dK c)/\RKs Y H B b c
 |.ins C fs=>∃Ca g e,H a=J (.ins Ca g e)/\Y.mg C=J (.ref Ca)/\RKs Y H B fs e
 |.fdic b=>∃o c,H a=J (.frz o<|.dK c)/\RKs Y H B b c
 |.dnk b=>∃c f,H a=J (.dT f)/\KN Y.K H c f/\RKs Y H B b c
def Zcr(kvs:List (Key×D)):Prop:=∀p∈kvs,∀x,p.1=.inr x->Yp x=Wr
def DOk:DO->Prop
 |.dic a=>Zcr a
 |.fdic a=>Zcr a
 |_=>True
structure RH(Y:Yx)(H:Hp)(B:List Yj)(h:Hd):Prop where
 len:h.length=B.length
 nd:B.Nodup
 ob:∀(i:Nat) (o:DO) (a:Yj),h[i]?=J o->B[i]?=J a->RO Y H B a o
 ks:∀(i:Nat) (o:DO),h[i]?=J o->DOk o
structure Gr(H:Hp)(B:List Yj)(H':Hp)(μ':List Yj):Prop where
 pre:∀(i:Nat) (a:Yj),B[i]?=J a->μ'[i]?=J a
 new:∀a∈μ',a∈B\/H a=M
 keep:∀b o,b ∉ B->H b=J o->H' b=J o
 fz:∀b o u,H b=J (.frz o u)->H' b=J (.frz o u)
def Gr.refl:Gr H B H B:=⟨λ_ _ h=>h,λ_ h=>.inl h,λ_ _ _ h=>h,λ_ _ _ h=>h⟩
def Gr.I(a:Gr H B H1 μ1)(b:Gr H1 μ1 H2 μ2):Gr H B H2 μ2:=by
 refine⟨λi x h=>b.pre i x<|a.pre i x h,λx d=>?_,λx o d h=>?_,λx o u h=>b.fz x o u<|a.fz x o u h⟩
 . rcases b.new x d with h|h
   . exact a.new x h
   . by_cases c:x∈B
     . exact .inl c
     . cases q:H x with
       |none=>simp
       |some o=>rw[a.keep x o c q]at h;cases h
 . refine b.keep x o (λc=>?_) (a.keep x o d h);rcases a.new x c with z|z
   . trivial
   simp_all
def Mu:Option HO->Prop
 |some (.lst _)|some (.dK _)|some (.ins _ _ _)|some (.frz _ (.dK _))|some (.dT _)=>True
 |_=>False
def RO.mut(h:RO Y H B a o):Mu (H a):=by
 cases o with
 |lst ds|dic ds=>obtain⟨b,e,_⟩:=h;rw[e];trivial
 |ins C ds=>obtain⟨_,_,_,e,_⟩:=h;rw[e];trivial
 |fdic ds|dnk ds=>obtain⟨_,_,e,_⟩:=h;rw[e];trivial
def RH.mem(r:RH Y H B h)(ha:a∈B):∃(i:Nat) (o:DO),B[i]?=J a/\h[i]?=J o/\RO Y H B a o:=by obtain⟨i,b⟩:=List.mem_iff_getElem?.mp ha;exact⟨i,_,b,Og _,r.ob i _ a (Og<|r.len▸(Ob.mp b).1) b⟩
theorem RH.mut(r:RH Y H B h)(ha:a∈B):Mu (H a):=let⟨_,_,_,_,q⟩:=r.mem ha;q.mut
def Gr.rdT(r:RH Y H B h)(g:Gr H B H' μ')(t:SqT Y.K H a xs):SqT Y.K H' a xs:=by
 rcases t with t|t
 . rcases t with t|⟨o,t⟩
   . exact .inl (.inl<|g.keep a _ (λb=>by have:=r.mut b;rw[t]at this;exact this) t)
   . exact .inl (.inr ⟨o,g.fz a _ _ t⟩)
 . exact .inr t
def Gr.rdF(r:RH Y H B h)(g:Gr H B H' μ')(t:FzL Y.K H a xs):FzL Y.K H' a xs:=by
 rcases t with⟨o,t⟩|t
 . exact .inl ⟨o,g.fz a _ _ t⟩
 . exact .inr t
section
variable {Y:Yx}{H H':Hp}{B μ':List Yj}{h:Hd}
structure Tr(Y:Yx)(H:Hp)(B:List Yj)(H':Hp)(μ':List Yj):Prop where
 t:∀{a xs},SqT Y.K H a xs->SqT Y.K H' a xs
 f:∀{a xs},FzL Y.K H a xs->FzL Y.K H' a xs
 m:∀{i:Nat}{a},B[i]?=J a->μ'[i]?=J a
mutual
theorem RD.tr(T:Tr Y H B H' μ'):∀{d:D}{v:V},RD Y H B d v->RD Y H' μ' d v
 |_,_,.non=>.non
 |_,_,.bl b=>.bl b
 |_,_,.int i=>.int i
 |_,_,.str x ok=>.str x ok
 |_,_,.tup t s=>.tup (T.t t) (RDs.tr T s)
 |_,_,.ref e=>.ref (T.m e)
 |_,_,.ty n=>.ty n
 |_,_,.ro t s=>.ro (T.f t) (RDs.tr T s)
 |_,_,.kd e=>.kd e
theorem RDs.tr(T:Tr Y H B H' μ'):∀{d:List D}{v:List V},RDs Y H B d v->RDs Y H' μ' d v
 |_,_,.nil=>.nil
 |_,_,.cons a s=>.cons (RD.tr T a) (RDs.tr T s)
end
theorem RKs.tr(T:Tr Y H B H' μ'):∀{d}{v:List (κ×V)},RKs Y H B d v->RKs Y H' μ' d v
 |_,_,.nil=>.nil
 |_,_,.cons a s=>.cons (a.tr T) (RKs.tr T s)
def KyS.tr(T:Tr Y H B H' μ'):KyS Y.K H b k->KyS Y.K H' b k:=by rintro⟨c,R,h2⟩;exact⟨c,T.t R,T.t h2⟩
theorem KN.tr(T:Tr Y H B H' μ')(r:KN Y.K H kvs xs):KN Y.K H' kvs xs:=Paired.mapP r λ_ _ z=>⟨z.1,KyS.tr T z.2.1,z.2.2⟩
theorem RO.tr(T:Tr Y H B H' μ')(q:RO Y H B a o)(e:H' a=H a):RO Y H' μ' a o:=by
 cases o with
 |lst ds|dic ds=>obtain⟨b,z,s⟩:=q;exact⟨_,e.I z,s.tr T⟩
 |ins C ds=>obtain⟨c,d,f,z,m,s⟩:=q;exact⟨_,_,_,e.I z,m,s.tr T⟩
 |fdic ds=>obtain⟨o,b,z,s⟩:=q;exact⟨o,_,e.I z,s.tr T⟩
 |dnk ds=>obtain⟨b,g,z,n,s⟩:=q;exact⟨_,_,e.I z,KN.tr T n,s.tr T⟩
def Gr.tr(r:RH Y H B h)(g:Gr H B H' μ'):Tr Y H B H' μ':=⟨g.rdT r,g.rdF r,g.pre _ _⟩
def RD.mono(r:RH Y H B h)(g:Gr H B H' μ')(q:RD Y H B d v):RD Y H' μ' d v:=q.tr (g.tr r)
def RDs.mono(r:RH Y H B h)(g:Gr H B H' μ')(q:RDs Y H B d v):RDs Y H' μ' d v:=q.tr (g.tr r)
def RKs.mono{d:List (κ×D)}(r:RH Y H B h)(g:Gr H B H' μ')(q:RKs Y H B d v):RKs Y H' μ' d v:=q.tr (g.tr r)
theorem RDs.length:∀{d}{v},RDs Y H B d v->d.length=v.length
 |_,_,.nil=>rfl
 |_,_,.cons a s=>by rw[Os,Os,s.length]
theorem RKs.length:∀{d}{v:List (κ×V)},RKs Y H B d v->d.length=v.length
 |_,_,.nil=>rfl
 |_,_,.cons a s=>by rw[Os,Os,s.length]
theorem RDs.get:∀{ds}{vs},RDs Y H B ds vs->∀{i:Nat}{d},ds[i]?=J d->∃v,vs[i]?=J v/\RD Y H B d v
 |_,_,.nil,i,d,e=>by trivial
 |_,_,.cons a s,0,d,e=>by simp_all
 |_,_,.cons a s,i+1,d,e=>by obtain⟨v,R,b⟩:=RDs.get s (by trivial);exact⟨v,by trivial,b⟩
theorem RDs.append:∀{ds es}{vs ws},RDs Y H B ds vs->RDs Y H B es ws->RDs Y H B (ds++es) (vs++ws)
 |_,_,_,_,.nil,s=>s
 |_,_,_,_,.cons a r,s=>.cons a (r.append s)
theorem RDs.take:∀{ds}{vs} (n),RDs Y H B ds vs->RDs Y H B (ds.take n) (vs.take n)
 |_,_,0,_=>.nil
 |_,_,_+1,.nil=>.nil
 |_,_,n+1,.cons a s=>.cons a (s.take n)
theorem RDs.drop:∀{ds}{vs} (n),RDs Y H B ds vs->RDs Y H B (ds.drop n) (vs.drop n)
 |_,_,0,s=>s
 |_,_,_+1,.nil=>.nil
 |_,_,n+1,.cons a s=>s.drop n
theorem RDs.reverse(s:RDs Y H B ds vs):RDs Y H B ds.reverse vs.reverse:=by
 have f:∀{ds c}{vs e},RDs Y H B ds vs->RDs Y H B c e->RDs Y H B (ds.reverseAux c) (vs.reverseAux e):=by
  intro ds;induction ds with
  |nil=>intro c vs e a b;cases a;exact b
  |cons d ds g=>
   intro c vs e a b;cases a with
   |cons a s=>have z:=g s<|RDs.cons a b;exact z
 exact f s .nil
theorem RDs.dropLast(s:RDs Y H B ds vs):RDs Y H B ds.dropLast vs.dropLast:=by rw[List.dropLast_eq_take,List.dropLast_eq_take,s.length];exact s.take _
theorem RDs.set(r:RD Y H B d v):∀{ds}{vs} (i),RDs Y H B ds vs->RDs Y H B (ds.set i d) (vs.set i v)
 |_,_,_,.nil=>.nil
 |_,_,0,.cons _ s=>.cons r s
 |_,_,i+1,.cons a s=>.cons a (RDs.set r i s)
def RDs.cut(s:RDs Y H B ds vs)(lo hi):RDs Y H B (cutD ds lo hi) (ZoY vs lo hi):=by unfold cutD ZoY;rw[s.length];exact(s.drop _).take _
theorem RDs.isEmpty(s:RDs Y H B ds vs):ds.isEmpty=vs.isEmpty:=by cases s<;>rfl
theorem RDs.atI(s:RDs Y H B ds vs)(e:L2.atI ds i=J d):∃v,L2.atI vs i=J v/\RD Y H B d v:=by
 unfold L2.atI at e ⊢;rw[s.length]at e;cases q:ixN _ i with
 |none=>simp_all
 |some j=>rw[q]at e;exact s.get e
theorem RKs.val[DecidableEq κ]:∀{ds}{vs},RKs Y H B ds vs->∀(k:κ),((ds.find? λp=>Wu<|p.1=k)=M/\(vs.find? λp=>Wu<|p.1=k)=M)\/∃d v,(ds.find? λp=>Wu<|p.1=k)=J (k,d)/\(vs.find? λp=>Wu<|p.1=k)=J (k,v)/\RD Y H B d v
 |_,_,.nil,k=>.inl ⟨rfl,rfl⟩
 |_,_,.cons (k:=c) (d:=d) (v:=v) a s,k=>by
  by_cases e:c=k
  . subst e;exact .inr ⟨d,v,by simp,by simp,a⟩
  . rcases s.val k with⟨R,b⟩|⟨d,v,R,b,f⟩
    . exact .inl ⟨by simp[e,R],by simp[e,b]⟩
    . exact .inr ⟨d,v,by simp_all,by simp_all,f⟩
end
def Zww{α:Type}{l:List α}(hl:l.Nodup){i j:Nat}{x}(a:l[i]?=J x)(b:l[j]?=J x):i=j:=by obtain⟨R,c⟩:=Ob.mp a;obtain⟨e,d⟩:=Ob.mp b;exact(List.getElem_inj hl).mp (c.I d.symm)
section
variable {Y:Yx}{H:Hp}{B:List Yj}{h:Hd}
def Gr.add(g:Gr H0 μ0 H B)(hp:H0 p=M):Gr H0 μ0 H (B++[p]):=⟨λi a e=>by have e:=g.pre i a e;rw[Oe (Ob.mp e).1];exact e,λa b=>(OD.mp b).elim (g.new a) λz=>Ox.mp z▸.inr hp,g.keep,g.fz⟩
def Zpo{H0 H:Hp}(hp:H0 p=M)(e:H0 b=J u):upd H p o b=H b:=Zq λz=>by simp_all
def Gr.put(g:Gr H0 μ0 H B)(hp:H0 p=M):Gr H0 μ0 (upd H p o) B:=⟨g.pre,g.new,λb u a e=>(Zpo hp e).I<|g.keep b u a e,λb u v e=>(Zpo hp e).I<|g.fz b u v e⟩
def Gr.lay0(hp:H p=M):Gr H B (upd H p o) B:=Gr.refl.put hp
def Gr.lay(hp:H p=M):Gr H B (upd H p o) (B++[p]):=(Gr.lay0 hp).add hp
def NF:Option HO->Prop
 |some (.frz _ _)=>False
 |_=>True
def Gr.write(hp:p∈B)(nf:NF (H p)):Gr H B (upd H p o) B:=⟨λ_ _ e=>e,λa c=>.inl c,λb u d e=>(Zq<|λz=>d (by rw[z];trivial)).I e,λb u v e=>(Zq (λz=>by rw[z]at e;rw[e]at nf;exact nf)).I e⟩
def RO.mono(r:RH Y H B h)(g:Gr H B H' μ')(q:RO Y H B a o)(e:H' a=H a):RO Y H' μ' a o:=q.tr (g.tr r) e
theorem RH.tr(r:RH Y H B h)(T:Tr Y H B H' B)(k:∀a∈B,H' a=H a):RH Y H' B h:=⟨r.len,r.nd,λi o a c b=>(r.ob i o a c b).tr T<|k a<|O1 b,r.ks⟩
def RH.keep(r:RH Y H B h)(g:Gr H B H' B)(k:∀a∈B,H' a=H a):RH Y H' B h:=r.tr (g.tr r) k
def Tr.more:Tr Y H B H (B++[p]):=⟨id,id,λe=>(Oe (Ob.mp e).1).I e⟩
def Zwo(k:∀(i:Nat) (o),h[i]?=J o->DOk o)(dk:DOk o):∀(i:Nat) (o'),(h++[o])[i]?=J o'->DOk o':=by
 intro i o' a;by_cases b:i<h.length
 . rw[Oe b]at a;exact k i _ a
 . have c:i=h.length:=by
    have:=(Ob.mp a).1;simp at this
    lia
   simp_all
def RH.add(r:RH Y H B h)(np:p ∉ B)(n:RO Y H (B++[p]) p o)(dk:DOk o:=by trivial):RH Y H (B++[p]) (h++[o]):=by
 refine⟨by simp[r.len],?_,λi g a c d=>?_,Zwo r.ks dk⟩
 . rw[List.nodup_append];refine⟨r.nd,by simp,λa j b k=>?_⟩;intro z
   simp_all
 . by_cases e:i<h.length
   . rw[Oe e]at c;rw[Oe (by rw[<-r.len];trivial)]at d;exact(r.ob i _ a c d).tr .more rfl
   . have f:i=h.length:=by
      have:=(Ob.mp c).1;simp at this
      lia
     subst f;simp[r.len]at c d;subst c;subst d;exact n
def RH.fr(r:RH Y H B h)(hp:H p=M):p ∉ B:=λz=>by have:=r.mut z;rw[hp]at this;exact this
theorem RH.lay0(r:RH Y H B h)(hp:H p=M):RH Y (upd H p u) B h:=r.keep (Gr.lay0 hp) λa b=>Zq λz=>r.fr hp (z▸b)
def RH.lay(r:RH Y H B h)(hp:H p=M)(n:RO Y (upd H p u) (B++[p]) p o)(dk:DOk o:=by trivial):RH Y (upd H p u) (B++[p]) (h++[o]):=(r.lay0 hp).add (r.fr hp) n dk
theorem RH.write{p}{i}{u}{o}(r:RH Y H B h)(hp:B[i]?=J p)(n:RO Y (upd H p u) B p o)(nf:NF (H p))(dk:DOk o:=by trivial):RH Y (upd H p u) B (h.set i o):=by
 refine⟨by simp[r.len],r.nd,λj e a c d=>?_,λj e c=>?_⟩
 rotate_right
 . by_cases b:j=i
   . subst b;have f:j<h.length:=r.len▸(Ob.mp hp).1
     simp_all
   . rw[Oc<|YL b]at c;exact r.ks j _ c
 by_cases b:j=i
 . subst b;rw[hp]at d;cases d;have f:j<h.length:=r.len▸(Ob.mp hp).1
   simp_all
 . rw[Oc<|YL b]at c;refine(r.ob j _ a c d).mono r (Gr.write (O1 hp) nf)<|Zq λz=>b ?_;subst z;exact Zww r.nd d hp
end
def Fin(Y:Yx)(rel:Hp->List Yj->α->β->Prop)(H:Hp)(B:List Yj)(r:qe α)(Q:β->Hp->Prop)(E:XK):Prop:=match r with
 |.bad=>False
 |.ok a d=>∀b H' μ',Gr H B H' μ'->RH Y H' μ' d->rel H' μ' a b->Q b H'
 |.exc c d=>∀H' μ' C,Gr H B H' μ'->RH Y H' μ' d->Y.mg c=J (.ref C)->E (.ref C) M H'
section
variable {Y:Yx}{α β α' β':Type}{rel:Hp->List Yj->α->β->Prop}{aV:Hp->List Yj->α'->β'->Prop}{H H1:Hp}{B μ1:List Yj}{E:XK}
def Fin.mono(g:Gr H B H1 μ1)(f:Fin Y rel H B r Q E):Fin Y rel H1 μ1 r Q E:=by
 cases r with
 |bad=>exact f
 |ok a h=>exact λb H' μ' d=>f b _ _ (g.I d)
 |exc c h=>exact λH' μ' C d=>f _ _ C (g.I d)
theorem Fin.bind(f:Fin Y aV H B (r.bind k) Q E)
 (hk:∀a R b H1 μ1,r=.ok a R->Gr H B H1 μ1->RH Y H1 μ1 R->rel H1 μ1 a b->Fin Y aV H1 μ1 (k a R) Q E->Q1 b H1):Fin Y rel H B r Q1 E:=by
 cases r with
 |bad=>exact f
 |ok a h=>exact λb H' μ' d e g=>hk a h b _ _ rfl d e g (Fin.mono d f)
 |exc c h=>exact f
theorem Fin.ok(f:Fin Y rel H B (.ok a h) Q E)(rh:RH Y H B h)(r:rel H B a b):Q b H:=f b H _ Gr.refl rh r
def Fin.at(f:Fin Y rel H B (.ok a h) Q E)(g:Gr H B H1 μ1)(rh:RH Y H1 μ1 h)(r:rel H1 μ1 a b):Q b H1:=f b _ _ g rh r
theorem Fin.ofO(f:Fin Y rel H B (qe.ofO o h) Q E):∃a,o=J a/\Fin Y rel H B (.ok a h) Q E:=by
 cases o with
 |none=>exact f.elim
 |some a=>exact⟨a,rfl,f⟩
def Fin.iff[Decidable c](f:Fin Y rel H B (if c then r else .bad) Q E):c/\Fin Y rel H B r Q E:=by
 by_cases h:c
 . simp_all
 . rw[if_neg h]at f;exact f.elim
def Fin.new(f:Fin Y (RD Y) H B (ZeY o h) Q E)(rh:RH Y H B h)(hp:H p=M)(n:RO Y (upd H p u) (B++[p]) p o)(dk:DOk o:=by trivial):Q (.ref p) (upd H p u):=f.at (Gr.lay hp) (rh.lay hp n dk) (.ref (by rw[rh.len];simp))
theorem Fin.tup(f:Fin Y (RD Y) H B (.ok (.tup ds) h) Q E)(rh:RH Y H B h)(hp:H p=M)(r:RDs Y H B ds vs):Q (.ref p) (upd H p<|.tup vs):=f.at (Gr.lay0 hp) (rh.lay0 hp) (.tup (.inl<|.inl Zr)<|r.mono rh<|Gr.lay0 hp)
def Fin.wrote(f:Fin Y rel H B (.ok a<|h.set i o) Q E)(rh:RH Y H B h)(hp:B[i]?=J p)(n:RO Y (upd H p u) B p o)(r:rel (upd H p u) B a b)(nf:NF (H p))(dk:DOk o:=by trivial):Q b (upd H p u):=f.at (Gr.write (O1 hp) nf) (rh.write hp n nf dk) r
end
section
variable {Y:Yx}{H:Hp}{B:List Yj}{h:Hd}
theorem RD.lst(rh:RH Y H B h)(r:RD Y H B (.ref i) v)(e:h[i]?=J (.lst xs)):∃a vs,v=.ref a/\B[i]?=J a/\H a=J (.lst vs)/\RDs Y H B xs vs:=by
 cases r with
 |ref q=>obtain⟨vs,R,b⟩:=rh.ob i _ _ e q;exact⟨_,_,rfl,q,R,b⟩
theorem RD.dic(rh:RH Y H B h)(r:RD Y H B (.ref i) v)(e:h[i]?=J (.dic xs)):∃a vs,v=.ref a/\B[i]?=J a/\H a=J (.dK vs)/\RKs Y H B xs vs:=by
 cases r with
 |ref q=>obtain⟨vs,R,b⟩:=rh.ob i _ _ e q;exact⟨_,_,rfl,q,R,b⟩
theorem RD.lstOf(rh:RH Y H B h)(r:RD Y H B d v)(e:lstOf d h=J xs):∃a vs,v=.ref a/\SqL Y.K H a vs/\RDs Y H B xs vs:=by
 cases d with
 |ref i=>
  unfold IV.lstOf at e;simp at e;split at e
  . cases e;rename_i q;obtain⟨a,vs,R,f,b,c⟩:=r.lst rh q;exact⟨a,_,R,.of b,c⟩
  trivial
 |ro g=>
  cases e;cases r with
  |ro q s=>exact⟨_,_,rfl,q.sq,s⟩
 |_=>cases e
theorem RD.seqOf(rh:RH Y H B h)(r:RD Y H B d v)(e:seqOf d h=J xs):∃ a vs,v=.ref a/\(SqL Y.K H a vs\/SqT Y.K H a vs)/\RDs Y H B xs vs:=by
 by_cases ht:∃ ys,d=.tup ys
 . obtain⟨ys,rfl⟩:=ht;cases e;cases r with
   |tup q s=>exact⟨_,_,rfl,.inr q,s⟩
 . obtain⟨a,vs,R,h2,h3⟩:=r.lstOf rh (by
     cases d with
     |tup ys=>exact absurd ⟨_,rfl⟩ ht
     |_=>exact e)
   exact⟨a,_,R,.inl h2,h3⟩
def RD.int_inv(r:RD Y H B (.int i) v):v=.int i:=by cases r;rfl
def RD.str_inv(r:RD Y H B (.str i) v):v=.str i/\Yp i=Wr:=by cases r with|str x ok=>trivial
def RD.tup_inv(r:RD Y H B (.tup ds) v):∃a vs,v=.ref a/\SqT Y.K H a vs/\RDs Y H B ds vs:=by cases r with|tup q s=>exact⟨_,_,rfl,q,s⟩
def ZiU(hx:Yp x=Wr)(hy:Yp y=Wr):Yp (x++y)=Wr:=by show(x.cps++y.cps).all _=Wr;rw[Array.all_append];unfold Yp at hx hy;rw[hx,hy];rfl
def ZqC(hx:Yp x=Wr)(n):Yp (Zg6 x n)=Wr:=by
 have b:∀(n) (a),a.all (·<0x110000)=Wr->((YK n x.cps).foldl (·++·) a).all (·<0x110000)=Wr:=by
  intro n;induction n with
  |zero=>intro a h;exact h
  |succ n c=>intro a h;refine c _ ?_;rw[Array.all_append,h];trivial
 exact b n _ (by simp)
def ZqD(hx:Yp x=Wr)(h:c∈x.cps.toList):Yp ⟨#[c]⟩=Wr:=by
 unfold Yp at hx ⊢;rw[Array.all_eq_true']at hx
 simp_all
def Ztg(h:atI xs i=J x):x∈xs:=by
 unfold atI at h;cases q:ixN xs.length i with
 |none=>simp_all
 |some j=>rw[q]at h;exact O1 h
end
section
variable {X:Cx}{Y:Yx}{E:XK}
noncomputable def rB(Y:Yx)(E:XK)(f:D->D->Hd->qe D):R2:=λx y H Q=>∃a b h B,RH Y H B h/\RD Y H B a x/\RD Y H B b y/\Fin Y (RD Y) H B (f a b h) Q E
theorem Fin.int2(f:Fin Y (RD Y) H B (int2 x y k) Q E):∃i j,x=.int i/\y=.int j/\Fin Y (RD Y) H B (k i j) Q E:=by
 cases x with
 |int i=>
  cases y with
  |int j=>exact⟨i,j,rfl,rfl,f⟩
  |_=>exact f.elim
 |_=>exact f.elim
def Zv7(hY:Y.K=X.K)(op):OpR X (binaryOp op) (rB Y E<|opB op):=by
 rintro aa s Z H x y v u Q I rx ry⟨dx,dy,h,B,rh,r1,r2,f⟩;cases op with
 |Add=>
  have f:Fin Y _ H _ (Zt6 _ _ h) Q E:=f;cases dx with
  |int i=>
   cases dy with
   |int j=>cases r1;cases r2;exact Zv4 _ s _ H _ _ v u Q I rx ry ⟨_,_,rfl,rfl,f.ok rh<|.int _⟩
   |_=>exact f.elim
  |str i=>
   cases dy with
   |str j=>
    obtain⟨hz,f⟩:=Fin.iff f;cases r1 with|str _ o1=>
    cases r2 with|str _ o2=>
    exact ZlU aa s Z H _ _ v u Q I rx ry ⟨_,_,rfl,rfl,hz,f.ok rh<|.str _<|ZiU o1 o2⟩
   |_=>exact f.elim
  |tup xs=>
   cases dy with
   |tup ys=>
    obtain⟨hz,f⟩:=Fin.iff f;obtain⟨a,vs,rfl,t1,s1⟩:=r1.tup_inv;obtain⟨b,ws,rfl,t2,s2⟩:=r2.tup_inv;rw[s1.length,s2.length]at hz;by_cases h0:vs=[]
    . subst h0;cases s1;exact Zs0 aa s Z H _ _ v u Q I rx ry ⟨a,b,ws,rfl,rfl,hY▸t1,hY▸t2,f.ok rh<|.tup t2 s2⟩
    . refine ZsZ aa s Z H _ _ v u Q I rx ry ⟨a,b,vs,ws,rfl,rfl,hY▸t1,hY▸t2,h0,hz,λe=>?_,λe p hp=>f.tup rh hp<|s1.append s2⟩;subst e;cases s2;rw[Yt]at f;exact f.ok rh (.tup t1 s1)
   |_=>exact f.elim
  |ref i=>
   cases dy with
   |ref j=>
    unfold Zt6 at f;simp only at f;split at f
    . rename_i e1;split at f
      . rename_i e2;obtain⟨hz,f⟩:=f.iff;obtain⟨a,vs,rfl,_,R,s1⟩:=r1.lst rh e1;obtain⟨b,ws,rfl,_,h2,s2⟩:=r2.lst rh e2;rw[s1.length,s2.length]at hz;exact Zv3 aa s Z H _ _ v u Q I rx ry ⟨a,b,vs,ws,rfl,rfl,R,h2,hz,λp hp=>f.new rh hp ⟨_,Zr,(s1.append s2).mono rh<|Gr.lay hp⟩⟩
      . exact f.elim
    . exact f.elim
   |_=>exact f.elim
  |_=>exact f.elim
 |Sub=>obtain⟨i,j,rfl,rfl,f⟩:=Fin.int2 f;cases r1;cases r2;exact ZvY aa s Z H _ _ v u Q I rx ry ⟨_,_,rfl,rfl,f.ok rh<|.int _⟩
 |Mult=>
  have f:Fin Y (RD Y) H B (Zyt dx dy h) Q E:=f;cases dx with
  |str z=>
   cases dy with
   |int n=>
    obtain⟨hz,f⟩:=Fin.iff f;cases r1 with|str _ o1=>
    cases r2;exact ZsX aa s Z H _ _ v u Q I rx ry ⟨_,_,rfl,rfl,hz.1,hz.2.1,hz.2.2,f.ok rh<|.str _<|ZqC o1 _⟩
   |_=>exact f.elim
  |int i=>obtain⟨i,j,e1,rfl,f⟩:=Fin.int2<|show Fin Y (RD Y) H B (IV.int2 (.int i) dy λi j=>if i.natAbs<2^2000/\j.natAbs<2^2000 then .ok (.int<|i*j) h else .bad) Q E from f;cases e1;cases r1;cases r2;exact ZoC aa s Z H _ _ v u Q I rx ry ⟨_,_,rfl,rfl,f.iff.1,f.iff.2.ok rh<|.int _⟩
  |_=>exact f.elim
 |Mod=>obtain⟨i,j,rfl,rfl,f⟩:=Fin.int2 f;cases r1;cases r2;exact Zv0 aa s Z H _ _ v u Q I rx ry ⟨_,_,rfl,rfl,f.iff.1,f.iff.2.ok rh<|.int _⟩
 |FloorDiv=>obtain⟨i,j,rfl,rfl,f⟩:=Fin.int2 f;cases r1;cases r2;exact ZsY aa s Z H _ _ v u Q I rx ry ⟨_,_,rfl,rfl,f.iff.1,f.iff.2.ok rh<|.int _⟩
 |Pow=>obtain⟨i,j,rfl,rfl,f⟩:=Fin.int2 f;cases r1;cases r2;exact ZvZ aa s Z H _ _ v u Q I rx ry ⟨_,_,rfl,rfl,f.iff.1,f.iff.2.ok rh<|.int _⟩
 |_=>exact f.elim
end
set_option tactic.hygienic true
structure Gk(X:Cx)(Y:Yx)(T:Tb):Prop where
 K:Y.K=X.K
 mg:Y.mg=X.mg
 gd:∀x kvs,T.GD x=J kvs->∃a ai,X.mg x=J (.ref a)/\DkK X.prog X.w X.K a ai/\∀H B,RKs Y H B kvs ai
 g:∀x d,T.G x=J d->∃v u,X.mg x=J u/\RelV v u/\∀H B,RD Y H B d v
 bare:Zc5 X.K=Wr
section
variable {X:Cx}{Y:Yx}{E:XK}{T:Tb}{H:Hp}{B:List Yj}{h:Hd}
theorem RD.dicOf(G:Gk X Y T)(rh:RH Y H B h)(r:RD Y H B d v)(e:dicOf T.GD d h=J kvs):∃a ai,v=.ref a/\Dk X.prog X.w X.K H a ai/\RKs Y H B kvs ai:=by
 cases d with
 |ref i=>
  unfold IV.dicOf at e;simp at e;split at e
  . cases e;rename_i q;obtain⟨a,f,R,_,b,g⟩:=r.dic rh q;exact⟨a,_,R,.inl<|.inl b,g⟩
  . cases e;rename_i q;cases r with
    |ref j=>obtain⟨o,f,R,c⟩:=rh.ob i _ _ q j;exact⟨_,_,rfl,.inl<|.inr ⟨o,R⟩,c⟩
  trivial
 |kd x=>
  obtain⟨a,ai,R,c,b⟩:=G.gd x _ e;cases r with
  |kd q=>rw[G.mg,R]at q;cases q;exact⟨a,_,rfl,.inr c,b H _⟩
 |_=>cases e
def Zq5(r:RD Y H B d v)(e:keyOf d=J k):∀x,k=.inr x->Yp x=Wr:=by
 cases d with
 |int i=>cases e;simp
 |str i=>
  cases e;intro x z;cases z;cases r with
  |str _ ok=>trivial
 |_=>cases e
def ZhL(h:Zcr kvs)(hk:∀x,k=.inr x->Yp x=Wr):Zcr (putD kvs k c):=by
 intro p hp x e;unfold putD at hp;split at hp
 . obtain⟨q,a,rfl⟩:=List.mem_map.mp hp;refine h q a x ?_;split at e<;>exact e
 . rcases OD.mp hp with hp|hp
   . exact h p hp x e
   simp_all
def ZeS(r:RD Y H B d v)(e:keyOf d=J k):v=kV k:=by
 cases d with
 |int i|str i=>cases e;cases r;rfl
 |_=>cases e
def RKs.valV_rel(s:RKs Y H B ds vs)(k):(Zao ds k=M/\ZfC vs k=M)\/∃d v,Zao ds k=J d/\ZfC vs k=J v/\RD Y H B d v:=by
 unfold Zao ZfC;rcases s.val k with⟨R,a⟩|⟨d,v,R,a,b⟩
 . exact .inl ⟨by rw[R];rfl,by rw[a];rfl⟩
 . exact .inr ⟨d,v,by rw[R];rfl,by rw[a];rfl,b⟩
def RKs.any_rel[DecidableEq κ](k:κ):∀{ds:List _}{vs:List _},RKs Y H B ds vs->(ds.any λkv=>Wu<|kv.1=k)=(vs.any λkv=>Wu<|kv.1=k):=by intro Y H B;induction B<;>simp_all<;>grind
theorem RKs.map_rel[DecidableEq κ](k)(r:RD Y H B d v):∀{ds}{vs:List (κ×V)},RKs Y H B ds vs->RKs Y H B (ds.map λkv=>if kv.1=k then(kv.1,d)else kv) (vs.map λkv=>if kv.1=k then(kv.1,v)else kv)
 |_,_,.nil=>.nil
 |_,_,.cons (k:=k') a s=>by
  rw[Op,Op];by_cases e:k'=k
  . rw[if_pos e,if_pos e];exact .cons r (s.map_rel k r)
  . rw[if_neg e,if_neg e];exact .cons a (s.map_rel k r)
theorem RKs.append:∀{ds es}{vs ws:List (κ×V)},RKs Y H B ds vs->RKs Y H B es ws->RKs Y H B (ds++es) (vs++ws)
 |_,_,_,_,.nil,s=>s
 |_,_,_,_,.cons a r,s=>.cons a (r.append s)
def RKs.put(s:RKs Y H B ds vs)(k)(r:RD Y H B d v):RKs Y H B (putD ds k d) (putK vs k v):=by
 unfold putD putK;rw[s.any_rel k];split
 . exact s.map_rel k r
 . exact s.append (.cons r .nil)
mutual
theorem RD.dp(rh:RH Y H B h)(rd:Nat->Option PyData)(hr:∀i p a,rd i=J p->B[i]?=J a->Dp Y.K H (.ref a) p):∀{d:D}{v:V}{p:PyData},RD Y H B d v->D.py rd d=J p->Dp Y.K H v p
 |_,_,_,.non,e=>by cases e;exact .non
 |_,_,_,.bl b,e=>by cases e;exact .bl b
 |_,_,_,.int i,e=>by cases e;exact .int i
 |_,_,_,.str x ok,e=>by cases e;exact .str x ok
 |_,_,_,.tup t s,e=>by rw[D.py]at e;obtain⟨ps,e1,rfl⟩:=Oo.mp e;exact .tup t (RDs.dps rh rd hr s e1)
 |_,_,_,.ref q,e=>hr _ _ _ e q
 |_,_,_,.ty n,e=>by cases e
 |_,_,_,.ro t s,e=>by rw[D.py]at e;obtain⟨ps,e1,rfl⟩:=Oo.mp e;exact .lst t.sq (RDs.dps rh rd hr s e1)
 |_,_,_,.kd q,e=>by cases e
theorem RDs.dps(rh:RH Y H B h)(rd:Nat->Option PyData)(hr:∀i p a,rd i=J p->B[i]?=J a->Dp Y.K H (.ref a) p):∀{d:List D}{v:List V}{p:List PyData},RDs Y H B d v->D.pys rd d=J p->Dps Y.K H v p
 |_,_,_,.nil,e=>by cases e;exact .nil
 |_,_,_,.cons a s,e=>by rw[D.pys]at e;obtain⟨q,e1,e2⟩:=Option.bind_eq_some_iff.mp e;obtain⟨qs,e3,rfl⟩:=Oo.mp e2;exact .cons (RD.dp rh rd hr a e1) (RDs.dps rh rd hr s e3)
end
theorem Zm0(rh:RH Y H B h):∀(n i) (p) (a),Zjt h n i=J p->B[i]?=J a->Dp Y.K H (.ref a) p
 |0,i,p,a,e,q=>by cases e
 |n+1,i,p,a,e,q=>by
  rw[Zjt]at e;split at e
  . rename_i d b;obtain⟨f,c,rfl⟩:=Oo.mp e;obtain⟨g,z,s⟩:=rh.ob i _ a b q;exact .lst (.of z) (RDs.dps rh _ (Zm0 rh n) s c)
  trivial
def ZfM(rh:RH Y H B h)(r:RD Y H B d v)(e:ZlN h d=J p):Dp Y.K H v p:=r.dp rh _ (Zm0 rh 4) e
def ZhW(r:RD Y H B d v)(f:d.flat=Wr):Zfd v=Wr:=by cases r<;>first|rfl|cases f
theorem ZgA:∀{ds}{vs},RDs Y H B ds vs->ds.all D.flat=Wr->vs.all Zfd=Wr
 |_,_,.nil,_=>rfl
 |_,_,.cons a s,f=>by rw[List.all_cons,Oa]at f;rw[List.all_cons,ZhW a f.1,ZgA s f.2];rfl
def ZwR(r:RD Y H B d v)(q:RD Y H B e w)(f:d.flat=Wr)(g:e.flat=Wr):eqF d e=eqV v w:=by cases r<;>cases q<;>first|rfl|lia|lia
theorem any_rel(q:RD Y H B e w)(g:e.flat=Wr):∀{ds}{vs},RDs Y H B ds vs->ds.all D.flat=Wr->(ds.any λz=>eqF z e)=vs.any λy=>eqV y w
 |_,_,.nil,_=>rfl
 |_,_,.cons a s,f=>by rw[List.all_cons,Oa]at f;rw[List.any_cons,List.any_cons,ZwR a q f.1 g,any_rel q g s f.2]
def Zs7(hr:Room k X.A)(h60:60<=k)(hY:Y.K=X.K):OpR X (YM .Eq) (rB Y E<|ZdW Ws):=by
 rintro aa s Z H x y v u Q I rx ry⟨dx,dy,h,B,rh,r1,r2,f⟩;unfold ZdW at f;split at f
 . rename_i e1 e2;obtain⟨hz,f⟩:=f.iff;have d1:=ZfM rh r1 e1;have d2:=ZfM rh r2 e2;rw[hY]at d1 d2;obtain⟨as,q1⟩:=I.reads d1 rx;obtain⟨bs,q2⟩:=I.reads d2 ry;have:=hr.un;exact SeqAt.compareEq_reads q1 q2 d1.lay d2.lay (by lia) ⟨.bl _,H,I,rfl,f.ok rh<|.bl _⟩
 trivial
def Zs2(hr:Room k X.A)(h60:60<=k)(hY:Y.K=X.K):OpR X (YM .NotEq) (rB Y E<|ZdW Wr):=by
 rintro aa s Z H x y v u Q I rx ry⟨dx,dy,h,B,rh,r1,r2,f⟩;unfold ZdW at f;split at f
 . rename_i e1 e2;obtain⟨hz,f⟩:=f.iff;have d1:=ZfM rh r1 e1;have d2:=ZfM rh r2 e2;rw[hY]at d1 d2;obtain⟨as,q1⟩:=I.reads d1 rx;obtain⟨bs,q2⟩:=I.reads d2 ry;have:=hr.un;exact SeqAt.compareNe_reads q1 q2 d1.lay d2.lay (by lia) ⟨.bl _,H,I,rfl,f.ok rh<|.bl _⟩
 trivial
def Zhh(ho:OpR X (YM op) (rI0 λi j=>.bl<|g i j)):OpR X (YM op) (rB Y E<|ZjC g):=by
 rintro aa s Z H x y v u Q I rx ry⟨dx,dy,h,B,rh,r1,r2,f⟩;unfold ZjC at f;split at f
 . cases r1;cases r2;exact ho _ s _ H _ _ v u Q I rx ry ⟨_,_,rfl,rfl,f.ok rh<|.bl _⟩
 trivial
def Znh(r:RD Y H B d v):Wu (d=.non)=Wu (v=.non):=by cases r<;>simp
def Zs5:OpR X (YM .Is) (rB Y E<|opN Ws):=by
 rintro aa s Z H x y v u Q I rx ry⟨dx,dy,h,B,rh,r1,r2,f⟩;unfold opN at f;split at f
 . cases r2;simp[Znh r1]at f;exact Zv1 _ s _ H _ _ v u Q I rx ry ⟨rfl,f.ok rh<|.bl _⟩
 trivial
def ZoE:OpR X (YM .IsNot) (rB Y E<|opN Wr):=by
 rintro aa s Z H x y v u Q I rx ry⟨dx,dy,h,B,rh,r1,r2,f⟩;unfold opN at f;split at f
 . cases r2;simp[Znh r1]at f;exact ZsW _ s _ H _ _ v u Q I rx ry ⟨rfl,f.ok rh<|.bl _⟩
 trivial
def Zs6(G:Gk X Y T):OpR X (YM .In) (rB Y E<|ZdK T.GD Ws):=by
 rintro aa s Z H x y v u Q I rx ry⟨dx,dy,h,B,rh,r1,r2,f⟩;unfold ZdK at f;split at f
 . rename_i xs e1;obtain⟨hz,f⟩:=f.iff;rw[Oa]at hz;obtain⟨a,vs,rfl,hs,rs⟩:=r2.seqOf rh e1;have q:=f.ok rh<|.bl _;simp[any_rel r1 hz.1 rs hz.2]at q;exact ZoD _ s _ H _ _ v u Q I rx ry ⟨a,_,rfl,G.K▸hs,ZhW r1 hz.1,ZgA rs hz.2,q⟩
 . split at f
   . rename_i kvs k e1 e2;obtain⟨a,ai,rfl,hd,rk⟩:=r2.dicOf G rh e1;have q:=f.ok rh<|.bl _;have z:(Zao kvs k).isSome=(ZfC ai k).isSome:=by rcases rk.valV_rel k with⟨R,h2⟩|⟨d,v,R,h2,_⟩<;>rw[R,h2]<;>rfl
     rw[z]at q;exact Zv2 _ s _ H _ _ v u Q I rx ry ⟨a,_,k,rfl,ZeS r1 e2,hd,q⟩
   trivial
def ZlV(G:Gk X Y T):OpR X (YM .NotIn) (rB Y E<|ZdK T.GD Wr):=by
 rintro aa s Z H x y v u Q I rx ry⟨dx,dy,h,B,rh,r1,r2,f⟩;unfold ZdK at f;split at f
 . rename_i xs e1;obtain⟨hz,f⟩:=f.iff;rw[Oa]at hz;obtain⟨a,vs,rfl,hs,rs⟩:=r2.seqOf rh e1;have q:=f.ok rh<|.bl _;simp[any_rel r1 hz.1 rs hz.2]at q;exact ZjB _ s _ H _ _ v u Q I rx ry ⟨a,_,rfl,G.K▸hs,ZhW r1 hz.1,ZgA rs hz.2,q⟩
 . split at f
   . rename_i kvs k e1 e2;obtain⟨a,ai,rfl,hd,rk⟩:=r2.dicOf G rh e1;have q:=f.ok rh<|.bl _;have z:(Zao kvs k).isSome=(ZfC ai k).isSome:=by rcases rk.valV_rel k with⟨R,h2⟩|⟨d,v,R,h2,_⟩<;>rw[R,h2]<;>rfl
     rw[z]at q;exact ZoB _ s _ H _ _ v u Q I rx ry ⟨a,_,k,rfl,ZeS r1 e2,hd,q⟩
   trivial
def Zqy(hr:Room k X.A)(h60:60<=k)(G:Gk X Y T)(op):OpR X (YM op) (rB Y E<|opC T.GD op):=by
 cases op with
 |Eq=>exact Zs7 hr h60 G.K
 |NotEq=>exact Zs2 hr h60 G.K
 |Lt=>exact Zhh Zyf
 |LtE=>exact Zhh Zyg
 |Gt=>exact Zhh Zyh
 |GtE=>exact Zhh Zyi
 |Is=>exact Zs5
 |IsNot=>exact ZoE
 |In=>exact Zs6 G
 |NotIn=>exact ZlV G
def Zs3(G:Gk X Y T):IxR X (rB Y E<|ZaQ T.GD):=by
 intro value slice aa s Z H x y v u Q I rx ry hh hs;obtain⟨dx,dy,h,B,rh,r1,r2,f⟩:=hh;have dict:∀(kvs) (k),dicOf T.GD dx h=J kvs->y=kV k->Fin Y (RD Y) H B (qe.ofO (Zao kvs k) h) Q E->YB (model X.prog X.w) X.A (subscriptTail value slice v u) (EP X aa Z Q) X.xe s:=by
  intro kvs k e1 ey f;obtain⟨d,e2,f⟩:=f.ofO;obtain⟨a,ai,rfl,hd,rk⟩:=r1.dicOf G rh e1;rcases rk.valV_rel k with⟨R,h2⟩|⟨d',w,R,h2,h3⟩
  . simp_all
  . rw[R]at e2;cases e2;exact Ztt _ _ _ s _ H _ _ v u Q I rx ry ⟨a,_,k,w,rfl,ey,hd,h2,f.ok rh h3⟩ hs
 unfold ZaQ at f;split at f
 . rename_i i;cases r2;split at f
   . rename_i xs e1;obtain⟨d,e2,f⟩:=f.ofO;obtain⟨a,vs,rfl,hq,rs⟩:=r1.seqOf rh e1;obtain⟨w,e3,az⟩:=rs.atI e2;rcases hq with hq|hq
     . exact Zts _ _ _ s _ H _ _ v u Q I rx ry ⟨a,_,i,w,rfl,rfl,G.K▸hq,e3,f.ok rh az⟩ hs
     . exact ZcP _ _ _ s _ H _ _ v u Q I rx ry ⟨a,_,i,w,rfl,rfl,G.K▸hq,e3,f.ok rh az⟩ hs
   . split at f
     . obtain⟨hz,f⟩:=f.iff;obtain⟨d,e2,f⟩:=f.ofO;obtain⟨c,e3,rfl⟩:=Oo.mp e2;obtain⟨rfl,ok⟩:=r1.str_inv;exact Zwu value slice aa s Z H _ _ v u Q I rx ry ⟨_,i,c,rfl,rfl,hz,e3,f.ok rh<|.str _<|ZqD ok<|Ztg e3⟩ hs
     . split at f
       . rename_i kvs e1;exact dict kvs (.inl i) e1 rfl f
       . exact f.elim
 . rename_i z;obtain⟨rfl,ok⟩:=r2.str_inv;split at f
   . rename_i kvs e1;exact dict kvs (.inr z) e1 rfl f
   . exact f.elim
 trivial
def ZqB(hx:Yp x=Wr)(h:∀c∈y.cps.toList,c∈x.cps.toList):Yp y=Wr:=by unfold Yp at hx ⊢;rw[Array.all_eq_true']at hx ⊢;intro c a;exact hx c (by simp_all)
def Zr8(hY:Y.K=X.K)(rh:RH Y H B h)(r:RD Y H B d v)(e:Zfk T.GD d h=J b):Zw3 X.K v H b:=by
 cases d with
 |non|bl c|int c=>cases r;cases e;rfl
 |str c=>
  cases r;unfold Zfk at e;simp only at e;split at e
  . rename_i j;cases e;refine⟨j,?_⟩
    lia
  . cases e
 |tup k=>obtain⟨a,g,rfl,t,s⟩:=r.tup_inv;cases e;exact .inr (.inl ⟨_,hY▸t,by rw[s.isEmpty]⟩)
 |ref i=>
  unfold Zfk at e;simp only at e;split at e
  . rename_i q;cases e;obtain⟨a,g,rfl,_,f,s⟩:=r.lst rh q;exact .inl ⟨_,.of f,by rw[s.isEmpty]⟩
  . rename_i q;cases e;obtain⟨a,g,rfl,_,f,s⟩:=r.dic rh q;exact .inr (.inr ⟨_,f,by cases s<;>rfl⟩)
  . cases e
 |ro k=>
  cases e;cases r with
  |ro q s=>exact .inl ⟨_,hY▸q.sq,by rw[s.isEmpty]⟩
 |ty n=>cases e
 |kd x=>cases e
end
section
variable {X:Cx}{Y:Yx}{E:XK}{T:Tb}{H:Hp}{B:List Yj}{h:Hd}
def rS(Y:Yx)(E:XK):V->Option Int->Option Int->Hp->VK->Prop:=λx l u H Q=>∃d h B,RH Y H B h/\RD Y H B d x/\Fin Y (RD Y) H B (ZfN d l u h) Q E
def Zht(y)(l u):∀c∈(Yq y l u).cps.toList,c∈y.cps.toList:=by
 intro c a;unfold Yq at a;split at a
 . trivial
 . simp at a;obtain⟨i,_,b⟩:=a;have:=Array.mem_of_getElem? b
   simp_all
def ZoW{xs}{lo hi}(h:HT.sIx xs.length 0 lo=0/\HT.sIx xs.length xs.length hi=xs.length):cutD xs lo hi=xs:=by
 unfold cutD
 simp_all
def Zs1(hY:Y.K=X.K):SlR X (rS Y E):=by
 rintro aa s Z H x v vl vu lo hi sl Q I rx hs pl pu⟨d,h,B,rh,r,f⟩;unfold ZfN at f;split at f
 . obtain⟨a,vs,rfl,t,rs⟩:=r.tup_inv;by_cases hw:HT.sIx vs.length 0 lo=0/\HT.sIx vs.length vs.length hi=vs.length
   . rw[ZoW (by rw[rs.length];trivial)]at f;exact ZpJ _ s _ H _ v _ _ _ _ _ Q I rx hs pl pu ⟨a,_,rfl,hY▸t,hw,f.ok rh<|.tup t rs⟩
   . exact Zve _ s _ H _ v _ _ _ _ _ Q I rx hs pl pu ⟨a,_,rfl,hY▸t,hw,λp hp=>f.tup rh hp<|rs.cut _ _⟩
 . obtain⟨rfl,ok⟩:=r.str_inv;exact Zvf _ s _ H _ v _ _ _ _ _ Q I rx hs pl pu ⟨_,rfl,f.iff.1,f.iff.2.ok rh<|.str _<|ZqB ok<|Zht _ _ _⟩
 . split at f
   . rename_i xs e1;obtain⟨a,vs,rfl,hl,rs⟩:=r.lstOf rh e1;exact Zsi _ s _ H _ v _ _ _ _ _ Q I rx hs pl pu ⟨a,_,rfl,hY▸hl,λp hp=>f.new rh hp ⟨_,Zr,(rs.cut _ _).mono rh<|Gr.lay hp⟩⟩
   trivial
def rF(Y:Yx)(E:XK)(f:List D->Hd->qe D):List V->Hp->VK->Prop:=λa H Q=>∃ds h B,RH Y H B h/\RDs Y H B ds a/\Fin Y (RD Y) H B (f ds h) Q E
def RDs.one(r:RDs Y H B [d] xs):∃x,xs=[x]/\RD Y H B d x:=by
 cases r with
 |cons a s=>cases s;exact⟨_,rfl,a⟩
def RDs.two(r:RDs Y H B [d,e] xs):∃x y,xs=[x,y]/\RD Y H B d x/\RD Y H B e y:=by
 cases r with
 |cons a s=>obtain⟨y,rfl,b⟩:=s.one;exact⟨_,_,rfl,a,b⟩
def Zt1(hY:Y.K=X.K):ZcH X (.builtin "len") (rF Y E ZmI):=by
 rintro aa s Z H xs us Q I r⟨ds,h,B,rh,rs,f⟩;unfold ZmI at f;split at f
 . obtain⟨x,rfl,rd⟩:=rs.one;obtain⟨rfl,ok⟩:=rd.str_inv;exact Zj0 _ s _ H _ _ Q I r ⟨_,rfl,f.iff.1,f.iff.2.ok rh<|.int _⟩
 . obtain⟨e,e1,f⟩:=f.ofO;obtain⟨zs,e2,rfl⟩:=Oo.mp e1;obtain⟨x,rfl,rd⟩:=rs.one;obtain⟨a,vs,rfl,hq,rv⟩:=rd.seqOf rh e2;refine Zj1 _ s _ H _ _ Q I r ⟨a,_,rfl,hY▸hq,?_⟩;rw[<-rv.length];exact f.ok rh (.int _)
 trivial
def Ztq{K}{t T}{b}(e:Zma t T=J b):PySem.W.kitOne K (.type t) (.type T)=J b:=by
 have all:(["int", "str", "bool", "tuple", "list"].all λT=>["int", "str", "bool", "tuple", "list", "NoneType"].all λt=>Wu<|PySem.W.kitOne [] (.type t) (.type T)=J (t==T||(t == "bool" && T == "int")))=Wr:=rfl;unfold Zma at e;split at e
 . rename_i a;cases e;rw[OC]at all;have R:=all T a.1;rw[OC]at R;exact ZoN (of_decide_eq_true<|R t a.2)
 trivial
def Zxn(hY:Y.K=X.K)(rh:RH Y H B h)(r:RD Y H B d v)(e:Zxo d h=J t):TyN X.K v H t:=by
 have lst:(IV.lstOf d h).map (λ_ => "list")=J t->TyN _ v H t:=λe=>by obtain⟨b,c,rfl⟩:=Oo.mp e;obtain⟨a,f,rfl,g,j⟩:=r.lstOf rh c;exact .inl ⟨rfl,_,hY▸g⟩
 cases d with
 |int i|str i|bl i|non=>cases e;cases r;rfl
 |tup b=>cases e;obtain⟨a,f,rfl,t,j⟩:=r.tup_inv;exact .inr ⟨rfl,_,hY▸t⟩
 |ref i=>exact lst e
 |ro b=>exact lst e
 |ty n=>exact lst e
 |kd x=>exact lst e
def Zt2(hY:Y.K=X.K):ZcH X (.builtin "isinstance") (rF Y E Zw0):=by
 rintro aa s Z H xs us Q I r⟨ds,h,B,rh,rs,f⟩;unfold Zw0 at f;split at f
 . obtain⟨e,e1,f⟩:=f.ofO;obtain⟨t,e2,e3⟩:=Option.bind_eq_some_iff.mp e1;obtain⟨b,e4,rfl⟩:=Oo.mp e3;obtain⟨x,y,rfl,r1,r2⟩:=rs.two;cases r2;exact ZrG _ s _ H _ _ Q I r ⟨x,t,_,b,rfl,Zxn hY rh r1 e2,Ztq e4,f.ok rh<|.bl _⟩
 trivial
def ZtY(hY:Y.K=X.K):ZcH X (.type "tuple") (rF Y E ZmH):=by
 rintro aa s Z H xs us Q I r⟨ds,h,B,rh,rs,f⟩;unfold ZmH at f;split at f
 . obtain⟨x,rfl,r1⟩:=rs.one;obtain⟨a,vs,rfl,t,rv⟩:=r1.tup_inv;exact Zfi _ s _ H _ _ Q I r ⟨a,_,rfl,.inr ⟨hY▸t,f.ok rh<|.tup t rv⟩⟩
 . obtain⟨e,e1,f⟩:=f.ofO;obtain⟨zs,e2,rfl⟩:=Oo.mp e1;obtain⟨x,rfl,r1⟩:=rs.one;obtain⟨a,vs,rfl,hl,rv⟩:=r1.lstOf rh e2;exact Zfi _ s _ H _ _ Q I r ⟨a,_,rfl,.inl ⟨hY▸hl,λp hp=>f.tup rh hp rv⟩⟩
 trivial
theorem ZhO:∀{ds}{vs}{ns},RDs Y H B ds vs->intsOf ds=J ns->vs=ns.map V.int
 |_,_,_,.nil,e=>by cases e;rfl
 |_,_,_,.cons (d:=d) a s,e=>by
  cases d with
  |int i=>rw[intsOf]at e;obtain⟨z,b,rfl⟩:=Oo.mp e;cases a;rw[ZhO s b];rfl
  |_=>cases e
def ZtZ(hc:X.A.handled=M)(hY:Y.K=X.K):ZcH X (.builtin "sum") (rF Y E ZrP):=by
 rintro aa s Z H xs us Q I r⟨ds,h,B,rh,rs,f⟩;unfold ZrP at f;split at f
 . obtain⟨e,e1,f⟩:=f.ofO;obtain⟨ns,e2,rfl⟩:=Oo.mp e1;obtain⟨zs,e3,e4⟩:=Option.bind_eq_some_iff.mp e2;obtain⟨x,rfl,r1⟩:=rs.one;obtain⟨a,vs,rfl,hl,rv⟩:=r1.lstOf rh e3;rw[ZhO rv e4]at hl;exact Zo1 hc _ s _ H _ _ Q I r ⟨a,_,rfl,hY▸hl,f.ok rh<|.int _⟩
 trivial
def rM(Y:Yx)(E:XK)(m:Mf):V->List V->Hp->VK->Prop:=λx a H Q=>∃d ds h B,RH Y H B h/\RD Y H B d x/\RDs Y H B ds a/\Fin Y (RD Y) H B (ZaA m d ds h) Q E
noncomputable def mid:Mf->String
 |.app => "list.append"
 |.ext => "list.extend"
 |.pop => "list.pop"
 |.rev => "list.reverse"
 |.clr => "list.clear"
def Znl(hY:Y.K=X.K)(m):MtM X (mid m) (rM Y E m):=by
 rintro aa s Z H x xs v us Q I rx rs⟨d,ds,h,B,rh,r1,r2,f⟩;unfold ZaA at f;split at f
 . split at f
   . rename_i i ys e;obtain⟨a,vs,rfl,hi,hl,rv⟩:=r1.lst rh e;cases m with
     |app=>
      unfold Zgu ZqP at f;simp at f;split at f
      . obtain⟨y,rfl,ry⟩:=r2.one;exact ZiV _ s _ H _ _ v _ Q I rx rs ⟨a,_,y,rfl,rfl,hl,rv.length▸f.iff.1,f.iff.2.wrote rh hi ⟨_,Zr,(rv.append<|.cons ry .nil).mono rh<|Gr.write (O1 hi) (by rw[hl];trivial)⟩ .non (by rw[hl];trivial)⟩
      trivial
     |ext=>
      unfold Zgu ZqO at f;simp only at f;split at f
      . split at f
        . rename_i zs e2;obtain⟨y,rfl,ry⟩:=r2.one;obtain⟨b,ws,rfl,hj,bM,az⟩:=ry.lst rh e2;exact ZoH aa s Z H _ _ v us Q I rx rs ⟨a,b,vs,ws,rfl,rfl,hl,bM,by rw[<-rv.length,<-az.length];exact f.iff.1,f.iff.2.wrote rh hi ⟨_,Zr,(rv.append az).mono rh<|Gr.write (O1 hi) (by rw[hl];trivial)⟩ .non (by rw[hl];trivial)⟩
        . exact f.elim
      . obtain⟨y,rfl,ry⟩:=r2.one;obtain⟨b,ws,rfl,t,az⟩:=ry.tup_inv;exact Zl0 aa s Z H _ _ v us Q I rx rs ⟨a,b,vs,ws,rfl,rfl,hl,hY▸t,by rw[<-rv.length,<-az.length];exact f.iff.1,f.iff.2.wrote rh hi ⟨_,Zr,(rv.append az).mono rh<|Gr.write (O1 hi) (by rw[hl];trivial)⟩ .non (by rw[hl];trivial)⟩
      . exact f.elim
     |pop=>
      unfold Zgu Zti at f;simp only at f;split at f
      . split at f
        . rename_i y e2;cases r2;rw[rv.length]at e2;obtain⟨w,e3,az⟩:=rv.get e2;exact Zwc aa s Z H _ _ v us Q I rx rs ⟨a,vs,w,rfl,rfl,hl,e3,f.wrote rh hi ⟨_,Zr,rv.dropLast.mono rh<|Gr.write (O1 hi) (by rw[hl];trivial)⟩ (az.mono rh<|Gr.write (O1 hi) (by rw[hl];trivial)) (by rw[hl];trivial)⟩
        . exact f.elim
      . exact f.elim
     |rev=>
      unfold Zgu Zyw at f;simp only at f;split at f
      . cases r2;exact ZlZ aa s Z H _ _ v us Q I rx rs ⟨a,vs,rfl,rfl,hl,f.wrote rh hi ⟨_,Zr,rv.reverse.mono rh<|Gr.write (O1 hi) (by rw[hl];trivial)⟩ .non (by rw[hl];trivial)⟩
      . exact f.elim
     |clr=>
      unfold Zgu Zyx at f;simp only at f;split at f
      . cases r2;exact ZqK aa s Z H _ _ v us Q I rx rs ⟨a,vs,rfl,rfl,hl,f.wrote rh hi ⟨_,Zr,.nil⟩ .non (by rw[hl];trivial)⟩
      . exact f.elim
   trivial
 trivial
def rP(Y:Yx)(E:XK):Zt8:=λo i v H Q=>∃a b c h B,RH Y H B h/\RD Y H B a o/\RD Y H B b i/\RD Y H B c v/\Fin Y (λ_ _ (_:Unit) (_:Unit)=>True) H B (ZbV a b c h) (λ_ H'=>Q H') E
def ZvC:Zt9 X (rP Y E):=by
 rintro aa s Z H o i v ov iv u Q I ro ri rv⟨a,b,c,h,B,rh,ra,rb,rc,f⟩;unfold ZbV at f;split at f
 . split at f
   . rename_i j xs e;split at f
     . split at f
       . rename_i j' e2;obtain⟨p,vs,rfl,hi,hl,rs⟩:=ra.lst rh e;have hb:=rb.int_inv;subst hb;rw[rs.length]at e2;exact set_list _ s _ H _ _ v _ _ u Q I ro ri rv ⟨p,_,_,_,rfl,rfl,hl,e2,f.wrote (b:=()) rh hi ⟨_,Zr,(RDs.set rc _ rs).mono rh<|Gr.write (O1 hi) (by rw[hl];trivial)⟩ trivial (by rw[hl];trivial)⟩
       trivial
     trivial
   . rename_i j kvs e;split at f
     . rename_i k e2;obtain⟨p,vs,rfl,hi,hl,rs⟩:=ra.dic rh e;exact set_dict aa s Z H _ _ v ov iv u Q I ro ri rv ⟨p,vs,k,rfl,ZeS rb e2,hl,rs.length▸f.iff.1,f.iff.2.wrote (b:=()) rh hi ⟨_,Zr,(rs.put k rc).mono rh<|Gr.write (O1 hi) (by rw[hl];trivial)⟩ trivial (by rw[hl];trivial)<|ZhL (rh.ks _ _ e)<|Zq5 rb e2⟩
     trivial
   trivial
 trivial
end
def rW(K:Yl)(x:V)(H1:Hp)(qe:It->Hp->Prop):Prop:=(∃a,x=.ref a/\(∃b,SqL K H1 a b)/\qe (Itl K a) H1)\/(∃a,x=.ref a/\(∃b,SqT K H1 a b)/\qe (Itt K a) H1)
def ZvL(hl:PE X l tl):PI X tg l (λZ H qe=>tl Z H λx H1=>rW X.K x H1 qe):=by
 intro t s Z H qe I h;refine thn (hl _ s _ H _ I h) λv g i=>?_;obtain⟨x,H1,I1,d,j⟩:=i;have f:∀b∈[g.heap.objs.size],ZeI X _ _ b:=λb k=>by
  have e:=by simpa using k
  subst e;exact I1.fpOk (Oq _) (I1.hok.fresh<|Oq _)
 rcases j with⟨a,rfl,⟨m,c⟩,q⟩|⟨a,rfl,⟨m,c⟩,q⟩
 . cases d;obtain⟨its,n,p,r⟩:=I1.list c;exact wpAny_pyIter_list p.isList ⟨_,_,_,_,_,rfl,I1.kept λb o e=>Od _ e,Zn3 a _,⟨_,Oj _ rfl,rfl,rfl⟩,f,q⟩
 . cases d;obtain⟨its,n,p,r⟩:=I1.tuple c;exact wpAny_pyIter_tuple (p) ⟨_,_,_,_,_,rfl,I1.kept λb o e=>Od _ e,Zlu a _,⟨_,Oj _ rfl,rfl,rfl⟩,f,q⟩
def WJ(Y:Yx)(H0:Hp)(μ0:List Yj)(w:Wk)(qb:It):Prop:=∀H B h,Gr H0 μ0 H B->RH Y H B h->Wk.stays w.src h=Wr ->
 (∀i d,w.xs[i]?=J d->qb.go i H/\∀x H',qb.yld i H x H'->Gr H B H' B/\RH Y H' B h/\RD Y H' B d x)/\qb.stop w.xs.length H
section
variable {X:Cx}{Y:Yx}{E:XK}{H:Hp}{B:List Yj}{h:Hd}
def ZuO(hY:Y.K=X.K)(rh:RH Y H B h)(t:SqT Y.K H a vs)(s:RDs Y H B xs vs):WJ Y H B ⟨[],xs⟩ (Itt X.K a):=by intro H1 μ1 R g f m;have b:=g.rdT rh t;rw[hY]at b;refine⟨λi d e=>?_,⟨_,b,by rw[s.length];simp⟩⟩;obtain⟨v,c,j⟩:=(s.mono rh g).get e;refine⟨⟨_,v,b,c⟩,λx H' k=>?_⟩;obtain⟨l,q⟩:=k;subst l;have:=q _ b;rw[c]at this;cases this;exact⟨Gr.refl,f,j⟩
def Zub(hY:Y.K=X.K)(rh:RH Y H B h)(t:FzL Y.K H a vs)(s:RDs Y H B xs vs):WJ Y H B ⟨[],xs⟩ (Itl X.K a):=by intro H1 μ1 R g f m;have b:=(g.rdF rh t).sq;rw[hY]at b;refine⟨λi d e=>?_,⟨_,b,by rw[s.length];simp⟩⟩;obtain⟨v,c,j⟩:=(s.mono rh g).get e;refine⟨⟨_,v,b,c⟩,λx H' k=>?_⟩;obtain⟨l,q⟩:=k;subst l;have:=q _ b;rw[c]at this;cases this;exact⟨Gr.refl,f,j⟩
def Zhr(st:Wk.stays ((i,xs)::r) h=Wr):h[i]?=J (.lst xs):=of_decide_eq_true (Bool.and_eq_true_iff.mp st).1
def Zpj(hi:B[i]?=J a):WJ Y H B ⟨[(i,xs)],xs⟩ (Itl X.K a):=by intro H1 μ1 R g c j;obtain⟨n,b,f⟩:=c.ob i _ a (Zhr j)<|g.pre i a hi;refine⟨λi d e=>?_,⟨_,.of b,by rw[f.length];simp⟩⟩;obtain⟨v,h,k⟩:=f.get e;refine⟨⟨_,v,.of b,h⟩,λx H' l=>?_⟩;obtain⟨m,q⟩:=l;subst m;have:=q _<|.of b;rw[h]at this;cases this;exact⟨Gr.refl,c,k⟩
def ZuP{lo}:WJ Y H B ⟨[],ZbQ lo n⟩ (Itr lo n):=by
 intro H1 μ1 R g c j;have a:(ZbQ lo n).length=n:=by simp[ZbQ]
 refine⟨λi d e=>?_,by rw[a];exact Oq _⟩;have b:=by have:=(Ob.mp e).1;rw[a]at this;exact this
 refine⟨b,λx H' f=>?_⟩;obtain⟨h,q⟩:=f;subst h q;have:=by unfold ZbQ at e;rw[O2,List.getElem?_range b]at e;exact(YF e).symm
 subst this;exact⟨Gr.refl,c,.int _⟩
def Zrq{xs}{i:Nat}{d}(e:(Zej xs)[i]?=J d):∃x,xs[i]?=J x/\d=.tup [.int i,x]:=by unfold Zej at e;rw[List.getElem?_mapIdx]at e;obtain⟨x,a,b⟩:=Oo.mp e;exact⟨x,a,b.symm⟩
def ZmN{a}{src}{xs}(hw:WJ Y H B ⟨src,xs⟩ (Itl X.K a))(sq:∀H1 μ1 R,Gr H B H1 μ1->RH Y H1 μ1 R->Wk.stays src R=Wr->∃vs,SqL X.K H1 a vs/\RDs Y H1 μ1 xs vs):WJ Y H B ⟨src,Zej xs⟩ (Ite X.K a):=by
 intro H1 μ1 R g b k;obtain⟨vs,c,h⟩:=sq _ _ _ g b k;have l:(Zej xs).length=xs.length:=by simp[Zej]
 refine⟨λi d e=>?_,⟨_,c,by rw[l,h.length]⟩⟩;obtain⟨t,m,rfl⟩:=Zrq e;obtain⟨v,j,n⟩:=h.get m;refine⟨⟨_,v,c,j⟩,λx H' o=>?_⟩;obtain⟨p,r,f,y,q,s⟩:=o;subst r s;have:=q _ c;rw[j]at this;cases this;exact⟨Gr.lay0 f,b.lay0 f,.tup (.inl<|.inl Zr)<|.cons (.int _)<|.cons (n.mono b<|Gr.lay0 f) .nil⟩
def ZuQ(hY:Y.K=X.K)(rh:RH Y H B h)(t:SqT Y.K H a vs)(s:RDs Y H B xs vs):WJ Y H B ⟨[],xs.reverse⟩ (Itv X.K a vs.length):=by intro H1 μ1 R g f m;have b:=g.rdT rh t;rw[hY]at b;refine⟨λi d e=>?_,⟨_,b,rfl,by simp[s.length]⟩⟩;obtain⟨v,c,j⟩:=((s.mono rh g).reverse).get e;refine⟨⟨_,v,b,rfl,c⟩,λx H' k=>?_⟩;obtain⟨l,q⟩:=k;subst l;have:=q _ b;rw[c]at this;cases this;exact⟨Gr.refl,f,j⟩
def ZrY(hi:B[i]?=J a):WJ Y H B ⟨[(i,xs)],xs.reverse⟩ (Zw4 X.K a xs.length):=by intro H1 μ1 R g f j;obtain⟨n,b,c⟩:=f.ob i _ a (Zhr j)<|g.pre i a hi;refine⟨λi d e=>?_,⟨_,.of b,c.length.symm,by simp⟩⟩;obtain⟨v,h,k⟩:=c.reverse.get e;refine⟨⟨_,v,.of b,c.length.symm,h⟩,λx H' l=>?_⟩;obtain⟨m,q⟩:=l;subst m;have:=q _<|.of b;rw[h]at this;cases this;exact⟨Gr.refl,f,k⟩
def ZuR(hY:Y.K=X.K)(rh:RH Y H B h)(t:SqT Y.K H a vs)(s:RDs Y H B xs vs):WJ Y H B ⟨[],Zfs xs⟩ (It1 X.K a):=by
 intro H1 μ1 R g k z;have b:=g.rdT rh t;rw[hY]at b;have l:(Zfs xs).length=xs.length:=by simp[Zfs]
 refine⟨λi d e=>?_,⟨vs,b,by rw[l,(s.mono rh g).length]⟩⟩;have:∃f,xs[i]?=J f/\d=.tup [.int (i+1:Nat),f]:=by unfold Zfs at e;rw[List.getElem?_mapIdx]at e;obtain⟨x,c,m⟩:=Oo.mp e;exact⟨x,c,m.symm⟩
 obtain⟨f,n,rfl⟩:=this;obtain⟨v,c,o⟩:=(s.mono rh g).get n;refine⟨⟨vs,v,b,c⟩,λx H' r=>?_⟩;obtain⟨p,u,j,y,q,w⟩:=r;subst u w;have:=q vs b;rw[c]at this;cases this;exact⟨Gr.lay0 j,k.lay0 j,.tup (.inl<|.inl Zr)<|.cons (.int _)<|.cons (o.mono k<|Gr.lay0 j) .nil⟩
theorem RKs.keys:∀{kvs:List (Key×D)}{ai:List (Key×V)},RKs Y H B kvs ai->kvs.map (·.1)=ai.map (·.1)
 |_,_,.nil=>rfl
 |_,_,.cons a s=>by rw[Op,Op,s.keys]
def Zuc(ea:H a=J (.frz o<|.dK ai))(s:RKs Y H B kvs ai)(ok:Zcr kvs):WJ Y H B ⟨[],kvs.map λp=>Zq6 p.1⟩ (Itd a o ai):=by
 intro H1 μ1 R g f t;have u:=s.length;refine⟨λi d e=>?_,⟨g.fz a _ _ ea,by simp_all⟩⟩;simp only[O2]at e;obtain⟨p,b,rfl⟩:=Oo.mp e;have w:=(Ob.mp b).1;refine⟨⟨g.fz a _ _ ea,by lia⟩,λx H' h=>?_⟩;obtain⟨j,k,v,m,n⟩:=h;subst j n;have r:=by have q:=congrArg (λl=>l[i]?) s.keys;simp only[O2,b,m,Yv]at q;exact YF q
 refine⟨Gr.refl,f,?_⟩;have c:=ok p<|O1 b;rw[r]at c ⊢;cases k with
 |inl i=>exact .int _
 |inr x=>exact .str _ (c x rfl)
def ZwE{d}{x}{qe}{E}(rh:RH Y H B h)(r:RD Y H B d x)(f:Fin Y (WJ Y) H B (Zri d h) qe E):
 ∃a kvs,x=.ref a/\((H a=J (.dK kvs)/\∀o,qe (Itd a o kvs)<|upd H a<|.frz o<|.dK kvs)\/∃o,H a=J (.frz o<|.dK kvs)/\qe (Itd a o kvs) H):=by
 cases d with
 |ref i=>
  unfold Zri at f;simp at f;split at f
  . rename_i kvs e;obtain⟨a,b,rfl,c,j,s⟩:=r.dic rh e;have k:NF (H a):=by rw[j];trivial
    refine⟨a,_,rfl,.inl ⟨j,λo=>?_⟩⟩;have g:Gr H _ (upd H a<|.frz o<|.dK b) _:=Gr.write (O1 c) k;exact f.at g (rh.write c ⟨o,_,Zr,s.mono rh g⟩ k<|show Zcr _ from rh.ks _ _ e) (Zuc Zr (s.mono rh g)<|rh.ks _ _ e)
  . rename_i kvs e;cases r with
    |ref q=>obtain⟨o,b,R,s⟩:=rh.ob i _ _ e q;exact⟨_,_,rfl,.inr ⟨o,R,f.ok rh<|Zuc R s<|rh.ks _ _ e⟩⟩
  trivial
 |_=>exact f.elim
def Zr1{d}{qe}(hY:Y.K=X.K)(rh:RH Y H B h)(r:RD Y H B d x)(e:ZaT d h=J w)(q:∀qb,WJ Y H B w qb->qe qb H):rW X.K x H qe:=by
 cases d with
 |tup b=>cases e;obtain⟨a,c,rfl,t,s⟩:=r.tup_inv;exact .inr ⟨a,rfl,⟨_,hY▸t⟩,q _<|ZuO hY rh t s⟩
 |ro b=>
  cases e;cases r with
  |ro t s=>exact .inl ⟨_,rfl,⟨_,hY▸t.sq⟩,q _<|Zub hY rh t s⟩
 |ref i=>
  unfold ZaT at e;simp at e;split at e
  . rename_i b f;cases e;obtain⟨a,c,rfl,g,j,s⟩:=r.lst rh f;exact .inl ⟨a,rfl,⟨_,.of j⟩,q _<|Zpj g⟩
  trivial
 |_=>cases e
end
structure Kl where
 cs:List Str
 ats:List Str
 ms:List (Str×Str)
 is:List Str
 xs:List Str:=[]
 xa:List (Str×Str):=[]
 xi:List (Str×Str×Bool):=[]
structure Gm where
 N:List Str
 sc:Scope
 fs:List Str
 top:Bool
 kl:Kl
noncomputable def glb(Γ:Gm)(x:Str):Bool:=Wu (Γ.sc.names.lookup x=J .globalImplicit)&&!(x==("__debug__" : Str))
noncomputable def Zr3(sc:Scope)(x:Str):Bool:=Wu (sc.names.lookup x=J .local)||Wu (sc.names.lookup x=J .cell)||Wu (sc.names.lookup x=J .free)
noncomputable def ZnP:Bf->Str
 |.len => "len" |.isi => "isinstance" |.int => "int" |.tup => "tuple" |.lst => "list" |.sum => "sum" |.srt => "sorted"
noncomputable def bok:Bf->Bool
 |.lst=>Ws
 |.int=>Ws
 |_=>Wr
noncomputable def ZqL:Mf->Str
 |.app => "append" |.ext => "extend" |.pop => "pop" |.rev => "reverse" |.clr => "clear"
noncomputable def ZnQ:List Str:=["len", "isinstance", "int", "tuple", "list", "sum", "all", "sorted", "range", "enumerate", "reversed", "str", "bool", "max", "repr", "zip", "set", "dict", "any", "ValueError"]
noncomputable def ZmR:List String:=["int", "str", "bool", "tuple", "list"]
structure Pt where
 a:Expr:=default
 b:Expr:=default
 c:Expr:=default
 xs:List Expr:=[]
 s:Str:=⟨#[]⟩
 op:Operator:=.Add
 cs:List CmpOp:=[]
 u:UnaryOp:=.Not
 bo:BoolOp:=.And
 p:Pos:=default
 kw:List Keyword:=[]
 l:Option Expr:=M
 h:Option Expr:=M
 st:Option Expr:=M
 ks:List (Option Expr):=[]
 gs:List Comprehension:=[]
 sc:Scope:=default
 k:Nat:=0
 v:Const:=.none
noncomputable def tgE:Expr->Nat
 |.Starred _ _=>0|.BoolOp _ _ _=>1|.UnaryOp _ _ _=>2|.IfExp _ _ _ _=>3|.Compare _ _ _ _=>4|.Slice _ _ _ _=>5|.Name _ _=>6|.BinOp _ _ _ _=>7|.Tuple _ _ _=>8|.List _ _=>9
 |.Subscript _ _ _=>10|.Call _ _ _ _=>11|.Attribute _ _ _=>12|.ListComp _ _ _ _=>13|.Dict _ _ _=>14|.Constant _ _ _=>15|.NamedExpr _ _ _=>17|.Set _ _ _=>18|.SetComp _ _ _ _=>19|.DictComp _ _ _ _ _=>19|_=>16
noncomputable def prt(e:Expr):Pt:=match e with
 |.BoolOp o xs p=>{bo:=o,xs:=xs,p:=p}
 |.UnaryOp o x p=>{a:=x,u:=o,p:=p}
 |.IfExp t x y p=>{a:=t,b:=x,c:=y,p:=p}
 |.Compare l d g p=>{a:=l,cs:=d,xs:=g,p:=p}
 |.Slice l u s p=>{l:=l,h:=u,st:=s,p:=p}
 |.Name x p=>{s:=x,p:=p}
 |.BinOp l o r p=>{a:=l,b:=r,op:=o,p:=p}
 |.Tuple xs k p=>{xs:=xs,k:=k,p:=p}
 |.List xs p=>{xs:=xs,p:=p}
 |.Subscript x y p=>{a:=x,b:=y,p:=p}
 |.Call f xs kw p=>{a:=f,xs:=xs,kw:=kw,p:=p}
 |.Attribute x n p=>{a:=x,s:=n,p:=p}
 |.ListComp x gs sc p=>{a:=x,gs:=gs,p:=p,sc:=sc}
 |.Dict ks i p=>{ks:=ks,xs:=i,p:=p}
 |.Constant c k p=>{v:=c,k:=k,p:=p}
 |_=>{a:=e}
noncomputable def mkE(n:Nat)(p:Pt):Expr:=match n with
 |1=>.BoolOp p.bo p.xs p.p|2=>.UnaryOp p.u p.a p.p|3=>.IfExp p.a p.b p.c p.p|4=>.Compare p.a p.cs p.xs p.p|5=>.Slice p.l p.h p.st p.p|6=>.Name p.s p.p|7=>.BinOp p.a p.op p.b p.p
 |8=>.Tuple p.xs p.k p.p|9=>.List p.xs p.p|10=>.Subscript p.a p.b p.p|11=>.Call p.a p.xs p.kw p.p|12=>.Attribute p.a p.s p.p
 |13=>.ListComp p.a p.gs p.sc p.p|14=>.Dict p.ks p.xs p.p|15=>.Constant p.v p.k p.p|_=>p.a
def rb(e:Expr):mkE (tgE e) (prt e)=e:=by cases e<;>rfl
def bL{a b:Bool}(h:(a&&b)=Wr):a=Wr:=by simp_all
def bR{a b:Bool}(h:(a&&b)=Wr):b=Wr:=by simp_all
def bO{a b:Bool}{P:Prop}(h:(a||b)=Wr)(l:a=Wr->P)(r:b=Wr->P):P:=by lia
def ff{P:Prop}(h:Ws=Wr):P:=by cases h
def dS{α:Type}{P:α->Prop}{a b:α}[Decidable<|a=b](h:Wu (a=b)=Wr)(k:P b):P a:=of_decide_eq_true h▸k
def an(n:Nat)(e:Expr)(f:Pt->Bool):Bool:=Wu (tgE e=n)&&f (prt e)
section
variable {P:Expr->Prop}{e:Expr}
def Zbl(h:an n e f=Wr)(k:∀p,f p=Wr->P (mkE n p)):P e:=rb e▸dS (P:=λm=>P<|mkE m _) (bL h) (k _<|bR h)
noncomputable def l1{α:Type}(xs:List α)(f:α->Bool):Bool:=match xs with
 |[y]=>f y
 |_=>Ws
@[elab_as_elim] theorem Zaz{α:Type}{P:List _->Prop}{xs:List _}{f:α->Bool}(h:l1 xs f=Wr)(k:∀y,f y=Wr->P [y]):P xs:=by
 cases xs with
 |nil=>cases h
 |cons y r=>
  cases r with
  |nil=>exact k y h
  |cons _ _=>cases h
noncomputable def l2{α:Type}(xs:List α)(f:α->α->Bool):Bool:=match xs with
 |[x,y]=>f x y
 |_=>Ws
@[elab_as_elim] theorem ZuA{α:Type}{P:List _->Prop}{xs:List _}{f:α->α->Bool}(h:l2 xs f=Wr)(k:∀x y,f x y=Wr->P [x,y]):P xs:=by
 cases xs with
 |nil=>cases h
 |cons x r=>
  cases r with
  |nil=>cases h
  |cons y r=>
   cases r with
   |nil=>exact k x y h
   |cons _ _=>cases h
noncomputable def l0{α:Type}(xs:List α)(b:Bool):Bool:=xs.isEmpty&&b
def ZiZ{α:Type}{P:List _->Prop}{xs:List α}(h:l0 xs b=Wr)(k:b=Wr->P []):P xs:=by
 cases xs with
 |nil=>exact k h
 |cons _ _=>cases h
@[irreducible] def aN(e:Expr)(f:Str->Bool):Bool:=an 6 e λp=>f p.s
@[elab_as_elim] theorem Zys(h:aN e f=Wr)(k:∀x q,f x=Wr->P (.Name x q)):P e:=by unfold aN at h;exact Zbl h λ_ h=>k _ _ h
@[irreducible] def aX(x:Str)(e:Expr)(b:Bool):Bool:=an 6 e λp=>Wu (p.s=x)&&b
@[elab_as_elim] theorem Zpf(h:aX x e b=Wr)(k:∀q,b=Wr->P (.Name x q)):P e:=by unfold aX at h;exact Zbl h λp h=>dS (P:=λs=>P<|.Name s _) (bL h) (k _<|bR h)
@[irreducible] def aB2(o:Operator)(e:Expr)(f:Expr->Expr->Bool):Bool:=an 7 e λp=>Wu (p.op=o)&&f p.a p.b
@[elab_as_elim] theorem Zy9(h:aB2 o e f=Wr)(k:∀l r q,f l r=Wr->P (.BinOp l o r q)):P e:=by unfold aB2 at h;exact Zbl h λp h=>dS (P:=λs=>P<|.BinOp _ s _ _) (bL h) (k _ _ _<|bR h)
@[irreducible] def aC1(o:CmpOp)(e:Expr)(f:Expr->Expr->Bool):Bool:=an 4 e λp=>Wu (p.cs=[o])&&l1 p.xs λr=>f p.a r
@[elab_as_elim] theorem ZnO(h:aC1 o e f=Wr)(k:∀l r q,f l r=Wr->P (.Compare l [o] [r] q)):P e:=by unfold aC1 at h;exact Zbl h λp h=>dS (P:=λs=>P<|.Compare _ s _ _) (bL h) (Zaz (P:=λs=>P<|.Compare _ _ s _) (bR h) λ_ h=>k _ _ _ h)
@[irreducible] def aU(u:UnaryOp)(e:Expr)(f:Expr->Bool):Bool:=an 2 e λp=>Wu (p.u=u)&&f p.a
@[elab_as_elim] theorem ZuV(h:aU u e f=Wr)(k:∀x q,f x=Wr->P (.UnaryOp u x q)):P e:=by unfold aU at h;exact Zbl h λp h=>dS (P:=λs=>P<|.UnaryOp s _ _) (bL h) (k _ _<|bR h)
@[irreducible] def aO(o:BoolOp)(e:Expr)(f:List Expr->Bool):Bool:=an 1 e λp=>Wu (p.bo=o)&&f p.xs
@[elab_as_elim] theorem Ztc(h:aO o e f=Wr)(k:∀xs q,f xs=Wr->P (.BoolOp o xs q)):P e:=by unfold aO at h;exact Zbl h λp h=>dS (P:=λs=>P<|.BoolOp s _ _) (bL h) (k _ _<|bR h)
@[irreducible] def aI(e:Expr)(f:Expr->Expr->Expr->Bool):Bool:=an 3 e λp=>f p.a p.b p.c
@[elab_as_elim] theorem Zz5(h:aI e f=Wr)(k:∀t x y q,f t x y=Wr->P (.IfExp t x y q)):P e:=by unfold aI at h;exact Zbl h λ_ h=>k _ _ _ _ h
@[irreducible] def aT(e:Expr)(f:List Expr->Bool):Bool:=an 8 e λp=>f p.xs
@[elab_as_elim] theorem Ziy(h:aT e f=Wr)(k:∀xs j q,f xs=Wr->P (.Tuple xs j q)):P e:=by unfold aT at h;exact Zbl h λ_ h=>k _ _ _ h
@[irreducible] def aLs(e:Expr)(f:List Expr->Bool):Bool:=an 9 e λp=>f p.xs
@[elab_as_elim] theorem Zyy(h:aLs e f=Wr)(k:∀xs q,f xs=Wr->P (.List xs q)):P e:=by unfold aLs at h;exact Zbl h λ_ h=>k _ _ h
@[irreducible] def aS(e:Expr)(f:Expr->Expr->Bool):Bool:=an 10 e λp=>f p.a p.b
@[elab_as_elim] theorem Zvh(h:aS e f=Wr)(k:∀x y q,f x y=Wr->P (.Subscript x y q)):P e:=by unfold aS at h;exact Zbl h λ_ h=>k _ _ _ h
@[irreducible] def aSl(e:Expr)(f:Expr->Option Expr->Option Expr->Bool):Bool:=aS e λx y=>an 5 y λp=>p.st.isNone&&f x p.l p.h
@[elab_as_elim] theorem ZxJ(h:aSl e f=Wr)(k:∀x l u q r,f x l u=Wr->P (.Subscript x (.Slice l u M q) r)):P e:=by
 unfold aSl at h;exact Zvh h λx _ r h=>Zbl (P:=λy=>P<|.Subscript x y r) h λp h=>by show P (.Subscript x (.Slice _ _ _ _) r);rw[Option.isNone_iff_eq_none.mp<|bL h];exact k _ _ _ _ _ (bR h)
@[irreducible] def aCN(n:Str)(e:Expr)(f:List Expr->Bool):Bool:=an 11 e λp=>aX n p.a (l0 p.kw<|f p.xs)
@[elab_as_elim] theorem ZcB(h:aCN n e f=Wr)(k:∀p ys q,f ys=Wr->P (.Call (.Name n p) ys [] q)):P e:=by unfold aCN at h;exact Zbl h λp h=>Zpf (P:=λa=>P<|.Call a _ _ _) h λq h=>ZiZ (P:=λw=>P<|.Call _ _ w _) h λh=>k _ _ _ h
@[irreducible] def aCk(n w:Str)(e:Expr)(f:List Expr->Expr->Bool):Bool:=an 11 e λp=>aX n p.a (l1 p.kw λy=>match y with|⟨a,z,_⟩=>Wu (a=J w)&&f p.xs z)
@[elab_as_elim] theorem ZuG(h:aCk n w e f=Wr)(k:∀p ys z r q,f ys z=Wr->P (.Call (.Name n p) ys [⟨J w,z,r⟩] q)):P e:=by
 unfold aCk at h;exact Zbl h λp h=>Zpf (P:=λa=>P<|.Call a _ _ _) h λq h=>Zaz (P:=λw=>P<|.Call _ _ w _) h λy h=>match y,h with
  |⟨_,z,r⟩,h=>dS (P:=λs=>P<|.Call _ _ [⟨s,z,r⟩] _) (bL h) (k _ _ _ _ _<|bR h)
@[irreducible] def aA(n:Str)(e:Expr)(f:Expr->Pos->Bool):Bool:=an 12 e λp=>Wu (p.s=n)&&f p.a p.p
@[elab_as_elim] theorem Zt7(h:aA n e f=Wr)(k:∀x q,f x q=Wr->P (.Attribute x n q)):P e:=by unfold aA at h;exact Zbl h λp h=>dS (P:=λs=>P<|.Attribute _ s _) (bL h) (k _ _<|bR h)
@[irreducible] def aCA(n:Str)(e:Expr)(f:Expr->Pos->List Expr->Pos->Bool):Bool:=an 11 e λp=>aA n p.a λx b=>l0 p.kw (f x b p.xs p.p)
@[elab_as_elim] theorem ZrI(h:aCA n e f=Wr)(k:∀x ap ys cp,f x ap ys cp=Wr->P (.Call (.Attribute x n ap) ys [] cp)):P e:=by unfold aCA at h;exact Zbl h λp h=>Zt7 (P:=λa=>P<|.Call a _ _ _) h λx q h=>ZiZ (P:=λw=>P<|.Call _ _ w _) h λh=>k _ _ _ _ h
@[irreducible] def aLC(e:Expr)(f:Expr->Expr->Expr->List Expr->Scope->Bool):Bool:=an 13 e λp=>l1 p.gs λg=>match g with|⟨t,i,c,n⟩=>Wu (n=0)&&f p.a t i c p.sc
@[elab_as_elim] theorem Zuw(h:aLC e f=Wr)(k:∀x t i c sc q,f x t i c sc=Wr->P (.ListComp x [⟨t,i,c,0⟩] sc q)):P e:=by
 unfold aLC at h;exact Zbl h λp h=>Zaz (P:=λg=>P<|.ListComp _ g _ _) h λg h=>match g,h with
  |⟨t,i,c,_⟩,h=>dS (P:=λs=>P<|.ListComp _ [⟨t,i,c,s⟩] _ _) (bL h) (k _ _ _ _ _ _<|bR h)
@[irreducible] def aD(e:Expr)(f:List (Option Expr)->List Expr->Bool):Bool:=an 14 e λp=>f p.ks p.xs
@[elab_as_elim] theorem ZAf(h:aD e f=Wr)(k:∀ks vs q,f ks vs=Wr->P (.Dict ks vs q)):P e:=by unfold aD at h;exact Zbl h λ_ h=>k _ _ _ h
@[irreducible] def aK(e:Expr)(f:Const->Bool):Bool:=an 15 e λp=>f p.v
@[elab_as_elim] theorem Zwt(h:aK e f=Wr)(k:∀c j q,f c=Wr->P (.Constant c j q)):P e:=by unfold aK at h;exact Zbl h λ_ h=>k _ _ _ h
end
noncomputable def ZAi:D->Const->Bool
 |.int i,.int j=>Wu (i=j)
 |.str x,.str y=>Wu (x=y)&&Yp y
 |.bl b,.bool c=>Wu (b=c)
 |.non,.none=>Wr
 |_,_=>Ws
def Zy6(Γ:Gm)(d:D)(e:Expr):Bool:=(aK e λc=>ZAi d c)||match d with
 |.ty n=>aX (Str.ofString n) e (Wu (n∈ZmR)&&glb Γ (Str.ofString n))
 |_=>Ws
noncomputable def ZrA(NC N:List Str)(js:List (Option Nat))(sc scope:Scope):Bool:=
 Wu (scope.kind=.function)&&Wu (sc.kind=.function)&&(scope.names.all λy=>Wu<|y.2≠.cell)&&(scope.names.all λy=>!Wu (y.2=.local)||Wu (scope.names.lookup y.1=J .local)) &&
  (scope.names.all λy=>!Wu (y.2=.free)||Wu (sc.names.lookup y.1=J .cell))&&decide NC.Nodup&&Wu (js.length=NC.length) &&
  ((NC.zip js).all λp=>p.2.all λj=>Wu (N[j]?=J p.1)&&Wu (scope.names.lookup p.1=J .free))
def Zk0(h:ZrA NC N js sc scope=Wr):CompSc NC N js sc scope:=by
 unfold ZrA at h;rw[Oa,Oa,Oa,Oa,Oa,Oa,Oa]at h;obtain⟨⟨⟨⟨⟨⟨⟨a,b⟩,c⟩,d⟩,e⟩,f⟩,g⟩,i⟩:=h;rw[OC]at c d e;refine⟨of_decide_eq_true a,of_decide_eq_true b,λy j=>of_decide_eq_true<|c y j,λy j k=>?_,λy j k=>?_,of_decide_eq_true f,of_decide_eq_true g,i⟩
 . have:=d y j;rw[decide_eq_true k]at this;simpa using this
 . have:=e y j;rw[decide_eq_true k]at this;simpa using this
noncomputable def ZlX(N:List Str)(own:Str->Bool)(i:Nat)(e:Expr):Bool:=aN e λx=>Wu (N[i]?=J x)&&own x
def ZnL(N:List Str)(own:Str->Bool):List Nat->List Expr->Bool
 |[],a=>a.isEmpty
 |i::is,a=>match a with
  |e::a=>ZlX N own i e&&ZnL N own is a
  |[]=>Ws
def Zi8(N:List Str)(own:Str->Bool)(i j:Nat)(e:Expr):Bool:=aT e λc=>l2 c λa b=>ZlX N own i a&&ZlX N own j b
def ZrD(N:List Str)(own:Str->Bool)(is:List Nat)(e:Expr):Bool:=aT e λa=>ZnL N own is a
def ZtT(N:List Str)(own:Str->Bool)(g:Tg)(e:Expr):Bool:=match g with
 |.nm i=>ZlX N own i e
 |.two i j=>Zi8 N own i j e
 |.many is=>ZrD N own is e
@[elab_as_elim] theorem Za1{P:Expr->Prop}(h:ZlX N own i e=Wr)(k:∀x p,N[i]?=J x->own x=Wr->P (.Name x p)):P e:=Zys h λ_ _ h=>k _ _ (of_decide_eq_true<|bL h) (bR h)
def isTup(e:Expr):Bool:=Wu (tgE e=8)
@[elab_as_elim] theorem Zra{P:Expr->Prop}(h:isTup e=Wr)(k:∀xs j q,P<|.Tuple xs j q):P e:=Ziy (P:=P) (f:=λ_=>Wr) (by unfold aT an;rw[show decide _=Wr from h];rfl) λ_ _ _ _=>k _ _ _
noncomputable def tgk:Tg->Nat
 |.nm i=>i+1
 |.two i j=>max i j+1
 |.many is=>is.foldr max 0+1
noncomputable def Zye(sc:Scope)(x:Str):Bool:=Wu (sc.names.lookup x=J .local)
noncomputable def ownD(sc:Scope)(x:Str):Bool:=Wu (sc.names.lookup x=J .local)||Wu (sc.names.lookup x=J .cell)
def Zfl(e:Expr):Bool:=Wu (tgE e≠18)
def ZhG(e:Expr):Bool:=Wu (tgE e≠5)
def Z9(e:Expr):Bool:=Wu (tgE e≠0)
def Zcd(e:Expr):Bool:=!(Wu (tgE e=11)&&(prt e).xs.isEmpty)
def ZlQ(e:Expr):Bool:=Wu (6<=tgE e)&&Wu (tgE e<=16)
mutual
noncomputable def chk(Γ:Gm):Ex->Expr->Bool
 |.var i,e=>aN e λx=>Wu (Γ.N[i]?=J x)&&(Zr3 Γ.sc x&&(!(x==("__debug__" : Str))&&!(x==("__classdict__" : Str))))
 |.cst d,e=>Zy6 Γ d e
 |.glo x,e=>aX x e (glb Γ x)
 |.bin op a b,e=>aB2 op e λl r=>chk Γ a l&&chk Γ b r
 |.cmp op a b,e=>aC1 op e λl r=>chk Γ a l&&(chk Γ b r&&Zfl r)
 |.neg a,e=>aU .USub e λx=>chk Γ a x
 |.nt a,e=>aU .Not e λx=>chk Γ a x
 |.ands es,e=>aO .And e λxs=>chks Γ es xs
 |.ors es,e=>aO .Or e λxs=>chks Γ es xs
 |.ite c a b,e=>aI e λt x y=>chkt Γ c t&&(chk Γ a x&&chk Γ b y)
 |.tupl es,e=>aT e λxs=>chks Γ es xs
 |.lstl es,e=>aLs e λxs=>chks Γ es xs
 |.ix a i,e=>aS e λx y=>chk Γ a x&&(chk Γ i y&&ZhG y)
 |.sl a lo hi,e=>aSl e λx l u=>chk Γ a x&&(chko Γ lo l&&chko Γ hi u)
 |.blt f es,e=>aCN (ZnP f) e λys=>(bok f&&glb Γ (ZnP f))&&(chks Γ es ys&&!ys.isEmpty)
 |.call f es,e=>aCN f e λys=>Wu (f∈Γ.fs)&&(glb Γ f&&(chks Γ es ys&&!ys.isEmpty))
 |.meth m o es,e=>aCA (ZqL m) e λx ap ys cp=>chk Γ o x&&(Zcd x&&(chks Γ es ys&&(Wu (ys.length<29)&&(ap.endLine==cp.line))))
 |.trev e,x=>aCN "tuple" x λys=>l1 ys λz=>aCN "reversed" z λys=>l1 ys λy=>glb Γ "tuple" && (glb Γ "reversed" && (chk Γ e y&&Z9 y))
 |.tix o e,x=>aCA "index" x λx ap ys cp=>l1 ys λy=>chk Γ o x&&(Zcd x&&(chk Γ e y&&(Z9 y&&(ap.endLine==cp.line))))
 |.rpn o a b,e=>aC1 (bif o then .NotEq else .Eq) e λl r=>aCN "repr" l λys=>l1 ys λy=>aCN "repr" r λzs=>l1 zs λz=>glb Γ "repr" && (chk Γ a y&&(Z9 y&&(chk Γ b z&&Z9 z)))
 |.comp NC js it g c e,x=>aLC x λaE tg iter bf scope=>Γ.top&&(ZrA NC Γ.N js Γ.sc scope&&(chki Γ it tg iter&&(Zfl iter&&(ZtT NC (Zye scope) g tg&&(((List.range<|tgk g).all λj=>Wu<|js[j]?=J M) &&
  (chkf ⟨NC,scope,Γ.fs,Ws,Γ.kl⟩ c bf&&chk ⟨NC,scope,Γ.fs,Ws,Γ.kl⟩ e aE))))))
 |.maxd a d,e=>aCk "max" "default" e λys z=>l1 ys λy=>glb Γ "max" && (chk Γ a y&&(Z9 y&&chk Γ d z))
 |.dictl ps,e=>aD e λkeys values=>Wu (keys.length<=15)&&chkp Γ ps keys values
 |.att Cs o f,e=>aA f e λx _=>chk Γ o x&&(Zcd x&&((Cs.all λC=>Wu<|C∈Γ.kl.cs)&&Wu (f∈Γ.kl.ats)))
 |.mk C es,e=>aCN C e λys=>Wu (C∈Γ.kl.is)&&(glb Γ C&&chks Γ es ys)
 |.mcl C m o es,e=>aCA m e λx ap ys cp=>chk Γ o x&&(Zcd x&&(chks Γ es ys&&(Wu ((C,m)∈Γ.kl.ms)&&(Wu (ys.length<29)&&(ap.endLine==cp.line)))))
 |.any,_=>Wr
noncomputable def chks(Γ:Gm):Exs->List Expr->Bool
 |.nil,es=>es.isEmpty
 |.cons e r,es=>match es with
  |x::xs=>chk Γ e x&&(Z9 x&&chks Γ r xs)
  |[]=>Ws
noncomputable def chkp(Γ:Gm):Exs->List (Option Expr)->List Expr->Bool
 |.nil,ks,vs=>ks.isEmpty&&vs.isEmpty
 |.cons k r,ks,vs=>match r with
  |.cons v r'=>match ks,vs with
   |some kx::ks,vx::vs=>chk Γ k kx&&(chk Γ v vx&&chkp Γ r' ks vs)
   |_,_=>Ws
  |.nil=>Ws
noncomputable def chko(Γ:Gm):Option Ex->Option Expr->Bool
 |none,x=>x.isNone
 |some a,x=>match x with
  |some x=>chk Γ a x
  |none=>Ws
noncomputable def chkf(Γ:Gm):Option Tx->List Expr->Bool
 |none,x=>x.isEmpty
 |some a,x=>l1 x λx=>chkt Γ a x
noncomputable def ZAg(Γ:Gm):Ex->Expr->Bool
 |.cmp op a b,e=>aC1 op e λl r=>chk Γ a l&&(chk Γ b r&&Zfl r)
 |.rpn o a b,e=>aC1 (bif o then .NotEq else .Eq) e λl r=>aCN "repr" l λys=>l1 ys λy=>aCN "repr" r λzs=>l1 zs λz=>glb Γ "repr" && (chk Γ a y&&(Z9 y&&(chk Γ b z&&Z9 z)))
 |_,_=>Ws
noncomputable def chkt(Γ:Gm):Tx->Expr->Bool
 |.ex e,x=>(ZlQ x&&chk Γ e x)||ZAg Γ e x
 |.ands ts,x=>aO .And x λxs=>chkts Γ ts xs
 |.ors ts,x=>aO .Or x λxs=>chkts Γ ts xs
 |.nt t,x=>aU .Not x λy=>chkt Γ t y
noncomputable def chkts(Γ:Gm):Txs->List Expr->Bool
 |.one t,xs=>l1 xs λx=>chkt Γ t x
 |.cons t ts,xs=>match xs with
  |x::r=>chkt Γ t x&&(!r.isEmpty&&chkts Γ ts r)
  |_=>Ws
noncomputable def chki(Γ:Gm):Ix->Expr->Expr->Bool
 |.pl e,_,x=>chk Γ e x
 |.rng e,_,x=>aCN "range" x λys=>l1 ys λy=>glb Γ "range" && (chk Γ e y&&Z9 y)
 |.enu e,tg,x=>aCN "enumerate" x λys=>l1 ys λy=>glb Γ "enumerate" && (chk Γ e y&&(Z9 y&&isTup tg))
 |.rev e,_,x=>aCN "reversed" x λys=>l1 ys λy=>glb Γ "reversed" && (chk Γ e y&&Z9 y)
 |.en1 e,tg,x=>aCk "enumerate" "start" x λys z=>l1 ys λy=>glb Γ "enumerate" && (chk Γ e y&&(Z9 y&&(isTup tg&&aK z λc=>Wu<|c=.int 1)))
 |.dk e,_,x=>chk Γ e x
end
def leS(a b:Str):Prop:=¬ b.cps.toList<a.cps.toList
def ZiY(h:leS a b)(q:leS b c):leS a c:=List.le_trans h q
def ZqW(h:leS a b)(q:leS b a):a=b:=by have e:=List.le_antisymm h q;obtain⟨⟨b⟩⟩:=b;subst e;rfl
def Zkm:∀{ss},sortedS ss=Wr->ss.Pairwise leS:=by
 have a:∀(r) (p),risingS p r=Wr->(∀x∈r,leS p x)/\r.Pairwise leS:=by
  intro r;induction r with
  |nil=>simp
  |cons x r c=>
   intro p h;rw[risingS,Oa]at h;obtain⟨R,b⟩:=c x h.2;have d:leS p x:=by
    have:=h.1;rw[ltCps_eq]at this;unfold leS
    simp_all
   refine⟨λy hy=>?_,.cons R b⟩;rcases O3.mp hy with rfl|hy
   . trivial
   . exact ZiY d (R y hy)
 intro ss h;cases ss with
 |nil=>simp
 |cons x r=>obtain⟨R,b⟩:=a r x h;exact .cons R b
theorem ZhB(x):∀r ,(Zor x r).Perm (x::r)
 |[]=>.refl _
 |y::r=>by
  unfold Zor;split
  . exact((ZhB x r).cons y).trans (.swap x y r)
  simp
theorem ZeL:∀r ,(ZdI r).Perm r
 |[]=>.refl _
 |x::r=>(ZhB x _).trans ((ZeL r).cons x)
theorem Zkv(x):∀r ,r.Pairwise leS->(Zor x r).Pairwise leS
 |[],_=>.cons (by simp) .nil
 |y::r,h=>by
  cases h with
  |cons R b=>
   unfold Zor;split
   . rename_i a;rw[ltCps_eq]at a;refine .cons (λz hz=>?_)<|Zkv x r b;rcases O3.mp ((ZhB x r).mem_iff.mp hz)with rfl|hz
     . exact List.le_of_lt (of_decide_eq_true a)
     simp_all
   . rename_i a;have c:leS x y:=by
      unfold leS;rw[ltCps_eq]at a
      simp_all
     refine .cons (λz hz=>?_)<|.cons R b;rcases O3.mp hz with rfl|hz
     . trivial
     . exact ZiY c (R z hz)
theorem ZiN:∀r ,(ZdI r).Pairwise leS
 |[]=>.nil
 |x::r=>Zkv x _ (ZiN r)
def Zoc(hp:bz.Perm ss)(hs:sortedS bz=Wr):bz=ZdI ss:=(hp.trans (ZeL _).symm).eq_of_pairwise (λ_ _ _ _ h q=>ZqW h q) (Zkm hs) (ZiN _)
section
variable {X:Cx}{Y:Yx}{E:XK}{T:Tb}{H:Hp}{B:List Yj}{h:Hd}
theorem ZgS:∀{ds:List (Key×D)}{vs:List (Key×V)}{ss:List _},RKs Y H B ds vs->ZeR ds=J ss->vs.map (·.1)=ss.map YE
 |_,_,_,.nil,e=>by cases e;rfl
 |_,_,_,.cons (k:=k) a s,e=>by
  cases k with
  |inl i=>cases e
  |inr x=>rw[ZeR]at e;obtain⟨z,b,rfl⟩:=Oo.mp e;rw[Op,Op,ZgS s b]
theorem ZmY:∀(ss:List _),(∀x∈ss,Yp x=Wr)->RDs Y H B (ss.map D.str) (ss.map V.str)
 |[],_=>.nil
 |x::r,h=>.cons (.str x<|h x<|by simp) (ZmY r λy a=>h y<|by simp_all)
def Zt0(hc:X.A.handled=M)(G:Gk X Y T):ZcH X (.builtin "sorted") (rF Y E<|Zgj T.GD):=by
 rintro aa s Z H xs us Q I r⟨ds,h,B,rh,rs,f⟩;unfold Zgj at f;split at f
 . split at f
   . rename_i ss e2;obtain⟨hz,f⟩:=f.iff;obtain⟨kvs,e3,e4⟩:=Option.bind_eq_some_iff.mp e2;obtain⟨x,rfl,r1⟩:=rs.one;obtain⟨a,ai,rfl,hd,rk⟩:=r1.dicOf G rh e3;obtain⟨hz,hok⟩:=hz;refine ZjZ hc _ s _ H _ _ Q I r ⟨a,_,_,rfl,hd,ZgS rk e4,hz,λp bz hp R h2=>?_⟩;rw[Zoc R h2];refine f.new rh hp ⟨_,Zr,ZmY _ λy hy=>?_⟩;rw[OC]at hok;exact hok y ((ZeL _).mem_iff.mp hy)
   trivial
 trivial
end
set_option tactic.hygienic false
def RS(Y:Yx)(H:Hp)(B:List Yj)(S:Ev)(Z:L2.St):Prop:=Z.length=S.length/\∀(i:Nat) (d:D),S[i]?=J (J d)->∃v,Z[i]?=J (J v)/\RD Y H B d v
section
variable {Y:Yx}{H H':Hp}{B μ':List Yj}{h:Hd}{S:Ev}{Z:L2.St}
theorem RS.mono(rh:RH Y H B h)(g:Gr H B H' μ')(r:RS Y H B S Z):RS Y H' μ' S Z:=⟨r.1,λi d e=>let⟨v,R,a⟩:=r.2 i d e;⟨v,R,a.mono rh g⟩⟩
def RS.var(r:RS Y H B S Z){i:Nat}{d:D}(e:(S[i]?).join=J d):∃v,Z[i]?=J (J v)/\RD Y H B d v:=by
 refine r.2 i d ?_;cases q:S[i]? with
 |none=>rw[q]at e;cases e
 |some o=>rw[q]at e;cases o with
  |none=>cases e
  |some a=>cases e;rfl
theorem RS.set(r:RS Y H B S Z){i:Nat}{d:D}{v:V}(q:RD Y H B d v):RS Y H B (S.set i<|J d) (Z.set i<|J v):=by
 refine⟨by simp[r.1],λj e a=>?_⟩;by_cases b:i=j
 . subst b;have c:i<S.length:=by simpa using (Ob.mp a).1
   rw[Ol c]at a;cases a;exact⟨v,by rw[Ol<|r.1▸c],q⟩
 . rw[Oc b]at a;obtain⟨w,R,f⟩:=r.2 j e a;exact⟨w,(Oc b).I R,f⟩
theorem RS.capt(r:RS Y H B S Z)(js:List _):RS Y H B (ZbY js S) (capt js Z):=by
 refine⟨by simp[ZbY,L2.capt],λi d e=>?_⟩;unfold ZbY at e;unfold L2.capt;rw[O2]at e ⊢;cases q:js[i]? with
 |none=>rw[q]at e;cases e
 |some o=>
  rw[q]at e;cases o with
  |none=>cases e
  |some j=>obtain⟨v,R,a⟩:=r.var (by simpa using e);exact⟨v,by simp_all,a⟩
end
inductive Sm(Y:Yx)(E:XK){α β:Type}(rel:Hp->List Yj->α->β->Prop)(m:Ev->Hd->qe α)(Z:L2.St)(H:Hp)(Q:β->Hp->Prop):Prop
 |mk (S:Ev) (h:Hd) (B:List Yj) (rh:RH Y H B h) (rs:RS Y H B S Z) (f:Fin Y rel H B (m S h) Q E):Sm Y E rel m Z H Q
def eqR{α:Type}:Hp->List Yj->α->α->Prop:=λ_ _ a b=>a=b
theorem Sm.bind{α β γ δ:Type}{Q:β->Hp->Prop}{rel:Hp->List _->γ->δ->Prop}{aV:Hp->List _->α->β->Prop}{m:Ev->Hd->qe _}{k:Ev->γ->Hd->qe _}(s:Sm Y E aV (λS h=>(m S h).bind<|k S) Z H Q)
 {Q1:δ->Hp->Prop}
 (hk:∀S d R v H1 μ1,RH Y H1 μ1 R->RS Y H1 μ1 S Z->rel H1 μ1 d v->Fin Y aV H1 μ1 (k S d R) Q E->Q1 v H1):Sm Y E rel m Z H Q1:=by
 cases s with
 |mk S h B a b f=>exact⟨_,h,_,a,b,f.bind λd R x H1 μ1 _ g c rd e=>hk _ d _ x _ _ c (b.mono a g) rd e⟩
section
variable (T:Tb)(Y:Yx)(E:XK)
def ZaJ(e:Ex):TE:=Sm Y E (RD Y) (ev T e)
def ZlA(e:Exs):TA:=Sm Y E (RDs Y) (evs T e)
def Zoe(e:Tx):TT:=Sm Y E eqR (tst T e)
def ZzH(e:Option Ex):TO:=Sm Y E eqR (evo T e)
def ZzI(e:Ix):TI:=Sm Y E (WJ Y) (evi T e)
def Zgn(f:Str):Sp:=λa H Q E=>∃ds h B,RH Y H B h/\RDs Y H B ds a/\Fin Y (RD Y) H B (T.C f ds h) Q E
end
structure Gd(T:Tb)(Γ:Gm)(X:Cx)(Y:Yx)(E:XK)(k:Nat):Prop where
 gk:Gk X Y T
 N:X.N=Γ.N
 sc:Γ.top=Wr->X.env.scope=Γ.sc
 vis:∀x,Zr3 Γ.sc x=Wr->Vis X.env.scope x
 glo:∀x,Γ.sc.names.lookup x=J .globalImplicit->Gl X x
 nd:X.N.Nodup
 calm:X.calm=Wr
 room:Room k X.A
 h60:60<=k
 pass:Zcq (CXF X.prog X.w) X E
 defs:∀f∈Γ.fs,∃ps,Def X.prog X.w X.K X.mg X.base k f ps (Zgn T Y f)
 blt:∀x∈ZnQ,X.mg x=M
 room1:Room (k+1) X.A
 cls:∀C∈Γ.kl.cs,∃a,X.mg C=J (.ref a)/\Cls X.K a/\∀f∈Γ.kl.ats,Zby X.K a f
 mts:∀p∈Γ.kl.ms,∃a f fd ps,X.mg p.1=J (.ref a)/\Cls X.K a/\Meth X.K a p.2 f/\FnOk X.prog X.w X.K X.mg X.base (CXF X.prog X.w) k f fd ps (Zgn T Y<|mnm p.1 p.2)/\Binds X.K fd ps []
 mks:∀C∈Γ.kl.is,∃a f fd ps,X.mg C=J (.ref a)/\Mk X.K a f/\FnOk X.prog X.w X.K X.mg X.base (CXF X.prog X.w) k f fd ps (Zgn T Y<|mnm C<|O "__init__")/\Binds X.K fd ps []
def _root_.L2.PE.imp(h:PE X e t)(i:∀Z H Q,t' Z H Q->t Z H Q):PE X e t':=λa s Z H Q I q=>h _ s _ H Q I (i _ H Q q)
def _root_.L2.PT.imp(h:PT X e t)(i:∀Z H Q,t' Z H Q->t Z H Q):PT X e t':=λa s Z H Q I q=>h _ s _ H Q I (i _ H Q q)
def _root_.L2.PW.imp(h:PW X e t)(i:∀Z H Q,t' Z H Q->t Z H Q):PW X e t':=λw a s Z H Q I q=>h w _ s _ H Q I (i _ H Q q)
def _root_.L2.PA.imp(h:PA X e t)(i:∀Z H Q,t' Z H Q->t Z H Q):PA X e t':=λp a s Z H Q I q=>h p _ s _ H Q I (i _ H Q q)
def _root_.L2.PO.imp(h:PO X e t)(i:∀Z H Q,t' Z H Q->t Z H Q):PO X e t':=λa s Z H Q I q=>h _ s _ H Q I (i _ H Q q)
def _root_.L2.PI.imp(h:PI X tg e t)(i:∀Z H Q,t' Z H Q->t Z H Q):PI X tg e t':=λa s Z H Q I q=>h _ s _ H Q I (i _ H Q q)
structure Kd(x:Expr):Prop where
 star:tgE x≠0->∀xs env,YA (x::xs) env=(Ws,eval x env)::YA xs env
 set:tgE x≠18->∀env v,foldedSetIterable x env v=pure v
 mark:tgE x≠18->∀op,behindInMarks op x=Ws
 ix:tgE x≠5->Zkg x
 put:tgE x≠5->∀o pos env v,assign (.Subscript o x pos) env v=(do
  let ov <- holding [v] (eval o env);let iv <- holding [v,ov] (eval x env)
  standAt pos
  holding [v,ov,iv] (setItem ov iv v)
  release [v,ov,iv] [])
 tr:ZlQ x=Wr->∀env aG,isTrue x env aG=(do let v <- aG;standAt x.pos;holding [v]<|truthy v)
 sw:tgE x≠13->tgE x≠19->∀t n env,swapsWith x t n env=pure Ws
 st:tgE x≠8->∀es j q env,swappedStores [.Tuple es j q] x env=pure M
def kdE(x:Expr):Kd x:=by
 cases x<;>exact⟨by first|exact λ_ _ _=>rfl|exact λh=>absurd rfl h,by first|exact λ_ _ _=>rfl|exact λh=>absurd rfl h,by first|exact λ_ _=>rfl|exact λh=>absurd rfl h,by first|exact λ_ _ _=>rfl|exact λh=>absurd rfl h,
  by first|exact λ_ _ _ _ _=>rfl|exact λh=>absurd rfl h,
  by first|exact λ_ _ _=>rfl|exact λh=>ff h,by first|exact λ_ _ _ _ _=>rfl|exact λh=>absurd rfl h|exact λ_ h=>absurd rfl h,by first|exact λ_ _ _ _ _=>rfl|exact λh=>absurd rfl h⟩
def Zw(env:Env)(h:Z9 x=Wr):YA (x::xs) env=(Ws,eval x env)::YA xs env:=(kdE x).star (of_decide_eq_true h) _ _
def Zly(env:Env)(h:Zfl x=Wr):∀v,foldedSetIterable x env v=pure v:=(kdE x).set (of_decide_eq_true h) _
def Znm(h:Zfl x=Wr):behindInMarks op x=Ws:=(kdE x).mark (of_decide_eq_true h) _
def ZpI(h:ZhG x=Wr):Zkg x:=(kdE x).ix (of_decide_eq_true h)
def Zgc(h:Zcd x=Wr):attributeBase x n env (eval x env)=eval x env:=by
 cases x with
 |Call f as b p=>
  cases as with
  |nil=>cases h
  |cons a as=>cases f<;>rfl
 |_=>rfl
theorem ZfH(Γ:Gm)(env:Env):∀(es:Exs) (xs:List _),chks Γ es xs=Wr->∀pos,(YR pos<|YA xs env).any (·.1)=Ws/\(YR pos<|YA xs env).all (λx=>!x.1)=Wr
 |.nil,[],_,_=>⟨rfl,rfl⟩
 |.nil,_::_,h,_=>ff h
 |.cons _ _,[],h,_=>ff h
 |.cons _ r,x::xs,h,pos=>Zw _ (bL<|bR h)▸ZfH _ _ r _ (bR<|bR h) _
def ZdO(env:Env)(h:chks Γ es (y::r)=Wr):YA (y::r) env=(Ws,eval y env)::YA r env/\∀pos,(YR pos<|YA r env).any (·.1)=Ws:=by
 cases es with
 |nil=>exact ff h
 |cons e s=>exact⟨Zw _<|bL<|bR h,λpos=>(ZfH _ _ s r (bR<|bR h) _).1⟩
@[elab_as_elim] theorem Zry{P:List _->Prop}(h:chks Γ es ys=Wr)(R:(!ys.isEmpty)=Wr)(k:∀y r,chks Γ es (y::r)=Wr->P (y::r)):P ys:=by
 cases ys with
 |nil=>exact ff R
 |cons y r=>exact k y r h
def Gd.gl{T:Tb}{Γ:Gm}{X:Cx}{Y:Yx}{E:XK}{k:Nat}(G:Gd T Γ X Y E k){x:Str}(h:glb Γ x=Wr):Gl X x/\(x==("__debug__" : Str))=Ws:=by unfold glb at h;rw[Oa]at h;exact⟨G.glo x<|of_decide_eq_true h.1,by simpa using h.2⟩
theorem ZhI{f:Str->NameKind->NameKind}(x:Str):∀names:List _,(names.map λp=>(p.1,f p.1 p.2)).lookup x=(names.lookup x).map (f x)
 |[]=>rfl
 |(n,k)::r=>by
  rw[Op,OF,OF];by_cases e:x=n
  . subst e;simp
  . have:(x==n)=Ws:=by simpa using e
    simp only[this];exact ZhI x r
def ZaZ(scope:Scope)(env:Env)(x:Str):(relabel scope env).names.lookup x=(scope.names.lookup x).map λk=>if (k==Yo&&env.scope.kind==.function&&env.kindOf x==J .cell)then NameKind.cell else k:=by
 have e:(relabel scope env).names=scope.names.map λp=>(p.1,(λ(n:Str) (k:NameKind)=>if (k==Yo&&env.scope.kind==.function&&env.kindOf n==J .cell)then NameKind.cell else k) p.1 p.2):=by unfold relabel;simp only;refine List.map_congr_left λp _=>?_;obtain⟨n,k⟩:=p;simp only;split<;>rfl
 rw[e];exact ZhI (f:=λ(n:Str) (k:NameKind)=>if (k==Yo&&env.scope.kind==.function&&env.kindOf n==J _)then NameKind.cell else k) x _
def Gd.comp{T:Tb}{Γ:Gm}{X:Cx}{Y:Yx}{E:XK}{k:Nat}(G:Gd T Γ X Y E k)(NC:List _)(scope:Scope)(C:Yj)(s3:Yb)(H3:Hp)(fp:List _)(nd:NC.Nodup):Gd T ⟨NC,scope,Γ.fs,Ws,Γ.kl⟩ (ZF X NC scope C s3 H3 fp) Y E0 k:=by
 refine⟨⟨G.gk.K,G.gk.mg,G.gk.gd,G.gk.g,G.gk.bare⟩,rfl,(λh=>by cases h),λx hx=>?_,λx hx=>?_,nd,rfl,G.room,G.h60,ZiT,G.defs,G.blt,G.room1,G.cls,G.mts,G.mks⟩
 . show Vis (relabel _ _) x;unfold Vis;rw[ZaZ];unfold Zr3 at hx;rw[Wo,Wo]at hx;rcases hx with (hx|hx)|hx
   . rw[of_decide_eq_true hx];exact .inl rfl
   . rw[of_decide_eq_true hx];exact .inr (.inl rfl)
   . rw[of_decide_eq_true hx];by_cases q:(X.env.scope.kind==.function&&X.env.kindOf x==J .cell)=Wr
     . refine .inr (.inl ?_);have:(Yo==Yo&&X.env.scope.kind==.function&&X.env.kindOf x==J .cell)=Wr:=by simpa using q
       simp only[Yv,this,if_true]
     . refine .inr (.inr ?_);have:¬ ((Yo==Yo&&X.env.scope.kind==.function&&X.env.kindOf x==J .cell)=Wr):=by simpa using q
       simp only[Yv,this,if_false];rfl
 . show(relabel _ _).names.lookup x=J _;rw[ZaZ,hx];rfl
section
variable {T:Tb}{Y:Yx}{E:XK}{Z:L2.St}{H:Hp}{Q:VK}
def Zsl{a b:Ex}{f:D->D->Hd->qe D}(s:Sm Y E (RD Y) (λS h=>(ev T a S h).bind λx R=>(ev T b S R).bind λy h2=>f x y h2) Z H Q):ZaJ T Y E a Z H λx H1=>ZaJ T Y E b Z H1 λy H2=>rB Y E f x y H2 Q:=s.bind λS d R x H1 μ1 c g rd i=>⟨_,_,_,c,g,i.bind λe h2 y H2 μ2 _ j k l m=>⟨d,e,_,_,k,rd.mono c j,l,m⟩⟩
end
def ZwX{T:Tb}{Γ:Gm}{X:Cx}{Y:Yx}{E:XK}{k:Nat}(G:Gd T Γ X Y E k)(f:Bf)(hb:bok f=Wr){e:Expr}{es:List Expr}{t:TA}{p pos:Pos}(hg:Gl X (ZnP f))(ha:PA X (e::es) t)
 (he:YA (e::es) X.env=(Ws,eval e X.env)::YA es X.env) (aW:(YR pos<|YA es X.env).any (·.1)=Ws):PE X (.Call (.Name (ZnP f) p) (e::es) [] pos) (tCB (rF Y E<|Zb6 T.GD f) t):=by
 have hY:=G.gk.K;cases f with
 |len=>exact Zd7 (Zt1 hY) hg (G.blt _<|by decide) (by decide +kernel) ha (by decide) (by decide) he aW
 |isi=>exact Zd7 (Zt2 hY) hg (G.blt _<|by decide) (by decide +kernel) ha (by decide) (by decide) he aW
 |int=>cases hb
 |tup=>exact Zoz (ZtY hY) hg (G.blt _<|by decide) (by decide +kernel) ha (by decide) (by decide) he aW
 |lst=>cases hb
 |sum=>exact Zd7 (ZtZ G.room.hd hY) hg (G.blt _<|by decide) (by decide +kernel) ha (by decide) (by decide) he aW
 |srt=>exact Zd7 (Zt0 G.room.hd G.gk) hg (G.blt _<|by decide) (by decide +kernel) ha (by decide) (by decide) he aW
set_option tactic.hygienic true
def Zie{v}(rd:∀H B,RD Y H B d v)(p:PE X x (tC v)):PE X x (ZaJ T Y E<|.cst d):=PE.imp p λZ H Q s=>by
 cases s with
 |mk S h B a b f=>exact Fin.ok (r:=rd H _) (f) a
def Zrz(G:Gd T Γ X Y E k)(h:Zy6 Γ d x=Wr):PE X x (ZaJ T Y E<|.cst d):=by
 refine bO h (λh=>Zwt (P:=λx=>PE X x _) h λc j q h=>?_) λh=>?_
 . cases d with
   |int i=>cases c with
    |int j=>exact dS (P:=λi=>PE X _<|ZaJ T Y E<|.cst<|.int i) h (Zie (λ_ _=>.int _) Zqq)
    |_=>exact ff h
   |str i=>cases c with
    |str j=>exact dS (P:=λi=>PE X _<|ZaJ T Y E<|.cst<|.str i) (bL h) (Zie (λ_ _=>.str _<|bR h) ZvR)
    |_=>exact ff h
   |bl i=>cases c with
    |bool j=>exact dS (P:=λi=>PE X _<|ZaJ T Y E<|.cst<|.bl i) h (Zie (λ_ _=>.bl _) Zyd)
    |_=>exact ff h
   |non=>cases c with
    |none=>exact Zie (λ_ _=>.non) Zqn
    |_=>exact ff h
   |_=>exact ff h
 . cases d with
   |ty n=>
    refine Zpf (P:=λx=>PE X x _) h λp h=>?_;obtain⟨g1,g2⟩:=G.gl<|bR h;have all:(ZmR.all λn=>Wu (bootBuiltins (Str.ofString n)=J (.type n))&&(Wu (Str.ofString n ≠ "__name__")&&Wu (Str.ofString n∈ZnQ)))=Wr:=by decide +kernel
    have a:=OC.mp all n<|of_decide_eq_true<|bL h;exact Zie (λ_ _=>.ty _) (ZsT g1 (G.blt _<|of_decide_eq_true<|bR<|bR a) (of_decide_eq_true<|bL a) rfl (of_decide_eq_true<|bL<|bR a) g2)
   |_=>exact ff h
def qe.bind_eq{α β}{r:qe α}{k}{b:β}{h}(e:r.bind k=.ok b h):∃a R,r=.ok a R/\k a R=.ok b h:=by
 cases r with
 |bad=>cases e
 |ok a R=>exact⟨a,_,rfl,e⟩
 |exc c R=>cases e
def qe.bind_assoc{α β γ}{r:qe α}{k}{l:β->Hd->qe γ}:(r.bind k).bind l=r.bind λa h=>(k a h).bind l:=by cases r<;>rfl
def Zv6(e:opC GD op x y h=.ok r h'):∃b,r=.bl b:=by
 have a:∀{f},ZjC f x y h=.ok r h'->∃b,r=.bl b:=λe=>by
  unfold ZjC at e;split at e
  . cases e;exact⟨_,rfl⟩
  trivial
 have eq:∀{n},ZdW n x y h=.ok r h'->∃b,r=.bl b:=λe=>by
  unfold IV.ZdW at e;split at e
  . split at e
    . cases e;exact⟨_,rfl⟩
    trivial
  trivial
 have inn:∀{n},ZdK GD n x y h=.ok r h'->∃b,r=.bl b:=λe=>by
  unfold ZdK at e;split at e
  . split at e
    . cases e;exact⟨_,rfl⟩
    trivial
  . split at e
    . cases e;exact⟨_,rfl⟩
    . cases e
 have c:∀{n:Bool},opN n x y h=.ok r h'->∃b,r=.bl b:=λe=>by
  unfold opN at e;split at e
  . cases e;exact⟨_,rfl⟩
  . cases e
 unfold opC at e;split at e
 . exact eq e
 . exact eq e
 . exact a e
 . exact a e
 . exact a e
 . exact a e
 . exact inn e
 . exact inn e
 . exact c e
 . exact c e
def Zyu(m):Slot "list" (ZqL m) (mid m)/\typeOf (.builtin<|mid m)=pure (.type "method_descriptor"):=by
 cases m with
 |app=>exact⟨PySem.F.slot_list_append,PySem.F.type_list_append⟩
 |ext=>exact⟨PySem.F.slot_list_extend,PySem.F.type_list_extend⟩
 |pop=>exact⟨PySem.F.slot_list_pop,PySem.F.type_list_pop⟩
 |rev=>exact⟨PySem.F.slot_list_reverse,PySem.F.type_list_reverse⟩
 |clr=>exact⟨PySem.F.slot_list_clear,PySem.F.type_list_clear⟩
section
variable {Y:Yx}{α β α' β':Type}{rel:Hp->List Yj->α->β->Prop}{aV:Hp->List Yj->α'->β'->Prop}{H0 H H1:Hp}{μ0 B μ1:List Yj}{E:XK}
def Fin.bindB(g0:Gr H0 μ0 H B)(f:Fin Y aV H0 μ0 (r.bind k) Q E)
 (hk:∀a R b H1 μ1,r=.ok a R->Gr H B H1 μ1->RH Y H1 μ1 R->rel H1 μ1 a b->Fin Y aV H0 μ0 (k a R) Q E->Q1 b H1):Fin Y rel H B r Q1 E:=by
 cases r with
 |bad=>exact f
 |ok a h=>exact λb H' μ' d e g=>hk a h b _ _ rfl d e g f
 |exc c h=>exact λH' μ' C d=>f _ _ C (g0.I d)
theorem Fin.plain(f:Fin Y aV H0 μ0 (r.plain.bind k) Q E)
 (hk:∀a R b H1 μ1,r=.ok a R->Gr H B H1 μ1->RH Y H1 μ1 R->rel H1 μ1 a b->Fin Y aV H0 μ0 (k a R) Q E->Q1 b H1):Fin Y rel H B r Q1 E0:=by
 cases r with
 |bad=>exact f
 |ok a h=>exact λb H' μ' d e g=>hk a h b _ _ rfl d e g f
 |exc c h=>exact f.elim
end
def ZkN:List Nat->TGs
 |[]=>ZoT
 |i::is=>ZfX (ZbW i) (ZkN is)
def tgR(K:Yl):Tg->TG
 |.nm i=>ZbW i
 |.two i j=>ZtD K 2 (ZfX (ZbW i)<|ZfX (ZbW j) ZoT)
 |.many is=>ZtD K is.length (ZkN is)
theorem Zkj:∀is ,is.foldr max 0<k->Zlp k (ZkN is)
 |[],_=>ZmT
 |i::is,h=>by simp at h;exact Zhp (by lia) (Zkj _<|by lia)
def Zxv(K)(g):ZmK (tgk g) (tgR K g):=by
 cases g with
 |nm i=>exact Zsa (OH i)
 |two i j=>exact Zpy (Zhp (show i<max i j+1 by lia)<|Zhp (show j<max i j+1 by lia) ZmT)
 |many is=>exact Zpy (Zkj _<|OH _)
theorem ZgE:∀(is) (es),ZnL N own is es=Wr->(assignEach es env).length=is.length/\List.findIdx? (λx=>x.fst) (assignEach es env)=M
 |[],[],_=>⟨rfl,rfl⟩
 |i::is,e::es,h=>by
  obtain⟨a,b⟩:=ZgE _ _<|bR h;refine Za1 (bL h) λx p _ _=>⟨congrArg _ a,?_⟩
  simp only[assignEach,List.findIdx?_cons,b];rfl
 |[],_::_,h=>ff h
 |_::_,[],h=>ff h
theorem ZkA(hN:X.N=N)(nd:X.N.Nodup)(ho:∀x,own x=Wr->Loc X.env.scope x/\(X.fn x=Wr\/X.env.scope.names.lookup x=J .local)):∀(is) (es),ZnL N own is es=Wr->PGs X es (ZkN is)
 |[],[],_=>Zjy
 |i::is,e::es,h=>Za1 (bL h) λx p b a=>Zd6 (Zjz nd (by rw[hN];trivial) (ho _ a).1 (ho _ a).2) (ZkA hN nd ho _ _<|bR h)
 |[],_::_,h=>ff h
 |_::_,[],h=>ff h
def Znc(hN:X.N=N)(nd:X.N.Nodup)(hc:X.calm=Wr)(ho:∀x,own x=Wr->Loc X.env.scope x/\(X.fn x=Wr\/X.env.scope.names.lookup x=J .local))(h:ZtT N own g tg=Wr):PG X tg (tgR X.K g):=by
 have nm:∀{i x p},N[i]?=J x->own x=Wr->PG X (.Name x p) _:=λd c=>Zjz nd (by rw[hN];trivial) (ho _ c).1 (ho _ c).2;cases g with
 |nm i=>exact Za1 h λx p d c=>nm d c
 |two i j=>exact Ziy (h) λe k q h=>ZuA h λa b h=>Za1 (bL h) λx p d c=>Za1 (bR h) λy r f l=>Zqk hc (Zd6 (nm d c)<|Zd6 (nm f l) Zjy)
 |many is=>exact Ziy (h) λe k q h=>Zqk (hn:=(ZgE _ _ h).1) (hst:=(ZgE _ _ h).2) hc (ZkA hN nd ho _ _ h)
theorem Znn:∀(is) {ds}{vs}{S}{Z},RDs Y H B ds vs->RS Y H B S Z->ds.length=is.length->(∀σ1,RS Y H B (Zlz is ds S) σ1->Q σ1 H)->ZkN is vs Z H Q
 |[],ds,vs,S,Z,r,b,c,q=>by
  cases r with
  |nil=>exact⟨rfl,q _ b⟩
  |cons a s=>trivial
 |i::is,ds,vs,S,Z,r,b,c,q=>by
  cases r with
  |nil=>trivial
  |cons a s=>exact⟨_,_,rfl,Znn _ s (b.set a) (by simpa using c) q⟩
def Zj2{Y}{K}{Q}(hY:Y.K=K)(r:RD Y H B d v)(rs:RS Y H B S Z)(e:ZbK g d S=J ρ1)(q:∀σ1,RS Y H B ρ1 σ1->Q σ1 H):tgR K g v Z H Q:=by
 cases g with
 |nm i=>cases e;exact q _ (rs.set r)
 |two i j=>
  unfold ZbK at e;simp at e;split at e
  . cases e;obtain⟨a,c,rfl,t,s⟩:=r.tup_inv;obtain⟨x,y,rfl,f,h⟩:=s.two;exact⟨a,_,rfl,hY▸t,rfl,x,_,rfl,y,_,rfl,rfl,q _<|(rs.set f).set h⟩
  trivial
 |many is=>
  unfold ZbK at e;simp at e;split at e
  . split at e
    . rename_i b;cases e;obtain⟨a,c,rfl,t,s⟩:=r.tup_inv;exact⟨a,_,rfl,hY▸t,by rw[<-s.length,b],Znn _ s rs b q⟩
    trivial
  trivial
section
variable {Y:Yx}{H:Hp}{B:List Yj}{h:Hd}{Dd:Yj}{ys zs:List V}
def ZpG{K}(hD:H Dd=J (.lst ys))(t:SqT K H a vs):SqT K (upd H Dd<|.lst zs) a vs:=by
 rcases t with t|t
 . rcases t with t|⟨o,t⟩
   . exact .inl (.inl<|(Zq<|λz=>by simp_all).I t)
   . exact .inl (.inr ⟨o,(Zq<|λz=>by simp_all).I t⟩)
 . exact .inr t
def Zrg{K}(hD:H Dd=J (.lst ys))(t:FzL K H a vs):FzL K (upd H Dd<|.lst zs) a vs:=by
 rcases t with⟨o,t⟩|t
 . exact .inl ⟨o,(Zq<|λz=>by simp_all).I t⟩
 . exact .inr t
def Tr.swap(hD:H Dd=J (.lst ys)):Tr Y H B (upd H Dd<|.lst zs) B:=⟨ZpG hD,Zrg hD,id⟩
theorem RH.swap(hD:H Dd=J (.lst ys))(hn:Dd ∉ B)(r:RH Y H B h):RH Y (upd H Dd<|.lst zs) B h:=r.tr (.swap hD) λ_ a=>Zq λz=>hn (z▸a)
def Gr.out(g:Gr H B H' μ')(hD:H Dd=J o)(hn:Dd ∉ B):H' Dd=J o/\Dd ∉ μ':=⟨g.keep _ _ hn hD,λa=>(g.new _ a).elim hn λz=>by simp_all⟩
end
inductive CwS(Y:Yx)(H1:Hp)(μ1:List Yj)(xs:List D)(Dd:Yj)(F:List D->List D->Hd->Prop)(i m:Nat)(ys:List V)(H:Hp):Prop
 |mk (ag:List D) (h:Hd) (B:List Yj) (hi:i<=xs.length) (hm:m=xs.length-i) (g:Gr H1 μ1 H B) (rh:RH Y H B h) (ra:RDs Y H B ag ys) (nd:Dd ∉ B) (f:F (xs.drop i) ag h):CwS Y H1 μ1 xs Dd F i m ys H
def ZnJ{T}{Y}{E}{K}(hY:Y.K=K){js}{g}{c}{e}{tc:TT}{qb}{w}{H1}{μ1}{R}{S}{Z}{Q:VK}{Dd}
 (kH:∀Z H Q,Sm Y E0 eqR (tsto T c) Z H Q->tc Z H Q)
 (rh:RH Y H1 μ1 R) (rs:RS Y H1 μ1 S Z) (wj:WJ Y H1 μ1 w qb) (f:Fin Y (RD Y) H1 μ1 ((ZI w.src g (tsto T c) (ev T e) w.xs (ZbY js S) [] R).bind λxs h2=>ZeY (.lst xs) h2) Q E) (hD:H1 Dd=M) :
 ∃W:Nat->Nat->List V->Hp->Prop,(∃m,W 0 m []<|upd H1 Dd<|.lst []) /\
  ∀i m ys H,W i m ys H->H Dd=J (.lst ys)->(qb.stop i H/\Q (.ref Dd) H) \/
   (qb.go i H/\ys.length<Yc/\∀x H',qb.yld i H x H'->tgR K g x (capt js Z) H' λσ2 H2=>tc σ2 H2 λb H3=>
    if b=Wr then ZaJ T Y E0 e σ2 H3 λy H4=>H4 Dd=J (.lst ys)/\∃m',m'<m/\W (i+1) m' (ys++[y]) (upd H4 Dd<|.lst<|ys++[y])
    else H3 Dd=J (.lst ys)/\∃m',m'<m/\W (i+1) m' ys H3):=by
 refine⟨CwS Y H1 μ1 w.xs Dd λxs ag h=>Fin Y (RD Y) H1 μ1 ((ZI w.src g (tsto T c) (ev T e) xs (ZbY js S) ag h).bind λxs h2=>ZeY (.lst xs) h2) Q E,⟨w.xs.length,[],R,μ1,Yy _,(Nat.sub_zero _).symm,Gr.lay0 hD,rh.lay0 hD,.nil,rh.fr hD,f⟩,?_⟩;rintro i m ys H ⟨ag,h,B,hi,rfl,g1,ac,ra,nD,f1⟩ hl;by_cases ay:i<w.xs.length
 . obtain⟨d,hd⟩:∃d,w.xs[i]?=J d:=⟨_,Og ay⟩
   have fV:w.xs.drop i=d::w.xs.drop (i+1):=by rw[List.drop_eq_getElem_cons ay];have:=Og ay;rw[hd]at this;rw[<-YF this]
   rw[fV,ZI]at f1;by_cases hs:Wk.stays w.src h=Wr/\ag.length<Yc
   . rw[if_pos hs]at f1;obtain⟨go,yl⟩:=(wj H B h g1 ac hs.1).1 i d hd;refine .inr ⟨go,ra.length▸hs.2,λx H' hy=>?_⟩;obtain⟨g2,ak,rx⟩:=yl x H' hy;obtain⟨bM,ky⟩:=g2.out hl nD;split at f1
     . exact f1.elim
     . rename_i ρ1 hb;refine Zj2 hY rx ((rs.mono rh<|g1.I g2).capt js) hb λσ1 ah=>kH σ1 H' _ ⟨ρ1,h,B,ak,ah,?_⟩;rw[qe.bind_assoc]at f1;refine Fin.plain f1 λb h3 b' H3 μ3 _ g3 a9 eb f3=>?_;subst eb;obtain⟨jy,jt⟩:=g3.out bM ky;have jM:=(g1.I g2).I g3;cases b with
       |true=>rw[if_pos rfl]at f3 ⊢;rw[qe.bind_assoc]at f3;refine⟨ρ1,h3,μ3,a9,ah.mono ak g3,Fin.plain f3 λy h4 y' H4 μ4 _ g4 fm ry f4=>?_⟩;obtain⟨iQ,jr⟩:=g4.out jy jt;refine⟨iQ,_,Nat.sub_lt_sub_left ay<|OH i,ag++[y],h4,μ4,ay,rfl,(jM.I g4).put hD,fm.swap iQ jr,((((ra.mono ac g2).mono ak g3).mono a9 g4).append<|.cons ry .nil).tr<|.swap iQ,jr,f4⟩
       |false=>rw[if_neg<|by decide]at f3 ⊢;exact⟨jy,_,Nat.sub_lt_sub_left ay<|OH i,ag,h3,μ3,ay,rfl,jM,a9,(ra.mono ac g2).mono ak g3,jt,f3⟩
   . rw[if_neg hs]at f1;exact f1.elim
 . have he:i=w.xs.length:=by lia
   subst he;rw[List.drop_eq_nil_of_le<|Oq _,ZI]at f1;by_cases hs:Wk.stays w.src h=Wr
   . rw[if_pos hs]at f1;exact .inl ⟨(wj H B h g1 ac hs).2,f1.at (g1.add hD) (ac.add nD ⟨ys,hl,ra.tr .more⟩)<|.ref (by rw[ac.len];simp)⟩
   . rw[if_neg hs]at f1;exact f1.elim
section
variable {Y:Yx}{H:Hp}{B:List Yj}{h:Hd}
theorem RKs.look:∀{fs}{gs:List (Str×V)},RKs Y H B fs gs->(∀d,fs.lookup f=J d->∃v,gs.lookup f=J v/\RD Y H B d v)/\(fs.lookup f=M->gs.lookup f=M)
 |_,_,.nil=>⟨λd e=>by trivial,λ_=>rfl⟩
 |_,_,.cons (k:=k) a s=>by
  by_cases e:f=k
  . simp_all
  . have b:(f==k)=Ws:=by simpa using e
    obtain⟨c,g⟩:=RKs.look s;refine⟨λd z=>?_,λz=>?_⟩
    . rw[OF,b]at z ⊢;exact c d z
    . rw[OF,b]at z ⊢;exact g z
theorem RKs.putAF(r:RD Y H B d v):∀{fs}{gs},RKs Y H B fs gs->RKs Y H B (ZhD f d fs) (Zc7 f v gs)
 |_,_,.nil=>.cons r .nil
 |_,_,.cons (k:=k) a s=>by
  unfold ZhD Zc7;by_cases e:k=f
  . rw[if_pos e,if_pos e];exact .cons r s
  . rw[if_neg e,if_neg e];exact .cons a (RKs.putAF r s)
def ZhP(rh:RH Y H B h)(r:RD Y H B d v)(e:Z8 d h=J (C,fs)):∃i a Ca dx gs,d=.ref i/\v=.ref a/\B[i]?=J a/\h[i]?=J (.ins C fs)/\H a=J (.ins Ca dx gs)/\Y.mg C=J (.ref Ca)/\RKs Y H B fs gs:=by
 unfold Z8 at e;split at e
 . rename_i i;split at e
   . rename_i C' c b;cases e;cases r with
     |ref q=>rename_i a;obtain⟨Ca,dx,gs,z,m,s⟩:=rh.ob i _ a b q;exact⟨i,a,_,_,_,rfl,rfl,q,b,z,m,s⟩
   trivial
 trivial
def Zth(rh:RH Y H B h)(hx:H x=M)(hd:H dx=M)(ne:dx≠x)(m:Y.mg C=J (.ref Ca)):RH Y (upd (upd H dx<|.own x) x<|.ins Ca dx []) (B++[x]) (h++[.ins C []])/\Gr H B (upd (upd H dx<|.own x) x<|.ins Ca dx []) (B++[x]):=⟨(rh.lay0 hd).lay (by rw[Zq<|λz=>ne z.symm];trivial) ⟨Ca,dx,[],Zr,m,.nil⟩,(Gr.lay0 hd).I<|Gr.lay (by rw[Zq<|λz=>ne z.symm];trivial)⟩
end
def ZoI(aM:attributeBase o name env (eval o env)=eval o env)
 (fR:methodCallForm (args.length+([]:List Keyword).length) (YR pos<|YA args env) (backToKw pos<|YZ [] env)=Wr) (aJ:(au.endLine==pos.line)=Wr) :
 eval (.Call (.Attribute o name au) args [] pos) env=(do
  let ov <- eval o env
  standAt au.atName
  let (f,first) <- holding [ov] (getMethod ov name<|do return (<- importBound o env).getD Wr)
  callWith pos f first (YR pos<|YA args env) (backToKw pos<|YZ [] env)):=by
 have a:methodCallPos Wr o env au pos=pure pos:=by unfold methodCallPos;simp[aJ]
 rw[arm_eval_Call,aM];unfold methodCall;simp only[fR,a];rfl
section
variable {T:Tb}{Γ:Gm}{X:Cx}{Y:Yx}{E:XK}{k:Nat}
def Zw2(G:Gd T Γ X Y E k)(hc:(Cs.all λC=>Wu<|C∈Γ.kl.cs)=Wr)(hf:f∈Γ.kl.ats)(rh:RH Y H B h)(rd:RD Y H B d x)(ff:Fin Y (RD Y) H B (Zgz Cs f d h) Q E):
 ∃a C dx fs v,x=.ref a/\H a=J (.ins C dx fs)/\Cls X.K C/\Zby X.K C f/\fs.lookup f=J v/\Q v H:=by
 unfold Zgz at ff;split at ff
 . rename_i C fs e;obtain⟨b,ff⟩:=ff.iff;obtain⟨i,a,Ca,dx,p,rfl,rfl,q,r,z,m,s⟩:=ZhP rh rd e;obtain⟨w,c,ff⟩:=ff.ofO;obtain⟨v,l,g⟩:=(s.look).1 w c;rw[OC]at hc;obtain⟨t,j,n,o⟩:=G.cls C<|of_decide_eq_true<|hc C b;rw[G.gk.mg,j]at m;cases m;exact⟨a,_,_,_,v,rfl,z,n,o f hf,l,ff.ok rh g⟩
 trivial
def ZpM(G:Gd T Γ X Y E k)(hc:(Cs.all λC=>Wu<|C∈Γ.kl.cs)=Wr)(hf:f∈Γ.kl.ats)(rh:RH Y H B h)(rd:RD Y H B d x)(re:RD Y H B e y)(ff:Fin Y (RD Y) H B (Zgo Cs f d e h) Q E):
 ∃a C dx fs,x=.ref a/\H a=J (.ins C dx fs)/\Cls X.K C/\Zby X.K C f/\fs.length<1000/\Q .non (upd H a<|.ins C dx<|Zc7 f y fs):=by
 unfold Zgo at ff;split at ff
 . rename_i i;split at ff
   . rename_i C fs b;obtain⟨⟨c,p⟩,ff⟩:=ff.iff;obtain⟨r,a,Ca,dx,t,g,rfl,q,u,z,m,s⟩:=ZhP rh rd (show Z8 _ h=J (C,fs) by simp[Z8,b]);cases g;rw[OC]at hc;obtain⟨v,j,l,n⟩:=G.cls C<|of_decide_eq_true<|hc C c;have o:=m;rw[G.gk.mg,j]at m;cases m;exact⟨a,_,_,_,rfl,z,l,n f hf,by rw[<-s.length];trivial,ff.at (Gr.write (O1 q) (by rw[z];trivial)) (rh.write q ⟨Ca,dx,_,Zr,o,(RKs.putAF re s).mono rh<|Gr.write (O1 q) (by rw[z];trivial)⟩ (by rw[z];trivial)) .non⟩
   trivial
 trivial
def Zyv(G:Gd T Γ X Y E k)(h2:C∈Γ.kl.is)(h3:glb Γ C=Wr)(h4:chks Γ es ys=Wr)(ha:PA X ys (ZlA T Y E es)):PE X (.Call (.Name C p) ys [] pos) (ZaJ T Y E<|.mk C es):=by
 obtain⟨a,f,L,N,m,o,F,B_⟩:=G.mks _ h2;obtain⟨q,b⟩:=G.gl h3;have c:∀(ds) (R) (g) (H1) (μ1) (Q),RH Y H1 μ1 R->RDs Y H1 μ1 ds g->Fin Y (RD Y) H1 μ1 (Zg7 T.C C ds R) Q E->∀x i,H1 x=M->H1 i=M->i≠x ->
  Zgn T Y (mnm C<|O "__init__") (.ref x::(g++[])) (upd (upd H1 i<|.own x) x<|.ins a i []) (λv H2=>v=.non/\Q (.ref x) H2) E:=by
  intro ds R g H1 μ1 Q j l n x i w z ne;obtain⟨A,b⟩:=Zth j w z ne<|G.gk.mg▸m;have t:(μ1++[x])[R.length]?=J x:=by rw[j.len];simp
  refine⟨.ref R.length::ds,R++[.ins C []],μ1++[x],A,.cons (.ref t) (by rw[Yt];exact l.mono j b),Fin.bind (Fin.mono b n) λd h3 v H3 μ3 _ g3 D I u=>?_⟩;cases d with
  |non=>cases I;exact⟨rfl,u.ok D<|.ref<|g3.pre _ _ t⟩
  |_=>exact u.elim
 cases ys with
 |nil=>
  cases es with
  |nil=>
   exact(Zqp o F G.room1 q m B_ .nil G.pass b).imp λZ H Q s=>by
    cases s with
    |mk S h B K P f=>exact c [] h [] H B Q K .nil f
  |cons e r=>exact ff h4
 |cons y ys=>exact(ZsO o F G.room1 q m B_ .nil G.pass ha b (ZdO X.env h4).1<|(ZdO X.env h4).2 _).imp λZ H Q s=>Sm.bind s λS ds R g H1 μ1 j _ l n=>c ds R g H1 μ1 Q j l n
theorem Zwe(G:Gd T Γ X Y E k)(h5:(C,n)∈Γ.kl.ms)(h3:Zcd xo=Wr)(h4:chks Γ es ys=Wr)(h6:ys.length<29)(h7:(ap.endLine==cp.line)=Wr)(ho:PE X xo (ZaJ T Y E o))(ha:PA X ys (ZlA T Y E es)) :
   PE X (.Call (.Attribute xo n ap) ys [] cp) (ZaJ T Y E<|.mcl C n o es):=by
 obtain⟨a,f,fd,ps,K,c,w,F,B_⟩:=G.mts _ h5;have A:=ZoI (name:=n) (args:=ys) (env:=X.env) (Zgc h3) (by
   unfold methodCallForm;rw [(ZfH Γ X.env es ys h4 _).2];have jL:Wu (ys.length+([]:List Keyword).length+(if (backToKw cp<|YZ [] X.env).isEmpty then 0 else 1)<30)=Wr:=by
     rw [decide_eq_true_eq];show ys.length+0+0<30
     lia
   trivial) h7
 have j:∀ (d:D) (R:Hd) (x:V) (H1:Hp) (μ1:List Yj) (S:Ev) (Z:L2.St) (Q:VK),RH Y H1 μ1 R->RS Y H1 μ1 S Z->RD Y H1 μ1 d x->Fin Y (RD Y) H1 μ1 (match Z8 d R with
       |some (C',fs)=>if C'=C/\fs.lookup n=M then(evs T es S R).bind λL p=>T.C (mnm C n) (d::L) p else .bad
       |none=>.bad) Q E->∃ b l fs,x=.ref b/\H1 b=J (.ins a l fs)/\fs.lookup n=M/\ZlA T Y E es Z H1 λB H2=>Zgn T Y (mnm C n) (x::(B++[])) H2 Q E:=by
   intro d R x H1 μ1 S Z Q h m rd g;split at g
   . rename_i C' fs e;obtain⟨⟨t,u⟩,g⟩:=g.iff;subst t;obtain⟨i,b,Ca,l,N,rfl,rfl,q,hi,z,I,s⟩:=ZhP h rd e;rw [G.gk.mg,K] at I;cases I;refine⟨b,l,N,rfl,z,(s.look (f:=n)).2 u,S,R,μ1,h,m,g.bind λds p B H2 μ2 _ O P U W=>⟨_,p,μ2,P,.cons (rd.mono h O) (by rw [Yt];exact U),W⟩⟩
   . exact g.elim
 cases ys with
 |nil =>
   cases es with
   |nil =>
     exact(Zqo ho c w F G.room B_ .nil G.pass A).imp λZ H Q s=>Sm.bind s λS d R x H1 μ1 h m rd g=>by
       obtain⟨b,l,fs,t,u,e3,s⟩:=j d R x H1 μ1 S Z Q h m rd g;cases s with
       |mk ρ' h' μ' v bJ f'=>exact⟨b,l,fs,t,u,e3,f'.ok v .nil⟩
   |cons e r=>exact ff h4
 |cons y ys=>exact(ZsM ho c w F G.room B_ .nil G.pass ha (ZdO X.env h4).1 ((ZdO X.env h4).2 _) A).imp λZ H Q s=>Sm.bind s λS d R x H1 μ1 h m rd g=>j d R x H1 μ1 S Z Q h m rd g
end
section
variable {X:Cx}{Y:Yx}{E:XK}{H:Hp}{B:List Yj}{h:Hd}
theorem ZmX:∀{xs:List D}{vs:List V}{ss:List Str},RDs Y H B xs vs->strsOf xs=J ss->vs=ss.map .str
 |[],vs,ss,r,e=>by cases r;cases e;rfl
 |d::ds,vs,ss,r,e=>by
  cases r with
  |cons a b=>
   cases a with
   |str x ok=>rw[strsOf]at e;obtain⟨t,c,rfl⟩:=Oo.mp e;rw[ZmX b c];rfl
   |_=>cases e
def Zu6(hY:Y.K=X.K)(ea:V.ref a=.ref b)(t:SqT Y.K H b vs)(s:RDs Y H B xs vs)(rh:RH Y H B h)(ry:RD Y H B y v)
 (f:Fin Y (RD Y) H B (Zo9 (.tup xs) y h) Q E):ZlL X.K (.ref a) [v] H Q:=by
 cases ry with
 |str z ok=>
  unfold Zo9 at f;simp only at f;split at f
  . rename_i c e;obtain⟨d,g,f⟩:=f.ofO;obtain⟨j,i,rfl⟩:=Oo.mp g;have ev:=ZmX s e;subst ev;exact⟨b,c,z,j,ea,rfl,hY▸t,i,f.ok rh<|.int _⟩
  . exact f.elim
 |_=>exact f.elim
end
def Znf{q:Prop}(X:Cx)(hx:Zye scope x=Wr):Loc (relabel scope X.env) x/\(q\/(relabel scope X.env).names.lookup x=J .local):=by exact⟨.inl (by rw[ZaZ,of_decide_eq_true hx];rfl),.inr (by rw[ZaZ,of_decide_eq_true hx];rfl)⟩
def Zpi(e:Zhn (.ref i) h=J w):∃xs,h[i]?=J (.lst xs)/\w=⟨[(i,xs)],xs⟩:=by
 unfold Zhn at e;simp only at e;split at e
 . cases e;exact⟨_,by assumption,rfl⟩
 . cases e
def Zxm{X:Cx}{R:Hd}(K:Y.K=X.K)(rh:RH Y H1 μ1 R)(r:RD Y H1 μ1 d v)(il:ZgT d R=Wr):tyV X.K "list" v H1:=by
 cases r with
 |ref q=>
  rename_i i a;have:∃b,R[i]?=J (.lst b):=by
   unfold ZgT at il;simp only at il;split at il
   . exact⟨_,by assumption⟩
   . cases il
  obtain⟨b,c⟩:=this;obtain⟨f,e,_⟩:=rh.ob i _ a c q;exact .inl ⟨rfl,_,.of e⟩
 |_=>cases il
def Zte(G:Gd T Γ X Y E k)(ho:PE X xo (ZaJ T Y E o))(h3:Zcd xo=Wr)(h4:chks Γ es ys=Wr)(h5:ys.length<29)(h6:(ap.endLine==cp.line)=Wr)(ha:PA X ys (ZlA T Y E es)):
 PE X (.Call (.Attribute xo (ZqL m) ap) ys [] cp) (ZaJ T Y E<|.meth m o es):=by
 obtain⟨c,f⟩:=Zyu m;cases ys with
 |nil=>
  cases es with
  |nil=>exact(ZvW PySem.F.plainAttrs_list c f (Znl (Y:=Y) (E:=E) G.gk.K m) ho (Zgc h3) h6).imp λZ H Q s=>Sm.bind s λS d R x H1 μ1 a g rd b=>⟨Zxm G.gk.K a rd b.iff.1,d,_,_,_,a,rd,.nil,b.iff.2⟩
  |cons e r=>exact ff h4
 |cons y ys=>
  refine(Zyc PySem.F.plainAttrs_list c f (Znl (Y:=Y) (E:=E) G.gk.K m) ho ha (Zgc h3) ?_ h6 (ZdO _ h4).1<|(ZdO _ h4).2 _).imp λZ H Q s=>Sm.bind s λS d R x H1 μ1 a g rd b=>⟨Zxm G.gk.K a rd b.iff.1,_,_,_,a,g,b.iff.2.bind λds p q H2 μ2 _ h i j l=>⟨d,_,_,_,i,rd.mono a h,j,l⟩⟩
  rw[(ZfH _ _ _ _ h4 _).2];have n:Wu ((y::ys).length+([]:List Keyword).length+(if ([]:List Keyword).isEmpty then 0 else 1)<30)=Wr:=by rw[decide_eq_true_eq];exact Nat.lt_succ_of_lt h5
  rw[n];rfl
def ZAl(hb:∀d h',e=.ok d h'->∃c,d=.bl c)(f:Fin Y eqR H B (e.bind λx R=>qe.ofO (Zfk GD x R) R) Q E):Fin Y (RD Y) H B e (λv H'=>∃c,v=.bl c/\Q c H') E:=
 f.bind λd R x H1 μ1 er g a rd b=>by obtain⟨c,rfl⟩:=hb d _ er;cases rd;exact⟨c,rfl,Fin.ok (show Fin Y _ _ _ _ Q E from b) a rfl⟩
def ZAm{f:D->D->Hd->qe D}(hf:∀x y h d h',f x y h=.ok d h'->∃c,d=.bl c)(s:Sm Y E eqR (λS h=>((ev T a S h).bind λx R=>(ev T b S R).bind λy h2=>f x y h2).bind λx R=>qe.ofO (Zfk T.GD x R) R) Z H Q):
 ZaJ T Y E a Z H λx H1=>ZaJ T Y E b Z H1 λy H2=>rB Y E f x y H2 λv H3=>∃c,v=.bl c/\Q c H3:=by
 cases s with
 |mk S h B e g q=>refine Zsl ⟨_,h,_,e,g,ZAl (λd h' er=>?_) q⟩;obtain⟨_,_,_,er⟩:=qe.bind_eq er;obtain⟨_,_,_,er⟩:=qe.bind_eq er;exact hf _ _ _ _ _ er
def ZtR(G:Gd T Γ X Y E k)(ha:PE X l (ZaJ T Y E a))(hb:PE X r (ZaJ T Y E b))(hm:Zfl r=Wr):PT X (.Compare l [op] [r] pos) (Zoe T Y E<|.ex<|.cmp op a b):=(Zm9 (Zqy (E:=E) G.room G.h60 G.gk _) ha hb<|Znm hm).imp λ_ _ _ s=>ZAm (f:=opC _ _) (λ_ _ _ _ _=>Zv6) s
def ZwY{r:qe α}:r.bind qe.ok=r:=by cases r<;>rfl
def Zum{X:Cx}(hY:Y.K=X.K)(rh:RH Y H B h)(r:RD Y H B d v)(f:Fin Y rel H B ((shD d h).bind k) Q E):∃p,Dp X.K H v p/\L2.Zsj p=Wr/\Fin Y rel H B (k p.shown h) Q E:=by
 unfold shD at f;split at f
 . rename_i p a;split at f
   . rename_i ok;exact⟨p,hY▸ZfM rh r a,ok,f⟩
   . exact f.elim
 . exact f.elim
def rpE{X:Cx}(G:Gd T Γ X Y E k)(hg:glb Γ (O "repr")=Wr)(ha:PE X y t)(hy:Z9 y=Wr):PE X (.Call (.Name (O "repr") p) [y] [] q) (tCB (Zm6 X.K)<|ZmV t Zn7):=Zd7 (Zo2 G.room) (G.gl hg).1 (G.blt _<|by decide) (by decide +kernel) (Zcu ha Zd9<|Zw X.env hy) (by decide) (by decide) (Zw X.env hy) rfl
def rp2{X:Cx}(hY:Y.K=X.K){Q':VK}(s:Sm Y E rel (λS h=>(ev T (.rpn o a b) S h).bind k) Z H Q)(hq:∀c R H1 μ1,RH Y H1 μ1 R->Fin Y rel H1 μ1 (k (.bl c) R) Q E->Q' (.bl c) H1):
 tOp (ZxY o) (tCB (Zm6 X.K)<|ZmV (ZaJ T Y E a) Zn7) (tCB (Zm6 X.K)<|ZmV (ZaJ T Y E b) Zn7) Z H Q':=by
 cases s with
 |mk S h B n r f=>
  have f:Fin Y rel H B ((ev T a S h).bind λx R=>(shD x R).bind λp R=>(ev T b S R).bind λy i=>(shD y i).bind λq j=>k (.bl<|bif o then !Wu (p=q)else Wu (p=q)) j) Q E:=by have q:=f;rw[show ev T (.rpn o a b) S h=(ev T a S h).bind λx R=>(shD x R).bind λp R=>(ev T b S R).bind λy i=>(shD y i).bind λq j=>.ok (.bl<|bif o then !Wu (p=q)else Wu (p=q)) j from rfl,qe.bind_assoc]at q;simpa only[qe.bind_assoc,qe.bind_ok]using q
  refine⟨S,h,B,n,r,f.bind λd R x H1 μ1 _ g t rd l=>?_⟩;obtain⟨p,dp,ok,l⟩:=Zum hY t rd l;refine⟨x,p,rfl,dp,ok,S,R,μ1,t,r.mono n g,l.bind λe i y H2 μ2 _ A u v m=>?_⟩;obtain⟨q,w,z,m⟩:=Zum hY u v m;exact⟨y,q,rfl,w,z,_,_,rfl,rfl,hq _ i H2 μ2 u m⟩
def Zov(G:Gd T Γ X Y E k)(he:PE X x (ZaJ T Y E e))(R:ZlQ x=Wr):PT X x (Zoe T Y E<|.ex e):=
 (Zqb he<|(kdE x).tr R _).imp λZ H Q s=>Sm.bind s λS d R x H1 μ1 c g rd a=>by obtain⟨b,f,a⟩:=a.ofO;exact⟨b,Zr8 G.gk.K c rd f,a.ok c rfl⟩
def ZmS(T:Tb)(Y:Yx)(E:XK):Exs->List (TE×TE)
 |.nil=>[]
 |.cons k r=>match r with
  |.nil=>[]
  |.cons v a=>(ZaJ T Y E k,ZaJ T Y E v)::ZmS T Y E a
section
variable {Y:Yx}{H:Hp}{B:List Yj}{Dd:Yj}{ys zs:List (Key×V)}
def Zob{K:Yl}(hD:H Dd=J (.dK ys))(t:SqT K H a vs):SqT K (upd H Dd<|.dK zs) a vs:=by
 rcases t with t|t
 . rcases t with t|⟨o,t⟩
   . exact .inl (.inl<|(Zq<|λz=>by simp_all).I t)
   . exact .inl (.inr ⟨o,(Zq<|λz=>by simp_all).I t⟩)
 . exact .inr t
def ZoU{K:Yl}(hD:H Dd=J (.dK ys))(t:FzL K H a vs):FzL K (upd H Dd<|.dK zs) a vs:=by
 rcases t with⟨o,t⟩|t
 . exact .inl ⟨o,(Zq<|λz=>by simp_all).I t⟩
 . exact .inr t
def Tr.swapD(hD:H Dd=J (.dK ys)):Tr Y H B (upd H Dd<|.dK zs) B:=⟨Zob hD,ZoU hD,id⟩
end
inductive RPs(Y:Yx)(H:Hp)(B:List Yj):List D->List (V×V)->Prop
 |nil:RPs Y H B [] []
 |cons {k v:D}{r:List D}{x y:V}{ps:List (V×V)}:RD Y H B k x->RD Y H B v y->RPs Y H B r ps->RPs Y H B (k::v::r) ((x,y)::ps)
theorem RPs.pairs:∀{ds:List D}{ps:List _}{kvs:List _},RPs Y H B ds ps->Zd8 ds=J kvs->∃ai:List _,ps=ai.map (λkv=>(kV kv.1,kv.2))/\RKs Y H B kvs ai
 |_,_,_,.nil,e=>by cases e;exact⟨_,rfl,.nil⟩
 |_,_,_,.cons a b s,e=>by
  rw[Zd8]at e;split at e
  . rename_i k r c d;cases e;obtain⟨ai,rfl,f⟩:=s.pairs d;have:=ZeS a c;subst this;exact⟨_,rfl,.cons b f⟩
  . cases e
theorem RPs.keysOk:∀{ds:List D}{ps:List _}{kvs:List _},RPs Y H B ds ps->Zd8 ds=J kvs->Zcr kvs
 |_,_,_,.nil,e=>by cases e;intro p hp;cases hp
 |_,_,_,.cons a b s,e=>by
  rw[Zd8]at e;split at e
  . rename_i k r c d;cases e;intro p hp x z;rcases O3.mp hp with rfl|hp
    . exact Zq5 a c x z
    . exact s.keysOk d p hp x z
  . cases e
theorem ZfU:∀{more kvs:List _},Zcr more->Zcr kvs->Zcr (ZcL kvs more)
 |[],kvs,_,h=>h
 |(k,d)::r,kvs,a,h=>ZfU (more:=r) (kvs:=putD _ k d) (λp b=>a p<|Oh _ b) (ZhL h<|λx e=>a _ Oi x e)
theorem RKs.merge:∀{more:List _}{cP:List _}{kvs:List _}{ai:List _},RKs Y H B more cP->RKs Y H B kvs ai->RKs Y H B (ZcL kvs more) (ZhH ai cP)
 |_,_,_,_,.nil,s=>s
 |_,_,_,_,.cons (k:=k) a r,s=>by have z:=RKs.merge r<|s.put k a;exact z
theorem Zqt:∀ (n:Nat) (ps:Exs) {K:List D->Hd->qe D}{H:Hp}{B:List _}{h:Hd}{Q1:List _->Hp->Prop}{Γ:Gm}{ks:List _}{vs:List _},ks.length<=n->chkp Γ ps ks vs=Wr ->
   Gr H0 μ0 H B->RH Y H B h->RS Y H B S Z->Fin Y (RD Y) H0 μ0 ((evs T ps S h).bind K) Q E ->
   (∀ ds R qs H1 μ1,Gr H B H1 μ1->RH Y H1 μ1 R->RPs Y H1 μ1 ds qs->Fin Y (RD Y) H0 μ0 (K ds R) Q E->Q1 qs H1)->Zjp (ZmS T Y E ps) Z H Q1:=by
 intro n;induction n with
 |zero =>
   intro ps K H B h Q1 Γ ks vs s a l b m f o;cases ps with
   |nil=>exact o _ h _ H _ Gr.refl b .nil f
   |cons k r =>
     cases r with
     |nil=>unfold chkp at a;cases a
     |cons v g =>
       unfold chkp at a;simp only at a;split at a
       . simp at s
       . cases a
 |succ n z =>
   intro ps K H B h Q1 Γ ks vs s a l b m f o;cases ps with
   |nil=>exact o _ h _ H _ Gr.refl b .nil f
   |cons k r =>
     cases r with
     |nil=>unfold chkp at a;cases a
     |cons v g =>
       unfold chkp at a;simp only at a;split at a
       . rw [Oa] at a;refine⟨_,h,_,b,m,Fin.bindB l (by
           have e:(evs T (.cons k<|.cons v g) S h).bind K=(ev T k S h).bind λx R=>(ev T v S R).bind λy c=>(evs T g S c).bind λi p=>K (x::y::i) p:=by
             show ((ev T k S h).bind λx R=>((ev T v S R).bind λy c=>(evs T g S c).bind λi p=>qe.ok (y::i) p).bind λi c=>qe.ok (x::i) c).bind K=_;simp only [qe.bind_assoc,qe.bind_ok]
           rw [<-e];exact f) λd R x H1 μ1 _ j t rd A=>?_⟩
         refine⟨S,R,μ1,t,m.mono b j,Fin.bindB (l.I j) A λe c y H2 μ2 _ q u C F=>z g (by simpa using s) (bR a.2) ((l.I j).I q) u ((m.mono b j).mono t q) F λds p qs H3 μ3 w G J L=>?_⟩;exact o _ _ ((x,y)::qs) H3 μ3 ((j.I q).I w) G (.cons ((rd.mono t q).mono u w) (C.mono u w) J) L
       . cases a
def ZtN(ps:Exs)(G:Gd T Γ X Y E k)(i9:ks.length<=15)(hc:chkp Γ ps ks vs=Wr)(hp:PPs X pos ks vs (ZmS T Y E ps))(aY:ks.all (·.isSome)=Wr)(hl:ks.length=vs.length):PE X (.Dict ks vs pos) (ZaJ T Y E<|.dictl ps):=by
 by_cases i:ks=[]
 . subst i;cases vs with
   |cons a b=>cases hl
   |nil=>
    cases ps with
    |cons k r=>
     cases r with
     |nil=>unfold chkp at hc;cases hc
     |cons v C=>unfold chkp at hc;cases hc
    |nil=>refine Zqs.imp λZ H Q ⟨_,h,_,c,_,f⟩ p hp=>?_;exact f.new c hp ⟨_,Zr,.nil⟩ (λp hp=>by cases hp)
 . refine(ZsQ hp aY hl i i9).imp λZ H Q ⟨S,h,B,c,s,f⟩ p hp=>?_;have t:=c.fr hp;refine Zqt ks.length ps (Oq _) hc (Gr.lay0 hp) (c.lay0 hp) (s.mono c<|Gr.lay0 hp) f λds R D H1 μ1 j l m d=>?_;obtain⟨g,n⟩:=j.out (Zr (H:=H)) t;have u:Gr H B H1 μ1:=(Gr.lay0 hp).I j;split at d
   . rename_i e o;obtain⟨w,d⟩:=d.iff;obtain⟨x,rfl,q⟩:=m.pairs o;refine⟨g,x,rfl,by rw[<-q.length];exact w,?_⟩;have y:Fin Y (RD Y) H B (.ok (.ref R.length)<|R++[.dic<|ZcL [] e]) Q E:=d;exact y.at ((u.put hp).add hp) ((l.tr (.swapD g) λ_ A=>Zq λz=>n<|z▸A).add n ⟨_,Zr,((q.merge .nil).tr<|.swapD g).tr .more⟩<|show Zcr (ZcL [] e)from ZfU (m.keysOk o) (λp hp=>by cases hp)) (.ref (by rw[l.len];simp))
   . exact d.elim
mutual
theorem Zs(e:Ex){Γ:Gm}{X:Cx}{E:XK}{k:Nat}{x:Expr}(G:Gd T Γ X Y E k)(h:chk Γ e x=Wr):PE X x (ZaJ T Y E e):=match e,h with
 |.var i,h=>Zys h λx q h=>(ZvO (by rw [G.N];exact of_decide_eq_true<|bL h) (G.vis _<|bL<|bR h) (by simpa using bL (bR<|bR h))<|by simpa using bR (bR<|bR h)).imp λZ H Q s=>by
   cases s with
   |mk S h B rh rs f =>
     obtain⟨d,e,f⟩:=Fin.ofO<|show Fin Y (RD Y) H B (qe.ofO (S[i]?).join h) Q E from f;obtain⟨v,e1,rd⟩:=rs.var e;exact⟨v,e1,f.ok rh rd⟩
 |.cst d,h=>Zrz G h
 |.glo y,h=>Zpf h λq h aa s Z H Q I sm=>by
   cases sm with
   |mk S h' B rh rs f =>
     obtain⟨d,e,f⟩:=Fin.ofO<|show Fin Y (RD Y) H B (qe.ofO (T.G y) h') Q E from f;obtain⟨v,u,hm,rv,rd⟩:=G.gk.g y d e;exact ZsP (G.gl h).1 hm rv (G.gl h).2 aa s Z H Q I (f.ok rh<|rd H B)
 |.bin op a b,h=>Zy9 h λl r q h=>(Zya (Zv7 G.gk.K op) (Zs a G<|bL h)<|Zs b G<|bR h).imp λ_ _ _ s=>Zsl s
 |.cmp op a b,h=>ZnO h λl r q h=>(Znd (Zqy G.room G.h60 G.gk op) (Zs a G<|bL h) (Zs b G<|bL<|bR h)<|Znm<|bR<|bR h).imp λ_ _ _ s=>Zsl s
 |.neg a,h=>ZuV h λx q h=>(Zx8 ZuU<|Zs a G h).imp λZ H Q s=>Sm.bind s λS d R x H1 μ1 ac ah rd f1=>by
   cases rd with
   |int i=>exact⟨i,rfl,Fin.ok f1 ac<|.int _⟩
   |_=>exact f1.elim
 |.nt a,h=>ZuV h λx q h=>(ZvS<|Zs a G h).imp λZ H Q s=>Sm.bind s λS d R x H1 μ1 ac ah rd f1=>by
   cases rd with
   |bl i=>exact⟨i,rfl,Fin.ok f1 ac<|.bl _⟩
   |_=>exact f1.elim
 |.ands es,h=>Ztc h λxs q h=>and_ok es G h
 |.ors es,h=>Ztc h λxs q h=>or_ok es G h
 |.ite c a b,h=>Zz5 h λt x y q h=>(Zqr (tst_ok c G<|bL h) (Zs a G<|bL<|bR h)<|Zs b G<|bR<|bR h).imp λZ H Q s=>Sm.bind s λS d R v H1 μ1 ac ah rd f1=>by
   cases rd;cases d with
   |true=>exact Zl8 ⟨S,R,μ1,ac,ah,f1⟩
   |false=>exact Zl9 ⟨S,R,μ1,ac,ah,f1⟩
 |.tupl es,h=>Ziy h λxs j q h=>(ZvP<|evs_ok es G h).imp λZ H Q s=>Sm.bind s λS d R x H1 μ1 ac ah rd f1=>⟨by rw [<-rd.length];exact f1.iff.1,λp hp=>f1.iff.2.tup ac hp rd⟩
 |.lstl es,h=>Zyy h λxs q h=>(ZvT<|evs_ok es G h).imp λZ H Q s=>Sm.bind s λS d R x H1 μ1 ac ah rd f1=>⟨by rw [<-rd.length];exact f1.iff.1,λp hp=>f1.iff.2.new ac hp ⟨_,Zr,rd.mono ac<|Gr.lay hp⟩⟩
 |.ix a i,h=>Zvh h λx y q h=>(Zyb (Zs3 G.gk) (Zs a G<|bL h) (Zs i G<|bL<|bR h)<|ZpI<|bR<|bR h).imp λ_ _ _ s=>Zsl s
 |.sl a lo hi,h=>ZxJ h λx l u q r h=>(Zql (Zs1 (E:=E) G.gk.K) (Zs a G<|bL h) (evo_ok lo G<|bL<|bR h)<|evo_ok hi G<|bR<|bR h).imp λZ H Q s=>Sm.bind s λS d R x H1 μ1 ac ah rd f1 =>
   ⟨S,R,μ1,ac,ah,Fin.bind f1 λl h2 l' H2 μ2 _ g2 ak rl f2=>⟨S,h2,μ2,ak,ah.mono ac g2,Fin.bind f2 λu h3 u' H3 μ3 _ g3 a9 ru f3=>by
     cases rl;cases ru;exact⟨d,h3,μ3,a9,(rd.mono ac g2).mono ak g3,f3⟩⟩⟩
 |.blt f es,h=>ZcB h λp ys q h=>Zry (bL<|bR h) (bR<|bR h) λy r hs=>(ZwX G f (bL<|bL h) (G.gl<|bR<|bL h).1 (evs_ok es G hs) (ZdO X.env hs).1<|(ZdO X.env hs).2 _).imp λZ H Q s=>Sm.bind s λS d R x H1 μ1 ac ah rd f1=>⟨d,R,μ1,ac,rd,f1⟩
 |.call f es,h=>ZcB h λp ys q h=>Zry (bL<|bR<|bR h) (bR<|bR<|bR h) λy r hs=>by
   obtain⟨ps,hd⟩:=G.defs _<|of_decide_eq_true<|bL h;exact(ZvV hd G.room (G.gl<|bL<|bR h).1 G.pass (evs_ok es G hs) (G.gl<|bL<|bR h).2 (ZdO X.env hs).1<|(ZdO X.env hs).2 _).imp λZ H Q s=>Sm.bind s λS d R x H1 μ1 ac ah rd f1=>⟨d,R,μ1,ac,rd,f1⟩
 |.meth m o es,h=>ZrI h λxo ap ys cp h=>Zte G (Zs o G<|bL h) (bL<|bR h) (bL<|bR<|bR h) (of_decide_eq_true<|bL<|bR<|bR<|bR h) (bR<|bR<|bR<|bR h) (evs_ok es G<|bL<|bR<|bR h)
 |.comp NC js it g c e,h=>Zuw h λaE tg iter bf scope q h=>by
   have S_:=Zk0<|bL<|bR h;rw [<-G.N,<-G.sc (bL h)] at S_;have h:=bR<|bR h;have Gc:=λC s3 H3 fp=>G.comp NC scope C s3 H3 fp S_.nd;refine(ZsR (g:=tgR X.K g) (tc:=Sm Y E0 eqR<|tsto T c) (te:=ZaJ T Y E0 e) S_ rfl G.calm (evi_ok it G<|bL h) (λC s3 H3 fp=>⟨Znc rfl S_.nd rfl (λx hx=>Znf (scope:=scope) X hx)<|bL<|bR<|bR h,ifs_ok c (Gc C s3 H3 fp)<|bL<|bR<|bR<|bR<|bR h,Zs e (Gc C s3 H3 fp)<|bR<|bR<|bR<|bR<|bR h⟩) (Zxv X.K g) (λj hj=>of_decide_eq_true<|OC.mp (bL<|bR<|bR<|bR h) j<|List.mem_range.mpr hj)<|Zly X.env<|bL<|bR h).imp
     λZ H Q s=>Sm.bind s λS w R qb H1 μ1 ac ah wj f1 D hD=>ZnJ G.gk.K (λ_ _ _ z=>z) ac ah wj f1 hD
 |.trev e,h=>ZcB h λp ys q h=>Zaz h λz h=>ZcB h λp' ys q' h=>Zaz h λy h =>
   (Zoy G.calm (G.gl<|bL h).1 (G.blt _<|by decide) (G.gl<|bL<|bR h).1 (G.blt _<|by decide) (Zcu (Zs e G<|bL<|bR<|bR h) Zd9<|Zw X.env<|bR<|bR<|bR h)<|Zw X.env<|bR<|bR<|bR h).imp λZ H Q s=>Sm.bind s λS d R x H1 μ1 ac ah rd f1=>by
     cases d with
     |tup xs =>
       cases xs with
       |nil=>exact f1.elim
       |cons y ys =>
         obtain⟨a,vs,rfl,t,s⟩:=rd.tup_inv;exact⟨a,vs,rfl,G.gk.K▸t,(λz=>by have:=s.length;rw [z] at this;cases this),λp hp=>f1.tup ac hp s.reverse⟩
     |_=>exact f1.elim
 |.tix o e,h=>ZrI h λxo ap ys cp h=>Zaz h λy h=>by
   have st:=bL<|bR<|bR<|bR h;refine(ZvQ G.gk.bare (Zs o G<|bL h) (Zcu (Zs e G<|bL<|bR<|bR h) Zd9<|Zw X.env st) (Zgc<|bL<|bR h) ?_ (bR<|bR<|bR<|bR h)<|Zw X.env st).imp λZ H Q s=>Sm.bind s λS d R x H1 μ1 ac ah rd f1=>?_
   . rw [Zw X.env st];rfl
   . obtain⟨il,f1⟩:=f1.iff;cases d with
     |tup xs =>
       obtain⟨a,vs,rfl,t,s⟩:=rd.tup_inv;refine⟨⟨a,vs,rfl,G.gk.K▸t⟩,S,R,μ1,ac,ah,f1.bind λy h2 v H2 μ2 _ g2 ak ry f2=>?_⟩;obtain⟨a2,jd,ea,t2,s2⟩:=(rd.mono ac g2).tup_inv;exact Zu6 G.gk.K ea t2 s2 ak ry f2
     |_=>cases il
 |.rpn o a b,h=>ZnO h λl r q h=>ZcB h λp ys q' h=>Zaz h λy h=>ZcB h λp2 zs q2 h=>Zaz h λz h=>(Znd Zqv (rpE G (bL h) (Zs a G<|bL<|bR h)<|bL<|bR<|bR h) (rpE G (bL h) (Zs b G<|bL<|bR<|bR<|bR h)<|bR<|bR<|bR<|bR h) rfl).imp λZ H Q s =>
   rp2 G.gk.K (k:=qe.ok) (rel:=RD Y) (Q:=Q) (by simp only [ZwY];exact s) λc R H1 μ1 ac f1=>f1.ok ac (.bl _)
 |.any,h=>λaa s Z H Q I sm=>by
   cases sm with
   |mk S h B rh rs f=>exact f.elim
 |.att Cs o f,h=>Zt7 h λx q h=>(ZvU (Zs o G<|bL h)<|Zgc<|bL<|bR h).imp λZ H Q s=>Sm.bind s λS d R x H1 μ1 ac ah rd f1=>Zw2 G (bL<|bR<|bR h) (of_decide_eq_true<|bR<|bR<|bR h) ac rd f1
 |.mk C es,h=>ZcB h λp ys q h=>Zyv G (of_decide_eq_true<|bL h) (bL<|bR h) (bR<|bR h) (evs_ok es G<|bR<|bR h)
 |.mcl C m o es,h=>ZrI h λxo ap ys cp h=>Zwe G (of_decide_eq_true<|bL<|bR<|bR<|bR h) (bL<|bR h) (bL<|bR<|bR h) (of_decide_eq_true<|bL<|bR<|bR<|bR<|bR h) (bR<|bR<|bR<|bR<|bR h) (Zs o G<|bL h) (evs_ok es G<|bL<|bR<|bR h)
 |.maxd a d,h=>ZuG h λp ys z r q h=>Zaz h λy h=>(ZsN (G.gl<|bL h).1 (G.blt _<|by decide) G.calm (Zs a G<|bL<|bR h) (Zs d G<|bR<|bR<|bR h)<|Zw X.env<|bL<|bR<|bR h).imp λZ H Q s=>Sm.bind s λS x R v H1 μ1 ac ah rx f1 =>
   ⟨S,R,μ1,ac,ah,Fin.bind f1 λy h2 u H2 μ2 _ g2 ak ry f2=>by
     cases ry with
     |int d =>
       obtain⟨r,er,f2⟩:=Fin.ofO<|show Fin Y (RD Y) H2 μ2 (qe.ofO (((lstOf x h2).bind intsOf).map λns=>.int<|Zgv ns d) h2) Q E from f2;obtain⟨ns,e2,rfl⟩:=Oo.mp er;obtain⟨zs,e3,e4⟩:=Option.bind_eq_some_iff.mp e2;obtain⟨a,vs,rfl,hl,rv⟩:=(rx.mono ac g2).lstOf ak e3;rw [ZhO rv e4] at hl;exact⟨a,ns,d,rfl,rfl,G.gk.K▸hl,f2.ok ak<|.int _⟩
     |_=>exact f2.elim⟩
 |.dictl ps,h=>ZAf h λks vs q h=>ZtN ps G (of_decide_eq_true<|bL h) (bR h) (pairs_ok ps G<|bR h).1 (pairs_ok (pos:=q) ps G<|bR h).2.1 (pairs_ok (pos:=q) ps G<|bR h).2.2
theorem evs_ok(e:Exs){Γ:Gm}{X:Cx}{E:XK}{k:Nat}{x:List Expr}(G:Gd T Γ X Y E k)(h:chks Γ e x=Wr):PA X x (ZlA T Y E e):=match e,x,h with
 |.nil,[],h=>Zd9.imp λZ H Q s=>by
  cases s with
  |mk S h B rh rs f=>exact Fin.ok (show Fin Y (RDs Y) H B (.ok [] h) Q E from f) rh .nil
 |.nil,_::_,h=>ff h
 |.cons e r,[],h=>ff h
 |.cons e r,y::ys,h=>(Zcu (Zs e G<|bL h) (evs_ok r G<|bR<|bR h)<|Zw X.env<|bL<|bR h).imp λZ H Q s=>Sm.bind s λS d R x H1 μ1 ac ah rd f1=>⟨S,R,μ1,ac,ah,f1.bind λds h2 xs H2 μ2 _ g2 ak bN f2=>f2.ok ak<|.cons (rd.mono ac g2) bN⟩
theorem and_ok(e:Exs){Γ:Gm}{X:Cx}{E:XK}{k:Nat}{x:List Expr}{pos:Pos}(G:Gd T Γ X Y E k)(h:chks Γ e x=Wr):PE X (.BoolOp .And x pos) (ZaJ T Y E<|.ands e):=match e,x,h with
 |.nil,x,h=>λaa s Z H Q I sm=>by
  cases sm with
  |mk S h B rh rs f=>exact f.elim
 |.cons e r,[],h=>ff h
 |.cons e .nil,[y],h=>(Zqm<|Zs e G<|bL h).imp λZ H Q q=>q
 |.cons e .nil,y::z::zs,h=>ff (bR<|bR h)
 |.cons e (.cons e' r'),[y],h=>ff (bR<|bR h)
 |.cons e (.cons e' r'),y::z::zs,h=>(ZvX (Zs e G<|bL h)<|and_ok (.cons e' r') G<|bR<|bR h).imp λZ H Q s=>Sm.bind s λS d R x H1 μ1 ac ah rd f1=>by
  cases rd with
  |bl c=>
   refine⟨c,rfl,?_⟩;cases c with
   |true=>exact Zl8 ⟨S,R,μ1,ac,ah,f1⟩
   |false=>exact Zl9 (Fin.ok f1 ac<|.bl _)
  |_=>exact f1.elim
theorem or_ok(e:Exs){Γ:Gm}{X:Cx}{E:XK}{k:Nat}{x:List Expr}{pos:Pos}(G:Gd T Γ X Y E k)(h:chks Γ e x=Wr):PE X (.BoolOp .Or x pos) (ZaJ T Y E<|.ors e):=match e,x,h with
 |.nil,x,h=>λaa s Z H Q I sm=>by
  cases sm with
  |mk S h B rh rs f=>exact f.elim
 |.cons e r,[],h=>ff h
 |.cons e .nil,[y],h=>(Zqm<|Zs e G<|bL h).imp λZ H Q q=>q
 |.cons e .nil,y::z::zs,h=>ff (bR<|bR h)
 |.cons e (.cons e' r'),[y],h=>ff (bR<|bR h)
 |.cons e (.cons e' r'),y::z::zs,h=>(Zx9 (Zs e G<|bL h)<|or_ok (.cons e' r') G<|bR<|bR h).imp λZ H Q s=>Sm.bind s λS d R x H1 μ1 ac ah rd f1=>by
  cases rd with
  |bl c=>
   refine⟨c,rfl,?_⟩;cases c with
   |true=>exact Zl8 (Fin.ok f1 ac<|.bl _)
   |false=>exact Zl9 ⟨S,R,μ1,ac,ah,f1⟩
  |_=>exact f1.elim
theorem evo_ok(e:Option Ex){Γ:Gm}{X:Cx}{E:XK}{k:Nat}{x:Option Expr}(G:Gd T Γ X Y E k)(h:chko Γ e x=Wr):PO X x (ZzH T Y E e):=match e,x,h with
 |none,M,h=>ZsH.imp λZ H Q s=>by
  cases s with
  |mk S h B rh rs f=>exact Fin.ok (show Fin Y _ H B (.ok M h) Q E from f) rh rfl
 |none,J _,h=>ff h
 |some e,M,h=>ff h
 |some e,J a,h=>(ZsG<|Zs e G h).imp λZ H Q s=>Sm.bind s λS d R x H1 μ1 ac ah rd f1=>by
  cases rd with
  |int i=>exact⟨i,rfl,Fin.ok f1 ac rfl⟩
  |_=>exact f1.elim
theorem tst_ok(e:Tx){Γ:Gm}{X:Cx}{E:XK}{k:Nat}{x:Expr}(G:Gd T Γ X Y E k)(h:chkt Γ e x=Wr):PT X x (Zoe T Y E e):=match e,h with
 |.ex e,h=>bO h (λh=>Zov G (Zs e G<|bR h)<|bL h) λh=>by
  cases e with
  |cmp op a b=>exact ZnO h λl r q h=>ZtR G (Zs a G<|bL h) (Zs b G<|bL<|bR h) (bR<|bR h)
  |rpn o a b=>exact ZnO h λl r q h=>ZcB h λp ys q' h=>Zaz h λy h=>ZcB h λp2 zs q2 h=>Zaz h λz h=>(Zm9 Zqv (rpE G (bL h) (Zs a G<|bL<|bR h)<|bL<|bR<|bR h) (rpE G (bL h) (Zs b G<|bL<|bR<|bR<|bR h)<|bR<|bR<|bR<|bR h) rfl).imp λZ H Q s=>rp2 G.gk.K s λc R H1 μ1 ac f1=>⟨c,rfl,Fin.ok (show Fin Y eqR H1 μ1 (.ok c R) Q E from f1) ac rfl⟩
  |_=>exact ff h
 |.ands ts,h=>Ztc h λxs q h=>(tand_ok ts G h).pt
 |.ors ts,h=>Ztc h λxs q h=>(tor_ok ts G h).pt
 |.nt t,h=>ZuV h λy q h=>(ZvD<|tst_ok t G h).imp λZ H Q s=>Sm.bind s λS d R x H1 μ1 ac ah rd f1=>by cases rd;exact Fin.ok f1 ac rfl
theorem tand_ok(e:Txs){Γ:Gm}{X:Cx}{E:XK}{k:Nat}{x:List Expr}{pos:Pos}(G:Gd T Γ X Y E k)(h:chkts Γ e x=Wr):PW X (.BoolOp .And x pos) (Zoe T Y E<|.ands e):=match e,x,h with
 |.one t,x,h=>Zaz h λy h=>(Zsz<|tst_ok t G h).imp λZ H Q q=>q
 |.cons t ts,[],h=>ff h
 |.cons t ts,[_],h=>ff (bL<|bR h)
 |.cons t ts,x::y::r,h=>(ZvB (tst_ok t G<|bL h)<|tand_ok ts G<|bR<|bR h).imp λZ H Q s=>Sm.bind s λS d R x H1 μ1 ac ah rd f1=>by
  cases rd;cases d with
  |true=>exact Zl8 ⟨S,R,μ1,ac,ah,f1⟩
  |false=>exact Zl9 (Fin.ok f1 ac rfl)
theorem tor_ok(e:Txs){Γ:Gm}{X:Cx}{E:XK}{k:Nat}{x:List Expr}{pos:Pos}(G:Gd T Γ X Y E k)(h:chkts Γ e x=Wr):PW X (.BoolOp .Or x pos) (Zoe T Y E<|.ors e):=match e,x,h with
 |.one t,x,h=>Zaz h λy h=>(ZvA<|tst_ok t G h).imp λZ H Q q=>q
 |.cons t ts,[],h=>ff h
 |.cons t ts,[_],h=>ff (bL<|bR h)
 |.cons t ts,x::y::r,h=>(Zx3 (tst_ok t G<|bL h)<|tor_ok ts G<|bR<|bR h).imp λZ H Q s=>Sm.bind s λS d R x H1 μ1 ac ah rd f1=>by
  cases rd;cases d with
  |true=>exact Zl8 (Fin.ok f1 ac rfl)
  |false=>exact Zl9 ⟨S,R,μ1,ac,ah,f1⟩
theorem ifs_ok(c:Option Tx){Γ:Gm}{X:Cx}{E:XK}{k:Nat}{x:List Expr}(G:Gd T Γ X Y E k)(h:chkf Γ c x=Wr):PIf X x (Sm Y E eqR<|tsto T c):=match c,x,h with
 |none,[],h=>λaa s Z H Q I sm=>by
  cases sm with
  |mk S h B rh rs f=>exact ZsJ aa s Z H Q I (Fin.ok (show Fin Y eqR H B (.ok Wr h) Q E from f) rh rfl)
 |none,_::_,h=>ff h
 |some t,x,h=>Zaz h λy h=>ZsI (tst_ok t G h)
theorem evi_ok(e:Ix){Γ:Gm}{X:Cx}{E:XK}{k:Nat}{x tg:Expr}(G:Gd T Γ X Y E k)(h:chki Γ e tg x=Wr):PI X tg x (ZzI T Y E e):=match e,h with
 |.pl e,h=>(ZvL<|Zs e G h).imp λZ H Q s=>Sm.bind s λS d R x H1 μ1 ac ah rd f1=>by obtain⟨w,ew,f1⟩:=f1.ofO;exact Zr1 G.gk.K ac rd ew λqb wj=>f1.ok ac wj
 |.rng e,h=>ZcB h λp ys q h=>Zaz h λy h=>(Zox (G.gl<|bL h).1 (G.blt _<|by decide) (Zcu (Zs e G<|bL<|bR h) Zd9<|Zw X.env<|bR<|bR h)<|Zw X.env<|bR<|bR h).imp λZ H Q s=>Sm.bind s λS d R x H1 μ1 ac ah rd f1=>by
  cases rd with
  |int j=>obtain⟨hz,f1⟩:=Fin.iff<|show Fin Y (WJ Y) H1 μ1 (if ZeM j=Wr then .ok ⟨[],ZbQ 0 j.toNat⟩ R else .bad) Q E from f1;exact⟨j,rfl,of_decide_eq_true<|bL hz,of_decide_eq_true<|bR hz,f1.ok ac ZuP⟩
  |_=>exact f1.elim
 |.enu e,h=>ZcB h λp ys q h=>Zaz h λy h=>Zra (bR<|bR<|bR h) λts j r=>(ZsL (G.gl<|bL h).1 (G.blt _<|by decide) (Zcu (Zs e G<|bL<|bR h) Zd9<|Zw X.env<|bL<|bR<|bR h)<|Zw X.env<|bL<|bR<|bR h).imp λZ H Q s=>Sm.bind s λS d R x H1 μ1 ac ah rd f1=>by
  obtain⟨w,ew,f1⟩:=f1.ofO;obtain⟨w0,eK,rfl⟩:=Oo.mp ew;cases d with
  |ro xs=>
   cases eK;cases rd with
   |ro t s=>exact⟨_,rfl,⟨_,G.gk.K▸t.sq⟩,f1.ok ac<|ZmN (Zub G.gk.K ac t s) λH2 μ2 h2 g2 ak st=>⟨_,G.gk.K▸(g2.rdF ac t).sq,s.mono ac g2⟩⟩
  |ref i=>obtain⟨xs,hi,rfl⟩:=Zpi eK;obtain⟨a,vs,rfl,hm,hl,s⟩:=rd.lst ac hi;refine⟨a,rfl,⟨vs,.of hl⟩,f1.ok ac<|ZmN (Zpj hm) λH2 μ2 h2 g2 ak st=>?_⟩;obtain⟨jd,bM,s2⟩:=ak.ob i _ a (Zhr st)<|g2.pre i a hm;exact⟨jd,.of bM,s2⟩
  |_=>cases eK
 |.rev e,h=>ZcB h λp ys q h=>Zaz h λy h=>(ZsK (G.gl<|bL h).1 (G.blt _<|by decide) (Zcu (Zs e G<|bL<|bR h) Zd9<|Zw X.env<|bR<|bR h)<|Zw X.env<|bR<|bR h).imp λZ H Q s=>Sm.bind s λS d R x H1 μ1 ac ah rd f1=>by
  obtain⟨w,ew,f1⟩:=f1.ofO;obtain⟨w0,eK,rfl⟩:=Oo.mp ew;cases d with
  |tup xs=>cases eK;obtain⟨a,vs,rfl,t,s⟩:=rd.tup_inv;exact⟨a,vs,rfl,.inl ⟨G.gk.K▸t,f1.ok ac<|ZuQ G.gk.K ac t s⟩⟩
  |ref i=>obtain⟨xs,hi,rfl⟩:=Zpi<|show Zhn (.ref i) R=J w0 from eK;obtain⟨a,vs,rfl,hm,hl,s⟩:=rd.lst ac hi;exact⟨a,vs,rfl,.inr ⟨.of hl,by rw[<-s.length];exact f1.ok ac<|ZrY hm⟩⟩
  |_=>cases eK
 |.en1 e,h=>ZuG h λp ys z r q h=>Zaz h λy h=>Zra (bL<|bR<|bR<|bR h) λts j tp=>Zwt (bR<|bR<|bR<|bR h) λc jc qc hc=>dS (P:=λc=>PI X _ (.Call _ _ [⟨_,.Constant c _ _,_⟩] _) _) hc <|
  (ZvK (G.gl<|bL h).1 (G.blt _<|by decide) (Zs e G<|bL<|bR h) Zqq<|Zw X.env<|bL<|bR<|bR h).imp λZ H Q s=>Sm.bind s λS d R x H1 μ1 ac ah rd f1=>by
   cases d with
   |tup xs=>obtain⟨a,vs,rfl,t,s⟩:=rd.tup_inv;exact⟨a,rfl,rfl,⟨vs,G.gk.K▸t⟩,f1.ok ac<|ZuR G.gk.K ac t s⟩
   |_=>exact f1.elim
 |.dk e,h=>(Zx7<|Zs e G h).imp λZ H Q s=>Sm.bind s λS d R x H1 μ1 ac ah rd f1=>ZwE ac rd f1
theorem pairs_ok(ps:Exs){Γ:Gm}{X:Cx}{E:XK}{k:Nat}{ks:List (Option Expr)}{vs:List Expr}{pos:Pos}(G:Gd T Γ X Y E k)(h:chkp Γ ps ks vs=Wr):PPs X pos ks vs (ZmS T Y E ps)/\ks.all (·.isSome)=Wr/\ks.length=vs.length:=match ps,ks,vs,h with
 |.nil,[],[],h=>⟨ZsF,rfl,rfl⟩
 |.nil,[],_::_,h=>ff h
 |.nil,_::_,_,h=>ff h
 |.cons e .nil,ks,vs,h=>ff h
 |.cons e (.cons v r'),[],vs,h=>ff h
 |.cons e (.cons v r'),M::_,vs,h=>ff h
 |.cons e (.cons v r'),J _::_,[],h=>ff h
 |.cons e (.cons v r'),J kx::ks,vx::vs,h=>
  let z:=pairs_ok r' (pos:=pos) G (bR<|bR h)
  ⟨Zqh (Zs e G<|bL h) (Zs v G<|bL<|bR h) z.1,z.2.1,congrArg (·+1) z.2.2⟩
end
def Zdn(e:Expr):Bool:=Wu (tgE e≠13)&&Wu (tgE e≠19)
def ZjF(e:Expr):Bool:=Wu (tgE e≠8)
structure PsS where
 a:Expr:=default
 b:Expr:=default
 o:Option Expr:=M
 c:Option Expr:=M
 ts:List Expr:=[]
 xs:List Stmt:=[]
 ys:List Stmt:=[]
 zs:List Stmt:=[]
 hs:List ExceptHandler:=[]
 op:Operator:=.Add
 p:Pos:=default
 s:Stmt:=default
noncomputable def tgS:Stmt->Nat
 |.Return _ _=>1|.Assign _ _ _=>2|.AugAssign _ _ _ _=>3|.Expr _ _=>4|.If _ _ _ _=>5|.While _ _ _ _=>6|.For _ _ _ _ _=>7|.Pass _=>8|.Break _=>9|.Continue _=>10|.Raise _ _ _=>11|.Try _ _ _ _ _=>12|_=>0
noncomputable def prS(s:Stmt):PsS:=match s with
 |.Return o p=>{o:=o,p:=p}
 |.Assign ts a p=>{ts:=ts,a:=a,p:=p}
 |.AugAssign a op b p=>{a:=a,op:=op,b:=b,p:=p}
 |.Expr a p=>{a:=a,p:=p}
 |.If a xs ys p=>{a:=a,xs:=xs,ys:=ys,p:=p}
 |.While a xs ys p=>{a:=a,xs:=xs,ys:=ys,p:=p}
 |.For a b xs ys p=>{a:=a,b:=b,xs:=xs,ys:=ys,p:=p}
 |.Pass p=>{p:=p}
 |.Break p=>{p:=p}
 |.Continue p=>{p:=p}
 |.Raise o c p=>{o:=o,c:=c,p:=p}
 |.Try xs hs ys zs p=>{xs:=xs,hs:=hs,ys:=ys,zs:=zs,p:=p}
 |_=>{s:=s}
noncomputable def mkS(n:Nat)(p:PsS):Stmt:=match n with
 |1=>.Return p.o p.p|2=>.Assign p.ts p.a p.p|3=>.AugAssign p.a p.op p.b p.p|4=>.Expr p.a p.p|5=>.If p.a p.xs p.ys p.p|6=>.While p.a p.xs p.ys p.p|7=>.For p.a p.b p.xs p.ys p.p
 |8=>.Pass p.p|9=>.Break p.p|10=>.Continue p.p|11=>.Raise p.o p.c p.p|12=>.Try p.xs p.hs p.ys p.zs p.p|_=>p.s
def rbS(s:Stmt):mkS (tgS s) (prS s)=s:=by cases s<;>rfl
@[irreducible] def anS(n:Nat)(s:Stmt)(f:PsS->Bool):Bool:=Wu (tgS s=n)&&f (prS s)
section
variable {P:Stmt->Prop}{s:Stmt}
def Zbx(h:anS n s f=Wr)(k:∀p,f p=Wr->P (mkS n p)):P s:=by unfold anS at h;exact rbS s▸dS (P:=λm=>P<|mkS m _) (bL h) (k _<|bR h)
noncomputable def oSm{α:Type}(o:Option α)(f:α->Bool):Bool:=match o with
 |some x=>f x
 |none=>Ws
def ZlW{α:Type}{P:Option _->Prop}{o:Option _}{f:α->Bool}(h:oSm o f=Wr)(k:∀x,f x=Wr->P (J x)):P o:=by
 cases o with
 |none=>exact ff h
 |some x=>exact k x h
noncomputable def oNo{α:Type}(o:Option α)(b:Bool):Bool:=o.isNone&&b
def ZqE{α:Type}{P:Option _->Prop}{o:Option α}(h:oNo o b=Wr)(k:b=Wr->P M):P o:=by
 cases o with
 |none=>exact k h
 |some x=>exact ff h
@[irreducible] def aAs(s:Stmt)(f:Expr->Expr->Bool):Bool:=anS 2 s λp=>l1 p.ts λg=>f g p.a
def Zln(h:aAs s f=Wr)(k:∀g x q,f g x=Wr->P (.Assign [g] x q)):P s:=by unfold aAs at h;exact Zbx h λp h=>Zaz (P:=λa=>P<|.Assign a _ _) h λ_ h=>k _ _ _ h
end
def ZAh(Γ:Gm)(C:Str)(e:Expr):Bool:=aX C e (Wu (C∈Γ.kl.xs)&&glb Γ C)
@[irreducible] def ZuI(Γ:Gm)(C:Str)(x:Expr)(f:Expr->Bool):Bool:=aCN C x λa=>l1 a λy=>Wu (C∈Γ.kl.xs)&&(glb Γ C&&(Z9 y&&f y))
def aTb(N:List Str)(own:Str->Bool)(i:Nat)(b:List Stmt)(f:Expr->Bool):Bool:=l1 b λs=>aAs s λg x=>ZlX N own i g&&f x
def Zug{P:List Stmt->Prop}(h:aTb N own i b f=Wr)(k:∀n p x q,N[i]?=J n->own n=Wr->f x=Wr->P [.Assign [.Name n p] x q]):P b:=Zaz h λ_ h=>Zln (P:=λs=>P [s]) h λ_ x q h=>Za1 (P:=λg=>P [.Assign [g] x q]) (bL h) λ_ _ a c=>k _ _ _ _ a c (bR h)
def ZuH(Γ:Gm)(i:Nat)(C:Str)(hs:List ExceptHandler):Bool:=l1 hs λh=>match h with
 |.ExceptHandler t n b _=>oNo n (oSm t λt=>ZAh Γ C t&&aTb Γ.N (ownD Γ.sc) i b λx=>aK x λc=>Wu<|c=.none)
def Zxu{P:List ExceptHandler->Prop}(h:ZuH Γ i C hs=Wr)(k:∀np n p j r q z,C∈Γ.kl.xs->glb Γ C=Wr->Γ.N[i]?=J n->ownD Γ.sc n=Wr->P [.ExceptHandler (J<|.Name C np) M [.Assign [.Name n p] (.Constant .none j r) q] z]):P hs:=
 Zaz h λy h=>match y,h with
  |.ExceptHandler t n b z,h=>ZqE (P:=λn=>P [.ExceptHandler t n b z]) h λh=>ZlW (P:=λt=>P [.ExceptHandler t M b z]) h λt h=>Zpf (P:=λt=>P [.ExceptHandler (J t) M b z]) (bL h) λnp a=>Zug (P:=λb=>P [.ExceptHandler (J _) M b z]) (bR h) λn p x q d e h=>Zwt (P:=λx=>P [.ExceptHandler (J _) M [.Assign _ x q] z]) h λc j r h=>dS (P:=λc=>P [.ExceptHandler (J _) M [.Assign _ (.Constant c j r) q] z]) h (k np n p j r q z (of_decide_eq_true<|bL a) (bR a) d e)
noncomputable def ZyI:Ex->Bool
 |.comp _ _ _ _ _ _|.any=>Wr
 |_=>Ws
mutual
noncomputable def Zy5(Γ:Gm):Sx->Stmt->Bool
 |.ret e,s=>anS 1 s λp=>oSm p.o λx=>chk Γ e x
 |.set g e,s=>aAs s λtg x=>ZtT Γ.N (ownD Γ.sc) g tg&&(chk Γ e x&&((Zdn x&&(!isTup tg||ZjF x))||(Wu (tgE tg=6)&&ZyI e)))
 |.put o i e,s=>aAs s λtg x=>aS tg λxo xi=>chk Γ o xo&&(chk Γ i xi&&(chk Γ e x&&(ZhG xi&&Zdn x)))
 |.aug i op e,s=>anS 3 s λp=>ZlX Γ.N (ownD Γ.sc) i p.a&&(Wu (p.op=.Add)&&(Wu (op=.Add)&&chk Γ e p.b))
 |.drp e,s=>anS 4 s λp=>chk Γ e p.a&&Zdn p.a
 |.iff c a b,s=>anS 5 s λp=>chkt Γ c p.a&&(chkSs Γ a p.xs&&chkSs Γ b p.ys)
 |.whl c b,s=>anS 6 s λp=>l0 p.ys (chkt Γ c p.a&&chkSs Γ b p.xs)
 |.forr g it b,s=>anS 7 s λp=>l0 p.ys (chki Γ it p.a p.b&&(Zfl p.b&&(ZtT Γ.N (ownD Γ.sc) g p.a&&chkSs Γ b p.xs)))
 |.pas,s=>anS 8 s λ_=>Wr
 |.brk,s=>anS 9 s λ_=>Wr
 |.cnt,s=>anS 10 s λ_=>Wr
 |.seta Cs o f e,s=>aAs s λtg x=>aA f tg λxo _=>chk Γ o xo&&(chk Γ e x&&(Zdn x&&((Cs.all λC=>Wu<|C∈Γ.kl.cs)&&Wu (f∈Γ.kl.ats))))
 |.auga Cs o f e,s=>anS 3 s λp=>Wu (p.op=.Add)&&aA f p.a λxo _=>chk Γ o xo&&(chk Γ e p.b&&((Cs.all λC=>Wu<|C∈Γ.kl.cs)&&Wu (f∈Γ.kl.ats)))
 |.any,_=>Wr
 |.rai C e,s=>anS 11 s λp=>oNo p.c (oSm p.o λx=>ZuI Γ C x λy=>chk Γ e y)
 |.trs i f es C,s=>anS 12 s λp=>l0 p.ys (l0 p.zs<|ZuH Γ i C p.hs&&aTb Γ.N (ownD Γ.sc) i p.xs λx=>aCN f x λys=>Wu (f∈Γ.fs)&&(glb Γ f&&(chks Γ es ys&&!ys.isEmpty)))
 |.unl i j e,s=>aAs s λtg x=>Zi8 Γ.N (ownD Γ.sc) i j tg&&(chk Γ e x&&(Zdn x&&ZjF x))
noncomputable def chkSs(Γ:Gm):Sxs->List Stmt->Bool
 |.nil,ss=>ss.isEmpty
 |.trq _ _ _ _ _ _ _ _ _,_=>Ws
 |.cons s r,ss=>match ss with
  |x::xs=>Zy5 Γ s x&&chkSs Γ r xs
  |[]=>Ws
end
def ZZ(Y:Yx)(H:Hp)(B:List Yj)(r:qe (Fl×Ev))(D:Ends)(E:XK):Prop:=match r with
 |.bad=>False
 |.ok p a=>∀H' μ',Gr H B H' μ'->RH Y H' μ' a->match p.1 with
  |.nx=>∀σ',RS Y H' μ' p.2 σ'->D.nx σ' H'
  |.bk=>∀σ',RS Y H' μ' p.2 σ'->D.bk σ' H'
  |.ct=>∀σ',RS Y H' μ' p.2 σ'->D.ct σ' H'
  |.rt d=>∀v,RD Y H' μ' d v->D.rt v H'
 |.exc c a=>∀H' μ' C,Gr H B H' μ'->RH Y H' μ' a->Y.mg c=J (.ref C)->E (.ref C) M H'
section
variable {Y:Yx}{α β:Type}{rel:Hp->List Yj->α->β->Prop}{H H1:Hp}{B μ1:List Yj}{E:XK}{D:Ends}
def ZZ.mono(g:Gr H B H1 μ1)(f:ZZ Y H B r D E):ZZ Y H1 μ1 r D E:=by
 cases r with
 |bad=>exact f
 |ok a h=>exact λH' μ' b=>f _ _ (g.I b)
 |exc c h=>exact λH' μ' C b=>f _ _ C (g.I b)
theorem ZZ.bind(f:ZZ Y H B (r.bind k) D E)
 (hk:∀a R b H1 μ1,r=.ok a R->Gr H B H1 μ1->RH Y H1 μ1 R->rel H1 μ1 a b->ZZ Y H1 μ1 (k a R) D E->Q1 b H1):Fin Y rel H B r Q1 E:=by
 cases r with
 |bad=>exact f
 |ok a h=>exact λb H' μ' d e g=>hk a h b _ _ rfl d e g (ZZ.mono d f)
 |exc c h=>exact f
theorem ZZ.ofO(f:ZZ Y H B ((qe.ofO o h).bind k) D E):∃a,o=J a/\ZZ Y H B (k a h) D E:=by
 cases o with
 |none=>exact f.elim
 |some a=>exact⟨a,rfl,f⟩
theorem ZZ.nx(f:ZZ Y H B (.ok (.nx,S) h) D E)(rh:RH Y H B h)(rs:RS Y H B S Z):D.nx Z H:=f H _ Gr.refl rh _ rs
def ZZ.part(f:ZZ Y H B (r.bind k) D E)
 (hk:∀p R H1 μ1,r=.ok p R->Gr H B H1 μ1->RH Y H1 μ1 R->ZZ Y H1 μ1 (k p R) D E->match p.1 with
  |.nx=>∀σ',RS Y H1 μ1 p.2 σ'->D1.nx σ' H1
  |.bk=>∀σ',RS Y H1 μ1 p.2 σ'->D1.bk σ' H1
  |.ct=>∀σ',RS Y H1 μ1 p.2 σ'->D1.ct σ' H1
  |.rt d=>∀v,RD Y H1 μ1 d v->D1.rt v H1):ZZ Y H B r D1 E:=by
 cases r with
 |bad=>exact f
 |ok p h=>exact λH' μ' a b=>hk p h _ _ rfl a b (ZZ.mono a f)
 |exc c h=>exact f
end
inductive SmS(Y:Yx)(E:XK)(m:Ev->Hd->qe (Fl×Ev))(D:Ends)(Z:L2.St)(H:Hp):Prop
 |mk (S:Ev) (h:Hd) (B:List Yj) (rh:RH Y H B h) (rs:RS Y H B S Z) (f:ZZ Y H B (m S h) D E):SmS Y E m D Z H
def Zof(T:Tb)(Y:Yx)(E:XK)(s:Sx):TS:=SmS Y E (xs1 T s)
def ZpO(T:Tb)(Y:Yx)(E:XK)(s:Sxs):TS:=SmS Y E (xs2 T s)
theorem SmS.bind{D:Ends}{γ δ:Type}{rel:Hp->List _->γ->δ->Prop}{m:Ev->Hd->qe _}{k:Ev->γ->Hd->qe _}{Q1:δ->Hp->Prop}(s:SmS Y E (λS h=>(m S h).bind<|k S) D Z H)
 (hk:∀S d R v H1 μ1,RH Y H1 μ1 R->RS Y H1 μ1 S Z->rel H1 μ1 d v->ZZ Y H1 μ1 (k S d R) D E->Q1 v H1):Sm Y E rel m Z H Q1:=by
 cases s with
 |mk S h B a b f=>exact⟨_,h,_,a,b,f.bind λd R x H1 μ1 _ g c rd e=>hk _ d _ x _ _ c (b.mono a g) rd e⟩
def Sm.at{α β:Type}{rel:Hp->List _->α->β->Prop}{m:Ev->Hd->qe _}{Q1:β->Hp->Prop}{Q:Prop}(s:Sm Y E rel m Z H Q1)(hk:∀S h B,RH Y H B h->RS Y H B S Z->Fin Y rel H B (m S h) Q1 E->Q):Q:=by
 cases s with
 |mk S h B a b f=>exact hk _ h _ a b f
def SmS.at{D:Ends}{Q:Prop}(s:SmS Y E m D Z H)(hk:∀S h B,RH Y H B h->RS Y H B S Z->ZZ Y H B (m S h) D E->Q):Q:=by
 cases s with
 |mk S h B a b f=>exact hk _ h _ a b f
def _root_.L2.PS.imp(h:PS X s t)(i:∀D Z H,t' D Z H->t D Z H):PS X s t':=λa s Z H D I q=>h _ s _ H D I (i D _ H q)
def _root_.L2.PSs.imp(h:PSs X s t)(i:∀D Z H,t' D Z H->t D Z H):PSs X s t':=λa s Z H D I q=>h _ s _ H D I (i D _ H q)
structure XOk(K:Yl)(a:Yj):Prop extends ExcN K a where
 own:PySem.W.excIn K a [.type "ValueError",.type "Exception",.type "BaseException",.type "object"] "ValueError.__new__"=Wr
 sub:YT K (.ref a) (.ref a)=J Wr
structure GdS(T:Tb)(Γ:Gm)(X:Cx)(Y:Yx)(E:XK)(k:Nat):Prop extends Gd T Γ X Y E k where
 top:Γ.top=Wr
 fnt:∀x,X.fn x=Wr
 own:PassesOwn (model X.prog X.w) X.A X.env X.xe
 bk:X.env.blockKind=.function
 rz:Zkf X E
 stk:X.stack=X.env::X.outer
 frm:X.env.frame=J X.env.locals
 xcs:∀C∈Γ.kl.xs,∃a,X.mg C=J (.ref a)/\XOk X.K a
 xas:∀p∈Γ.kl.xa,∃a b,X.mg p.1=J (.ref a)/\X.mg p.2=J (.ref b)/\XAs X.K a b
 xis:∀p∈Γ.kl.xi,∃b v,X.mg p.1=J (.ref b)/\ClV X.mg p.2.1 v/\PySem.W.kitOne X.K (.ref b) v=J p.2.2
theorem GdS.ownD(G:GdS T Γ X Y E k):∀x,ownD Γ.sc x=Wr->Loc X.env.scope x/\(X.fn x=Wr\/X.env.scope.names.lookup x=J .local):=by intro x h;refine⟨?_,.inl<|G.fnt x⟩;unfold IV.ownD at h;rw[G.sc G.top];rw[Wo]at h;exact h.imp of_decide_eq_true of_decide_eq_true
def ZfE(h:Zdn x=Wr):swapsWith x t n env=pure Ws:=(kdE x).sw (of_decide_eq_true<|bL h) (of_decide_eq_true<|bR h) _ _ _
def ZpN(G:GdS T Γ X Y E k)(hi:Γ.N[i]?=J y)(ho:ownD Γ.sc y=Wr)(hx:ZyI e=Wr)(h:chk Γ e x=Wr):PS X (.Assign [.Name y py] x spos) (Zn8 (ZaJ T Y E e)<|ZbW i):=by
 obtain⟨l,m⟩:=G.ownD y ho;cases e with
 |comp NC B it g c e=>
  refine Zuw h (λF L iter O scope q h o=>?_)<|Zs _ G.toGd h;cases n:(X.env.blockKind==.function&&X.env.kindOf y==J _&&py.line==q.line&&!(scope.names.any _))with
  |true=>
   have S_:=Zk0<|bL<|bR h;rw[<-G.N,<-G.sc (bL h)]at S_;have Gc:=λC b H3 d=>G.toGd.comp _ scope C b H3 d S_.nd;have a:=bR<|bR h;exact(ZlO (g:=tgR _ g) (tc:=Sm Y E0 eqR<|tsto T c) (te:=ZaJ T Y E0 e) G.nd (by rw[G.N];exact hi) l m S_ rfl G.calm (evi_ok it G.toGd<|bL a) (λC b H3 d=>⟨Znc rfl S_.nd rfl (λx hx=>Znf (scope:=scope) X hx)<|bL<|bR<|bR a,ifs_ok c (Gc C b H3 d)<|bL<|bR<|bR<|bR<|bR a,Zs e (Gc C b H3 d)<|bR<|bR<|bR<|bR<|bR a⟩) (Zxv X.K g) (λj p=>of_decide_eq_true<|OC.mp (bL<|bR<|bR<|bR a) j<|List.mem_range.mpr p) (Zly X.env<|bL<|bR a)<|congrArg pure n).imp
    λD Z H s=>Sm.bind s λS w R P H1 μ1 r t u v D A=>ZnJ G.gk.K (λ_ _ _ z=>z) r t u v A
  |false=>exact ZlP G.nd (by rw[G.N];exact hi) l o (congrArg pure n) m
 |any=>exact λQ s Z H D I s=>Sm.at s λ_ _ _ _ _ f=>f.elim
 |_=>exact ff hx
def Zjr(ht:isTup tg=Wr)(pg:PG X tg g)(he:PE X x te)(h3:(Zdn x&&(!isTup tg||ZjF x))=Wr):PS X (.Assign [tg] x pos) (Zn8 te g):=Zra (P:=λtg=>PG X tg g->(!isTup tg||ZjF x)=Wr->PS X (.Assign [tg] x _) _) ht (λ_ _ _ pg h3=>Zqg he pg (by unfold swapsWithSole;exact ZfE<|bL ‹_›) ((kdE x).st (of_decide_eq_true h3) _ _ _ _) rfl) pg (bR h3)
def Zw1{T:Tb}(G:Gd T Γ X Y E k)(hc:(Cs.all λC=>Wu<|C∈Γ.kl.cs)=Wr)(hf:f∈Γ.kl.ats){D:Ends}(ac:RH Y H1 μ1 R)(ah:RS Y H1 μ1 S Z)(rd:RD Y H1 μ1 d x)
 (f1:ZZ Y H1 μ1 ((Zgz Cs f d R).bind λv h2=>(ev T e S h2).bind λy h3=>match v,y with
  |.int a,.int b=>if (Z8 d R).map (·.1)=(Z8 d h3).map (·.1)then(Zgo Cs f d (.int<|a+b) h3).bind λ_ h4=>.ok (.nx,S) h4 else .bad
  |_,_=>.bad) D E) :
 ∃a C dx fs v,x=.ref a/\H1 a=J (.ins C dx fs)/\Cls X.K C/\Zby X.K C f/\fs.lookup f=J v /\
  ZaJ T Y E e Z H1 λy H2=>Zx2 v y H2 λz H3=>∃cW bh,H3 a=J (.ins C cW bh)/\bh.length<1000/\D.nx Z (upd H3 a<|.ins C cW<|Zc7 f z bh):=by
 unfold Zgz at f1;cases ei:Z8 d R with
 |none=>rw[ei]at f1;exact f1.elim
 |some p=>
  obtain⟨C,fs⟩:=p;rw[ei]at f1;simp only at f1;by_cases hC:C∈Cs
  . rw[if_pos hC]at f1;obtain⟨w,e1,f1⟩:=f1.ofO;obtain⟨i,a,Ca,dx,gs,rfl,rfl,q,hi,z,m,s⟩:=ZhP ac rd ei;obtain⟨v,l,rv⟩:=(s.look (f:=f)).1 w e1;have cV:=hc;rw[OC]at cV;obtain⟨jY,m',cl,na⟩:=G.cls C<|of_decide_eq_true<|cV C hC;have m0:=m;rw[G.gk.mg,m']at m;cases m;refine⟨a,Ca,dx,gs,v,rfl,z,cl,na f hf,l,S,R,μ1,ac,ah,ZZ.bind f1 λy h3 u H3 μ3 _ g3 a9 ry f3=>?_⟩;cases w with
    |int p=>
     cases y with
     |int r=>
      cases rv;cases ry;refine⟨p,r,rfl,rfl,?_⟩;simp only at f3;by_cases hk:Option.map (·.1) (J (C,fs))=(Z8 (.ref i) h3).map (·.1)
      . rw[if_pos hk]at f3;obtain⟨a',C',cW,bh,e4,z',_,_,l',nx⟩:=ZpM (Q:=λ_ H'=>D.nx Z H') G hc hf a9 (rd.mono ac g3) (.int _)<|ZZ.bind f3 λ_ h4 _ H4 μ4 _ g4 fm _ f4=>f4.nx fm<|(ah.mono ac g3).mono a9 g4;cases e4;cases e5:Z8 (.ref i) h3 with
        |none=>rw[e5]at hk;cases hk
        |some p3=>obtain⟨C3,mS⟩:=p3;rw[e5]at hk;cases hk;obtain⟨i3,a3,m4,mX,mR,e6,e7,_,_,z3,m3,_⟩:=ZhP a9 (rd.mono ac g3) e5;cases e7;rw[m0]at m3;cases m3;rw[z']at z3;cases z3;exact⟨cW,bh,z',l',nx⟩
      . rw[if_neg hk]at f3;exact f3.elim
     |_=>exact f3.elim
    |_=>exact f3.elim
  . rw[if_neg hC]at f1;exact f1.elim
theorem _root_.IV.Gd.nox(G:Gd T Γ X Y E k):Gd T Γ X.nox Y E0 k:=⟨⟨G.gk.K,G.gk.mg,G.gk.gd,G.gk.g,G.gk.bare⟩,G.N,G.sc,G.vis,G.glo,G.nd,G.calm,G.room,G.h60,ZiT,G.defs,G.blt,G.room1,G.cls,G.mts,G.mks⟩
def Zpb(f:Fin Y rel H B r.plain Q E):Fin Y rel H B r Q E0:=by
 cases r with
 |bad=>exact f.elim
 |ok a h=>exact f
 |exc c h=>exact f.elim
def pg2{X:Cx}(G:GdS T Γ X Y E k)(h:Zi8 Γ.N (ownD Γ.sc) i j tg=Wr):PG X tg (ZwC X.K 2<|ZfX (ZbW i)<|ZfX (ZbW j) ZoT):=by have nm:∀{i x p},Γ.N[i]?=J x->ownD Γ.sc x=Wr->PG X (.Name x p) (ZbW i):=λd c=>Zjz G.nd (by rw[G.N];exact d) (G.ownD _ c).1 (G.ownD _ c).2;exact Ziy (P:=λt=>PG X t _) h λe k q h=>ZuA (P:=λe=>PG X (.Tuple e k q) _) h λa b h=>Za1 (P:=λa=>PG X (.Tuple [a,b] k q) _) (bL h) λx p d c=>Za1 (P:=λb=>PG X (.Tuple [_,b] k q) _) (bR h) λy r f g=>ZvM G.calm (Zd6 (nm d c)<|Zd6 (nm f g) Zjy)
def ZuT{X:Cx}{D:Ends}(hY:Y.K=X.K)(rh:RH Y H B h)(rs:RS Y H B S Z)(rd:RD Y H B d v)(f:ZZ Y H B (Zpq i j S d h) D E):ZwC X.K 2 (ZfX (ZbW i)<|ZfX (ZbW j) ZoT) v Z H D.nx:=by
 unfold Zpq at f;split at f
 . rename_i e;obtain⟨a,k,rfl,b,s⟩:=rd.lstOf rh e;obtain⟨x,y,rfl,c,g⟩:=s.two;exact⟨a,_,rfl,hY▸b,rfl,x,_,rfl,y,_,rfl,rfl,f.nx rh<|(rs.set c).set g⟩
 . exact f.elim
def Zne{D D1:Ends}{k:Ev->Hd->qe (Fl×Ev)}(f:ZZ Y H B (r.bind λp h2=>match p with
 |(.nx,ρ2)=>k ρ2 h2
 |(.ct,ρ2)=>k ρ2 h2
 |(.bk,ρ2)=>.ok (.nx,ρ2) h2
 |(.rt d,ρ2)=>.ok (.rt d,ρ2) h2) D E) (hn:∀ρ2 h2 H2 μ2 σ',Gr H B H2 μ2->RH Y H2 μ2 h2->RS Y H2 μ2 ρ2 σ'->ZZ Y H2 μ2 (k ρ2 h2) D E->D1.nx σ' H2) (hc:D1.ct=D1.nx) (hb:D1.bk=D.nx) (hr:D1.rt=D.rt):ZZ Y H B r D1 E:=
 ZZ.part f λp h2 H2 μ2 _ e b c=>by
  obtain⟨g,ρ2⟩:=p;cases g with
  |nx=>exact λσ' a=>hn ρ2 _ _ _ _ e b a c
  |ct=>rw[hc];exact λσ' a=>hn ρ2 _ _ _ _ e b a c
  |bk=>rw[hb];exact λσ' a=>ZZ.nx c b a
  |rt d=>rw[hr];exact λv h=>c _ _ Gr.refl b v h
def ZuS{D:Ends}(s:Zof T Y E (.whl c b) D Z H):ZpC (Zoe T Y E c) (ZpO T Y E b) D Z H:=by
 refine⟨λm=>SmS Y E (ZH _ _ m) D,⟨_,s⟩,λm Z H s=>?_⟩;cases m with
 |zero=>exact SmS.at s λ_ _ _ _ _ f=>f.elim
 |succ m=>
  refine SmS.bind s λS t R v H1 μ1 a d rd e=>?_;cases rd;cases t with
  |false=>exact Zl9 (ZZ.nx e a d)
  |true=>exact Zl8 ⟨_,λσ' H' q=>⟨m,OH m,q⟩,_,_,_,a,d,Zne e (λρ2 j H2 μ2 σ' _ g h i=>⟨_,_,_,g,h,i⟩) rfl rfl rfl⟩
inductive FwS(Y:Yx)(E:XK)(H1:Hp)(μ1:List Yj)(n i:Nat)(F:Ev->Hd->qe (Fl×Ev))(D:Ends)(m:Nat)(Z:L2.St)(H:Hp):Prop
 |mk (S:Ev) (h:Hd) (B:List Yj) (hi:i<=n) (hm:m=n-i) (g:Gr H1 μ1 H B) (rh:RH Y H B h) (rs:RS Y H B S Z) (f:ZZ Y H B (F S h) D E):FwS Y E H1 μ1 n i F D m Z H
def ZwG{K:Yl}{g:Tg}{D:Ends}(hY:Y.K=K)(ac:RH Y H1 μ1 R)(ah:RS Y H1 μ1 S Z)(wj:WJ Y H1 μ1 w qb)(f1:ZZ Y H1 μ1 (ZG w.src g (xs2 T b) w.xs S R) D E):∃W:Nat->Nat->L2.St->Hp->Prop,(∃m,W 0 m Z H1)/\∀i m Z H,W i m Z H ->
 (qb.stop i H/\D.nx Z H)\/(qb.go i H/\∃B_:L2.St->Hp->Prop,(∀σ' H',B_ σ' H'->∃m',m'<m/\W (i+1) m' σ' H')/\∀x H',qb.yld i H x H'->tgR K g x Z H' λσ' mj=>ZpO T Y E b {D with nx:=B_,ct:=B_,bk:=D.nx} σ' mj):=by
 refine⟨λi=>FwS Y E _ _ _ i (λS=>ZG _ g _ (w.xs.drop i) S) D,⟨w.xs.length,_,_,_,Yy _,(Nat.sub_zero _).symm,Gr.refl,ac,ah,f1⟩,λi m Z H s=>?_⟩;cases s with
 |mk S h B hi hm g0 rh rs f=>
  subst hm;by_cases hs:Wk.stays w.src h=Wr
  . by_cases ay:i<w.xs.length
    . rw[List.drop_eq_getElem_cons ay,ZG,if_pos hs]at f;obtain⟨go,yl⟩:=(wj H _ h g0 rh hs).1 i _<|Og ay;refine .inr ⟨go,_,λσ' H' q=>⟨_,Nat.sub_lt_sub_left ay<|OH i,q⟩,λx H' hy=>?_⟩;obtain⟨g2,ak,rx⟩:=yl x _ hy;split at f
      . exact f.elim
      . rename_i ρ1 hb;exact Zj2 hY rx (rs.mono rh g2) hb λσ1 ah=>⟨_,h,_,ak,ah,Zne (ZZ.mono g2 f) (λρ2 h3 H3 μ3 σ' g3 a9 j5 f3=>⟨_,_,_,ay,rfl,(g0.I g2).I g3,a9,j5,f3⟩) rfl rfl rfl⟩
    . have he:i=w.xs.length:=Nat.le_antisymm hi<|Nat.le_of_not_lt ay;subst he;rw[List.drop_eq_nil_of_le<|Oq _,ZG,if_pos hs]at f;exact .inl ⟨(wj H B h g0 rh hs).2,ZZ.nx f rh rs⟩
  . cases e:w.xs.drop i with
    |nil=>rw[e,ZG,if_neg hs]at f;exact f.elim
    |cons _ _=>rw[e,ZG,if_neg hs]at f;exact f.elim
def Zu1{X:Cx}{D:Ends}(m:Y.mg C=J (.ref ca))(xo:XOk X.K ca)(s:Zof T Y E (.trs i f es C) D Z H):Zui X.K (Zgn T Y f) ca i (λ_ _ D Z H=>D.nx (Z.set i<|J .non) H) (ZlA T Y E0 es) D Z H:=by
 cases s with
 |mk S h B rh rs ff=>
  refine⟨S,h,B,rh,rs,Zpb<|ZZ.bind ff λds R vs H1 μ1 _ g1 ac bN f1=>⟨ds,R,μ1,ac,bN,?_⟩⟩;have ah:=rs.mono rh g1;cases q:T.C f ds R with
  |bad=>rw[q]at f1;exact f1.elim
  |ok w h2=>rw[q]at f1;exact λb H' μ' g2 ak rb=>f1 H' μ' g2 ak _ ((ah.mono ac g2).set rb)
  |exc w h2=>
   rw[q]at f1;unfold Zii at f1;by_cases e:w=C
   . subst e;simp only[if_true]at f1;intro H' μ' C' g2 ak mc;rw[m]at mc;cases mc;exact⟨ca,rfl,xo.sub,λa oe=>f1 H' μ' g2 ak _<|(ah.mono ac g2).set .non⟩
   . simp only[if_neg e]at f1;exact f1.elim
def Zu4(G:GdS T Γ X Y E k)(hf:f∈Γ.fs)(lh:glb Γ f=Wr)(iu:C∈Γ.kl.xs)(hg:glb Γ C=Wr)(hn:Γ.N[i]?=J n)(fM:Γ.N[i]?=J n')(dB:ownD Γ.sc n=Wr)(h4:chks Γ es (y::ys)=Wr)(ha:PA X.nox (y::ys) (ZlA T Y E0 es)):
 PS X (.Try [.Assign [.Name n px] (.Call (.Name f fp) (y::ys) [] cp) ap] [.ExceptHandler (J<|.Name C np) M [.Assign [.Name n' j8] (.Constant .none j r) bC] z] [] [] pos) (Zof T Y E<|.trs i f es C):=by
 obtain rfl:n=n':=YF<|hn.symm.I fM;obtain⟨u,g⟩:=G.defs _ hf;obtain⟨h,l⟩:=G.gl lh;obtain⟨o,p⟩:=G.gl hg;obtain⟨v,m,b⟩:=G.xcs _ iu;obtain⟨c,d⟩:=G.ownD _ dB;have e:X.N[i]?=J n:=by rw[G.N];exact hn
 exact(Zos g G.room h ha o m b.toExcN G.nd e c d G.stk G.frm (λa t=>(ZsB<|ZlP (X:=cxH X a t) G.nd e c Zqn rfl d).imp λD Z H q=>q) l p (ZdO X.env h4).1 ((ZdO X.env h4).2 _) rfl).imp λD Z H s=>Zu1 (by rw[G.gk.mg];exact m) b s
mutual
theorem ZxH(s:Sx){Γ:Gm}{X:Cx}{E:XK}{k:Nat}{x:Stmt}(G:GdS T Γ X Y E k)(h:Zy5 Γ s x=Wr):PS X x (Zof T Y E s):=match s,h with
 |.ret e,h=>Zbx (P:=λx=>PS X x _) h λp h=>ZlW (P:=λo=>PS X (.Return o p.p) _) h λy h=>(ZvE<|Zs e G.toGd h).imp λD Z H s=>SmS.bind s λS d R v H1 μ1 ac ah rd f1=>f1 H1 μ1 Gr.refl ac v rd
 |.set g e,h=>Zln (P:=λx=>PS X x _) h λtg xe pos h=>by
  have fin:∀{D:Ends}{Z:L2.St}{H:Hp},Zof T Y E (.set g e) D Z H->Zn8 (ZaJ T Y E e) (tgR X.K g) D Z H:=λ{D Z H} s=>SmS.bind s λS d R v H1 μ1 ac ah rd f1=>by obtain⟨ρ1,eb,f1⟩:=f1.ofO;exact Zj2 G.gk.K rd ah eb λσ1 g8=>f1.nx ac g8
  have pg:=Znc (X:=X) G.N G.nd G.calm G.ownD<|bL h;refine bO (bR<|bR h) (λh3=>?_) λh3=>?_
  . cases g with
    |nm i=>exact Za1 (P:=λt=>PS X (.Assign [t] _ _) _) (bL h) λy py e1 e2=>(ZlP G.nd (by rw[G.N];exact e1) (G.ownD y e2).1 (Zs e G.toGd<|bL<|bR h) (ZfE<|bL h3) (G.ownD y e2).2).imp λD Z H q=>fin q
    |two i j=>exact(Zjr (Ziy (P:=λt=>isTup t=Wr) (show Zi8 Γ.N (ownD Γ.sc) i j tg=Wr from bL h) λ_ _ _ _=>rfl) pg (Zs e G.toGd<|bL<|bR h) h3).imp λD Z H q=>fin q
    |many is=>exact(Zjr (Ziy (P:=λt=>isTup t=Wr) (show ZrD Γ.N (ownD Γ.sc) is tg=Wr from bL h) λ_ _ _ _=>rfl) pg (Zs e G.toGd<|bL<|bR h) h3).imp λD Z H q=>fin q
  . cases g with
    |nm i=>exact Za1 (P:=λt=>PS X (.Assign [t] _ _) _) (bL h) λy py e1 e2=>(ZpN G e1 e2 (bR h3)<|bL<|bR h).imp λD Z H q=>fin q
    |two i j=>exact ff (Ziy (P:=λt=>Wu (tgE t=6)=Wr->Ws=Wr) (show Zi8 Γ.N (ownD Γ.sc) i j tg=Wr from bL h) (λ_ _ _ _ z=>z)<|bL h3)
    |many is=>exact ff (Ziy (P:=λt=>Wu (tgE t=6)=Wr->Ws=Wr) (show ZrD Γ.N (ownD Γ.sc) is tg=Wr from bL h) (λ_ _ _ _ z=>z)<|bL h3)
 |.put o i e,h=>Zln (P:=λx=>PS X x _) h λtg xe p2 h=>Zvh (P:=λt=>PS X (.Assign [t] _ _) _) h λxo xi p1 h=>
  (Zqg (pos:=p2) (Zs e G.toGd<|bL<|bR<|bR h) (ZvN (pos:=p1) (Zs o G.toGd<|bL h) (Zs i G.toGd<|bL<|bR h) (ZvC (Y:=Y) (E:=E))<|(kdE xi).put (of_decide_eq_true<|bL<|bR<|bR<|bR h) _ _ _) (by unfold swapsWithSole;exact ZfE<|bR<|bR<|bR<|bR h) rfl rfl).imp λD Z H s=>SmS.bind s λS d R v H1 μ1 ac ah rd f1=>
   ⟨S,R,μ1,ac,ah,f1.bind λd2 h2 v2 H2 μ2 _ g2 ak fq f2=>⟨S,h2,μ2,ak,ah.mono ac g2,f2.bind λd3 h3 v3 H3 μ3 _ g3 a9 g9 f3=>⟨d2,d3,d,h3,μ3,a9,fq.mono ak g3,g9,(rd.mono ac g2).mono ak g3,f3.bind λ_ h4 _ H4 μ4 _ g4 fm _ f4=>f4.nx fm<|((ah.mono ac g2).mono ak g3).mono a9 g4⟩⟩⟩
 |.aug i op e,h=>Zbx (P:=λx=>PS X x _) h λp h=>Za1 (P:=λa=>PS X (.AugAssign a _ _ _) _) (bL h) λy py e1 e2=>dS (P:=λo=>PS X (.AugAssign _ o _ _) _) (bL<|bR h) <| dS (P:=λo=>PS X _<|Zof T Y E<|.aug i o e) (bL<|bR<|bR h) <|
  (ZvH G.nd (by rw[G.N];exact e1) (G.ownD _ e2).1 (Zs e G.toGd<|bR<|bR<|bR h) Zwx (G.ownD _ e2).2).imp λD Z H s=>SmS.at s λS h B rh rs f=>by
   obtain⟨d,ed,f⟩:=ZZ.ofO f;obtain⟨v,ev,rd⟩:=rs.var ed;refine⟨v,ev,S,h,B,rh,rs,ZZ.bind f λd2 h2 v2 H2 μ2 _ g2 ak fq f2=>?_⟩;cases rd with
   |int a=>
    cases fq with
    |int b=>exact⟨a,b,rfl,rfl,ZZ.nx f2 ak<|(rs.mono rh g2).set<|.int _⟩
    |_=>exact f2.elim
   |_=>exact f2.elim
 |.drp e,h=>Zbx (P:=λx=>PS X x _) h λp h=>(ZsE (Zs e G.toGd<|bL h)<|ZfE<|bR h).imp λD Z H s=>SmS.bind s λS d R v H1 μ1 ac ah rd f1=>f1.nx ac ah
 |.iff c a b,h=>Zbx (P:=λx=>PS X x _) h λp h=>(Zx5 (tst_ok c G.toGd<|bL h) (sts_ok a G<|bL<|bR h)<|sts_ok b G<|bR<|bR h).imp λD Z H s=>SmS.bind s λS t R v H1 μ1 ac ah rd f1=>by
  cases rd;cases t with
  |true=>exact Zl8 ⟨S,R,μ1,ac,ah,f1⟩
  |false=>exact Zl9 ⟨S,R,μ1,ac,ah,f1⟩
 |.whl c b,h=>Zbx (P:=λx=>PS X x _) h λp h=>ZiZ (P:=λys=>PS X (.While _ _ ys _) _) h λh=>(Zqd G.own (tst_ok c G.toGd<|bL h)<|sts_ok b G<|bR h).imp λD Z H s=>ZuS s
 |.forr g it b,h=>Zbx (P:=λx=>PS X x _) h λp h=>ZiZ (P:=λys=>PS X (.For _ _ _ ys _) _) h λh=>(ZvF G.own G.calm (evi_ok it G.toGd<|bL h) (Znc (X:=X) G.N G.nd G.calm G.ownD<|bL<|bR<|bR h) (sts_ok b G<|bR<|bR<|bR h)<|Zly X.env<|bL<|bR h).imp λD Z H s=>SmS.bind s λS w R qb H1 μ1 ac ah wj f1=>ZwG G.gk.K ac ah wj f1
 |.pas,h=>Zbx (P:=λx=>PS X x _) h λp h=>ZsD.imp λD Z H s=>SmS.at s λS h B rh rs f=>ZZ.nx f rh rs
 |.brk,h=>Zbx (P:=λx=>PS X x _) h λp h=>Zqf.imp λD Z H s=>SmS.at s λS h B rh rs f=>f H B Gr.refl rh Z rs
 |.cnt,h=>Zbx (P:=λx=>PS X x _) h λp h=>Zky.imp λD Z H s=>SmS.at s λS h B rh rs f=>f H B Gr.refl rh Z rs
 |.any,h=>λaa s Z H D I s=>SmS.at s λS h B rh rs f=>f.elim
 |.rai C e,h=>Zbx (P:=λx=>PS X x _) h λp h=>ZqE (P:=λc=>PS X (.Raise _ c _) _) h λh=>ZlW (P:=λo=>PS X (.Raise o _ _) _) h λx h=>by
  unfold ZuI at h;exact ZcB (P:=λx=>PS X (.Raise (J x) _ _) _) h λnp ys q h=>Zaz (P:=λys=>PS X (.Raise (J<|.Call _ ys _ _) _ _) _) h λy h=>by obtain⟨ca,m,xo⟩:=G.xcs _<|of_decide_eq_true<|bL h;have st:=Zw (xs:=[]) X.env<|bL<|bR<|bR h;exact(Zqe G.rz G.calm PySem.F.excBase_ValueError (G.gl<|bL<|bR h).1 m xo.own (Zcu (Zs e G.toGd<|bR<|bR<|bR h) Zd9 st) (G.gl<|bL<|bR h).2 st rfl).imp λD Z H s=>SmS.bind s λS d R v H1 μ1 ac ah rd f1=>⟨by show 1<=Yc;decide,f1 H1 μ1 ca Gr.refl ac (by rw[G.gk.mg];exact m)⟩
 |.trs i f es C,h=>Zbx (P:=λx=>PS X x _) h λp h=>ZiZ (P:=λys=>PS X (.Try p.xs p.hs ys p.zs p.p) _) h λh=>ZiZ (P:=λzs=>PS X (.Try p.xs p.hs [] zs p.p) _) h λh=>Zxu (P:=λhs=>PS X (.Try p.xs hs [] [] p.p) _) (bL h) λnp n' j8 j r bC z iu hg fM _=>
  Zug (P:=λxs=>PS X (.Try xs _ [] [] p.p) _) (bR h) λn px xe ap hn dB h5=>ZcB (P:=λx=>PS X (.Try [.Assign [.Name n px] x ap] _ [] [] p.p) _) h5 λfp ys cp h5=>Zry (P:=λys=>PS X (.Try [.Assign [.Name n px] (.Call (.Name f fp) ys [] cp) ap] _ [] [] p.p) _) (bL<|bR<|bR h5) (bR<|bR<|bR h5) λy ys h4=>Zu4 G (of_decide_eq_true<|bL h5) (bL<|bR h5) iu hg hn fM dB h4 (evs_ok es G.toGd.nox h4)
 |.seta Cs o f e,h=>Zln (P:=λx=>PS X x _) h λtg xe pos h=>Zt7 (P:=λt=>PS X (.Assign [t] _ _) _) h λxo q h=>(ZvG (Zs o G.toGd<|bL h) (Zs e G.toGd<|bL<|bR h)<|ZfE<|bL<|bR<|bR h).imp λD Z H s=>SmS.bind s λS d R v H1 μ1 ac ah rd f1=>⟨S,R,μ1,ac,ah,ZZ.bind f1 λd2 h2 v2 H2 μ2 _ g2 ak fq f2=>ZpM (Q:=λ_ H'=>D.nx Z H') G.toGd (bL<|bR<|bR<|bR h) (of_decide_eq_true<|bR<|bR<|bR<|bR h) ak fq (rd.mono ac g2)<|ZZ.bind f2 λ_ h3 _ H3 μ3 _ g3 a9 _ f3=>f3.nx a9<|(ah.mono ac g2).mono ak g3⟩
 |.auga Cs o f e,h=>Zbx (P:=λx=>PS X x _) h λp h=>dS (P:=λo=>PS X (.AugAssign _ o _ _) _) (bL h) <| Zt7 (P:=λt=>PS X (.AugAssign t _ _ _) _) (bR h) λxo q h=>(Zot (Zs o G.toGd<|bL h) (Zs e G.toGd<|bL<|bR h) Zwy).imp λD Z H s=>SmS.bind s λS d R x H1 μ1 ac ah rd f1=>Zw1 G.toGd (bL<|bR<|bR h) (of_decide_eq_true<|bR<|bR<|bR h) ac ah rd f1
 |.unl i j e,h=>Zln (P:=λx=>PS X x _) h λtg xe pos h=>(Zjr (Ziy (P:=λt=>isTup t=Wr) (show Zi8 Γ.N (ownD Γ.sc) i j tg=Wr from bL h) λ_ _ _ _=>rfl) (pg2 G<|bL h) (Zs e G.toGd<|bL<|bR h) (by rw[bL<|bR<|bR h,bR<|bR<|bR h,Bool.or_true];rfl)).imp λD Z H s=>SmS.bind s λS d R v H1 μ1 ac ah rd f1=>ZuT G.gk.K ac ah rd f1
theorem sts_ok(s:Sxs){Γ:Gm}{X:Cx}{E:XK}{k:Nat}{x:List Stmt}(G:GdS T Γ X Y E k)(h:chkSs Γ s x=Wr):PSs X x (ZpO T Y E s):=match s,x,h with
 |.nil,[],h=>ZsC.imp λD Z H s=>SmS.at s λS h B rh rs f=>ZZ.nx f rh rs
 |.nil,_::_,h=>ff h
 |.trq _ _ _ _ _ _ _ _ _,x,h=>ff h
 |.cons s r,[],h=>ff h
 |.cons s r,x::xs,h=>(Zqc (ZxH s G<|bL h)<|sts_ok r G<|bR h).imp λD Z H s=>SmS.at s λS h B rh rs f=>⟨S,h,B,rh,rs,ZZ.part f λp R H1 μ1 _ g1 ac f1=>by
     obtain⟨fl,ρ1⟩:=p;cases fl with
     |nx=>exact λσ' bJ=>⟨ρ1,R,μ1,ac,bJ,f1⟩
     |bk=>exact λσ' bJ=>f1 H1 μ1 Gr.refl ac σ' bJ
     |ct=>exact λσ' bJ=>f1 H1 μ1 Gr.refl ac σ' bJ
     |rt d=>exact λv rv=>f1 H1 μ1 Gr.refl ac v rv⟩
end
set_option tactic.hygienic false
structure BodyOk(K:Yl)(kl:Kl)(fs:List Str)(x q:Str)(fd:Fd)(st:Stmt)(f:Yj)(am:FuncData):Prop where
 fn:Fun K x q st f am
 sc:FnScope fd.N fd.ps (Z5 st)
 hb:∀(kV a7 pm:Yk) (an:Option Yj) (aQ ct:Yk) (us:List Yk),us.length=fd.ps.length->bindArgs (PySem.W.fnOf x q (ZeX st) (ZcA st) (Z5 st) .none kV a7 pm an aQ ct) ⟨us,[]⟩=pure (fd.ps.zip us)
 ck:chkSs ⟨fd.N,Z5 st,fs,Wr,kl⟩ fd.body (ZcA st)=Wr
structure DefOk(K:Yl)(mg:Str->Option Yk)(kl:Kl)(fs:List Str)(x z:Str)(fd:Fd)(st:Stmt)(f:Yj)(am:FuncData):Prop where
 bd:BodyOk K kl fs z z fd st f am
 mg:mg x=J (.ref f)
structure Md(Pr:Yi)(w:Yh)(K:Yl)(mg:Str->Option Yk)(P:Pg)(kl:Kl):Prop where
 bare:Zc5 K=Wr
 gd:∀x kvs,P.GD x=J kvs->∃a ai,mg x=J (.ref a)/\DkK Pr w K a ai/\∀H B,RKs ⟨K,mg⟩ H B kvs ai
 g:∀x d,P.G x=J d->∃v u,mg x=J u/\RelV v u/\∀H B,RD ⟨K,mg⟩ H B d v
 blt:∀x∈ZnQ,mg x=M
 defs:∀x fd,P.tb.lookup x=J fd->∃z st f am,DefOk K mg kl (P.tb.map (·.1)) x z fd st f am
 cls:∀C∈kl.cs,∃a,mg C=J (.ref a)/\Cls K a/\∀f∈kl.ats,Zby K a f
 mts:∀p∈kl.ms,∃a f am fd st q,mg p.1=J (.ref a)/\Cls K a/\Meth K a p.2 f/\P.look (mnm p.1 p.2)=J fd/\BodyOk K kl (P.tb.map (·.1)) p.2 q fd st f am
 mks:∀C∈kl.is,∃a f am fd st q,mg C=J (.ref a)/\Mk K a f/\P.look (mnm C<|O "__init__")=J fd/\BodyOk K kl (P.tb.map (·.1)) (O "__init__") q fd st f am
 xcs:∀C∈kl.xs,∃a,mg C=J (.ref a)/\XOk K a
 xas:∀p∈kl.xa,∃a b,mg p.1=J (.ref a)/\mg p.2=J (.ref b)/\XAs K a b
 xis:∀p∈kl.xi,∃b v,mg p.1=J (.ref b)/\ClV mg p.2.1 v/\PySem.W.kitOne K (.ref b) v=J p.2.2
def ZpF(r:RDs Y H B ds vs):RS Y H B (Zx N ds) (L2.start N vs):=by
 refine⟨by simp[Zx,L2.start,r.length],λi d e=>?_⟩;unfold Zx at e;unfold L2.start;by_cases a:i<ds.length
 . rw[Oe<|by simp_all,O2]at e;rw[Oe<|by simpa[<-r.length]using a];obtain⟨g,b,c⟩:=Oo.mp e;cases c;obtain⟨v,R,f⟩:=r.get b;exact⟨v,by simp_all,f⟩
 . rw[Om<|by simp_all]at e;have:=O1 e
   simp_all
def Zsn(f:Fin Y (RD Y) H B (Zf r) Q E):ZZ Y H B r {nx:=λ_ H'=>Q .non H',rt:=Q} E:=by
 cases r with
 |bad=>trivial
 |exc c h=>exact f
 |ok p h=>
  obtain⟨b,S⟩:=p;cases b with
  |nx=>exact λH' μ' g a σ' _=>f _ _ _ g a .non
  |bk=>trivial
  |ct=>trivial
  |rt d=>exact λH' μ' g a v e=>f v _ _ g a e
section
variable {Pr:Yi}{w:Yh}{K:Yl}{mg:Str->Option Yk}{base:YG}{P:Pg}{kl:Kl}
def ZjJ(h:P.tb.lookup x=J fd):P.look x=J fd:=by unfold Pg.look;rw[h]
def ZpH(hl:P.look x=J fd)(h:Zgn (P.tbl n) ⟨K,mg⟩ x vs H Q E):vs.length=fd.ps.length:=by
 obtain⟨ds,h,B,b,a,f⟩:=h;cases n with
 |zero=>exact f.elim
 |succ n=>have f:Fin _ _ H _ (run P _ x _ h) Q E:=f;rw[run,hl]at f;obtain⟨c,_⟩:=f.iff;rw[<-a.length];trivial
structure Lev(Pr:Yi)(w:Yh)(K:Yl)(mg:Str->Option Yk)(base:YG)(P:Pg)(kl:Kl)(n:Nat):Prop where
 defs:∀y∈P.tb.map (·.1),∃ps,Def Pr w K mg base (2*n+61) y ps (Zgn (P.tbl n) ⟨K,mg⟩ y)
 mts:∀p∈kl.ms,∃a f fd ps,mg p.1=J (.ref a)/\Cls K a/\Meth K a p.2 f/\FnOk Pr w K mg base (CXF Pr w) (2*n+61) f fd ps (Zgn (P.tbl n) ⟨K,mg⟩<|mnm p.1 p.2)/\Binds K fd ps []
 mks:∀C∈kl.is,∃a f fd ps,mg C=J (.ref a)/\Mk K a f/\FnOk Pr w K mg base (CXF Pr w) (2*n+61) f fd ps (Zgn (P.tbl n) ⟨K,mg⟩<|mnm C<|O "__init__")/\Binds K fd ps []
def ZjV(qd:Md Pr w K mg P kl){x nm q}{fd}{st}{f}{am}(hl:P.look x=J fd)(o:BodyOk K kl (P.tb.map (·.1)) nm q fd st f am):
 ∀n,Lev Pr w K mg base P kl n->FnOk Pr w K mg base (CXF Pr w) (2*(n+1)+61) f am fd.ps (Zgn (P.tbl<|n+1) ⟨K,mg⟩ x):=by
 intro n a;obtain⟨p,r,kV,t,u,an,v,ct,C,rfl,d,e⟩:=o.fn.ex;refine ZyQ d e o.sc (λi H Q E h=>ZpH hl h) λA b s H i Q E c j=>ZtX (sts_ok _ (k:=2*n+61) (Γ:=⟨fd.N,Z5 _,_,_,_⟩) ⟨⟨⟨rfl,rfl,qd.gd,qd.g,qd.bare⟩,rfl,λ_=>rfl,λy hy=>?_,λy hy=>hy,o.sc.nd,rfl,c.mono<|by lia,by lia,ZsU λ_ _ z=>z,a.defs,qd.blt,c,qd.cls,a.mts,a.mks⟩,rfl,λ_=>rfl,PassesOwn.leaving,?_,ZpS,rfl,rfl,qd.xcs,qd.xas,qd.xis⟩ o.ck) ?_
 . unfold Zr3 at hy;rw[Wo,Wo]at hy;rcases hy with (hy|hy)|hy
   . exact .inl (of_decide_eq_true hy)
   . exact .inr (.inl<|of_decide_eq_true hy)
   . exact .inr (.inr<|of_decide_eq_true hy)
 . show(if (Z5 st).kind.isAnnotationScope then ScopeKind.function else(Z5 st).kind)=.function;rw[o.sc.kind];rfl
 . obtain⟨ds,h,B,l,m,f⟩:=j;have f:Fin ⟨K,mg⟩ (RD ⟨K,mg⟩) H B (run P (n+1) x ds h) Q E:=f;rw[run,hl]at f;exact⟨Zx fd.N ds,h,B,l,ZpF m,Zsn f.iff.2⟩
def mem_lookup{α:Type}{l:List (Str×α)}{x}(h:x∈l.map (·.1)):∃a,l.lookup x=J a:=by
 induction l with
 |nil=>simp_all
 |cons p r b=>
  rw[OF];by_cases e:x=p.1
  . simp_all
  . have:(x==p.1)=Ws:=by simpa using e
    rw[this];exact b (by simp_all)
def ZjP{x}{fd}{f}{am}(hl:P.look x=J fd):FnOk Pr w K mg base (CXF Pr w) (2*0+61) f am fd.ps (Zgn (P.tbl 0) ⟨K,mg⟩ x):=⟨λvs H Q E h=>ZpH hl h,by rintro A outer s H args us vs Q E _ _ _ _⟨ds,h,B,rh,rs,f⟩;exact f.elim⟩
def ZrW(qd:Md Pr w K mg P kl):∀n,Lev Pr w K mg base P kl n:=by
 intro n;induction n with
 |zero=>
  refine⟨λy h=>?_,λp i=>?_,λC j=>?_⟩
  . obtain⟨d,b⟩:=mem_lookup h;obtain⟨_,e,f,g,o⟩:=qd.defs y _ b;exact⟨_,f,_,o.mg,o.bd.fn.kp,o.bd.fn.binds o.bd.hb,ZjP<|ZjJ b⟩
  . obtain⟨a,f,g,d,e,q,m,c,me,b,o⟩:=qd.mts p i;exact⟨a,f,_,_,m,c,me,ZjP b,o.fn.binds o.hb⟩
  . obtain⟨a,f,g,d,e,q,m,me,b,o⟩:=qd.mks C j;exact⟨a,f,_,_,m,me,ZjP b,o.fn.binds o.hb⟩
 |succ n k=>
  refine⟨λy h=>?_,λp i=>?_,λC j=>?_⟩
  . obtain⟨d,b⟩:=mem_lookup h;obtain⟨_,e,f,g,o⟩:=qd.defs y _ b;exact⟨_,f,_,o.mg,o.bd.fn.kp,o.bd.fn.binds o.bd.hb,ZjV qd (ZjJ b) o.bd n k⟩
  . obtain⟨a,f,g,d,e,q,m,c,me,b,o⟩:=qd.mts p i;exact⟨a,f,_,_,m,c,me,ZjV qd b o n k,o.fn.binds o.hb⟩
  . obtain⟨a,f,g,d,e,q,m,me,b,o⟩:=qd.mks C j;exact⟨a,f,_,d.ps,m,me,ZjV qd b o n k,o.fn.binds o.hb⟩
def Zwl(qd:Md Pr w K mg P kl){x}{a}{fd}{fa}(n)(hl:P.tb.lookup x=J fd)(eQ:fd.ps=[a])(hm:mg x=J (.ref fa)):
 ∃am:FuncData,(∀(s) (v),BindsTo s am ⟨[v],[]⟩ [(a,v)])/\∀base ,FnOk Pr w K mg base (CXF Pr w) (2*(n+1)+61) fa am [a] (Zgn (P.tbl<|n+1) ⟨K,mg⟩ x):=by
 obtain⟨_,g,f,am,o⟩:=qd.defs x _ hl;have e:=hm.symm.I o.mg;cases e;refine⟨_,λs v=>?_,λbase=>eQ▸ZjV qd (ZjJ hl) o.bd n (ZrW qd n)⟩;obtain⟨h,i,kV,b,c,an,d,ct,j,rfl,k,l⟩:=o.bd.fn.ex;have:=o.bd.hb kV b c an d ct [v] (by rw[eQ];rfl);rw[eQ]at this;exact BindsTo.of_eq this
end
def Zxj{α:Type}{us:List α}(h:us.length=0):us=[]:=List.length_eq_zero_iff.mp h
def Zn1{α:Type}{us:List α}{n}(h:us.length=n+1):∃a r,us=a::r/\r.length=n:=by
 cases us with
 |nil=>cases h
 |cons a r=>exact⟨a,r,rfl,Nat.succ.inj h⟩
def Zxi{α:Type}{us:List α}(h:us.length=1):∃a0,us=[a0]:=by obtain⟨a0,r,rfl,a⟩:=Zn1 h;exact⟨_,by rw[Zxj a]⟩
def Zxh{α:Type}{us:List α}(h:us.length=2):∃a0 a1,us=[a0,a1]:=by obtain⟨a0,r,rfl,a⟩:=Zn1 h;obtain⟨a1,rfl⟩:=Zxi a;exact⟨_,_,rfl⟩
def Zxg{α:Type}{us:List α}(h:us.length=3):∃a0 a1 a2,us=[a0,a1,a2]:=by obtain⟨a0,r,rfl,a⟩:=Zn1 h;obtain⟨a1,a2,rfl⟩:=Zxh a;exact⟨_,_,_,rfl⟩
def Zxf{α:Type}{us:List α}(h:us.length=4):∃a0 a1 a2 a3,us=[a0,a1,a2,a3]:=by obtain⟨a0,r,rfl,a⟩:=Zn1 h;obtain⟨a1,a2,a3,rfl⟩:=Zxg a;exact⟨_,_,_,_,rfl⟩
def Zxe{α:Type}{us:List α}(h:us.length=5):∃a0 a1 a2 a3 a4,us=[a0,a1,a2,a3,a4]:=by obtain⟨a0,r,rfl,a⟩:=Zn1 h;obtain⟨a1,a2,a3,a4,rfl⟩:=Zxf a;exact⟨_,_,_,_,_,rfl⟩
def Zzq{α:Type}{us:List α}(h:us.length=6):∃a0 a1 a2 a3 a4 a5,us=[a0,a1,a2,a3,a4,a5]:=by obtain⟨a0,r,rfl,a⟩:=Zn1 h;obtain⟨a1,a2,a3,a4,a5,rfl⟩:=Zxe a;exact⟨_,_,_,_,_,_,rfl⟩
set_option tactic.hygienic true
def All(p:α->Prop):List α->Prop
 |[]=>True
 |a::l=>p a/\All p l
theorem All.mem:∀{l:List α},All p l->∀a∈l,p a
 |[],_,a,h=>by simp_all
 |b::l,⟨_,c⟩,a,h=>by
  rcases O3.mp h with rfl|h
  . trivial
  . exact All.mem c a h
def lookup_mem{α:Type}{l:List (Str×α)}{a}(h:l.lookup x=J a):(x,a)∈l:=by
 induction l with
 |nil=>cases h
 |cons p r b=>
  rw[OF]at h;by_cases e:x=p.1
  . have:(x==p.1)=Wr:=by simpa using e
    rw[this]at h;cases h
    simp_all
  . have:(x==p.1)=Ws:=by simpa using e
    simp_all
noncomputable def spL(K:Yl):Sp:=λc H Q _=>∃(a:Yj) (b:List Int),c=[.ref a]/\SqL K H a (b.map V.int)/\b.length<=63/\Zua H/\∀H',Q (.bl Wr) H'
theorem Zny:∀ns:List _,RDs Y H B (ns.map D.int) (ns.map V.int)
 |[]=>.nil
 |n::r=>.cons (.int n) (Zny r)
def Zxd{l:PySem.W.OpenLaw}{q}{be}{XP}{YP}{d}{K:Params->Yl}{P}{kl}{fd}(n)(hn:l.most=J 63)(fW:d.params.defaults=[])(hd:d.name=O "law")(hr:Room (2*(n+1)+61) callerA)
 (hY:∀(w) (h),YP w h->(K w.params).In h) (hl:P.tb.lookup (O "law")=J fd) (eQ:fd.ps=[O "_law_script"])
 (iG:∀ns:List _,ns.length<=63->∃h',run P (n+1) (O "law") [.ro<|ns.map .int] []=.ok (.bl Wr) h')
 (qd:∀(w) (mg) (h),(K w.params).In h->h.Ns Ye mg->Md l.prog w (K w.params) mg P kl) :
 PySem.W.WalkO q be XP YP l.row.toRowW d [] (λf vs=>PySem.call f vs):=by
 refine L2.Zr2 (x := "_law_script") (CX:=λw=>CXF l.prog w) (sp:=λw=>spL _) hn (by decide) fW hr hY (λw mg u h KX G j=>?_) (λ_ _ a ns hl g hS=>⟨a,_,rfl,hS,hl,g,λ_=>rfl⟩) λ_ _ _ _ _ z=>by obtain⟨_,_,_,_,_,_,_,_,_,_,_,_,_,z⟩:=z;exact z
 rw[hd]at j;obtain⟨k,m,F⟩:=Zwl (qd w _ h KX G) n hl eQ j;refine⟨k,m,λc _ _=>(F c).imp λvs H Q E p=>?_⟩;obtain⟨a,ns,rfl,hS,s,g,t⟩:=p;obtain⟨h',e⟩:=iG ns s;refine⟨[.ro<|ns.map .int],[],[],⟨rfl,.nil,λi o a e=>by trivial,λi o e=>by trivial⟩,.cons (.ro ?_<|Zny ns) .nil,?_⟩
 . rcases hS with hS|hS
   . rcases hS with hS|hS
     . rcases g a with z|⟨o,v,z⟩<;>(simp_all)
     . exact .inl hS
   . exact .inr hS
 . show Fin _ _ H [] (run P (n+1) (O "law") [.ro<|ns.map .int] []) Q E;rw[e];exact λb H' μ' _ _ r=>by cases r;exact t H'
def Zkl{K:Yl}(h:K.lookup a=J ⟨.type "tuple",od,.seq its n,sl⟩)(hz:its.size<=Yc)(r:Zt vs its.toList):SqT K H a vs:=
 .inr ⟨_,_,n,h,rfl,rfl,hz,r⟩
end IV
namespace IV
open PySem L2 PyProof.Rows
section
structure Chk(kl:Kl)(fs:List Str)(x q:Str)(fd:Fd)(st:Stmt):Prop where
 sc:FnScope fd.N fd.ps (Z5 st)
 hb:∀(kV a7 pm:Yk) (an:Option Yj) (aQ ct:Yk) (us:List Yk),us.length=fd.ps.length->bindArgs (PySem.W.fnOf x q (ZeX st) (ZcA st) (Z5 st) .none kV a7 pm an aQ ct) ⟨us,[]⟩=pure (fd.ps.zip us)
 ck:chkSs ⟨fd.N,Z5 st,fs,Wr,kl⟩ fd.body (ZcA st)=Wr
variable {K:Yl}{h:YG}{mg:Str->Option Yk}{kl:Kl}{fs:List Str}{x z q C:Str}{fd:Fd}{st:Stmt}{ca:Yj}{P:Pg}
def Chk.bd(c:Chk kl fs x q fd st)(F:Fun K x q st f am):BodyOk K kl fs x q fd st f am:=⟨F,c.sc,c.hb,c.ck⟩
def Zw6(K:Yl)(x z:Str)(st:Stmt):Prop:=∃f a,Ym K Ye x=J (J<|.ref f)/\Fun K z z st f a
def Zix(K:Yl)(ca:Yj)(x q:Str)(st:Stmt):Prop:=∃f a,YJ K (.ref ca) x=J (J<|.ref f)/\PySem.W.isFn K (.ref f)=Wr/\Wb K (.ref f)=Wr/\Fun K x q st f a
def ZtO(X:K.In h)(G:h.Ns Ye mg)(d:Zw6 K x z st)(c:Chk kl fs z z fd st):∃z st f am,DefOk K mg kl fs x z fd st f am:=by obtain⟨f,am,a,F⟩:=d;exact⟨z,_,f,_,c.bd F,YO X G a⟩
def Ztf(X:K.In h)(G:h.Ns Ye mg)(y:Ym K Ye C=J (J<|.ref ca))(cl:Cls K ca)(d:Zix K ca x q st)(c:Chk kl (P.tb.map (·.1)) x q fd st)(e:P.look (mnm C x)=J fd):∃a f am fd st q,mg C=J (.ref a)/\Cls K a/\Meth K a x f/\P.look (mnm C x)=J fd/\BodyOk K kl (P.tb.map (·.1)) x q fd st f am:=by obtain⟨f,am,b,g,i,F⟩:=d;exact⟨_,f,_,_,_,q,YO X G y,cl,⟨b,g,i⟩,e,c.bd F⟩
def ZjI(X:K.In h)(G:h.Ns Ye mg)(y:Ym K Ye C=J (J<|.ref ca))(m:PySem.W.makesIn K ca=Wr)(k:Wb K (.ref ca)=Wr)(d:Zix K ca (O "__init__") q st)(c:Chk kl (P.tb.map (·.1)) (O "__init__") q fd st)(e:P.look (mnm C<|O "__init__")=J fd):∃a f am fd st q,mg C=J (.ref a)/\Mk K a f/\P.look (mnm C<|O "__init__")=J fd/\BodyOk K kl (P.tb.map (·.1)) (O "__init__") q fd st f am:=by obtain⟨f,am,b,g,i,F⟩:=d;exact⟨_,f,_,_,_,q,YO X G y,⟨m,b,g,k⟩,e,c.bd F⟩
end
section
noncomputable abbrev Ml:=Str×Str×Fd×Nat×Nat
variable {K:Yl}{h:YG}{mg:Str->Option Yk}{kl:Kl}{fs:List Str}{C:Str}{ca:Yj}{P:Pg}
theorem All.app{α:Type}{p}{b}:∀{a:List α},All p a->All p b->All p (a++b)
 |[],_,c=>c
 |_::_,d,c=>⟨d.1,d.2.app c⟩
theorem ZnH(X:K.In h)(G:h.Ns Ye mg){top:Nat->Stmt}:∀{l:List (Str×Str×Fd×Nat)},All (λp=>Zw6 K p.1 p.2.1<|top p.2.2.2) l->All (λp=>Chk kl fs p.2.1 p.2.1 p.2.2.1<|top p.2.2.2) l->All (λp=>∃z st f am,DefOk K mg kl fs p.1 z p.2 st f am) (l.map λp=>(p.1,p.2.2.1))
 |[],_,_=>trivial
 |_::_,d,c=>⟨ZtO X G d.1 c.1,ZnH X G d.2 c.2⟩
theorem ZfR(X:K.In h)(G:h.Ns Ye mg)(y:Ym K Ye C=J (J<|.ref ca))(cl:Cls K ca){mt:Nat->Nat->Stmt}:∀{l:List Ml},All (λp=>Zix K ca p.1 p.2.1<|mt p.2.2.2.1 p.2.2.2.2) l->All (λp=>Chk kl (P.tb.map (·.1)) p.1 p.2.1 p.2.2.1<|mt p.2.2.2.1 p.2.2.2.2) l->All (λp=>P.look (mnm C p.1)=J p.2.2.1) l->All (λp:Str×Str=>∃a f am fd st q,mg p.1=J (.ref a)/\Cls K a/\Meth K a p.2 f/\P.look (mnm p.1 p.2)=J fd/\BodyOk K kl (P.tb.map (·.1)) p.2 q fd st f am) (l.map λp=>(C,p.1))
 |[],_,_,_=>trivial
 |_::_,d,c,e=>⟨Ztf X G y cl d.1 c.1 e.1,ZfR X G y cl d.2 c.2 e.2⟩
theorem ZkD(X:K.In h)(G:h.Ns Ye mg):∀{l},All (λx=>Ym K Ye x=J M) l->All (λx=>mg x=M) l
 |[],_=>trivial
 |_::_,d=>⟨PySem.W.mg_none_of X G d.1,ZkD X G d.2⟩
end
end IV
namespace IV
open PySem L2
set_option tactic.hygienic false
theorem ZjE(h:Str.ofString a=Str.ofString b):a=b:=by
 have e:∀ s ,(Str.ofString s).cps.toList=s.toList.map _:=λs=>by
   show (cpsOfBytes 0 0 _).toArray.toList=_;rw [cpsOfBytes_string]
 have R:=congrArg (λs=>s.cps.toList) h;simp [e] at R;exact String.toList_inj.mp (by
   have inj:∀ {x y:Char},x.toNat=y.toNat->x=y:=λ{x y} q=>Char.ext<|UInt32.toNat_inj.mp q;exact(List.map_inj_right λx y q=>inj q).mp R)
@[simp]def ofString_eq(a b):(Str.ofString a=Str.ofString b)↔a=b:=⟨ZjE,λh=>h▸rfl⟩
@[simp]def Ztb(a b):(Str.ofString a==Str.ofString b)=(a==b):=by rw[Bool.eq_iff_iff];simp
def Un(k:γ):Type:=Unit
noncomputable def un:Un k:=()
def qe.bnd(r:qe α)(k:α->Hd->qe β)(u:Un k:=un):qe β:=r.bind k
@[simp]def ZA:qe.bnd (.ok a h) k u=k a h:=rfl
@[simp]def Zzo:qe.bnd (qe.bad:qe α) k u=.bad:=rfl
section
variable {T:Tb}{S:Ev}{h:Hd}
@[simp]def bind_ok:(qe.ok a h).bind k=k a h:=rfl
@[simp]def bind_bad:(qe.bad:qe α).bind k=.bad:=rfl
@[simp]def ofO_some:qe.ofO (J a) h=.ok a h:=rfl
@[simp]def Zow:(qe.ok a h).plain=.ok a h:=rfl
@[simp]def ZjT{i}:ev T (.var i) S h=qe.ofO (S[i]?).join h:=rfl
@[simp]def ZwM{d}:ev T (.cst d) S h=.ok d h:=rfl
@[simp]def Zia{x}:ev T (.glo x) S h=qe.ofO (T.G x) h:=rfl
@[simp]def ZwO{op a b}:ev T (.bin op a b) S h=(ev T a S h).bnd λx R=>(ev T b S R).bnd λy h2=>opB op x y h2:=rfl
@[simp]def ZAc{op a b}:ev T (.cmp op a b) S h=(ev T a S h).bnd λx R=>(ev T b S R).bnd λy h2=>opC T.GD op x y h2:=rfl
@[simp] theorem ZAb{a}:ev T (.neg a) S h=(ev T a S h).bnd λx R=>match x with
 |.int i=>.ok (.int<|-i) R
 |_=>.bad:=rfl
@[simp] theorem ZAs{a}:ev T (.nt a) S h=(ev T a S h).bnd λx R=>match x with
 |.bl b=>.ok (.bl<|!b) R
 |_=>.bad:=rfl
@[simp]def Zhk{es}:ev T (.ands es) S h=evAnd T es S h:=rfl
@[simp]def ZAa{es}:ev T (.ors es) S h=evOr T es S h:=rfl
@[simp]def Zxb{e}:evAnd T (.cons e .nil) S h=ev T e S h:=rfl
@[simp] theorem ZeV{e e' r}:evAnd T (.cons e<|.cons e' r) S h=(ev T e S h).bnd λx R=>match x with
 |.bl Wr=>evAnd T (.cons e' r) S R
 |.bl Ws=>.ok (.bl Ws) R
 |_=>.bad:=rfl
@[simp]def ZyY{e}:evOr T (.cons e .nil) S h=ev T e S h:=rfl
@[simp] theorem ZyX{e e' r}:evOr T (.cons e<|.cons e' r) S h=(ev T e S h).bnd λx R=>match x with
 |.bl Wr=>.ok (.bl Wr) R
 |.bl Ws=>evOr T (.cons e' r) S R
 |_=>.bad:=rfl
@[simp]def Zrn{c a b}:ev T (.ite c a b) S h=(tst T c S h).bnd λc R=>if c then ev T a S R else ev T b S R:=rfl
@[simp]def Zzm{es}:ev T (.tupl es) S h=(evs T es S h).bnd λxs R=>if xs.length<=Yc then .ok (.tup xs) R else .bad:=rfl
@[simp]def ZtM{es}:ev T (.lstl es) S h=(evs T es S h).bnd λxs R=>if xs.length<=Yc then ZeY (.lst xs) R else .bad:=rfl
@[simp]def ZnF{a i}:ev T (.ix a i) S h=(ev T a S h).bnd λx R=>(ev T i S R).bnd λy h2=>ZaQ T.GD x y h2:=rfl
@[simp]def Zrm{a lo hi}:ev T (.sl a lo hi) S h=(ev T a S h).bnd λx R=>(evo T lo S R).bnd λl h2=>(evo T hi S h2).bnd λu h3=>ZfN x l u h3:=rfl
@[simp]def ZAd{f es}:ev T (.blt f es) S h=(evs T es S h).bnd λxs R=>Zb6 T.GD f xs R:=rfl
@[simp]def ZnG{f es}:ev T (.call f es) S h=(evs T es S h).bnd λxs R=>T.C f xs R:=rfl
@[simp]def ZnE{m o es}:ev T (.meth m o es) S h=(ev T o S h).bnd λx R=>if ZgT x R then(evs T es S R).bnd λxs h2=>ZaA m x xs h2 else .bad:=rfl
@[simp]def ZjU{NC js it g c e}:ev T (.comp NC js it g c e) S h=(evi T it S h).bnd λw R=>(ZI w.src g (tsto T c) (ev T e) w.xs (ZbY js S) [] R).bnd λxs h2=>ZeY (.lst xs) h2:=rfl
@[simp]def Zzn{e d}:ev T (.maxd e d) S h=(ev T e S h).bnd λx R=>(ev T d S R).bnd λy h2=>ZnY x y h2:=rfl
@[simp] theorem ZyW{ps}:ev T (.dictl ps) S h=(evs T ps S h).bnd λxs R=>match Zd8 xs with
 |some a=>if a.length<=15 then ZeY (.dic<|ZcL [] a) R else .bad
 |none=>.bad:=rfl
@[simp]def Zro{Cs o f}:ev T (.att Cs o f) S h=(ev T o S h).bnd λx R=>Zgz Cs f x R:=rfl
@[simp]def ZyV{C es}:ev T (.mk C es) S h=(evs T es S h).bnd λxs R=>Zg7 T.C C xs R:=rfl
@[simp] theorem ZwL{C m o es}:ev T (.mcl C m o es) S h=(ev T o S h).bnd λx R=>match Z8 x R with
 |some (C',fs)=>if C'=C/\fs.lookup m=M then(evs T es S R).bnd λa b=>T.C (mnm C m) (x::a) b else .bad
 |none=>.bad:=rfl
@[simp]def ZtL{e}:ev T (.trev e) S h=(ev T e S h).bnd λx R=>ZrO x R:=rfl
@[simp]def ZwK{o e}:ev T (.tix o e) S h=(ev T o S h).bnd λx R=>if ZyH x then(ev T e S R).bnd λy h2=>Zo9 x y h2 else .bad:=rfl
@[simp]def Zpd{Cs o f e}:xs1 T (.seta Cs o f e) S h=(ev T e S h).bnd λd R=>(ev T o S R).bnd λx h2=>(Zgo Cs f x d h2).bnd λ_ h3=>.ok (.nx,S) h3:=rfl
@[simp] theorem Zpe{Cs o f e}:xs1 T (.auga Cs o f e) S h=(ev T o S h).bnd λx R=>(Zgz Cs f x R).bnd λv h2=>(ev T e S h2).bnd λy h3=>match v,y with
 |.int a,.int b=>if (Z8 x R).map (·.1)=(Z8 x h3).map (·.1)then(Zgo Cs f x (.int<|a+b) h3).bnd λ_ c=>.ok (.nx,S) c else .bad
 |_,_=>.bad:=rfl
@[simp]def ZO:evs T .nil S h=.ok [] h:=rfl
@[simp]def Zh9{e es}:evs T (.cons e es) S h=(ev T e S h).bnd λx R=>(evs T es S R).bnd λxs h2=>.ok (x::xs) h2:=rfl
@[simp]def ZyU:evo T M S h=.ok M h:=rfl
@[simp] theorem ZyT{e}:evo T (J e) S h=(ev T e S h).bnd λx R=>match x with
 |.int i=>.ok (J i) R
 |_=>.bad:=rfl
@[simp]def ZuY{e}:tst T (.ex e) S h=(ev T e S h).bnd λx R=>qe.ofO (Zfk T.GD x R) R:=rfl
@[simp]def Zxp{ts}:tst T (.ands ts) S h=tstAnd T ts S h:=rfl
@[simp]def Zzj{ts}:tst T (.ors ts) S h=tstOr T ts S h:=rfl
@[simp]def ZuX{a}:tst T (.nt a) S h=(tst T a S h).bnd λc R=>.ok (!c) R:=rfl
@[simp]def Zu0{t}:tstAnd T (.one t) S h=tst T t S h:=rfl
@[simp]def Zuf{t ts}:tstAnd T (.cons t ts) S h=(tst T t S h).bnd λc R=>if c then tstAnd T ts S R else .ok Ws R:=rfl
@[simp]def Zw9{t}:tstOr T (.one t) S h=tst T t S h:=rfl
@[simp]def ZuZ{t ts}:tstOr T (.cons t ts) S h=(tst T t S h).bnd λc R=>if c then .ok Wr R else tstOr T ts S R:=rfl
@[simp]def Zn5:tsto T M S h=.ok Wr h:=rfl
@[simp]def Zw8{t}:tsto T (J t) S h=tst T t S h:=rfl
@[simp]def Zrl{e}:evi T (.pl e) S h=(ev T e S h).bnd λx R=>qe.ofO (ZaT x R) R:=rfl
@[simp] theorem ZtJ{e}:evi T (.rng e) S h=(ev T e S h).bnd λx R=>match x with
 |.int j=>if ZeM j then .ok ⟨[],ZbQ 0 j.toNat⟩ R else .bad
 |_=>.bad:=rfl
@[simp]def Zz9{a b}:ev T (.rpn o a b) S h=(ev T a S h).bnd λx R=>(shD x R).bnd λp R=>(ev T b S R).bnd λy h2=>(shD y h2).bnd λq h3=>.ok (.bl<|bif o then !Wu (p=q)else Wu (p=q)) h3:=rfl
@[simp]def ZnD{e}:evi T (.enu e) S h=(ev T e S h).bnd λx R=>qe.ofO ((Zhn x R).map λw=>⟨w.src,Zej w.xs⟩) R:=rfl
@[simp]def ZnC{e}:evi T (.rev e) S h=(ev T e S h).bnd λx R=>qe.ofO ((Zhm x R).map λw=>⟨w.src,w.xs.reverse⟩) R:=rfl
@[simp] theorem ZtK{e}:evi T (.en1 e) S h=(ev T e S h).bnd λx R=>match x with
 |.tup a=>.ok ⟨[],Zfs a⟩ R
 |_=>.bad:=rfl
@[simp]def ZmL{e}:xs1 T (.ret e) S h=(ev T e S h).bnd λx R=>.ok (.rt x,S) R:=rfl
@[simp]def Zjl{g e}:xs1 T (.set g e) S h=(ev T e S h).bnd λx R=>(qe.ofO (ZbK g x S) R).bnd λρ1 h2=>.ok (.nx,ρ1) h2:=rfl
@[simp]def ZmM{o i e}:xs1 T (.put o i e) S h=(ev T e S h).bnd λx R=>(ev T o S R).bnd λy h2=>(ev T i S h2).bnd λz h3=>(ZbV y z x h3).bnd λ_ h4=>.ok (.nx,S) h4:=rfl
@[simp]def ZrX{e}:xs1 T (.drp e) S h=(ev T e S h).bnd λ_ R=>.ok (.nx,S) R:=rfl
@[simp]def Zzi{c a b}:xs1 T (.iff c a b) S h=(tst T c S h).bnd λt R=>if t then xs2 T a S R else xs2 T b S R:=rfl
@[simp]def Zzh{c b}:xs1 T (.whl c b) S h=ZH (tst T c) (xs2 T b) T.L S h:=rfl
@[simp]def Zkh{g it b}:xs1 T (.forr g it b) S h=(evi T it S h).bnd λw R=>ZG w.src g (xs2 T b) w.xs S R:=rfl
@[simp]def Zzg:xs2 T .nil S h=.ok (.nx,S) h:=rfl
@[simp] theorem Zpc{s r}:xs2 T (.cons s r) S h=(xs1 T s S h).bnd λp R=>match p with
 |(.nx,ρ1)=>xs2 T r ρ1 R
 |p=>.ok p R:=rfl
def Za(e:xs1 T s S h=.ok (.nx,ρ1) R):xs2 T (.cons s r) S h=xs2 T r ρ1 R:=by simp_all
def Zd(e:xs1 T s S h=.ok (.rt d,ρ1) R):xs2 T (.cons s r) S h=.ok (.rt d,ρ1) R:=by simp_all
@[simp]def Zzp{i d}:ZbK (.nm i) d S=J (S.set i<|J d):=rfl
@[simp]def Zla{i j a b}:ZbK (.two i j) (.tup [a,b]) S=J ((S.set i<|J a).set j<|J b):=rfl
@[simp]def ZzK:Zf (.ok (.rt d,S) h)=.ok d h:=rfl
@[simp]def ZzL:Zf (.ok (.nx,S) h)=.ok .non h:=rfl
end
@[simp]def Zod:seqOf (.tup xs) h=J xs:=rfl
@[simp]def Zyk:ZjC f (.int i) (.int j) h=.ok (.bl<|f i j) h:=rfl
section
variable {GD:Str->Option (List<|Key×D)}{h:Hd}
@[simp]def ZqA{x y}:opC GD .Eq x y h=ZdW Ws x y h:=rfl
@[simp]def ZzZ{x y}:opC GD .NotEq x y h=ZdW Wr x y h:=rfl
@[simp]def Zz0{i j}:opC GD .Lt (.int i) (.int j) h=.ok (.bl<|Wu<|i<j) h:=rfl
@[simp]def Zz1{i j}:opC GD .LtE (.int i) (.int j) h=.ok (.bl<|Wu<|i<=j) h:=rfl
@[simp]def Zz2{i j}:opC GD .Gt (.int i) (.int j) h=.ok (.bl<|Wu<|j<i) h:=rfl
@[simp]def Zz3{i j}:opC GD .GtE (.int i) (.int j) h=.ok (.bl<|Wu<|j<=i) h:=rfl
@[simp]def Zv5{x}:opC GD .Is x .non h=.ok (.bl<|Wu<|x=.non) h:=rfl
@[simp]def Zqz{x}:opC GD .IsNot x .non h=.ok (.bl<|!Wu (x=.non)) h:=rfl
@[simp] theorem ZjD{s n}:opC GD .NotIn (.str s) (.kd n) h=match GD n with
 |some a=>.ok (.bl<|!(Zao a<|.inr s).isSome) h
 |none=>.bad:=by
 show ZdK _ _ _ (.kd n) h=_;unfold ZdK;simp only[dicOf];cases GD n<;>rfl
def Zlr(ss:List _):(ss.map D.str).all D.flat=Wr:=by rw[OC];intro x a;obtain⟨s,_,rfl⟩:=List.mem_map.mp a;rfl
def any_words(ss:List _)(x):((ss.map D.str).any λz=>eqF z<|.str x)=Wu (x∈ss):=by
 induction ss with
 |nil=>rfl
 |cons s r a=>
  rw[Op,List.any_cons,a];show((s==x)||decide _)=_;by_cases e:s=x
  . simp_all
  . have b:¬ x=s:=λq=>e q.symm
    simp_all
def Zb1{ss:List _}{x}:opC GD .In (.str x) (.tup<|ss.map .str) h=.ok (.bl<|Wu<|x∈ss) h:=by show ZdK GD _ _ (.tup _) h=_;unfold ZdK;rw[Zod];simp only[Zlr,any_words];rfl
@[simp]def ZfO{xs i}:ZaQ GD (.tup xs) (.int i) h=qe.ofO (atI xs i) h:=rfl
@[simp]def Zzl{xs i}:ZaQ GD (.ro xs) (.int i) h=qe.ofO (atI xs i) h:=rfl
@[simp] theorem Zs4{n s}:ZaQ GD (.kd n) (.str s) h=match GD n with
 |some a=>qe.ofO (Zao a<|.inr s) h
 |none=>.bad:=rfl
def ZC{i k xs}(e:h[i]?=J (.lst xs)):ZaQ GD (.ref i) (.int k) h=qe.ofO (atI xs k) h:=by unfold ZaQ;simp[seqOf,lstOf,e]
@[simp]def ZrR{α:Type}{x}{l:List α}:atI (x::l) 0=J x:=by simp[atI,ixN]
def ZbF{α:Type}{l:List α}{k:Nat}:atI l k=l[k]? := by
 unfold atI ixN;by_cases a:k<l.length
 . simp_all
 . simp[a]
@[simp]def Zzb{α:Type}{x y}{l:List α}:atI (x::y::l) 1=J y:=ZbF
@[simp]def ZAu{α:Type}{x y z}{l:List α}:atI (x::y::z::l) 2=J z:=ZbF
@[simp]def ZAt{α:Type}{x y z w}{l:List α}:atI (x::y::z::w::l) 3=J w:=ZbF
def Zdi{α:Type}{l}{x:α}:atI (l++[x]) (-1)=J x:=by
 unfold atI ixN;rw[if_neg<|by decide,if_pos (by simp;lia)];have:(-1+((l++[x]).length:Int)).toNat=l.length:=by simp;lia
 simp_all
@[simp]def Zyj{xs l u}:ZfN (.tup xs) l u h=.ok (.tup<|cutD xs l u) h:=rfl
@[simp]def ZoX{x:D}{l:List D}:cutD (x::l) (J 1) M=l:=by simp[cutD,HT.sIx]
@[simp]def Zzk{b}:Zfk GD (.bl b) h=J b:=rfl
@[simp]def Zxt{i}:Zfk GD (.int i) h=J (i != 0):=rfl
@[simp]def Zxr{xs}:Zfk GD (.tup xs) h=J (!xs.isEmpty):=rfl
@[simp]def Zxs:Zfk GD .non h=J Ws:=rfl
@[simp]def Zs8{i j}:opB .Add (.int i) (.int j) h=.ok (.int<|i+j) h:=rfl
@[simp]def Zng{i j}:opB .Sub (.int i) (.int j) h=.ok (.int<|i-j) h:=rfl
def Z4(hj:0<j):opB .Mod (.int i) (.int j) h=.ok (.int<|i%j) h:=if_pos hj
def Zdm(hj:0<j/\j<1073741824):opB .FloorDiv (.int i) (.int j) h=.ok (.int<|i/j) h:=if_pos hj
def ZfP(hj:i.natAbs<2^2000/\j.natAbs<2^2000):opB .Mult (.int i) (.int j) h=.ok (.int<|i*j) h:=if_pos hj
def Za0(hl:xs.length+ys.length<=Yc):opB .Add (.tup xs) (.tup ys) h=.ok (.tup<|xs++ys) h:=if_pos hl
@[simp]def Zqw:ZdW n (.str x) (.str y) h=.ok (.bl<|if n then !Wu (x=y)else Wu (x=y)) h:=rfl
@[simp]def Zqx:ZdW n (.int x) (.int y) h=.ok (.bl<|if n then !Wu (x=y)else Wu (x=y)) h:=rfl
end
@[simp]def Zxa{xs:List D}(h:xs.length<=1000):xs.length<=Yc:=OE h (by decide)
def Ze(e:P.tb.lookup f=J fd)(hl:ds.length=fd.ps.length):run P (n+1) f ds h=Zf (xs2 ⟨P.G,P.GD,run P n,P.L⟩ fd.body (Zx fd.N ds) h):=by
 rw[run,show P.look f=J _ by unfold Pg.look;rw[e]]
 simp_all
def Zz(hn:P.tb.lookup f=M)(e:P.ms.lookup f=J fd)(hl:ds.length=fd.ps.length):run P (n+1) f ds h=Zf (xs2 ⟨P.G,P.GD,run P n,P.L⟩ fd.body (Zx fd.N ds) h):=by
 rw[run,show P.look f=J _ by unfold Pg.look;rw[hn];exact e]
 simp_all
section
variable {h:Hd}{x:DO}{r:List DO}
@[simp]def Zay:(h++x::r)[h.length]?=J x:=by simp
@[simp]def ZhC:(h++x::r).set h.length o=h++o::r:=by simp
end
@[simp]def Ztd:ZeY o h=.ok (.ref h.length) (h++[o]):=rfl
section
variable {h:Hd}
def ZW(e:h[i]?=J (.lst ys))(hz:ys.length<Yc):ZaA .app (.ref i) [d] h=.ok .non (h.set i<|.lst<|ys++[d]):=by
 simp only[ZaA,e,Zgu,ZqP]
 simp_all
def ZbG(e:h[i]?=J (.lst<|ys++[d])):ZaA .pop (.ref i) [] h=.ok d (h.set i<|.lst ys):=by simp only[ZaA,e,Zgu,Zti];simp
def ZeT(e:h[i]?=J (.lst ys)):ZgT (.ref i) h=Wr:=by simp[ZgT,e]
def Zr7(e:h[i]?=J (.lst ys)):Zfk GD (.ref i) h=J (!ys.isEmpty):=by simp[Zfk,e]
@[simp]def ZyP:ZG [] g body [] S h=.ok (.nx,S) h:=rfl
def Zca:ZG [] g body (d::ds) S h=match ZbK g d S with
 |none=>.bad
 |some ρ1=>(body ρ1 h).bnd λp a=>match p with
  |(.nx,ρ2)=>ZG [] g body ds ρ2 a
  |(.ct,ρ2)=>ZG [] g body ds ρ2 a
  |(.bk,ρ2)=>.ok (.nx,ρ2) a
  |(.rt d,ρ2)=>.ok (.rt d,ρ2) a:=rfl
def ZL:ZI src g test aE (d::ds) S ag h=if Wk.stays src h/\ag.length<Yc then match ZbK g d S with
 |none=>.bad
 |some ρ1=>(test ρ1 h).plain.bnd λb R=>if b then(aE ρ1 R).plain.bnd λx a=>ZI src g test aE ds S (ag++[x]) a else ZI src g test aE ds S ag R
 else .bad:=rfl
def ZaN:ZH test body (n+1) S h=(test S h).bnd λb R=>if b then(body S R).bnd λp h2=>match p with
 |(.nx,ρ2)=>ZH test body n ρ2 h2
 |(.ct,ρ2)=>ZH test body n ρ2 h2
 |(.bk,ρ2)=>.ok (.nx,ρ2) h2
 |(.rt d,ρ2)=>.ok (.rt d,ρ2) h2
 else .ok (.nx,S) R:=rfl
end
inductive Wd where
 |add|sub|mul|lt
 deriving DecidableEq
noncomputable def Wd.s:Wd->Str
 |.add=>O "+"
 |.sub=>O "-"
 |.mul=>O "*"
 |.lt=>O "<"
inductive T where
 |num (n:Int)|name (x:Str)|fn (x:Str) (e:T)|rcc (f x:Str) (e:T)|call (f a:T)|iff (c t e:T)|op (w:Wd) (a b:T)
noncomputable def T.d:T->D
 |.num n=>.tup [.str<|O "num",.int n]
 |.name x=>.tup [.str<|O "name",.str x]
 |.fn x e=>.tup [.str<|O "fn",.str x,e.d]
 |.rcc f x e=>.tup [.str<|O "rec",.str f,.str x,e.d]
 |.call f a=>.tup [.str<|O "call",f.d,a.d]
 |.iff c t e=>.tup [.str<|O "if",c.d,t.d,e.d]
 |.op w a b=>.tup [.str w.s,a.d,b.d]
noncomputable def T.parts:T->List T
 |.num _|.name _=>[]
 |.fn _ e|.rcc _ _ e=>[e]
 |.call f a=>[f,a]
 |.iff c t e=>[c,t,e]
 |.op _ a b=>[a,b]
noncomputable def T.places:T->List T
 |.num n=>[.num n]
 |.name x=>[.name x]
 |.fn x e=>.fn x e::e.places
 |.rcc f x e=>.rcc f x e::e.places
 |.call f a=>.call f a::(f.places++a.places)
 |.iff c t e=>.iff c t e::(c.places++(t.places++e.places))
 |.op w a b=>.op w a b::(a.places++b.places)
noncomputable def T.size(t:T):Nat:=t.places.length
def T.places_parts(t:T):t.places=t::t.parts.flatMap T.places:=by cases t<;>simp[T.places,T.parts]
set_option tactic.hygienic true
section
variable {U:Tb}{S:Ev}{h R:Hd}{f:Str}{as:List D}{r:qe D}
noncomputable abbrev Tb.say(U:Tb)(r:qe D):Tb:=⟨U.G,U.GD,λ_ _ _=>r,U.L⟩
def ZP(e:U.C f as R=r)(q:xs1 U s S h=xs1 (U.say<|U.C f as R) s S h)(z:xs1 (U.say r) s S h=y):xs1 U s S h=y:=by rw[q,e,z]
def Zgb(e:U.C f as R=r)(q:tst U s S h=tst (U.say<|U.C f as R) s S h)(z:tst (U.say r) s S h=y):tst U s S h=y:=by rw[q,e,z]
def Zk(e:tst U c S h=.ok Wr R):xs1 U (.iff c a b) S h=xs2 U a S R:=by simp_all
def Zg(e:tst U c S h=.ok Ws R):xs1 U (.iff c a b) S h=xs2 U b S R:=by simp_all
def Zn(q:ev U e S h=.ok d R):xs1 U (.ret e) S h=.ok (.rt d,S) R:=by simp_all
def Zm(q:ev U e S h=.ok d R):xs1 U (.set (.nm i) e) S h=.ok (.nx,S.set i<|J d) R:=by simp_all
def Zec(q:evi U it S h=.ok w R):xs1 U (.forr g it b) S h=ZG w.src g (xs2 U b) w.xs S R:=by simp_all
def Zl(p:ev U a S h=.ok x R)(q:ev U b S R=.ok y h2):ev U (.bin op a b) S h=opB op x y h2:=by simp_all
def Zu(p:ev U a S h=.ok x R)(q:ev U b S R=.ok y h2):ev U (.cmp op a b) S h=opC U.GD op x y h2:=by simp_all
def Zb3(q:ev U e S h=.ok (.bl b) R):tst U (.ex e) S h=.ok b R:=by simp_all
def Zh{b c}{y:qe Bool}(q:y=.ok b R)(e:b=c):y=.ok c R:=e▸q
noncomputable def hdS:Sxs->Sx
 |.cons s _=>s
 |_=>.pas
noncomputable def tlS:Sxs->Sxs
 |.cons _ r=>r
 |_=>.nil
def rt1(e:xs1 U (hdS ss) S h=.ok (.rt d,ρ1) h2)(hs:ss=.cons (hdS ss) (tlS ss)):Zf (xs2 U ss S h)=.ok d h2:=by rw[hs,Zd e];rfl
def nx1(e:xs1 U (hdS ss) S h=.ok (.nx,ρ1) h2)(hs:ss=.cons (hdS ss) (tlS ss)):xs2 U ss S h=xs2 U (tlS ss) ρ1 h2:=by rw[hs,Za e];rfl
def Zc(p:ev U a S h=.ok x R)(q:evs U es S R=.ok xs h2):evs U (.cons a es) S h=.ok (x::xs) h2:=by simp_all
def ZwN(p:evs U es S h=.ok xs R):ev U (.call g es) S h=U.C g xs R:=by simp_all
def Zk9(a:atI xs z=J d)(p:evs U es S h=.ok xs h)(q:ev U e S (h++[.lst xs])=.ok (.int z) (h++[.lst xs]))(hz:xs.length<=1000):ev U (.ix (.lstl es) e) S h=.ok d (h++[.lst xs]):=by rw[ZnF,ZtM,p,ZA,if_pos<|OE hz<|by decide,Ztd,ZA,q,ZA,ZC (xs:=xs)<|by simp,a];rfl
def Zo(e:U.C g xs R=y)(p:evs U es S h=.ok xs R):ev U (.call g es) S h=y:=(ZwN p).I e
def Z6(p:evs U es S h=.ok xs R)(hz:xs.length<=1000):ev U (.tupl es) S h=.ok (.tup xs) R:=by simp_all
def Ztw(p:ev U e S h=.ok x R)(n:x≠.non):tst U (.ex<|.cmp .Is e<|.cst .non) S h=.ok Ws R:=Zb3 ((Zu p rfl).I<|by simp_all)
def Ztv(p:ev U e S h=.ok .non R):tst U (.ex<|.cmp .Is e<|.cst .non) S h=.ok Wr R:=Zb3 ((Zu p rfl).I<|by simp)
def Zas(p:ev U a S h=.ok (.str x) R)(q:ev U b S R=.ok (.str y) h2):tst U (.ex<|.cmp .Eq a b) S h=.ok (Wu<|x=y) h2:=Zb3 ((Zu p q).I<|rfl)
def Zfr(p:ev U a S h=.ok (.int x) R)(q:ev U b S R=.ok (.int y) h2):tst U (.ex<|.cmp .Eq a b) S h=.ok (Wu<|x=y) h2:=Zb3 ((Zu p q).I<|rfl)
def Zj(p:ev U a S h=.ok x R)(q:ev U b S R=.ok y h2):ev U (.ix a b) S h=ZaQ U.GD x y h2:=by simp_all
def ZrV(p:tst U a S h=.ok Wr R)(q:tst U b S R=.ok c h2):tst U (.ands<|.cons a<|.one b) S h=.ok c h2:=by simp_all
def ZuM(p:tst U a S h=.ok Ws R):tst U (.ands<|.cons a<|.one b) S h=.ok Ws R:=by simp_all
def ZsV(p:tst U a S h=.ok Wr R):tst U (.ors<|.cons a<|.one b) S h=.ok Wr R:=by simp_all
def ZlT(p:tst U a S h=.ok Ws R)(q:tst U b S R=.ok c h2):tst U (.ors<|.cons a<|.one b) S h=.ok c h2:=by simp_all
def Zik(A:Tb->β)(e:U.C f as R=r)(q:A U=A (U.say<|U.C f as R))(z:A (U.say r)=y):A U=y:=by simp_all
def Zy7(A:Tb->β)(eg:U.G x=J d)(q:A U=A ⟨λ_=>U.G x,U.GD,U.C,U.L⟩)(z:A ⟨λ_=>J d,U.GD,U.C,U.L⟩=y):A U=y:=by rw[q,eg,z]
end
end IV
namespace Gn
open PySem L2 IV
set_option tactic.hygienic false
def ZaM:Sxs:=.w (.iff (.x .NotIn (.ix V0 K0)<|.glo<|O "FORMS") (.o<|.ret<|.tupl .n) .n) (.ret<|.sl V0 (J<|.bin .Add K1<|.ix (.ix (.glo<|O "FORMS")<|.ix V0 K0) K0) M)
def Zdr:Fd:=fd_ 1 ["E"] ZaM
def Zlc:Sxs:=.z (.s 1<|.lstl .n) (.s 2<|.lstl<|.o V0) (.whl (.ex V2)<|.u (.s 3<|.meth .pop V2 .n) (.drp<|.meth .app V1<|.o V3)<|.forr (.nm 4) (.rev<|.f "parts_of"<|.o V3)<|.o<|.drp<|.meth .app V2<|.o V4) (.ret V1)
def ZfZ:Fd:=fd_ 1 ["E","found","waiting","place","part"] Zlc
def Zfj:Sxs:=.w (.iff (.x .Lt V1<|.blt .len<|.o V0) (.o<|.ret<|.ix V0 V1) .n) (.ret K0)
def ZbC:Fd:=fd_ 2 ["_law_script","_law_k"] Zfj
def Zg3:Sxs:=.z (.s 2<|.bin .Add (.bin .Pow K10 K30)<|.ci 57) (.s 3<|.bin .Mult (.bin .Mod V0 V2)<|.ci 271828182845904523536028747135) (.s 3<|.bin .Add V3<|.bin .Mult (.bin .Mult V1 V1)<|.ci 314159265358979323846264338327) (.ret<|.bin .Mod (.bin .Add V3<|.ci 577215664901532860606512090082) V2)
def Zcx:Fd:=fd_ 2 ["_law_cell","_law_k","_law_big","_law_number_here"] Zg3
def Zmx:Sxs:=.z (.s 1<|.ix V0 K1) (.put V0 K1<|.bin .Add V1 K1) (.iff (.x .Lt V1<|.blt .len<|.o<|.ix V0 K0) (.o<|.ret<|.ix (.ix V0 K0) V1) .n) (.ret<|.f "_law_mixed"<|.w V1 K7)
def Zh4:Fd:=fd_ 1 ["_law_state","_law_at"] Zmx
def Zg2:Sxs:=.c (.s 1<|.Ci_ "abcdefghijklmnopqrstuvwxyz") (.c (.s 2<|.bin .Add K1<|.bin .Mod V0 K8)<|.c (.s 3<|.bin .Mod (.bin .FloorDiv V0 K8) V2)<|.c (.s 4<|.bin .FloorDiv V0<|.ci 64)<|.y (.s 5<|.Ci_ "") (.forr (.nm 6) (.rng K8)<|.w (.s 5<|.bin .Add V5<|.ix V1<|.bin .Mod V4 K26)<|.s 4<|.bin .FloorDiv V4 K26) (.s 7<|.lstl .n) (.forr (.nm 6) (.rng K5)<|.y (.s 8<|.ix V1<|.bin .Mod (.bin .Add V4<|.bin .Mult K5 V6) K26) (.s 9<|.bin .Add (.bin .Add (.sl V5 M<|J V3) V8)<|.sl V5 (J<|.bin .Add V3 K1)<|J V2) (.iff (.q (.bin .Mod (.bin .FloorDiv V4 K26) K4) K1) (.o<|.s 9<|.sl V5 M<|J<|.bin .Sub K8 V6) .n) (.iff (.x .In V9<|.tupl<|.z (.Ci_ "fn") (.Ci_ "rec") (.Ci_ "call")<|.Ci_ "if") (.o<|.s 9<|.bin .Mult (.Ci_ "q")<|.blt .len<|.o V9) .n)<|.drp<|.meth .app V7<|.o V9)<|.ret V7)
def Zcw:Fd:=fd_ 1 ["_law_number_here","_law_letters","_law_long","_law_place","_law_rest","_law_base","_law_k","_law_found","_law_sign","_law_word"] Zg2
def Zg1:Sxs:=.u (.s 2<|.dictl .n) (.forr (.two 3 4) (.pl V0)<|.o<|.put V2 V3 V4) (.ret<|.comp [O "_law_name",O "_law_wish",O "_law_known"] [M,J 1,J 2] (.pl<|.blt .srt<|.o V2) (.nm 0) (J<|.q (.ix V2 V0) V1) V0)
def Zee:Fd:=fd_ 2 ["_law_scope","_law_wish","_law_known","_law_name","_law_held"] Zg1
def ZcD:Sxs:=.u (.iff (.q V0<|.Ci_ "n") (.o<|.ret<|.tupl<|.w (.Ci_ "num")<|.ix (.lstl<|.z K0 K1 K2<|.bin .Mod (.bin .FloorDiv V1 K7)<|.ci 1000000)<|.bin .Mod V1 K4) .n) (.iff (.q V0<|.Ci_ "f") (.o<|.ret<|.tupl<|.u (.Ci_ "fn") (.Ci_ "w")<|.tupl<|.u (.Ci_ "-") (.tupl<|.w (.Ci_ "name")<|.Ci_ "w")<|.tupl<|.w (.Ci_ "num")<|.bin .Mod V1 K3) .n) (.ret<|.tupl<|.u (.Ci_ "fn") (.Ci_ "w")<|.tupl<|.u (.Ci_ "call") (.tupl<|.w (.Ci_ "name")<|.Ci_ "w")<|.tupl<|.w (.Ci_ "num")<|.bin .Mod V1 K5)
def ZgV:Fd:=fd_ 2 ["_law_wish","_law_number_here"] ZcD
def Zbt:Sx:=.s 6 (.ix V4<|.bin .Mod V1 K5)
def Zaw:Sx:=.iff (.q V0<|.Ci_ "g") (.o<|.ret<|.tupl<|.u (.Ci_ "fn") V6<|.f "_law_any"<|.y (.Ci_ "n") (.bin .Add V2<|.lstl<|.o<|.tupl<|.w V6<|.Ci_ "f") V3 V4 V5) .n
def Zav:Sx:=.iff (.q (.bin .Mod (.bin .FloorDiv V1 K5) K3) K0) (.o<|.ret<|.tupl<|.u (.Ci_ "fn") V6<|.f "_law_any"<|.y (.Ci_ "n") (.bin .Add V2<|.lstl<|.o<|.tupl<|.w V6<|.Ci_ "n") V3 V4 V5) .n
def Zbs:Sx:=.s 7 (.ix V4<|.bin .Mod (.bin .Add (.bin .Add (.bin .Mod V1 K5) K1)<|.bin .Mod (.bin .FloorDiv V1 K15) K4) K5)
def Zbr:Sx:=.s 8 (.bin .Add V2<|.lstl<|.w (.tupl<|.w V7<|.Ci_ "f")<|.tupl<|.w V6<|.Ci_ "n")
def Zbq:Sx:=.s 9 (.tupl<|.u (.Ci_ "call") (.tupl<|.w (.Ci_ "name") V7)<|.tupl<|.u (.Ci_ "-") (.tupl<|.w (.Ci_ "name") V6)<|.tupl<|.w (.Ci_ "num") K1)
def Zau:Sx:=.iff (.q (.bin .Mod (.bin .FloorDiv V1<|.ci 60) K3) K0) (.o<|.s 9<|.f "_law_any"<|.y (.Ci_ "n") V8 V3 V4 V5) (.o<|.iff (.q (.bin .Mod (.bin .FloorDiv V1<|.ci 60) K3) K1) (.o<|.s 9<|.tupl<|.u (.ix (.lstl<|.w (.Ci_ "+")<|.Ci_ "*")<|.bin .Mod (.bin .FloorDiv V1<|.ci 180) K2) (.f "_law_any"<|.y (.Ci_ "n") V8 V3 V4<|.bin .Sub V5 K1) V9) .n)
def Zat:Sx:=.ret (.tupl<|.z (.Ci_ "rec") V7 V6<|.tupl<|.z (.Ci_ "if") (.tupl<|.w (.Ci_ "name") V6) V9<|.f "_law_any"<|.y (.Ci_ "n") V8 V3 V4<|.bin .Sub V5 K1)
def Zit:Sxs:=.c Zbt (.c Zaw<|.c Zav<|.y Zbs Zbr Zbq Zau Zat)
def Zef:Fd:=fd_ 6 ["_law_wish","_law_rest","_law_scope","_law_state","_law_names_here","_law_room","_law_x","_law_f","_law_inner","_law_again"] Zit
def Zet:Sx:=.s 5 (.bin .Mod V0 K6)
def Zcj:Sx:=.iff (.q V5 K0) (.o<|.ret<|.f "_law_plain"<|.w (.Ci_ "n")<|.bin .FloorDiv V0 K6) .n
def Zci:Sx:=.iff (.x .Lt V5 K3) (.w (.s 6<|.f "_law_any"<|.y (.Ci_ "n") V1 V2 V3 V4)<|.ret<|.tupl<|.u (.ix (.lstl<|.z (.Ci_ "+") (.Ci_ "-") (.Ci_ "*")<|.Ci_ "<")<|.bin .Mod (.bin .FloorDiv V0 K6) K4) V6<|.f "_law_any"<|.y (.Ci_ "n") V1 V2 V3 V4) .n
def Zes:Sx:=.s 7 (.ix (.lstl<|.u (.Ci_ "f") (.Ci_ "f")<|.Ci_ "g")<|.bin .Sub V5 K3)
def Zer:Sx:=.s 8 (.f "_law_any"<|.y V7 V1 V2 V3 V4)
def Zeq:Sx:=.ret (.tupl<|.u (.Ci_ "call") V8<|.f "_law_any"<|.y (.ix (.dictl<|.z (.Ci_ "f") (.Ci_ "n") (.Ci_ "g")<|.Ci_ "f") V7) V1 V2 V3 V4)
def ZdA:Sxs:=.c Zet (.y Zcj Zci Zes Zer Zeq)
def Zf1:Fd:=fd_ 5 ["_law_rest","_law_scope","_law_state","_law_names_here","_law_room","_law_way","_law_one","_law_wish","_law_fun"] ZdA
def ZbP:Sx:=.put V2 K2 (.bin .Sub (.ix V2 K2) K1)
def ZcG:Sx:=.s 5 (.f "_law_next"<|.o V2)
def ZbO:Sx:=.iff (.q (.bin .Mod V5 K29) K0) (.o<|.s 0<|.ix (.lstl<|.u (.Ci_ "n") (.Ci_ "f")<|.Ci_ "g")<|.bin .Mod (.bin .FloorDiv V5 K29) K3) .n
def ZcF:Sx:=.s 6 (.bin .FloorDiv V5<|.ci 87)
def ZbN:Sx:=.s 7 (.f "_law_there"<|.w V1 V0)
def ZbM:Sx:=.iff (.ands<|.c (.nq V7<|.lstl .n)<|.one<|.q (.bin .Mod V6 K3) K0) (.o<|.ret<|.tupl<|.w (.Ci_ "name")<|.ix V7<|.bin .Mod (.bin .FloorDiv V6 K3)<|.blt .len<|.o V7) .n
def ZaO:Sx:=.iff (.ors<|.c (.x .Lt V4 K1)<|.one<|.x .Lt (.ix V2 K2) K0) (.o<|.ret<|.f "_law_plain"<|.w V0<|.bin .FloorDiv V6 K3) .n
def ZcE:Sx:=.s 6 (.bin .FloorDiv V6 K30)
def ZbL:Sx:=.iff (.q (.bin .Mod V6 K8) K0) (.u (.s 8<|.f "_law_any"<|.y (.Ci_ "n") V1 V2 V3<|.bin .Sub V4 K1) (.s 9<|.f "_law_any"<|.y V0 V1 V2 V3<|.bin .Sub V4 K1)<|.ret<|.tupl<|.z (.Ci_ "if") V8 V9<|.f "_law_any"<|.y V0 V1 V2 V3<|.bin .Sub V4 K1) .n
def Za8:Sx:=.iff (.q V0<|.Ci_ "n") (.o<|.ret<|.f "_law_number"<|.y (.bin .FloorDiv V6 K8) V1 V2 V3<|.bin .Sub V4 K1) .n
def Zb7:Sx:=.ret (.f "_law_function"<|.c V0<|.y (.bin .FloorDiv V6 K8) V1 V2 V3<|.bin .Sub V4 K1)
def Zo4:Sxs:=.c ZbP (.c ZcG<|.c ZbO<|.c ZcF<|.c ZbN<|.c ZbM<|.y ZaO ZcE ZbL Za8 Zb7)
def ZeU:Fd:=fd_ 5 ["_law_wish","_law_scope","_law_state","_law_names_here","_law_room","_law_number_here","_law_rest","_law_there_here","_law_asked_of","_law_first"] Zo4
def Zep:Sxs:=.o (.ret<|.bin .Add K1<|.blt .sum<|.o<|.comp [O "_law_part"] [M] (.pl V0) (.nm 0) (J<|.ex<|.blt .isi<|.w V0<|.cst<|.ty "tuple")<|.f "_law_width"<|.o V0)
def Zcv:Fd:=fd_ 1 ["_law_told"] Zep
def Zfv:Sxs:=.o (.ret<|.maxd (.comp [O "_law_part"] [M] (.pl V0) (.nm 0) (J<|.ex<|.blt .isi<|.w V0<|.cst<|.ty "tuple")<|.bin .Add K1<|.f "_law_deep"<|.o V0) K0)
def Zdt:Fd:=fd_ 1 ["_law_told"] Zfv
def ZaI:Sx:=.s 2 (.comp [O "_law_k",O "_law_cell"] [M,M] (.enu<|.sl V0 (J V1) M) (.two 0 1) M<|.f "_law_mixed"<|.w V1<|.bin .Add V0 K2)
def ZdT:Sx:=.s 3 (.lstl<|.u V2 K0 K26)
def ZdS:Sx:=.s 4 (.f "_law_names"<|.o<|.f "_law_next"<|.o V3)
def ZdR:Sx:=.s 5 (.f "_law_any"<|.y (.Ci_ "n") (.lstl .n) V3 V4 K7)
def ZdQ:Sx:=.forr (.nm 6) (.rng K2) (.o<|.iff (.x .Lt (.f "_law_width"<|.o V5)<|.ci 50) (.w (.put V3 K2 K12)<|.s 5<|.tupl<|.u (.Ci_ "+") V5<|.f "_law_any"<|.y (.Ci_ "n") (.lstl .n) V3 V4 K6) .n)
def ZbS:Sx:=.iff (.ors<|.c (.x .Gt (.f "_law_width"<|.o V5)<|.ci 100)<|.one<|.x .Gt (.f "_law_deep"<|.o V5) K20) (.o<|.s 5<|.f "_law_plain"<|.w (.Ci_ "n")<|.f "_law_next"<|.o V3) .n
def ZdP:Sx:=.ret V5
def ZiI:Sxs:=.c ZaI (.c ZdT<|.y ZdS ZdR ZdQ ZbS ZdP)
def Zff:Fd:=fd_ 2 ["_law_script","_law_start","_law_cells","_law_state","_law_names_here","_law_told","_law_k"] ZiI
noncomputable def Zcf:List (Key×D):=[(.inr<|O "fn",.tup [.int 1,.int 1]),(.inr<|O "rec",.tup [.int 2,.int 1]),(.inr<|O "call",.tup [.int 0,.int 2]),(.inr<|O "if",.tup [.int 0,.int 3]),(.inr<|O "+",.tup [.int 0,.int 2]),(.inr<|O "-",.tup [.int 0,.int 2]),(.inr<|O "*",.tup [.int 0,.int 2]),(.inr<|O "<",.tup [.int 0,.int 2])]
structure Tre(P:Pg):Prop where
 parts:P.tb.lookup (O "parts_of")=J Zdr
 g:P.G (O "FORMS")=J (.kd<|O "FORMS")
 gd:P.GD (O "FORMS")=J Zcf
 big:1000000<=P.L
theorem ZbB (H:Tre P) (hU:U.G=P.G/\U.GD=P.GD) (q:ev U e S h=.ok (.str w) h) (f:Zao Zcf (.inr w)=x):tst U (.ex<|.cmp .NotIn e<|.glo<|O "FORMS") S h=.ok (!x.isSome) h:=by
 refine Zb3 ((Zu q (by
   rw [Zia,hU.1,H.g];rfl)).I ?_)
 rw [ZjD,hU.2,H.gd];simp only [f]
def ZnA(H:Tre P)(hU:U.G=P.G/\U.GD=P.GD)(q:ev U e S h=.ok (.str w) h)(f:Zao Zcf (.inr w)=J x):ev U (.ix (.glo<|O "FORMS") e) S h=.ok x h:=by
 have g:ev U (.glo<|O "FORMS") S h=.ok (.kd<|O "FORMS") h:=by rw[Zia,hU.1,H.g];rfl
 rw[ZnF,g,ZA,q,ZA,Zs4,hU.2,H.gd]
 simp_all
def ZdL:ev U (.ix (.var 0)<|.ci 0) (J (.tup (.str w::ds))::S) h=.ok (.str w) h:=by show qe.ofO (atI (D.str w::ds) 0) h=_;simp
def ZjN(H:Tre P)(hU:U.G=P.G/\U.GD=P.GD)(e:Zao Zcf (.inr w)=J (.tup [.int a,.int b])):ev U (.bin .Add (.ci 1)<|.ix (.ix (.glo<|O "FORMS")<|.ix (.var 0)<|.ci 0)<|.ci 0) [J<|.tup (.str w::ds)] h=.ok (.int<|1+a) h:=by refine(Zl (y:=.int a) rfl ?_).I rfl;rw[ZnF,ZnA H hU ZdL e];rfl
def Zhj(q:ev U e S h=.ok (.int l) h):evo U (J e) S h=.ok (J l) h:=by simp_all
def ZfI(p:ev U a S h=.ok x h)(q:evo U lo S h=.ok l h)(r:evo U hi S h=.ok u h):ev U (.sl a lo hi) S h=ZfN x l u h:=by simp_all
def ZkB(H:Tre P)(n)(h)(w)(ds)(e:Zao Zcf (.inr w)=M):run P (n+1) (O "parts_of") [.tup (.str w::ds)] h=.ok (.tup []) h:=by rw[Ze H.parts rfl];show Zf (xs2 (P.tbl n) ZaM [J<|.tup (.str w::ds)] h)=_;rw[ZaM,Zd<|(Zk<|ZbB H ⟨rfl,rfl⟩ ZdL e).I<|Zd<|Zn rfl];rfl
def Zc8(H:Tre P)(n)(h)(w)(ds)(a b)(e:Zao Zcf (.inr w)=J (.tup [.int a,.int b])):run P (n+1) (O "parts_of") [.tup (.str w::ds)] h=.ok (.tup<|cutD (.str w::ds) (J<|1+a) M) h:=by rw[Ze H.parts rfl];show Zf (xs2 (P.tbl n) ZaM [J<|.tup (.str w::ds)] h)=_;rw[ZaM,Za<|(Zg<|ZbB H ⟨rfl,rfl⟩ ZdL e).I rfl,Zd<|Zn<|(ZfI rfl (Zhj<|ZjN H (U:=P.tbl n) ⟨rfl,rfl⟩ (ds:=ds) (h:=h) e) rfl).I rfl];rfl
def Zdl(H:Tre P)(n)(t:T)(h):run P (n+1) (O "parts_of") [t.d] h=.ok (.tup<|t.parts.map T.d) h:=by
 cases t with
 |num z=>exact ZkB H n h (O "num") _ rfl
 |name x=>exact ZkB H n h (O "name") _ rfl
 |fn x e=>exact Zc8 H n h (O "fn") _ 1 1 rfl
 |rcc f x e=>exact Zc8 H n h (O "rec") _ 2 1 rfl
 |call f a=>exact Zc8 H n h (O "call") _ 0 2 rfl
 |iff c a b=>exact Zc8 H n h (O "if") _ 0 3 rfl
 |op w a b=>exact Zc8 H n h w.s _ 0 2 (by cases w<;>rfl)
theorem ZgR(p):∀(ps) (W) (q),W.length+ps.length<=1000000->∃q',
 ZG [] (.nm 4) (xs2 U<|.cons (.drp<|.meth .app (.var 2)<|.cons (.var 4) .nil) .nil) ps [J E,J<|.ref h.length,J<|.ref<|h.length+1,p,q] (h++[.lst F,.lst W])
  = .ok (.nx,[J E,J<|.ref h.length,J<|.ref<|h.length+1,p,q']) (h++[.lst F,.lst<|W++ps])
 |[],W,q,a=>⟨q,by simp⟩
 |d::ds,W,q,a=>by
  obtain⟨q',e⟩:=ZgR (U:=U) (h:=h) (F:=F) (E:=E) p ds (W++[d]) (J d) (by simp at a ⊢;lia);refine⟨q',?_⟩;have b:W.length<Yc:=by simp at a;rw[YC];lia
  rw[Zca];simp[ZgT,ZaA,Zgu,ZqP,b,e]
def ZlR(t:T):1<=t.places.length:=by rw[T.places_parts];simp
theorem Zfc:∀W:List T,W.length<=(W.flatMap T.places).length
 |[]=>by simp
 |t::W=>by
  have:=ZlR t;have:=Zfc W;rw[List.flatMap_cons,OA,Os]
  lia
theorem ZkJ(H:Tre P)(n):∀(fuel) (W:List T) (F) (p q),(W.flatMap T.places).length<fuel->F.length+(W.flatMap T.places).length<=900000->∃p' q',
 ZH (tst ⟨P.G,P.GD,run P<|n+1,P.L⟩<|.ex<|.var 2) (xs2 ⟨P.G,P.GD,run P<|n+1,P.L⟩<|.cons (.set (.nm 3)<|.meth .pop (.var 2) .nil)<|.cons (.drp<|.meth .app (.var 1)<|.cons (.var 3) .nil)<|.cons (.forr (.nm 4) (.rev<|.call (O "parts_of")<|.cons (.var 3) .nil)<|.cons (.drp<|.meth .app (.var 2)<|.cons (.var 4) .nil) .nil) .nil)
  fuel [J E,J<|.ref h.length,J<|.ref<|h.length+1,p,q] (h++[.lst F,.lst (W.map T.d).reverse])
  = .ok (.nx,[J E,J<|.ref h.length,J<|.ref<|h.length+1,p',q']) (h++[.lst<|F++(W.flatMap T.places).map T.d,.lst []])
 |0,W,F,p,q,R,a=>by lia
 |fuel+1,[],F,p,q,R,a=>⟨p,q,by rw[ZaN];simp[Zfk]⟩
 |fuel+1,t::W,F,p,q,R,a=>by
  have b:((t::W).flatMap T.places)=t::((t.parts++W).flatMap T.places):=by rw[List.flatMap_cons,T.places_parts t,List.flatMap_append];simp
  rw[b]at R a ⊢;have j:t.parts.length<=3:=by cases t<;>simp[T.parts]
  simp only[Os]at R a;have c:=Zfc<|t.parts++W;rw[OA]at c;obtain⟨e,f⟩:=ZgR (U:=⟨P.G,P.GD,run P<|n+1,P.L⟩) (h:=h) (F:=F++[t.d]) (E:=E) (J t.d) (t.parts.map T.d).reverse (W.map T.d).reverse q (by simp;lia);obtain⟨p',q',g⟩:=ZkJ H (h:=h) (E:=E) n fuel (t.parts++W) (F++[t.d]) (J t.d) e (by lia) (by rw[OA,List.length_singleton];lia);refine⟨p',q',?_⟩;have i:F.length<Yc:=by rw[YC];lia
  rw[ZaN];simp[Zfk,ZgT,ZaA,Zgu,ZqP,Zti,i,Zdl H,Zhm,f];simpa using g
def ZpW(H:Tre P)(hp:P.tb.lookup (O "places")=J ZfZ)(n)(t:T)(h)(hz:t.size<=800000):run P (n+2) (O "places") [t.d] h=.ok (.ref h.length) (h++[.lst<|t.places.map T.d,.lst []]):=by rw[Ze hp<|rfl];obtain⟨a,b,e⟩:=ZkJ H (h:=h) (E:=t.d) n P.L [t] [] M M (by have:=H.big;unfold T.size at hz;simp;lia) (by unfold T.size at hz;simp;lia);simp at e;simp[ZfZ,Zlc,Zx,YC,e]
end Gn
namespace IV
open PySem L2
section
variable {U:Tb}{S:Ev}{h R h2:Hd}
def ZbI(p:ev U o S h=.ok (.ref i) R)(l:R[i]?=J (.lst ys))(q:evs U es S R=.ok xs h2)(e:ZaA m (.ref i) xs h2=r):ev U (.meth m o es) S h=r:=by rw[ZnE,p,ZA,ZeT l,q];exact e
def ZK(q:ev U e S h=.ok d R):xs1 U (.drp e) S h=.ok (.nx,S) R:=by simp_all
def ZB(p:ev U o S h=.ok (.ref i) R)(l:R[i]?=J (.ins C fs))(f:fs.lookup m=M)(q:evs U es S R=.ok xs h2)(e:U.C (mnm C m) (.ref i::xs) h2=r):ev U (.mcl C m o es) S h=r:=by rw[ZwL,p,ZA,show Z8 _ _=J (C,fs) by simp[Z8,l]];simp[f,q];exact e
def ZkW(p:evi U it S h=.ok w R)(q:ZI w.src g (tsto U c) (ev U e) w.xs (ZbY js S) [] R=.ok xs h2):ev U (.comp NC js it g c e) S h=.ok (.ref h2.length) (h2++[.lst xs]):=by simp_all
def ZwI(p:ev U e S h=.ok (.tup xs) R):evi U (.rev e) S h=.ok ⟨[],xs.reverse⟩ R:=by rw[ZnC,p];rfl
def ZjS(p:ev U e S h=.ok (.tup xs) R):evi U (.pl e) S h=.ok ⟨[],xs⟩ R:=by rw[Zrl,p];rfl
def Zfq(p:evs U es S h=.ok xs R)(hz:xs.length<=1000):ev U (.lstl es) S h=.ok (.ref R.length) (R++[.lst xs]):=by simp_all
def Zib(p:evs U es S h=.ok xs R)(q:Zb6 U.GD f xs R=r):ev U (.blt f es) S h=r:=by simp_all
def ZgQ(e:h[i]?=J (.lst ys)):Zb6 GD .len [.ref i] h=.ok (.int ys.length) h:=by simp only[Zb6,ZmI,seqOf,lstOf,e];rfl
def Zue(e:h[i]?=J (.lst ys)):Zb6 GD .tup [.ref i] h=.ok (.tup ys) h:=by simp only[Zb6,ZmH,lstOf,e];rfl
def Ze9(p:ev U e S h=.ok (.ref i) R)(l:R[i]?=J (.lst ys)):tst U (.ex e) S h=.ok (!ys.isEmpty) R:=by rw[ZuY,p,ZA,Zr7 l];rfl
def Zbz(e:test S h=.ok Wr R)(q:body S R=.ok (.nx,ρ1) h2):ZH test body (n+1) S h=ZH test body n ρ1 h2:=by rw[ZaN,e,ZA,q];rfl
def Zdj(e:test S h=.ok Ws R):ZH test body (n+1) S h=.ok (.nx,S) R:=by rw[ZaN,e];rfl
def ZtB(p:ev U a S h=.ok (.int x) R)(q:ev U b S R=.ok (.int y) h2):tst U (.ex<|.cmp .Gt a b) S h=.ok (Wu<|y<x) h2:=Zb3 (Zu p q)
def Ztk(p:ev U a S h=.ok (.int x) R)(q:ev U b S R=.ok (.int y) h2):tst U (.ex<|.cmp .Lt a b) S h=.ok (Wu<|x<y) h2:=Zb3 (Zu p q)
def ZhU(b:ZbK g d S=J ρ1)(q:body ρ1 h=.ok (.nx,ρ2) h2):ZG [] g body (d::ds) S h=ZG [] g body ds ρ2 h2:=by rw[Zca,b];simp ;rw[q];rfl
def Zhl(e:test S h=.ok Wr R)(q:body S R=.ok (.rt d,ρ1) h2):ZH test body (n+1) S h=.ok (.rt d,ρ1) h2:=by rw[ZaN,e,ZA,q];rfl
def Zrb(p:ev U e S h=.ok x R):tst U (.ex<|.cmp .IsNot e<|.cst .non) S h=.ok (!Wu (x=.non)) R:=Zb3 ((Zu p rfl).I Zqz)
def ZwF(b:ZbK g d S=J ρ1)(q:body ρ1 h=.ok (.rt x,ρ2) h2):ZG [] g body (d::ds) S h=.ok (.rt x,ρ2) h2:=by rw[Zca,b];simp ;rw[q];rfl
variable {c:Str}
def ZbU(q:xs1 U s S h=.exc c R):xs2 U (.cons s r) S h=.exc c R:=by rw[xs2,q];rfl
def ZgY(q:ev U e S h=.exc c R):xs1 U (.drp e) S h=.exc c R:=by rw[ZrX,q];rfl
def ZxL(q:ev U e S h=.exc c R):xs1 U (.ret e) S h=.exc c R:=by rw[ZmL,q];rfl
def ZxO(q:ev U e S h=.ok d R):xs1 U (.rai c e) S h=.exc c R:=by rw[xs1,q];rfl
def Zjm(e:test S h=.ok Wr R)(q:body S R=.exc c h2):ZH test body (n+1) S h=.exc c h2:=by rw[ZaN,e,ZA,q];rfl
def ZyO(b:ZbK g d S=J ρ1)(q:body ρ1 h=.exc c h2):ZG [] g body (d::ds) S h=.exc c h2:=by rw[Zca,b];simp only;rw[q];rfl
def ZyS(p:ev U a S h=.exc c R):evs U (.cons a es) S h=.exc c R:=by rw[Zh9,p];rfl
def Zu2(p:evs U es S h=.ok xs R)(q:U.C f xs R=.ok d h2):xs1 U (.trs i f es c) S h=.ok (.nx,S.set i<|J d) h2:=by rw[xs1,p];show Zii c i S (U.C f xs R)=_;rw[q];rfl
def Zxq(p:evs U es S h=.ok xs R)(q:U.C f xs R=.exc c h2):xs1 U (.trs i f es c) S h=.ok (.nx,S.set i<|J .non) h2:=by rw[xs1,p];show Zii c i S (U.C f xs R)=_;rw[q];simp[Zii]
end
end IV
section
set_option tactic.hygienic false
set_option exponentiation.threshold 3000
namespace Gn
open PySem L2 IV
def Up(i:Nat)(h h':Hd):Prop:=h.length<=h'.length/\∀m,m<h.length->m≠i->h'[m]?=h[m]?
def Up.refl:Up i h h:=⟨Oq _,λ_ _ _=>rfl⟩
theorem Up.I(x:Up i a b)(y:Up i b c):Up i a c:=⟨OE x.1 y.1,λm R d=>(y.2 m (Ot R x.1) d).I<|x.2 m R d⟩
theorem Up.set:Up i h (h.set i o):=⟨by simp,λm _ a=>by rw[Oc<|YL a]⟩
def Up.app:Up i h (h++g):=⟨by simp,λm R _=>Oe R⟩
def ZS{h:Hd}(e:h[i]?=J o):i<h.length:=(Ob.mp e).1
def Up.at{i m}(u:Up i h h')(e:h[m]?=J o)(ne:m≠i):h'[m]?=J o:=(u.2 m (ZS e) ne).I e
def Alk(P:Pg)(f:Str)(fd:Fd):Prop:=∃a N,a.length=fd.ps.length/\N.length=fd.N.length/\P.tb.lookup f=J ⟨a,N,fd.body⟩
def Alk.same(e:P.tb.lookup f=J fd):Alk P f fd:=⟨_,_,rfl,rfl,e⟩
def ZeO(e:Alk P f fd)(hl:ds.length=fd.ps.length):run P (n+1) f ds h=Zf (xs2 ⟨P.G,P.GD,run P n,P.L⟩ fd.body (Zx fd.N ds) h):=by obtain⟨ps,N,R,a,e⟩:=e;rw[Ze e<|hl.I R.symm];unfold Zx;rw[a]
structure Mk0(P:Pg):Prop where
 mixed:P.tb.lookup (O "_law_mixed")=J Zcx
 next:P.tb.lookup (O "_law_next")=J Zh4
 names:P.tb.lookup (O "_law_names")=J Zcw
 there:P.tb.lookup (O "_law_there")=J Zee
 plain:P.tb.lookup (O "_law_plain")=J ZgV
 function:Alk P (O "_law_function") Zef
 number:Alk P (O "_law_number") Zf1
 any:Alk P (O "_law_any") ZeU
 width:P.tb.lookup (O "_law_width")=J Zcv
structure Mkr(P:Pg):Prop extends Mk0 P where
 deep:P.tb.lookup (O "_law_deep")=J Zdt
 program:Alk P (O "_law_program") Zff
noncomputable def big:Int:=1000000000000000000000000000057
def mixed(c k:Int):Int:=(c%big*271828182845904523536028747135+k*k*314159265358979323846264338327+577215664901532860606512090082)%big
def Zag(h:-(2^128)<i)(h2:i<2^128):i.natAbs<2^2000:=by lia
def Zoa(hk:-(2^60)<k/\k<2^60):0<=k*k/\k*k<2^120:=by
 have a:k.natAbs<2^60:=by lia
 have b:=Nat.mul_lt_mul'' a a;rw[<-Int.natAbs_mul_self];constructor
 . lia
 . exact Int.ofNat_lt.mpr b
def Zhy(H:Alk P (O "_law_mixed") Zcx)(n)(c k)(h)(hk:-(2^60)<k/\k<2^60):run P (n+1) (O "_law_mixed") [.int c,.int k] h=.ok (.int<|mixed c k) h:=by rw[ZeO H rfl];have a:opB .Pow (.int 10) (.int 30) h=.ok _ h:=rfl;have i:=Zoa hk;have b:opB _ _ _ h=.ok (.int<|c%1000000000000000000000000000057) h:=Z4 (by decide);have d:opB _ _ _ h=.ok (.int<|c%1000000000000000000000000000057*271828182845904523536028747135) h:=ZfP ⟨Zag (by lia)<|by lia,Zag (by decide)<|by simp⟩;have e:opB _ _ _ h=.ok (.int<|k*k) h:=ZfP ⟨Zag (by lia)<|by lia,Zag (by lia)<|by lia⟩;have f:opB _ _ _ h=.ok (.int<|k*k*314159265358979323846264338327) h:=ZfP ⟨Zag (by lia)<|by lia,Zag (by simp)<|by decide⟩;have g:opB .Mod (.int<|c%1000000000000000000000000000057*271828182845904523536028747135+k*k*314159265358979323846264338327+577215664901532860606512090082) (.int 1000000000000000000000000000057) h=.ok (.int<|mixed c k) h:=Z4 (by decide);simp[Zcx,Zg3,Zx,a,b,d,e,f,g]
def Zst(H:Mkr P)(n)(c k)(h)(hk:-(2^60)<k/\k<2^60):run P (n+1) (O "_law_mixed") [.int c,.int k] h=.ok (.int<|mixed c k) h:=Zhy (.same H.mixed) n c k h hk
def St3(h:Hd)(i j:Nat)(cs:List Int)(eY b:Int):Prop:=h[i]?=J (.lst [.ref j,.int eY,.int b])/\h[j]?=J (.lst<|cs.map .int)/\i≠j
def ZlF{P}(H:Mk0 P)(n)(st:St3 h i j cs a b)(ha:0<=a/\a<2^50):∃v,run P (n+2) (O "_law_next") [.ref i] h=.ok (.int v) (h.set i<|.lst [.ref j,.int<|a+1,.int b])/\(v∈cs\/v=mixed a 7):=by
 obtain⟨R,q,ne⟩:=st;rw[Ze H.next<|rfl];have d:(h.set i<|.lst [.ref j,.int<|a+1,.int b])[i]?=J (.lst [.ref j,.int<|a+1,.int b]):=by rw[Ol<|ZS R]
 have e:(h.set i<|.lst [.ref j,.int<|a+1,.int b])[j]?=J (.lst<|cs.map .int):=by simp_all
 have o:ZbV (.ref i) (.int 1) (.int<|a+1) h=.ok () (h.set i<|.lst [.ref j,.int<|a+1,.int b]):=by simp only[ZbV,R];rfl
 have f:xs1 (P.tbl<|n+1) (.put (.var 0) (.ci 1)<|.bin .Add (.var 1)<|.ci 1) [J<|.ref i,J<|.int a] h=.ok (.nx,[J<|.ref i,J<|.int a]) (h.set i<|.lst [.ref j,.int<|a+1,.int b]):=by rw[ZmM];show(ZbV (.ref i) (.int 1) (.int<|a+1) h).bnd _=_;rw[o];rfl
 generalize h.set i (.lst [.ref j,.int<|a+1,.int b])=g at *;have c:tst (P.tbl<|n+1) (.ex<|.cmp .Lt (.var 1)<|.blt .len<|.cons (.ix (.var 0)<|.ci 0) .nil) [J<|.ref i,J<|.int a] g=.ok (Wu<|a<(cs.map D.int).length) g:=Ztk rfl<|Zib (Zc ((Zj rfl rfl).I<|(ZC d).I rfl) rfl)<|ZgQ e;rw[Yu]at c;by_cases l:a<cs.length
 . obtain⟨k,rfl⟩:∃k:Nat,a=k:=⟨a.toNat,by lia⟩
   have m:k<cs.length:=by lia
   have p:atI (cs.map D.int) (k)=J (.int cs[k]):=by rw[IV.ZbF,O2,Og m];rfl
   exact⟨cs[k],(congrArg Zf<|(nx1 (Zm<|(Zj rfl rfl).I<|(ZC R).I rfl) rfl).I<|nx1 f rfl).I<|rt1 ((Zk<|Zh c<|decide_eq_true l).I<|Zd<|Zn<|(Zj ((Zj rfl rfl).I<|(ZC d).I rfl) rfl).I<|(ZC e).I (by rw[p];rfl)) rfl,.inl<|List.getElem_mem m⟩
 . exact⟨mixed a 7,(congrArg Zf<|((nx1 (Zm<|(Zj rfl rfl).I<|(ZC R).I rfl) rfl).I<|nx1 f rfl).I<|nx1 ((Zg<|Zh c<|decide_eq_false l).I rfl) rfl).I<|rt1 (Zn<|Zo (Zhy (.same H.mixed) n a 7 _<|by decide) rfl) rfl,.inr rfl⟩
def Wl(n:Nat)(x:Str):Prop:=Yp x=Wr/\x.length<=n
def Cl:List Str->T->Prop
 |_,.num n=>0<=n/\n<1000000
 |sc,.name x=>x∈sc
 |sc,.fn x e=>Cl (x::sc) e/\Wl 20 x
 |sc,.rcc f x e=>Cl (x::f::sc) e/\f≠x/\Wl 20 f/\Wl 20 x
 |sc,.call f a=>Cl sc f/\Cl sc a
 |sc,.iff c t e=>Cl sc c/\Cl sc t/\Cl sc e
 |sc,.op _ a b=>Cl sc a/\Cl sc b
noncomputable def dep:T->Nat
 |.num _|.name _=>0
 |.fn _ e|.rcc _ _ e=>dep e+1
 |.call f a=>max (dep f) (dep a)+1
 |.iff c t e=>max (dep c) (max (dep t)<|dep e)+1
 |.op _ a b=>max (dep a) (dep b)+1
noncomputable def fw:T->Int
 |.num _|.name _=>-1
 |.fn _ e|.rcc _ _ e=>fw e+3
 |.call f a=>fw f+fw a-1
 |.iff c t e=>fw c+fw t+fw e-1
 |.op _ a b=>fw a+fw b-1
noncomputable def nb:T->Nat
 |.num _|.name _=>0
 |.fn _ e=>nb e+1
 |.rcc _ _ e=>nb e+2
 |.call f a=>max (nb f) (nb a)
 |.iff c t e=>max (nb c) (max (nb t)<|nb e)
 |.op _ a b=>max (nb a) (nb b)
def at4(k)(h0:0<=k)(h4:k<4):∃v,atI [D.int a,.int b,.int c,.int d] k=J (.int v)/\(v=a\/v=b\/v=c\/v=d):=by
 have:k=0\/k=1\/k=2\/k=3:=by lia
 rcases this with rfl|rfl|rfl|rfl
 . simp
 . simp
 . simp
 simp
def Zju(H:Mk0 P)(n)(w)(v)(h)(sc):∃t g,run P (n+1) (O "_law_plain") [.str w,.int v] h=.ok (T.d t) (h++g)/\Cl sc t/\(nb t<=dep t/\dep t<=2)/\t.size<=4/\fw t<=0:=by
 rw[Ze H.plain<|rfl];by_cases w1:w=O "n"
 . obtain⟨u,e,hu⟩:=at4 (a:=0) (b:=1) (c:=2) (d:=v/7%1000000) (v%4) (by lia) (by lia);exact⟨.num u,_,rt1 (U:=P.tbl n) (ss:=ZcD) ((Zk<|Zh (Zas rfl rfl)<|decide_eq_true w1).I<|Zd<|Zn<|Z6 (Zc rfl<|Zc (Zk9 e (Zc rfl<|Zc rfl<|Zc rfl<|Zc ((Zl (x:=.int<|v/7) ((Zl rfl rfl).I<|Zdm<|by decide) rfl).I<|Z4<|by decide) rfl) ((Zl rfl rfl).I<|Z4<|by decide)<|Nat.le_of_ble_eq_true rfl) rfl)<|Nat.le_of_ble_eq_true rfl) rfl,by show 0<=u/\u<1000000;lia,⟨Oq _,by show 0<=2;lia⟩,by show 1<=4;lia,by show(-1)<=0;decide⟩
 . by_cases w2:w=O "f"
   . refine⟨.fn (O "w")<|.op .sub (.name<|O "w")<|.num<|v%3,[],?_,?_,by simp only[dep,nb];lia,by show 4<=4;lia,by simp only[fw];lia⟩
     . rw[Yt];exact(congrArg Zf<|nx1 ((Zg<|Zh (Zas rfl rfl)<|decide_eq_false w1).I rfl) rfl).I (rt1 (U:=P.tbl n) (ss:=tlS ZcD) ((Zk<|Zh (Zas rfl rfl)<|decide_eq_true w2).I<|Zd<|Zn<|Z6 (Zc rfl<|Zc rfl<|Zc (Z6 (Zc rfl<|Zc rfl<|Zc (Z6 (Zc rfl<|Zc ((Zl rfl rfl).I<|Z4<|by decide) rfl)<|Nat.le_of_ble_eq_true rfl) rfl)<|Nat.le_of_ble_eq_true rfl) rfl)<|Nat.le_of_ble_eq_true rfl) rfl)
     . exact⟨⟨Oi,by show 0<=v%3/\v%3<1000000;lia⟩,by unfold Wl;decide +kernel⟩
   . refine⟨.fn (O "w")<|.call (.name<|O "w")<|.num<|v%5,[],?_,?_,by simp only[dep,nb];lia,by show 4<=4;lia,by simp only[fw];lia⟩
     . rw[Yt];exact(congrArg Zf<|(nx1 ((Zg<|Zh (Zas rfl rfl)<|decide_eq_false w1).I rfl) rfl).I<|nx1 ((Zg<|Zh (Zas rfl rfl)<|decide_eq_false w2).I rfl) rfl).I (rt1 (U:=P.tbl n) (ss:=tlS<|tlS ZcD) (Zn<|Z6 (Zc rfl<|Zc rfl<|Zc (Z6 (Zc rfl<|Zc rfl<|Zc (Z6 (Zc rfl<|Zc ((Zl rfl rfl).I<|Z4<|by decide) rfl)<|Nat.le_of_ble_eq_true rfl) rfl)<|Nat.le_of_ble_eq_true rfl) rfl)<|Nat.le_of_ble_eq_true rfl) rfl)
     . exact⟨⟨Oi,by show 0<=v%5/\v%5<1000000;lia⟩,by unfold Wl;decide +kernel⟩
noncomputable def ZT:Str:=O "abcdefghijklmnopqrstuvwxyz"
def Zl4:Yp ZT=Wr:=by decide +kernel
noncomputable def ltr(k:Int):Nat:=ZT.cps.toList.getD k.toNat 0
def lt1(k:Int):Str:=⟨#[ltr k]⟩
def Zl5(k)(h0:0<=k)(R:k<26):ZaQ GD (.str ZT) (.int k) h=.ok (.str<|lt1 k) h/\Wl 1 (lt1 k):=by
 obtain⟨m,rfl⟩:∃m:Nat,k=m:=⟨k.toNat,by lia⟩
 have b:ZT.cps.toList.length=26:=rfl;have c:m<ZT.cps.toList.length:=by lia
 have a:ltr m=ZT.cps.toList[m]:=by show ZT.cps.toList.getD _ 0=_;rw[Int.toNat_natCast,List.getD_eq_getElem?_getD,Og _];rfl
 have e:atI ZT.cps.toList m=J ZT.cps.toList[m]:=by rw[IV.ZbF,Og _]
 unfold lt1;rw[a];refine⟨?_,ZqD Zl4<|List.getElem_mem _,by show #[ZT.cps.toList[m]].size<=1;simp⟩;have q:ZaQ GD (.str ZT) (.int m) h=if ZT.length<=Yc then qe.ofO _ h else .bad:=rfl;rw[q,e];rfl
def len_cat{x y:Str}:(x++y).length=x.length+y.length:=by show(x.cps++y.cps).size=_;rw[Array.size_append];rfl
def Zga{x y}(hx:Wl a x)(hy:Wl b y)(hz:a+b<=1000):opB .Add (.str x) (.str y) h=.ok (.str<|x++y) h/\Wl (a+b) (x++y):=by refine⟨if_pos (by rw[YC];have:=hx.2;have:=hy.2;lia),ZiU hx.1 hy.1,by rw[len_cat];have:=hx.2;have:=hy.2;lia⟩
theorem Zq2{U}:∀(ks:List _) (r) (x) (m) (k),Wl m x->x.length=m->m+ks.length<=100->∃r' x' k',Wl (m+ks.length) x'/\x'.length=m+ks.length /\
 ZG [] (.nm 6) (xs2 U<|.cons (.set (.nm 5)<|.bin .Add (.var 5)<|.ix (.var 1)<|.bin .Mod (.var 4)<|.ci 26)<|.cons (.set (.nm 4)<|.bin .FloorDiv (.var 4)<|.ci 26) .nil) (ks.map D.int) [a,J<|.str ZT,l,p,J<|.int r,J<|.str x,k,f,sg,wd] h
  = .ok (.nx,[a,J<|.str ZT,l,p,J<|.int r',J<|.str x',k',f,sg,wd]) h
 |[],r,x,m,k,b,d,g=>⟨r,x,k,b,d,rfl⟩
 |c::e,r,x,m,k,b,d,g=>by
  obtain⟨q,j⟩:=Zl5 (GD:=U.GD) (h:=h) (r%26) (by lia) (by lia);obtain⟨s,n⟩:=Zga (h:=h) b j (by lia);obtain⟨r',x',k',R,o,t⟩:=Zq2 (U:=U) (h:=h) (a:=a) (l:=l) (p:=p) (f:=f) (sg:=sg) (wd:=wd) e (r/26) (x++lt1 (r%26)) (m+1) (J<|.int c) n (by rw[len_cat,d];rfl) (by simp at g ⊢;lia);have i:m+(c::e).length=m+1+e.length:=by rw[Os];lia
  refine⟨r',x',k',i▸R,i▸o,?_⟩;have u:opB .Mod (.int r) (.int 26) h=.ok (.int<|r%26) h:=Z4 (by decide);have v:opB .FloorDiv (.int r) (.int 26) h=.ok (.int<|r/26) h:=Zdm (by decide);rw[Op,Zca]
  simp_all
def Zvg(x)(l u):(Yq x l u).length<=x.length:=by
 unfold Yq;split
 . simp
 . refine OE (List.length_filterMap_le _ _) (PySem.sliceRange_length_le _ _ _ _ (λ_=>?_)<|λz=>absurd (by simp) z)
   lia
def ZeN(hx:Wl m x)(hm:m<=1000)(l u):ZfN (.str x) l u h=.ok (.str<|Yq x l u) h/\Wl m (Yq x l u):=by
 refine⟨if_pos (by rw[YC];have:=hx.2;lia),ZqB hx.1<|Zht _ _ _,?_⟩;have:=hx.2;have q:=Zvg x l u
 lia
def in4:opC GD .In (.str x) (.tup [.str<|O "fn",.str<|O "rec",.str<|O "call",.str<|O "if"]) h=.ok (.bl<|Wu<|x∈[O "fn",O "rec",O "call",O "if"]) h:=Zb1 (ss:=[Str.ofString _,Str.ofString _,Str.ofString _,Str.ofString _])
def len_str(hx:Wl m x)(hm:m<=1000):Zb6 GD .len [.str x] h=.ok (.int x.length) h:=if_pos (by rw[YC];have:=hx.2;lia)
def Zuo(hx:Wl m x)(hm:m<=1000):opB .Mult (.str<|O "q") (.int x.length) h=.ok (.str<|Zg6 (O "q") x.length) h/\Wl m (Zg6 (O "q") x.length):=by
 have hq:(O "q").length=1:=rfl;have:=hx.2;refine⟨if_pos ⟨by lia,by lia,by trivial⟩,ZqC (by decide +kernel) _,?_⟩;rw[ZfJ,hq]
 lia
def nmW(b:Str)(l p r c:Int):Str:=if r/26%4=1 then Yq b M (J<|8-c)else Yq b M (J p)++lt1 ((r+5*c)%26)++Yq b (J<|p+1) (J l)
def nmQ(w:Str):Str:=if w∈[O "fn",O "rec",O "call",O "if"]then Zg6 (O "q") w.length else w
def nm(b:Str)(l p r c:Int):Str:=nmQ (nmW b l p r c)
def ZqG(hb:Wl 8 b)(l p r c):Wl 20 (nmW b l p r c):=by
 unfold nmW;split
 . have q:=(ZeN (h:=[]) hb (by decide) M<|J<|8-c).2;exact⟨q.1,by have:=q.2;lia⟩
 . have q:=(Zga (h:=[]) (Zga (h:=[]) (ZeN (h:=[]) hb (by decide) M<|J p).2 (Zl5 (GD:=λ_=>M) (h:=[]) ((r+5*c)%26) (by lia)<|by lia).2<|by decide).2 (ZeN (h:=[]) hb (by decide) (J<|p+1)<|J l).2<|by decide).2;exact⟨q.1,by have:=q.2;lia⟩
def Zyo(hb:Wl 8 b)(l p r c):Wl 20 (nm b l p r c):=by
 unfold nm nmQ;split
 . exact(Zuo (h:=[]) (ZqG hb l p r c)<|by simp).2
 . exact ZqG hb l p r c
def Zwk:Sx:=.s 8 (.ix V1<|.bin .Mod (.bin .Add V4<|.bin .Mult K5 V6) K26)
def Zwj:Sx:=.s 9 (.bin .Add (.bin .Add (.sl V5 M<|J V3) V8)<|.sl V5 (J<|.bin .Add V3 K1)<|J V2)
def Zwf:Tx:=.q (.bin .Mod (.bin .FloorDiv V4 K26) K4) K1
def ZyA:Sx:=.s 9 (.sl V5 M<|J<|.bin .Sub K8 V6)
def Zyz:Exs:=.z (.Ci_ "fn") (.Ci_ "rec") (.Ci_ "call") (.Ci_ "if")
def ZyB:Sx:=.s 9 (.bin .Mult (.Ci_ "q")<|.blt .len<|.o V9)
def Zwh:Sx:=.drp (.meth .app V7<|.o V9)
def Zwg:Sxs:=.w (.iff (.x .In V9<|.tupl Zyz) (.o ZyB) .n) Zwh
def Zwi:Sxs:=.c Zwk (.c Zwj<|.c (.iff Zwf (.o ZyA) .n) Zwg)
def vn(a:Option D)(l p r:Int)(b:Str)(q:Nat)(k sg wd:Option D):Ev:=[a,J<|.str ZT,J<|.int l,J<|.int p,J<|.int r,J<|.str b,k,J<|.ref q,sg,wd]
def ZqV(hw:Wl 20 wd)(hz:ds.length<16777216):xs2 U Zwg (vn a l p r b h.length k sg<|J<|.str wd) (h++[.lst ds])=.ok (.nx,vn a l p r b h.length k sg<|J<|.str<|nmQ wd) (h++[.lst<|ds++[.str<|nmQ wd]]):=by
 have ap:∀w:Str,xs1 U Zwh (vn a l p r b h.length k sg<|J<|.str w) (h++[.lst ds])=.ok (.nx,vn a l p r b h.length k sg<|J<|.str w) (h++[.lst<|ds++[.str w]]):=λw=>by have e:=ZK<|ZbI (U:=U) (S:=vn a l p r b h.length k sg<|J<|.str w) (o:=.var 7) (es:=.cons (.var 9) .nil) rfl Zay rfl<|ZW (d:=.str w) (Zay (h:=h) (x:=.lst ds) (r:=[]))<|YC▸hz;rw[show(h++[DO.lst ds]).set h.length (.lst<|ds++[.str w])=h++[.lst<|ds++[.str w]] by simp]at e;exact e
 unfold nmQ;by_cases eT:wd∈[O "fn",O "rec",O "call",O "if"]
 . rw[if_pos eT];exact(Za<|(Zk<|Zh (Zb3<|(Zu (x:=.str wd) rfl<|Z6 (xs:=[.str<|O "fn",.str<|O "rec",.str<|O "call",.str<|O "if"]) rfl<|by decide).I in4)<|decide_eq_true eT).I<|(Za<|Zm<|(Zl rfl<|Zib rfl<|len_str hw<|by decide).I (Zuo hw<|by decide).1).I rfl).I ((Za<|ap _).I rfl)
 . rw[if_neg eT];exact(Za<|(Zg<|Zh (Zb3<|(Zu (x:=.str wd) rfl<|Z6 (xs:=[.str<|O "fn",.str<|O "rec",.str<|O "call",.str<|O "if"]) rfl<|by decide).I in4)<|decide_eq_false eT).I rfl).I ((Za<|ap _).I rfl)
def ZyC(hb:Wl 8 b)(hc:0<=c/\c<100)(hz:ds.length<16777216):xs2 U Zwi (vn a l p r b h.length (J<|.int c) sg wd) (h++[.lst ds])=.ok (.nx,vn a l p r b h.length (J<|.int c) (J<|.str<|lt1<|(r+5*c)%26)<|J<|.str<|nm b l p r c) (h++[.lst<|ds++[.str<|nm b l p r c]]):=by
 obtain⟨e1,hy⟩:=Zl5 (GD:=U.GD) (h:=h++[.lst ds]) ((r+5*c)%26) (by lia) (by lia);obtain⟨f1,w1⟩:=ZeN (h:=h++[.lst ds]) hb (by decide) M<|J p;obtain⟨f2,w2⟩:=ZeN (h:=h++[.lst ds]) hb (by decide) (J<|p+1)<|J l;obtain⟨f3,w3⟩:=ZeN (h:=h++[.lst ds]) hb (by decide) M<|J<|8-c;obtain⟨c1,v1⟩:=Zga (h:=h++[.lst ds]) w1 hy (by decide);obtain⟨c2,v2⟩:=Zga (h:=h++[.lst ds]) v1 w2 (by decide);unfold nm nmW;generalize lt1 ((r+5*c)%26)=y at *;have x8:xs1 U Zwk (vn a l p r b h.length (J<|.int c) sg wd) (h++[.lst ds])=.ok (.nx,vn a l p r b h.length (J<|.int c) (J<|.str y) wd) (h++[.lst ds]):=Zm ((Zj (x:=.str ZT) rfl<|(Zl (x:=.int<|r+5*c) ((Zl rfl<|(Zl rfl rfl).I<|ZfP ⟨Zag (by decide)<|by decide,Zag (by lia)<|by lia⟩).I rfl) rfl).I<|Z4<|by decide).I e1);have g1:ev U (.sl (.var 5) M<|J<|.var 3) (vn a l p r b h.length (J<|.int c) (J<|.str y) wd) (h++[.lst ds])=.ok (.str<|Yq b M<|J p) (h++[.lst ds]):=f1;have g2:ev U (.sl (.var 5) (J<|.bin .Add (.var 3)<|.ci 1)<|J<|.var 2) (vn a l p r b h.length (J<|.int c) (J<|.str y) wd) (h++[.lst ds])=.ok (.str<|Yq b (J<|p+1)<|J l) (h++[.lst ds]):=f2;have g3:∀w,ev U (.sl (.var 5) M<|J<|.bin .Sub (.ci 8)<|.var 6) (vn a l p r b h.length (J<|.int c) (J<|.str y) w) (h++[.lst ds])=.ok (.str<|Yq b M<|J<|8-c) (h++[.lst ds]):=λ_=>f3;have x9:xs1 U Zwj (vn a l p r b h.length (J<|.int c) (J<|.str y) wd) (h++[.lst ds])=.ok (.nx,vn a l p r b h.length (J<|.int c) (J<|.str y)<|J<|.str<|Yq b M (J p)++y++Yq b (J<|p+1) (J l)) (h++[.lst ds]):=Zm<|(Zl ((Zl g1 rfl).I c1) g2).I c2;have tt:tst U Zwf (vn a l p r b h.length (J<|.int c) (J<|.str y)<|J<|.str<|Yq b M (J p)++y++Yq b (J<|p+1) (J l)) (h++[.lst ds])=.ok (Wu<|r/26%4=1) (h++[.lst ds]):=Zfr ((Zl (x:=.int<|r/26) ((Zl rfl rfl).I<|Zdm<|by decide) rfl).I<|Z4<|by decide) rfl;refine(Za x8).I<|(Za x9).I ?_;by_cases hr:r/26%4=1
 . rw[if_pos hr];exact(Za<|(Zk<|Zh tt<|decide_eq_true hr).I<|(Za<|Zm<|g3 _).I rfl).I (ZqV ⟨w3.1,by have:=w3.2;lia⟩ hz)
 . rw[if_neg hr];exact(Za<|(Zg<|Zh tt<|decide_eq_false hr).I rfl).I (ZqV ⟨v2.1,by have:=v2.2;lia⟩ hz)
theorem Znr(hb:Wl 8 b):∀(ks:List _) (fo) (k sg wd),fo.length+ks.length<=100->(∀c∈ks,0<=c/\c<100)->∃k' gx gq,
 ZG [] (.nm 6) (xs2 U Zwi) (ks.map D.int) (vn a l p r b h.length k sg wd) (h++[.lst<|fo.map .str])
  = .ok (.nx,vn a l p r b h.length k' gx gq) (h++[.lst<|(fo++ks.map (nm b l p r)).map .str])
 |[],fo,k,sg,wd,e,d=>⟨k,sg,wd,by simp⟩
 |c::g,fo,k,sg,wd,e,d=>by rw[Os]at e;obtain⟨k',gx,gq,f⟩:=Znr (U:=U) (h:=h) (a:=a) (l:=l) (p:=p) (r:=r) hb g (fo++[nm b l p r c]) (J<|.int c) (J<|.str<|lt1<|(r+5*c)%26) (J<|.str<|nm b l p r c) (by rw[OA,List.length_singleton];lia)<|λz i=>d z<|.tail _ i;refine⟨k',gx,gq,(ZhU rfl<|ZyC hb (d c<|.head _) (by rw[Yu];lia)).I ?_⟩;rw[List.map_append,Oz]at f;exact f
def Zwn:∀k∈[[102,110],[114,101,99],[99,97,108,108],[105,102]],∀l∈[[102,110],[114,101,99],[99,97,108,108],[105,102],YK k.length 113],k=l\/k.length≠l.length\/∀i,i<4->∃j,j<4/\j≠i/\k[j]?≠l[j]? := by trivial
def Znt(ne:x≠y)(a)(h:a++x::b∈[[102,110],[114,101,99],[99,97,108,108],[105,102]]):a++y::b ∉ [[102,110],[114,101,99],[99,97,108,108],[105,102]]/\a++y::b≠YK (a++x::b).length 113:=by
 have c:=by
  have:∀k∈[[102,110],[114,101,99],[99,97,108,108],[105,102]],k.length<=4:=by decide
  exact this _ h
 have i:(a++x::b).length=(a++y::b).length:=by simp
 have no:∀l∈[[102,110],[114,101,99],[99,97,108,108],[105,102],YK _ _],a++y::b≠l:=λl f e=>by
  rcases Zwn _ h l f with q|q|q
  . rw[<-e]at q;exact ne (List.cons.inj<|List.append_cancel_left q).1
  . exact q (by rw[<-e];trivial)
  . obtain⟨j,_,n,d⟩:=q a.length (by simp at c;lia);rw[<-e]at d;rcases Nat.lt_or_ge j _ with z|z
    . exact d (by rw[Oe z,Oe z])
    . rw[Om z,Om z]at d;obtain⟨m,g⟩:∃m,j-a.length=m+1:=⟨j-a.length-1,by lia⟩
      rw[g]at d;exact d rfl
 refine⟨λm=>no _ (Ys _ m) rfl,no _<|Ov [[102,110],[114,101,99],[99,97,108,108],[105,102]]<|Ox.mpr rfl⟩
def Zq4:w∈[O "fn",O "rec",O "call",O "if"]↔w.cps.toList∈[[102,110],[114,101,99],[99,97,108,108],[105,102]]:=by
 have e:[[102,110],[114,101,99],[99,97,108,108],[105,102]]=[O "fn",O "rec",O "call",O "if"].map (·.cps.toList):=rfl;rw[e];refine⟨λh=>List.mem_map_of_mem h,λh=>?_⟩;obtain⟨v,a,q⟩:=List.mem_map.mp h;have:v=w:=by obtain⟨⟨w⟩⟩:=w;cases q;rfl
 exact this▸a
def Zko:∀n,(Zg6 (O "q") n).cps.toList=YK n 113
 |n=>by
  have:∀(n) (a),((YK n (O "q").cps).foldl (·++·) a).toList=a.toList++YK n 113:=by
   intro n;induction n with
   |zero=>simp
   |succ n b=>intro a;rw[List.replicate_succ,List.foldl_cons,b,Array.toList_append,Oz];rfl
  have q:=this n #[];trivial
def nq(hv:v.cps.toList=a++x::b)(hw:w.cps.toList=a++y::b)(ne:x≠y):nmQ v≠nmQ w:=by
 have hl:v.length=(a++x::b).length/\w.length=(a++y::b).length:=by rw[<-hv,<-hw];trivial
 unfold nmQ;intro e;have e':=congrArg (·.cps.toList) e;simp only[Zq4]at e';split at e'
 . rename_i kv;rw[hv]at kv;obtain⟨k1,k2⟩:=Znt ne a kv;rw[if_neg (by rw[hw];trivial),Zko,hw,hl.1]at e';exact k2 e'.symm
 . split at e'
   . rename_i kw;rw[hw]at kw;obtain⟨k1,k2⟩:=Znt (YL ne) a kw;rw[Zko,hv,hl.2]at e';trivial
   simp_all
def Zni(w):(nmQ w).length=w.length:=by
 unfold nmQ;split
 . rw[ZfJ,show(Str.ofString _).length=1 by trivial,Nat.mul_one]
 . rfl
def Ztj:∀i j:Fin 26,ltr i.val=ltr j.val->i=j:=by trivial
theorem Zyp(hb:b.length=8)(hc:0<=c/\c<5)(hd:0<=d/\d<5)(ne:c≠d):nm b l p r c≠nm b l p r d:=by
 unfold nm nmW;split
 . intro e;have f:=congrArg Str.length e;have len:∀ z ,0<=z/\z<5->(Yq b _<|J<|8-z).length=(8-z).toNat:=λz h=>by
     have g:b.cps.toList.length=8:=by simpa [Str.length] using hb
     rw [StrLaws.sliceText_to ⟨by lia,by lia⟩];show (List.take _ _).toArray.size=_;rw [Of,List.length_take,List.drop_zero,g]
     lia
   rw [Zni,Zni,len c hc,len d hd] at f
   lia
 . refine nq (a:=(Yq b M<|J p).cps.toList) (b:=(Yq b (J<|p+1)<|J l).cps.toList) (x:=ltr<|(r+5*c)%26) (y:=ltr<|(r+5*d)%26) ?_ ?_ ?_
   . show (_++#[ltr<|(r+5*c)%26]++_).toList=_;simp
   . show (_++#[ltr<|(r+5*d)%26]++_).toList=_;simp
   . intro e;have q:=Ztj ⟨((r+5*c)%26).toNat,by lia⟩ ⟨((r+5*d)%26).toNat,by lia⟩ (by
       show ltr (((r+5*c)%26).toNat)=ltr (((r+5*d)%26).toNat);rw [Int.toNat_of_nonneg<|by lia,Int.toNat_of_nonneg<|by lia];exact e)
     have q:=Fin.mk.inj q
     lia
def ZqF(hb:b.length=8):([0,1,2,3,4].map<|nm b l p r).Nodup:=by
 refine List.pairwise_map.mpr (List.Pairwise.imp_of_mem (λ{x y} a c ne=>Zyp hb ?_ ?_ ne)<|by decide)
 . simp at a;lia
 . simp at c;lia
def Zss(H:Alk P (O "_law_names") Zcw)(n)(v)(h):∃ns:List _,ns.length=5/\(∀x∈ns,Wl 20 x)/\ns.Nodup/\run P (n+1) (O "_law_names") [.int v] h=.ok (.ref h.length) (h++[.lst<|ns.map .str]):=by
 rw[ZeO H rfl];have u8:ZbQ 0 8=[0,1,2,3,4,5,6,7].map D.int:=by rfl
 have u5:ZbQ 0 5=[0,1,2,3,4].map D.int:=by rfl
 have m8:opB .Mod (.int v) (.int 8) h=.ok (.int<|v%8) h:=Z4 (by decide);have d8:opB .FloorDiv (.int v) (.int 8) h=.ok (.int<|v/8) h:=Zdm (by decide);have mp:opB .Mod (.int<|v/8) (.int<|1+v%8) h=.ok (.int<|v/8%(1+v%8)) h:=Z4 (by lia);have lY:opB .FloorDiv (.int v) (.int 64) h=.ok (.int<|v/64) h:=Zdm (by decide);obtain⟨r',b,k',hb,lC,e1⟩:=Zq2 (U:=⟨P.G,P.GD,run P n,P.L⟩) (h:=h) (a:=J<|.int v) (l:=J<|.int<|1+v%8) (p:=J<|.int<|v/8%(1+v%8)) (f:=M) (sg:=M) (wd:=M) [0,1,2,3,4,5,6,7] (v/64) (O "") 0 M ⟨by decide +kernel,by decide +kernel⟩ (by decide +kernel) (by decide);obtain⟨k2,gx,gq,e2⟩:=Znr (U:=⟨P.G,P.GD,run P n,P.L⟩) (h:=h) (a:=J<|.int v) (l:=1+v%8) (p:=v/8%(1+v%8)) (r:=r') hb [0,1,2,3,4] [] k' M M (by decide) (by decide);refine⟨[0,1,2,3,4].map<|nm b (1+v%8) (v/8%(1+v%8)) r',rfl,λx hx=>?_,ZqF lC,?_⟩
 . obtain⟨c,_,rfl⟩:=List.mem_map.mp hx;exact Zyo hb _ _ _ _
 generalize nm b (1+v%8) (v/8%(1+v%8)) r'=F at e2 ⊢;simp only[Oy,OB]at e2;have s8:ZeM 8=Wr:=by decide
 have s5:ZeM 5=Wr:=by decide
 unfold ZT at e1;unfold vn Zwi Zwg Zwk Zwj Zwf ZyA Zyz ZyB Zwh ZT at e2;rw[<-u8]at e1;rw[<-u5]at e2
 try simp at e1
 try simp at e2
 simp[Zcw,Zg2,Zx,m8,d8,mp,lY,s8,s5,e1,e2,YC]
end Gn
end
namespace Gn
open PySem L2 IV
set_option tactic.hygienic false
noncomputable abbrev Scp:=List (Str×Str)
noncomputable def pairOf(p:Str×Str):D:=.tup [.str p.1,.str p.2]
def Zpa(h:Hd)(k:Nat)(sc:Scp):Prop:=h[k]?=J (.lst<|sc.map pairOf)
structure KnOk(sc:Scp)(kn:List (Key×D)):Prop where
 key:∀p∈kn,∃x,p.1=YE x/\x∈sc.map (·.1)
 val:∀p∈kn,∃s,p.2=D.str s
def Zkw(h:p∈putD kn k v):p∈kn\/p=(k,v):=by
 unfold putD at h;split at h
 . obtain⟨q,a,e⟩:=List.mem_map.mp h;split at e
   . simp_all
   simp_all
 simp_all
def Zqa:(putD kn k v).length<=kn.length+1:=by unfold putD;split<;>simp
def ZsA(hz:kn.length<1000):ZbV (.ref h.length) (.str x) v (h++[.dic kn])=.ok () (h++[.dic<|putD kn (.inr x) v]):=by simp only[ZbV,Zay,keyOf];rw[if_pos (by rw[YC];lia)];simp
theorem Znp(hs:Zpa h k sc0):∀ (sc:Scp) (kn) (a b),(∀ p∈sc,p∈sc0)->KnOk sc0 kn->kn.length+sc.length<=500->∃ fF a' b',KnOk sc0 fF/\fF.length<=kn.length+sc.length /\
   ZG [(k,sc0.map pairOf)] (.two 3 4) (xs2 U<|.cons (.put (.var 2) (.var 3)<|.var 4) .nil) (sc.map pairOf) [J<|.ref k,w,J<|.ref h.length,a,b] (h++[.dic kn])
     = .ok (.nx,[J<|.ref k,w,J<|.ref h.length,a',b']) (h++[.dic fF])
 |[],kn,a,b,R,d,f=>by
   refine⟨kn,a,b,d,by simp,?_⟩;simp [ZG,Wk.stays,(Oe<|ZS hs).I hs]
 | (x,s)::sc,kn,a,b,R,d,f=>by
   simp only [Os] at f;have i:=Zqa (kn:=kn) (k:=.inr x) (v:=.str s);obtain⟨fF,a',b',g,j,e⟩:=Znp (U:=U) (w:=w) hs sc (putD kn (.inr x)<|.str s) (J<|.str x) (J<|.str s) (λp c=>R p<|by simp [c]) (by
     refine⟨λp c=>?_,λp c=>?_⟩
     . rcases Zkw c with z|rfl
       . exact d.key p z
       . exact⟨x,rfl,List.mem_map.mpr ⟨(x,s),R _<|by simp,rfl⟩⟩
     . rcases Zkw c with z|rfl
       . exact d.val p z
       . exact⟨s,rfl⟩) (by lia)
   refine⟨fF,a',b',g,by simp only [Os];lia,?_⟩;rw [Op,ZG];simp only [Wk.stays,(Oe<|ZS hs).I hs,decide_true,if_true];simp [pairOf,ZsA (h:=h) (kn:=kn) (x:=x) (v:=.str s)<|by lia];simpa [pairOf] using e
def find_key(hx:YE x∈kn.map (·.1)):∃v,Zao kn (.inr x)=J v/\(YE x,v)∈kn:=by
 induction kn with
 |nil=>simp_all
 |cons p r a=>
  unfold Zao;by_cases e:p.1=YE x
  . refine⟨p.2,?_,?_⟩
    . simp_all
    . rw[<-e];exact Oi
  . obtain⟨v,R,b⟩:=a (by simpa[YL e]using hx);refine⟨v,?_,Oh _ b⟩;simpa[List.find?_cons,e,Zao]using R
theorem Znv{sc:Scp}:∀{kn:List (Key×D)},(∀p∈kn,∃x,p.1=YE x/\x∈sc.map (·.1))->∃ss,ZeR kn=J ss/\ss.length=kn.length/\(∀x∈ss,x∈sc.map (·.1)/\YE x∈kn.map (·.1))
 |[],_=>⟨_,rfl,rfl,by simp⟩
 |(k,v)::r,h=>by
  obtain⟨x,e,b⟩:=h (k,v) (by simp);cases e;obtain⟨ss,c,d,a⟩:=Znv (kn:=r) λp f=>h p (by simp_all);refine⟨_,by rw[ZeR,c];rfl,by simp_all,λy hy=>?_⟩;rcases O3.mp hy with rfl|hy
  . exact⟨b,by simp⟩
  . exact⟨(a y hy).1,by simp[(a y hy).2]⟩
theorem Zl7{U}{so:List _}(hv:∀p∈kn,∃s,p.2=D.str s):∀(xs:List _) (ag:List _),(∀x∈xs,YE x∈kn.map (·.1))->ag.length+xs.length<=1000->∃ys,(∀y∈ys,y∈xs) /\
 ZI [(h.length+1,so.map D.str)] (.nm 0) (tsto U<|J<|.ex<|.cmp .Eq (.ix (.var 2)<|.var 0)<|.var 1) (ev U<|.var 0) (xs.map D.str) [M,J<|.str w,J<|.ref h.length] (ag.map .str) (h++[.dic kn,.lst<|so.map .str])
  = .ok ((ag++ys).map .str) (h++[.dic kn,.lst<|so.map .str])
 |[],ag,R,c=>⟨[],by simp,by simp[ZI,Wk.stays]⟩
 |x::xs,ag,R,c=>by
  simp only[Os]at c;obtain⟨v,f,g⟩:=find_key (R x<|by simp);obtain⟨s,rfl⟩:∃s,v=D.str s:=hv _ g;have ix:ZaQ U.GD (.ref h.length) (.str x) (h++[.dic kn,.lst<|so.map .str])=.ok (.str s) (h++[.dic kn,.lst<|so.map .str]):=by simp[ZaQ,dicOf,f]
  have d:ag.length<Yc:=by rw[YC];lia
  by_cases e:s=w
  . obtain⟨ys,b,a⟩:=Zl7 (U:=U) (h:=h) (w:=w) (so:=so) hv xs (ag++[x]) (λy hy=>R y<|by simp[hy]) (by simp;lia);refine⟨x::ys,λy hy=>?_,?_⟩
    . rcases O3.mp hy with rfl|hy
      . simp
      . simp[b y hy]
    . rw[Op,ZL];simp at a;simp[Wk.stays,d,ix,e,a]
  . obtain⟨ys,b,a⟩:=Zl7 (U:=U) (h:=h) (w:=w) (so:=so) hv xs ag (λy hy=>R y<|by simp[hy]) (by lia);refine⟨ys,λy hy=>by simp[b y hy],?_⟩;rw[Op,ZL];simp at a;simp[Wk.stays,d,ix,e,a]
theorem Zsq{P}(H:Mk0 P)(n){sc}(w)(hs:Zpa h k sc)(hl:sc.length<=60)(hok:∀ p∈sc,Yp p.1=Wr):∃ (ys:List _) (g:Hd),(∀ y∈ys,y∈sc.map (·.1))/\g.length=2 /\
   run P (n+1) (O "_law_there") [.ref k,.str w] h=.ok (.ref<|h.length+2) (h++g++[.lst<|ys.map .str]):=by
 rw [Ze H.there rfl];obtain⟨kn,a',b',hk,jz,e1⟩:=Znp (U:=⟨P.G,P.GD,run P n,P.L⟩) (w:=J<|.str w) hs sc [] M M (λ_ hp=>hp) ⟨by simp,by simp⟩ (by simp;lia);obtain⟨ss,e2,e3,e4⟩:=Znv hk.key;have perm:=ZeL ss;obtain⟨ys,q1,q2⟩:=Zl7 (U:=⟨P.G,P.GD,run P n,P.L⟩) (h:=h) (kn:=kn) (w:=w) (so:=ZdI ss) hk.val (ZdI ss) [] (λx hx=>(e4 x<|perm.mem_iff.mp hx).2) (by rw [perm.length_eq];simp at jz ⊢;lia);refine⟨ys,[.dic kn,.lst<|(ZdI ss).map .str],λy hy=>(e4 y<|perm.mem_iff.mp<|q1 y hy).1,rfl,?_⟩;have iE:Zb6 P.GD .srt [.ref h.length] (h++[.dic kn])=.ok (.ref<|h.length+1) (h++[.dic kn,.lst<|(ZdI ss).map .str]):=by
   show Zgj P.GD [.ref h.length] (h++[.dic kn])=_;simp only [Zgj,dicOf,Zay,Yz,e2];rw [if_pos ⟨by simp at jz;lia,by
   rw [OC];intro x hx;obtain⟨p,hp,rfl⟩:=List.mem_map.mp (e4 x hx).1;exact hok p hp⟩]
   simp
 have dw:ZaT (.ref k) (h++[DO.dic []])=J ⟨[(k,sc.map pairOf)],sc.map pairOf⟩:=by
   have:(h++[DO.dic []])[k]?=J (.lst<|sc.map pairOf):=(Oe<|ZS hs).I hs;simp [ZaT,this]
 have du:ZaT (.ref<|h.length+1) (h++[DO.dic kn,.lst<|(ZdI ss).map .str])=J ⟨[(h.length+1,(ZdI ss).map .str)],(ZdI ss).map .str⟩:=by
   simp [ZaT]
 simp at q2 e1;simp [Zee,Zg1,Zx,Zd8,ZcL,dw,e1,iE,du,ZbY,q2]
set_option tactic.hygienic true
section
structure Ctx(cs:List Int)(ns:List Str)(h:Hd)(i j m k:Nat)(sc:Scp)(a b:Int):Prop where
 st:St3 h i j cs a b
 nm:h[m]?=J (.lst<|ns.map .str)
 n5:ns.length=5
 nok:∀x∈ns,Wl 20 x
 nd:ns.Nodup
 sca:Zpa h k sc
 sco:∀p∈sc,Wl 20 p.1
 im:i≠m
 ik:i≠k
 ab:0<=a
variable {P:Pg}{cs:List Int}{ns:List Str}{h h':Hd}{i j m k:Nat}{sc:Scp}{a b a' b':Int}
def Ctx.up(c:Ctx cs ns h i j m k sc a b)(u:Up i h h')(st:St3 h' i j cs a' b')(ab:0<=a'):Ctx cs ns h' i j m k sc a' b':=⟨st,u.at c.nm<|YL c.im,c.n5,c.nok,c.nd,u.at c.sca<|YL c.ik,c.sco,c.im,c.ik,ab⟩
def St3.app(s:St3 h i j cs a b):St3 (h++g) i j cs a b:=⟨(Oe<|ZS s.1).I s.1,(Oe<|ZS s.2.1).I s.2.1,s.2.2⟩
theorem Ctx.app(c:Ctx cs ns h i j m k sc a b):Ctx cs ns (h++g) i j m k sc a b:=c.up Up.app c.st.app c.ab
def Ctx.name(c:Ctx cs ns h i j m k sc a b)(v)(h0:0<=v)(h5:v<5):∃x,ZaQ GD (.ref m) (.int v) h=.ok (.str x) h/\Wl 20 x/\ns[v.toNat]?=J x:=by
 obtain⟨q,rfl⟩:∃q:Nat,v=q:=⟨v.toNat,by lia⟩
 have d:q<ns.length:=by have:=c.n5;lia
 refine⟨_,?_,c.nok _<|List.getElem_mem _,Og d⟩;rw[ZC c.nm,IV.ZbF,O2,Og _];rfl
noncomputable def A(r:Nat):Int:=4^(r+1)
def Zlq(r:Nat):0<A r:=Int.pow_pos (by decide)
def Zw7(r):A (r+1)=4*A r:=by unfold A;rw[Int.pow_succ];lia
noncomputable def pz(x:Int):Int:=max x 0
inductive Made(cs:List Int)(h:Hd)(i j:Nat)(sc:Scp)(a b ex mx:Int)(dm:Nat)(r:qe D):Prop
 |mk (t:T) (h':Hd) (a' b':Int) (e:r=.ok (T.d t) h') (u:Up i h h') (s:St3 h' i j cs a' b') (l1:a<=a') (l2:a'<=a+mx) (c:Cl (sc.map (·.1)) t) (p:nb t<=dep t/\dep t<=dm) (z:fw t<=3*(pz b-pz b')+ex)
def Zn0(P:Pg)(r n0:Nat):Prop:=∀(n:Nat) (e:List Int) (f:List Str) (h:Hd) (i j m k:Nat) (d:Scp) (a b:Int) (w:Str) (c:Int),c<=r->Ctx e f h i j m k d a b->d.length+2*r<=50->a+A r<2^50 ->
 Made e h i j d a b 0 (A r) (3*r+3) (run P (n+n0) (O "_law_any") [.str w,.ref k,.ref i,.ref m,.int c] h)
def ZrT(H:Mk0 P)(n)(c:Ctx cs ns h i j m k sc a b)(w)(room)(hl:sc.length<=50)(ha:a<2^50)(T1 T2 T3:Option D):∃(v:Int) (w':Str) (ys:List _) (h':Hd) (l:Nat),
 xs2 ⟨P.G,P.GD,run P<|n+2,P.L⟩ (.cons ZbP<|.cons ZcG<|.cons ZbO<|.cons ZcF<|.cons ZbN .nil) [J<|.str w,J<|.ref k,J<|.ref i,J<|.ref m,J<|.int room,T1,T2,T3,M,M] h
  = .ok (.nx,[J<|.str w',J<|.ref k,J<|.ref i,J<|.ref m,J<|.int room,J<|.int v,J<|.int<|v/87,J<|.ref l,M,M]) h'/\Up i h h'/\Ctx cs ns h' i j m k sc (a+1) (b-1)/\h'[l]?=J (.lst<|ys.map .str)/\(∀y∈ys,y∈sc.map (·.1)):=by
 have o:=c.st.1;have C:ZbV (.ref i) (.int 2) (.int<|b-1) h=.ok () (h.set i<|.lst [.ref j,.int a,.int<|b-1]):=by simp only[ZbV,o];rfl
 have r:St3 (h.set i<|.lst [.ref j,.int a,.int<|b-1]) i j cs a (b-1):=⟨by rw[Ol<|ZS o],by rw[Oc c.st.2.2];exact c.st.2.1,c.st.2.2⟩
 obtain⟨v,u,_⟩:=ZlF H n r ⟨c.ab,ha⟩;have lt1:i<(h.set i<|.lst [.ref j,.int a,.int<|b-1]).length:=by simpa using (ZS o)
 have z:St3 ((h.set i<|.lst [.ref j,.int a,.int<|b-1]).set i<|.lst [.ref j,.int<|a+1,.int<|b-1]) i j cs (a+1) (b-1):=⟨by rw[Ol lt1],by rw[Oc c.st.2.2];exact r.2.1,c.st.2.2⟩
 have f:=(c.up Up.set r c.ab).up Up.set z (by have:=c.ab;lia);generalize s:(h.set i<|.lst [.ref j,.int a,.int<|b-1]).set i (.lst [.ref j,.int<|a+1,.int<|b-1])=d at u z f;have lZ:∀h,opB .FloorDiv (.int v) (.int 29) h=.ok (.int<|v/29) h:=λh=>Zdm (by decide);have m3:∀h,opB .Mod (.int<|v/29) (.int 3) h=.ok (.int<|v/29%3) h:=λh=>Z4 (by decide);have lX:∀h,opB .FloorDiv (.int v) (.int 87) h=.ok (.int<|v/87) h:=λh=>Zdm (by decide);have E:ZaQ P.GD (.ref i) (.int 2) h=.ok (.int b) h:=by rw[ZC o];simp
 have F:∃(w':Str) (h3:Hd),xs1 ⟨P.G,P.GD,run P<|n+2,P.L⟩ ZbO [J<|.str w,J<|.ref k,J<|.ref i,J<|.ref m,J<|.int room,J<|.int v,T2,T3,M,M] d
  = .ok (.nx,[J<|.str w',J<|.ref k,J<|.ref i,J<|.ref m,J<|.int room,J<|.int v,T2,T3,M,M]) h3/\Up i d h3/\Ctx cs ns h3 i j m k sc (a+1) (b-1):=by
  have A:tst (P.tbl<|n+2) (.ex<|.cmp .Eq (.bin .Mod (.var 5)<|.ci 29)<|.ci 0) [J<|.str w,J<|.ref k,J<|.ref i,J<|.ref m,J<|.int room,J<|.int v,T2,T3,M,M] d=.ok (Wu<|v%29=0) d:=Zfr ((Zl rfl rfl).I<|(λh=>Z4<|by decide) d) rfl;by_cases B:v%29=0
  . have go:∀w':Str,atI [D.str<|O "n",.str<|O "f",.str<|O "g"] (v/29%3)=J (D.str w')->xs1 (P.tbl<|n+2) ZbO [J<|.str w,J<|.ref k,J<|.ref i,J<|.ref m,J<|.int room,J<|.int v,T2,T3,M,M] d
     = .ok (.nx,[J<|.str w',J<|.ref k,J<|.ref i,J<|.ref m,J<|.int room,J<|.int v,T2,T3,M,M]) (d++[.lst [.str<|O "n",.str<|O "f",.str<|O "g"]]):=λw' e=>
     (Zk<|Zh A<|decide_eq_true B).I ((Za<|Zm<|Zk9 e rfl ((Zl (x:=.int<|v/29) ((Zl rfl rfl).I<|lZ _) rfl).I<|m3 _)<|by decide).I rfl)
    have q:v/29%3=0\/v/29%3=1\/v/29%3=2:=by lia
    rcases q with q|q|q
    . exact⟨O "n",_,go _ (by rw[q];rfl),Up.app,f.app⟩
    . exact⟨O "f",_,go _ (by rw[q];rfl),Up.app,f.app⟩
    . exact⟨O "g",_,go _ (by rw[q];rfl),Up.app,f.app⟩
  . exact⟨w,d,(Zg<|Zh A<|decide_eq_false B).I rfl,Up.refl,f⟩
 obtain⟨w',h3,K,N,t⟩:=F;obtain⟨ys,g,Q,R,S⟩:=Zsq H (n+1) w' t.sca (by lia)<|λp T=>(t.sco p T).1;refine⟨v,w',ys,h3++g++[.lst<|ys.map .str],h3.length+2,?_,((s▸Up.set.I Up.set).I N).I<|Up.app.I Up.app,t.app.app,?_,Q⟩
 . have U:xs1 ⟨P.G,P.GD,run P<|n+2,P.L⟩ ZbP [J<|.str w,J<|.ref k,J<|.ref i,J<|.ref m,J<|.int room,T1,T2,T3,M,M] h=.ok (.nx,[J<|.str w,J<|.ref k,J<|.ref i,J<|.ref m,J<|.int room,T1,T2,T3,M,M]) (h.set i<|.lst [.ref j,.int a,.int<|b-1]):=by have q:ev (P.tbl<|n+2) (.bin .Sub (.ix (.var 2)<|.ci 2)<|.ci 1) [J<|.str w,J<|.ref k,J<|.ref i,J<|.ref m,J<|.int room,T1,T2,T3,M,M] h=.ok (.int<|b-1) h:=(Zl (x:=.int b) ((Zj rfl rfl).I E) rfl).I rfl;rw[ZbP,ZmM];show(ev (P.tbl<|n+2) (.bin .Sub (.ix (.var 2)<|.ci 2)<|.ci 1) _ h).bnd _=_;rw[q];show(ZbV (.ref i) (.int 2) (.int<|b-1) h).bnd _=_;rw[C];rfl
   have V:xs1 ⟨P.G,P.GD,run P<|n+2,P.L⟩ ZcG [J<|.str w,J<|.ref k,J<|.ref i,J<|.ref m,J<|.int room,T1,T2,T3,M,M] (h.set i<|.lst [.ref j,.int a,.int<|b-1])=.ok (.nx,[J<|.str w,J<|.ref k,J<|.ref i,J<|.ref m,J<|.int room,J<|.int v,T2,T3,M,M]) d:=by exact Zm (Zo u rfl)
   have x4:∀q,xs1 ⟨P.G,P.GD,run P<|n+2,P.L⟩ ZcF [J<|.str w',J<|.ref k,J<|.ref i,J<|.ref m,J<|.int room,J<|.int v,q,T3,M,M] h3=.ok (.nx,[J<|.str w',J<|.ref k,J<|.ref i,J<|.ref m,J<|.int room,J<|.int v,J<|.int<|v/87,T3,M,M]) h3:=by exact λq=>Zm ((Zl rfl rfl).I<|lX _)
   have W:xs1 ⟨P.G,P.GD,run P<|n+2,P.L⟩ ZbN [J<|.str w',J<|.ref k,J<|.ref i,J<|.ref m,J<|.int room,J<|.int v,J<|.int<|v/87,T3,M,M] h3=.ok (.nx,[J<|.str w',J<|.ref k,J<|.ref i,J<|.ref m,J<|.int room,J<|.int v,J<|.int<|v/87,J<|.ref<|h3.length+2,M,M]) (h3++g++[.lst<|ys.map .str]):=by simp only[ZbN,Zjl,ZnG,Zh9,ZO,ZjT,O0,OJ,Option.join_some,ofO_some,ZA,bind_ok,S];rfl
   exact(Za U).I ((Za V).I<|(Za K).I<|(Za<|x4 _).I<|(Za W).I rfl)
 . have:h3.length+2=(h3++g).length:=by simp[R]
   rw[this];simp
end
set_option tactic.hygienic false
section
variable {P:Pg}{cs:List Int}{ns:List Str}{h h':Hd}{i j m k:Nat}{sc:Scp}{a b:Int}
theorem Cl.mono{sc aF:List _}:∀ {t:T},(∀ x∈sc,x∈aF)->Cl sc t->Cl aF t
 |.num n,_,c=>c
 |.name x,s,c=>s x c
 |.fn x e,s,c=>⟨Cl.mono (t:=e) (λy a=>by
     rcases O3.mp a with z|z
     . rw [z];exact Oi
     . exact Oh _ (s y z)) c.1,c.2⟩
 |.rcc f x e,s,c=>⟨Cl.mono (t:=e) (λy a=>by
     rcases O3.mp a with z|z
     . rw [z];exact Oi
     . rcases O3.mp z with q|q
       . rw [q];exact Oh _ Oi
       . exact Oh _ (Oh _<|s y q)) c.1,c.2⟩
 |.call f e,s,c|.op w p q,s,c=>⟨Cl.mono s c.1,Cl.mono s c.2⟩
 |.iff p q r,s,c=>⟨Cl.mono s c.1,Cl.mono s c.2.1,Cl.mono s c.2.2⟩
noncomputable def ZrZ(z:Int):Wd:=if z=0 then .add else if z=1 then .sub else if z=2 then .mul else .lt
def wd4(z)(h0:0<=z)(h4:z<4):atI [D.str<|O "+",.str<|O "-",.str<|O "*",.str<|O "<"] z=J (.str (ZrZ z).s):=by
 have:z=0\/z=1\/z=2\/z=3:=by lia
 rcases this with rfl|rfl|rfl|rfl<;>simp[ZrZ,Wd.s]
noncomputable def me(rest:Int)(k i m:Nat)(room:Int)(a b c d:Option D):Ev:=[J<|.int rest,J<|.ref k,J<|.ref i,J<|.ref m,J<|.int room,a,b,c,d]
def Zv8(H:Mk0 P)(ih:Zn0 P r n0)(hn:1<=n0)(n)(c:Ctx cs ns h i j m k sc a b)(rest)(room:Int)(hr:room<=r)(hl:sc.length+2*r<=50)(ha:a+2*A r<2^50):
 Made cs h i j sc a b 0 (2*A r) (3*r+4) (run P (n+n0+1) (O "_law_number") [.int rest,.ref k,.ref i,.ref m,.int room] h):=by
 have Ap:=Zlq r;rw[ZeO H.number rfl];show Made cs h i j sc a b 0 (2*A r) (3*r+4) (Zf<|xs2 (P.tbl<|n+n0) ZdA (me rest k i m room M M M M) h);have x1:∀h,xs1 (P.tbl<|n+n0) Zet (me rest k i m room M M M M) h=.ok (.nx,me rest k i m room (J<|.int<|rest%6) M M M) h:=λh=>rfl;rw[ZdA,Za<|x1 h];obtain⟨v,W⟩:∃v,n+n0=v+1:=⟨n+n0-1,by lia⟩
 by_cases U:rest%6=0
 . obtain⟨t,g,o,ct,pt⟩:=Zju H v (O "n") (rest/6) h (sc.map (·.1));refine⟨t,h++g,a,b,?_,Up.app,c.st.app,by lia,by lia,ct,by lia,by lia⟩;rw[<-W]at o;have w:xs1 (P.tbl<|n+n0) Zcj (me rest k i m room (J<|.int<|rest%6) M M M) h=.ok (.rt t.d,me rest k i m room (J<|.int<|rest%6) M M M) (h++g):=(Zk<|Zh (Zfr rfl rfl)<|decide_eq_true U).I<|Zd<|ZP o rfl rfl;rw[Zd w];rfl
 . have w:xs1 (P.tbl<|n+n0) Zcj (me rest k i m room (J<|.int<|rest%6) M M M) h=.ok (.nx,me rest k i m room (J<|.int<|rest%6) M M M) h:=(Zg<|Zh (Zfr rfl rfl)<|decide_eq_false U).I rfl;rw[Za w];by_cases V:rest%6<3
   . obtain⟨f,l,x,y,o,u1,z,l1,l2,B,X,Y⟩:=ih n cs ns h i j m k sc a b (O "n") room hr c hl (by lia);obtain⟨p,s,C,E,F,G,K,Z,l4,L,p2,z2⟩:=ih n cs ns (l++[.lst [.str<|O "+",.str<|O "-",.str<|O "*",.str<|O "<"]]) i j m k sc x y (O "n") room hr (c.up u1 z (by have:=c.ab;lia)).app hl (by lia);refine⟨.op (ZrZ<|rest/6%4) f p,s,C,E,?_,u1.I<|Up.app.I G,K,by lia,by lia,⟨B,L⟩,by simp only[dep,nb];lia,by simp only[fw];clear ih hl ha;lia⟩;have N:xs1 (P.tbl<|n+n0) Zci (me rest k i m room (J<|.int<|rest%6) M M M) h=.ok (.rt (T.op (ZrZ<|rest/6%4) f p).d,me rest k i m room (J<|.int<|rest%6) (J f.d) M M) s:=by refine(Zk<|Zh rfl<|decide_eq_true V).I ?_;refine(Za (ρ1:=me rest k i m room (J<|.int<|rest%6) (J f.d) M M) (R:=l)<|ZP o rfl rfl).I ?_;exact Zd (Zn<|Z6 (Zc (Zk9 (wd4 (rest/6%4) (by lia)<|by lia) rfl rfl<|by simp)<|Zc rfl<|Zc (Zo F rfl) rfl)<|by simp)
     rw[Zd N];rfl
   . have Q:∃e,(e=O "f" \/ e=O "g")/\atI [D.str<|O "f",.str<|O "f",.str<|O "g"] (rest%6-3)=J (.str e):=by
      have:rest%6-3=0\/rest%6-3=1\/rest%6-3=2:=by lia
      rcases this with q|q|q<;>rw[q]<;>simp
     obtain⟨e,kE,Q⟩:=Q;obtain⟨f,l,x,y,o,u1,z,l1,l2,B,X,Y⟩:=ih n cs ns (h++[.lst [.str<|O "f",.str<|O "f",.str<|O "g"]]) i j m k sc a b e room hr c.app hl (by lia);have cc:=c.app.up u1 z (by have:=c.ab;lia);have S:∃u,ZaQ P.GD (.ref l.length) (.str e) (l++[.dic [(.inr<|O "f",.str<|O "n"),(.inr<|O "g",.str<|O "f")]])=.ok (.str u) (l++[.dic [(.inr<|O "f",.str<|O "n"),(.inr<|O "g",.str<|O "f")]]):=by
      rcases kE with rfl|rfl
      . exact⟨O "n",by simp[ZaQ,dicOf,Zao]⟩
      . exact⟨O "f",by simp[ZaQ,dicOf,Zao]⟩
     obtain⟨u,S⟩:=S;obtain⟨p,s,C,E,F,G,K,Z,l4,L,p2,z2⟩:=ih n cs ns (l++[.dic [(.inr<|O "f",.str<|O "n"),(.inr<|O "g",.str<|O "f")]]) i j m k sc x y u room hr cc.app hl (by lia);refine⟨.call f p,s,C,E,?_,Up.app.I<|u1.I<|Up.app.I G,K,by lia,by lia,⟨B,L⟩,by simp only[dep,nb];lia,by simp only[fw];clear ih hl ha;lia⟩;have N:xs1 (P.tbl<|n+n0) Zci (me rest k i m room (J<|.int<|rest%6) M M M) h=.ok (.nx,me rest k i m room (J<|.int<|rest%6) M M M) h:=(Zg<|Zh rfl<|decide_eq_false V).I rfl;have x4:xs1 (P.tbl<|n+n0) Zes (me rest k i m room (J<|.int<|rest%6) M M M) h=.ok (.nx,me rest k i m room (J<|.int<|rest%6) M (J<|.str e) M) (h++[.lst [.str<|O "f",.str<|O "f",.str<|O "g"]]):=Zm (i:=7) (Zk9 Q rfl rfl<|by simp);have x5:xs1 (P.tbl<|n+n0) Zer (me rest k i m room (J<|.int<|rest%6) M (J<|.str e) M) (h++[.lst [.str<|O "f",.str<|O "f",.str<|O "g"]])=.ok (.nx,me rest k i m room (J<|.int<|rest%6) M (J<|.str e)<|J f.d) l:=ZP o rfl rfl;have p6:ev (P.tbl<|n+n0) (.ix (.dictl<|.cons (.Ci_ "f")<|.cons (.Ci_ "n")<|.cons (.Ci_ "g")<|.cons (.Ci_ "f") .nil)<|.var 7) (me rest k i m room (J<|.int<|rest%6) M (J<|.str e)<|J f.d) l=.ok (.str u) (l++[.dic [(.inr<|O "f",.str<|O "n"),(.inr<|O "g",.str<|O "f")]]):=S;have x6:xs1 (P.tbl<|n+n0) Zeq (me rest k i m room (J<|.int<|rest%6) M (J<|.str e)<|J f.d) l=.ok (.rt (T.call f p).d,me rest k i m room (J<|.int<|rest%6) M (J<|.str e)<|J f.d) s:=Zn (Z6 (Zc rfl<|Zc rfl<|Zc ((ZwN<|Zc p6 rfl).I F) rfl)<|by simp);rw[Za N,Za x4,Za x5,Zd x6];rfl
def Ctx.wider(c:Ctx cs ns h i j m k sc a b)(more)(hm:∀p∈more,Wl 20 p.1):Ctx cs ns (h++[.lst<|more.map pairOf,.lst<|(sc++more).map pairOf]) i j m (h.length+1) (sc++more) a b:=by
 have d:=c.app (g:=[.lst<|more.map pairOf,.lst<|(sc++more).map pairOf]);refine⟨d.st,d.nm,d.n5,d.nok,d.nd,by unfold Zpa;simp,λp e=>?_,d.im,?_,d.ab⟩
 . rcases OD.mp e with z|z
   . exact c.sco p z
   . exact hm p z
 . have:=ZS c.st.1
   lia
def ZjY(c:Ctx cs ns h i j m k sc a b)(more)(hz:sc.length+more.length<=100):opB .Add (.ref k) (.ref h.length) (h++[.lst<|more.map pairOf])=.ok (.ref<|h.length+1) (h++[.lst<|more.map pairOf,.lst<|(sc++more).map pairOf]):=by simp only[opB,Zt6,(Oe<|ZS c.sca).I c.sca,Zay];rw[if_pos (by simp;rw[YC];lia)];simp
def ZxG{sc:Scp}{x s:Str}:∀y∈(sc++[(x,s)]).map (·.1),y∈x::sc.map (·.1):=λy a=>by
 rw[List.map_append]at a;rcases OD.mp a with z|z
 . exact Oh _ z
 simp_all
def unlike{ns:List Str}(n5:ns.length=5)(nd:ns.Nodup){x f}{rest:Int}(ax:ns[(rest%5).toNat]?=J x)(af:ns[((rest%5+1+rest/15%4)%5).toNat]?=J f):f≠x:=λe=>by
 have q:=(List.getElem?_inj (i:=(rest%5).toNat) (j:=((rest%5+1+rest/15%4)%5).toNat) (by rw[n5];lia) nd).mp (by simp_all)
 lia
noncomputable def fe(w:Str)(rest:Int)(k i m:Nat)(room:Int)(a b c d:Option D):Ev:=[J<|.str w,J<|.int rest,J<|.ref k,J<|.ref i,J<|.ref m,J<|.int room,a,b,c,d]
def ZyR{N}{s}{w}{rest}{room}{x}{t1}{g1 R}(hc:opB .Add (.ref k) (.ref h.length) (h++[.lst<|[(x,s)].map pairOf])=.ok (.ref<|h.length+1) R)(e1:run P N (O "_law_any") [.str<|O "n",.ref<|h.length+1,.ref i,.ref m,.int room] R=.ok t1.d g1):ev (P.tbl N) (.tupl<|.cons (.Ci_ "fn")<|.cons (.var 6)<|.cons (.call (O "_law_any")<|.cons (.Ci_ "n")<|.cons (.bin .Add (.var 2)<|.lstl<|.cons (.tupl<|.cons (.var 6)<|.cons (.cst<|.str s) .nil) .nil)<|.cons (.var 3)<|.cons (.var 4)<|.cons (.var 5) .nil) .nil) (fe w rest k i m room (J<|.str x) M M M) h=.ok (T.fn x t1).d g1:=Z6 (Zc rfl<|Zc rfl<|Zc ((ZwN<|Zc rfl<|Zc ((Zl rfl rfl).I hc) rfl).I e1) rfl) (by simp)
def ZwD(H:Mk0 P){r n0}(ih:Zn0 P r n0)(n)(c:Ctx cs ns h i j m k sc a b)(w)(rest)(room:Int)(hr:room<=r)(hl:sc.length+2+2*r<=50)(ha:a+2*A r<2^50):
 Made cs h i j sc a b 3 (2*A r) (3*r+6) (run P (n+n0+1) (O "_law_function") [.str w,.int rest,.ref k,.ref i,.ref m,.int room] h):=by
 have Ap:=Zlq r;have L:=c.ab;rw[ZeO H.function rfl];obtain⟨x,W,G,ax⟩:=c.name (GD:=P.GD) (rest%5) (by clear ih ha L hl hr;lia) (by clear ih ha L hl hr;lia);show Made cs h i j sc a b 3 (2*A r) (3*r+6) (Zf<|xs2 (P.tbl<|n+n0) (.cons Zbt<|.cons Zaw<|.cons Zav<|.cons Zbs<|.cons Zbr<|.cons Zbq<|.cons Zau<|.cons Zat .nil) (fe w rest k i m room M M M M) h);have X:xs1 (P.tbl<|n+n0) Zbt (fe w rest k i m room M M M M) h=.ok (.nx,fe w rest k i m room (J<|.str x) M M M) h:=by exact Zm (i:=6) W
 rw[Za X];by_cases Y:w=O "g"
 . have E:=ZjY c [(x,O "f")] (by simp;lia);obtain⟨l,o,p,q,F,u1,u,l1,l2,v,N,Q⟩:=ih n cs ns _ i j m (h.length+1) (sc++[(x,O "f")]) a b (O "n") room hr (c.wider [(x,O "f")]<|by simp[G]) (by simp;lia) (by lia);refine⟨.fn x l,o,p,q,?_,Up.app.I u1,u,l1,by lia,⟨Cl.mono (t:=l) ZxG v,G⟩,by simp only[dep,nb];lia,by simp only[fw];clear ih hl ha;lia⟩;have e:xs1 (P.tbl<|n+n0) Zaw (fe w rest k i m room (J<|.str x) M M M) h=.ok (.rt (T.fn x l).d,fe w rest k i m room (J<|.str x) M M M) o:=by subst Y;exact(Zk rfl).I (Zd<|Zn<|ZyR E F)
   rw[Zd e];rfl
 have Z:xs1 (P.tbl<|n+n0) Zaw (fe w rest k i m room (J<|.str x) M M M) h=.ok (.nx,fe w rest k i m room (J<|.str x) M M M) h:=by exact(Zg<|Zh (Zas rfl rfl)<|decide_eq_false Y).I rfl
 rw[Za Z];by_cases h3:rest/5%3=0
 . have E:=ZjY c [(x,O "n")] (by simp;lia);obtain⟨l,o,p,q,F,u1,u,l1,l2,v,N,Q⟩:=ih n cs ns _ i j m (h.length+1) (sc++[(x,O "n")]) a b (O "n") room hr (c.wider [(x,O "n")]<|by simp[G]) (by simp;lia) (by lia);refine⟨.fn x l,o,p,q,?_,Up.app.I u1,u,l1,by lia,⟨Cl.mono (t:=l) ZxG v,G⟩,by simp only[dep,nb];lia,by simp only[fw];clear ih hl ha;lia⟩;have e:xs1 (P.tbl<|n+n0) Zav (fe w rest k i m room (J<|.str x) M M M) h=.ok (.rt (T.fn x l).d,fe w rest k i m room (J<|.str x) M M M) o:=(Zk<|Zh (Zfr (x:=rest/5%3) rfl rfl)<|decide_eq_true h3).I<|Zd<|Zn<|ZyR E F;rw[Zd e];rfl
 have x3:xs1 (P.tbl<|n+n0) Zav (fe w rest k i m room (J<|.str x) M M M) h=.ok (.nx,fe w rest k i m room (J<|.str x) M M M) h:=by exact(Zg<|Zh (Zfr (x:=rest/5%3) rfl rfl)<|decide_eq_false h3).I rfl
 obtain⟨f,ef,wf,af⟩:=c.name (GD:=P.GD) ((rest%5+1+rest/15%4)%5) (by clear ih ha L hl hr;lia) (by clear ih ha L hl hr;lia);have x4:xs1 (P.tbl<|n+n0) Zbs (fe w rest k i m room (J<|.str x) M M M) h=.ok (.nx,fe w rest k i m room (J<|.str x) (J<|.str f) M M) h:=by exact Zm (i:=7) ef
 have E:=ZjY c [(f,O "f"),(x,O "n")] (by simp;lia);have K:=c.wider [(f,O "f"),(x,O "n")] (by simp[G,wf]);have sub:∀y∈(sc++[(f,O "f"),(x,O "n")]).map (·.1),y∈x::f::sc.map (·.1):=λy hy=>by simp at hy ⊢;rcases hy with z|z|z<;>simp[z]
 generalize B:(h++[DO.lst<|[(f,O "f"),(x,O "n")].map pairOf,.lst<|(sc++[(f,O "f"),(x,O "n")]).map pairOf])=R at E K;have ug:Up i h R:=by rw[<-B];exact Up.app
 have gH:R.length=h.length+2:=by rw[<-B];simp
 have x5:xs1 (P.tbl<|n+n0) Zbr (fe w rest k i m room (J<|.str x) (J<|.str f) M M) h=.ok (.nx,fe w rest k i m room (J<|.str x) (J<|.str f) (J<|.ref<|h.length+1) M) R:=by exact Zm (i:=8) ((Zl (x:=.ref k) (y:=.ref h.length) (R:=h) (h2:=h++[.lst<|[(f,O "f"),(x,O "n")].map pairOf]) rfl rfl).I E)
 have x6:xs1 (P.tbl<|n+n0) Zbq (fe w rest k i m room (J<|.str x) (J<|.str f) (J<|.ref<|h.length+1) M) R=.ok (.nx,fe w rest k i m room (J<|.str x) (J<|.str f) (J<|.ref<|h.length+1)<|J (T.call (.name f)<|.op .sub (.name x)<|.num 1).d) R:=by exact rfl
 rw[Za x3,Za x4,Za x5,Za x6];generalize bH:sc++[(f,O "f"),(x,O "n")]=C at K sub B;have my:C.length=sc.length+2:=by rw[<-bH];simp
 clear X Z x3 x4 x5 x6 E B bH W ef;have last:∀(l:T) (o:Hd) (p q:Int),Up i R o->St3 o i j cs p q->a<=p->p<=a+A r->Cl (x::f::sc.map (·.1)) l->nb l<=dep l/\dep l<=3*r+4->fw l<=3*(pz b-pz q) ->
  xs1 (P.tbl<|n+n0) Zau (fe w rest k i m room (J<|.str x) (J<|.str f) (J<|.ref<|h.length+1)<|J (T.call (.name f)<|.op .sub (.name x)<|.num 1).d) R=.ok (.nx,fe w rest k i m room (J<|.str x) (J<|.str f) (J<|.ref<|h.length+1)<|J l.d) o ->
  Made cs h i j sc a b 3 (2*A r) (3*r+6) (Zf<|xs2 (P.tbl<|n+n0) (.cons Zau<|.cons Zat .nil) (fe w rest k i m room (J<|.str x) (J<|.str f) (J<|.ref<|h.length+1)<|J (T.call (.name f)<|.op .sub (.name x)<|.num 1).d) R):=by
  intro l o p q u1 u l1 l2 v N Q x7;rw[Za x7];obtain⟨t2,g2,a2,b2,e2,u2,s2,l3,l4,c2,p2,z2⟩:=ih n cs ns o i j m (h.length+1) C p q (O "n") (room-1) (by clear ha;lia) (K.up u1 u (by clear hl ha hr;lia)) (by clear ha hr;lia) (by clear hl hr;lia);refine⟨.rcc f x<|.iff (.name x) l t2,g2,a2,b2,?_,ug.I<|u1.I u2,s2,Int.le_trans l1 l3,by clear hl hr ha;lia,⟨⟨Oi,v,Cl.mono sub c2⟩,unlike c.n5 c.nd ax af,wf,G⟩,by simp only[dep,nb];clear hl hr ha;lia,by simp only[fw];clear hl hr ha ih;lia⟩;have e:xs1 (P.tbl<|n+n0) Zat (fe w rest k i m room (J<|.str x) (J<|.str f) (J<|.ref<|h.length+1)<|J l.d) o=.ok (.rt (T.rcc f x<|.iff (.name x) l t2).d,fe w rest k i m room (J<|.str x) (J<|.str f) (J<|.ref<|h.length+1)<|J l.d) g2:=by exact Zn (Z6 (Zc rfl<|Zc rfl<|Zc rfl<|Zc (Z6 (Zc rfl<|Zc rfl<|Zc rfl<|Zc (Zo e2 rfl) rfl)<|by simp) rfl)<|by simp)
  rw[Zd e];rfl
 by_cases S:rest/60%3=0
 . obtain⟨l,o,p,q,F,u1,u,l1,l2,v,N,Q⟩:=ih n cs ns R i j m (h.length+1) C a b (O "n") room hr K (by clear ha hr;lia) (by clear hl hr;lia);refine last l o p q u1 u l1 l2 (Cl.mono sub v) (by lia) (by lia) ?_;exact(Zk<|Zh (Zfr (x:=rest/60%3) rfl rfl)<|decide_eq_true S).I (Za<|ZP F rfl rfl)
 . by_cases U:rest/60%3=1
   . have V:∃wd:Wd,atI [D.str<|O "+",.str<|O "*"] (rest/180%2)=J (.str wd.s):=by
      have:rest/180%2=0\/rest/180%2=1:=by clear ih ha hl hr S U;lia
      rcases this with z|z<;>rw[z]
      . exact⟨.add,by simp[Wd.s]⟩
      . exact⟨.mul,by simp[Wd.s]⟩
     obtain⟨wd,V⟩:=V;obtain⟨l,o,p,q,F,u1,u,l1,l2,v,N,Q⟩:=ih n cs ns _ i j m (h.length+1) C a b (O "n") (room-1) (by clear ha;lia) (K.app (g:=[.lst [.str<|O "+",.str<|O "*"]])) (by clear ha hr;lia) (by clear hl hr;lia);refine last (.op wd l<|.call (.name f)<|.op .sub (.name x)<|.num 1) o p q (Up.app.I u1) u l1 l2 ⟨Cl.mono sub v,Oh _ Oi,Oi,by show(0:Int)<=1/\(1:Int)<1000000;decide⟩ (by simp only[dep,nb];clear hl hr ha;lia) (by simp only[fw];clear hl hr ha ih;lia) ?_;exact(Zg<|Zh (Zfr (x:=rest/60%3) rfl rfl)<|decide_eq_false S).I (Za<|(Zk<|Zh (Zfr (x:=rest/60%3) rfl rfl)<|decide_eq_true U).I<|Za<|Zm (i:=9)<|Z6 (Zc (Zk9 V rfl rfl<|by simp)<|Zc (Zo F rfl) rfl)<|by simp)
   . refine last (.call (.name f)<|.op .sub (.name x)<|.num 1) R a b Up.refl K.st (Int.le_refl _) (by lia) ⟨Oh _ Oi,Oi,by show(0:Int)<=1/\(1:Int)<1000000;decide⟩ (by simp only[dep,nb];lia) (by simp only[fw];lia) ?_;exact(Zg<|Zh (Zfr (x:=rest/60%3) rfl rfl)<|decide_eq_false S).I (Za<|(Zg<|Zh (Zfr (x:=rest/60%3) rfl rfl)<|decide_eq_false U).I rfl)
theorem Zm7(rd):∀ys:List _,D.pys rd (ys.map D.str)=J (ys.map PyData.str)
 |[]=>rfl
 |y::ys=>by rw[Op,D.pys,Zm7 _ _];rfl
theorem Zwa{l}{ys:List _}(e:h[l]?=J (.lst<|ys.map .str)):ZdW Wr (.ref l) (.ref h.length) (h++[.lst []])=.ok (.bl<|!ys.isEmpty) (h++[.lst []]):=by
 have p1:ZlN (h++[.lst []]) (.ref l)=J (.list<|ys.map .str):=by
   show Zjt (h++[.lst []]) 4 l=_;rw [Zjt,(Oe<|ZS e).I e];simp [Zm7]
 have p2:ZlN (h++[DO.lst []]) (.ref h.length)=J (.list []):=by
   show Zjt (h++[.lst []]) 4 h.length=_;rw [Zjt,Zay];rfl
 unfold IV.ZdW;rw [p1,p2];simp only;rw [if_pos (by
   have:(PyData.list []).depth<=1:=by decide +kernel
   lia)]
 cases ys with
 |nil=>rfl
 |cons y r=>rfl
def ZfB{U:Tb}{qe:Sxs}{ρ':Ev}{h':Hd}{s:Sx}{A B_:Sxs}{S:Ev}{h:Hd}(e:xs2 U (.cons s A) S h=.ok (.nx,ρ') h')(q:∀ρ1 R,xs2 U A ρ1 R=.ok (.nx,ρ') h'->xs2 U B_ ρ1 R=xs2 U qe ρ' h'):xs2 U (.cons s B_) S h=xs2 U qe ρ' h':=by
 rw[Zpc]at e ⊢;cases a:xs1 U s _ h with
 |bad|exc c R=>rw[a]at e;cases e
 |ok p R=>
  rw[a]at e;obtain⟨b,ρ1⟩:=p;cases b with
  |nx=>exact q _ _ e
  |bk=>cases e
  |ct=>cases e
  |rt d=>cases e
def Zxc(qe)(e:xs2 U (.cons s1<|.cons s2<|.cons s3<|.cons s4<|.cons s5 .nil) S h=.ok (.nx,ρ') h'):xs2 U (.cons s1<|.cons s2<|.cons s3<|.cons s4<|.cons s5 qe) S h=xs2 U qe ρ' h':=ZfB e λ_ _ e=>ZfB e λ_ _ e=>ZfB e λ_ _ e=>ZfB e λ_ _ e=>ZfB e λ_ _ e=>by simp_all
noncomputable def ae(w:Str)(k i m:Nat)(room v q:Int)(l:Nat)(a b:Option D):Ev:=[J<|.str w,J<|.ref k,J<|.ref i,J<|.ref m,J<|.int room,J<|.int v,J<|.int q,J<|.ref l,a,b]
def any_gen(H:Mk0 P)(n1)(c:Ctx cs ns h i j m k sc a b)(w)(room:Int)(mx:Int)(dm:Nat)(mJ:2<=dm)(hl:sc.length<=50)(ha:a<2^50)(mD:1<=mx)
 (rc:1<=room->∃r n0 n',room-1<=(r:Nat)/\Zn0 P r n0/\n1+2=n'+n0+1/\1<=n0/\sc.length+2+2*r<=50/\1+3*A r<=mx/\a+mx<2^50/\3*r+6<=dm) :
 Made cs h i j sc a b 0 mx dm (run P (n1+3) (O "_law_any") [.str w,.ref k,.ref i,.ref m,.int room] h):=by
 have cJ:=c.ab;rw[ZeO H.any rfl];obtain⟨v,e,ys,n,l,e5,u5,c5,V,kC⟩:=ZrT H n1 c w room hl ha M M M;have st:Zx ZeU.N [.str w,.ref k,.ref i,.ref m,.int room]=[J<|.str w,J<|.ref k,J<|.ref i,J<|.ref m,J<|.int room,M,M,M,M,M]:=rfl;rw[st,show ZeU.body=.cons ZbP (.cons ZcG<|.cons ZbO<|.cons ZcF<|.cons ZbN<|.cons ZbM<|.cons ZaO<|.cons ZcE<|.cons ZbL<|.cons Za8<|.cons Zb7 .nil)from rfl,Zxc _ e5];show Made cs h i j sc a b 0 mx dm (Zf<|xs2 (P.tbl<|n1+2) (.cons ZbM<|.cons ZaO<|.cons ZcE<|.cons ZbL<|.cons Za8<|.cons Zb7 .nil) (ae e k i m room v (v/87) l M M) n);have nn:=Zwa V;have o:tst (P.tbl<|n1+2) (.ex<|.cmp .NotEq (.var 7)<|.lstl .nil) (ae e k i m room v (v/87) l M M) n=.ok (!ys.isEmpty) (n++[.lst []]):=Zb3<|(Zu (x:=.ref l) (y:=.ref n.length) (R:=n) (h2:=n++[DO.lst []]) rfl rfl).I nn;have C:∀h,tst (P.tbl<|n1+2) (.ex<|.cmp .Eq (.bin .Mod (.var 6)<|.ci 3)<|.ci 0) (ae e k i m room v (v/87) l M M) h=.ok (Wu<|v/87%3=0) h:=λh=>Zfr rfl rfl;have t8:∀h,tst (P.tbl<|n1+2) (.ex<|.cmp .Eq (.bin .Mod (.var 6)<|.ci 8)<|.ci 0) (ae e k i m room v (v/87/30) l M M) h=.ok (Wu<|v/87/30%8=0) h:=λh=>Zfr rfl rfl;by_cases S:ys.isEmpty=Ws/\v/87%3=0
 ·
  have hp:0<ys.length:=by
   cases ys with
   |nil=>simp at S
   |cons y r=>simp
  have ix:opB .Mod (.int<|v/87/3) (.int ys.length) (n++[.lst []])=.ok (.int<|v/87/3%ys.length) (n++[.lst []]):=Z4 (by lia);have W:(0:Int)<=v/87/3%ys.length/\v/87/3%ys.length<ys.length:=⟨Int.emod_nonneg _<|by lia,Int.emod_lt_of_pos _<|by lia⟩
  obtain⟨q,hq⟩:∃q:Nat,v/87/3%ys.length=q:=⟨(v/87/3%ys.length).toNat,by lia⟩
  have jw:q<ys.length:=by lia
  have jx:(n++[DO.lst []])[l]?=J (.lst<|ys.map .str):=by rw[Oe<|ZS V];exact V
  have len:Zb6 P.GD .len [.ref l] (n++[.lst []])=.ok (.int ys.length) (n++[.lst []]):=by simp only[Zb6,ZmI,seqOf,lstOf,jx];simp
  have ma:ZaQ P.GD (.ref l) (.int (q:Int)) (n++[.lst []])=.ok (.str ys[q]) (n++[.lst []]):=by rw[ZC jx,IV.ZbF,O2,Og jw];rfl
  refine⟨.name ys[q],n++[.lst []],a+1,b-1,?_,u5.I Up.app,c5.st.app,by lia,by lia,kC _<|List.getElem_mem jw,⟨Oq _,Yy _⟩,by simp only[fw,pz];lia⟩;have U:xs1 (P.tbl<|n1+2) ZbM (ae e k i m room v (v/87) l M M) n=.ok (.rt (T.name ys[q]).d,(ae e k i m room v (v/87) l M M)) (n++[.lst []]):=by have el:ev (P.tbl<|n1+2) (.blt .len<|.cons (.var 7) .nil) (ae e k i m room v (v/87) l M M) (n++[.lst []])=.ok (.int ys.length) (n++[.lst []]):=len;have ei:ev (P.tbl<|n1+2) (.bin .Mod (.bin .FloorDiv (.var 6)<|.ci 3)<|.blt .len<|.cons (.var 7) .nil) (ae e k i m room v (v/87) l M M) (n++[.lst []])=.ok (.int (q:Int)) (n++[.lst []]):=(Zl (x:=.int<|v/87/3) rfl el).I (ix.I<|by rw[hq]);rw[S.1]at o;exact(Zk<|ZrV o<|Zh (C _)<|decide_eq_true S.2).I (Zd<|Zn<|Z6 (Zc rfl<|Zc ((Zj (x:=.ref l) rfl ei).I ma) rfl)<|by simp)
  rw[Zd U];rfl
 . have U:xs1 (P.tbl<|n1+2) ZbM (ae e k i m room v (v/87) l M M) n
    = .ok (.nx,(ae e k i m room v (v/87) l M M)) (n++[.lst []]):=by
    cases q:ys.isEmpty with
    |true=>rw[q]at o;exact(Zg<|ZuM o).I rfl
    |false=>rw[q]at o;have h3:¬ v/87%3=0:=λz=>S ⟨q,z⟩;exact(Zg<|ZrV o<|Zh (C _)<|decide_eq_false h3).I rfl
   have p:=c5.app (g:=[.lst []]);have D:=u5.I<|Up.app (i:=i) (g:=[.lst []]);clear o nn;generalize hh6:n++[.lst []]=f at U p D;rw[Za U];have kz:ZaQ P.GD (.ref i) (.int 2) f=.ok (.int<|b-1) f:=by rw[ZC p.st.1];simp
   have X:tst (P.tbl<|n1+2) (.ex<|.cmp .Lt (.var 4)<|.ci 1) (ae e k i m room v (v/87) l M M) f=.ok (Wu<|room<1) f:=rfl;have r2:tst (P.tbl<|n1+2) (.ex<|.cmp .Lt (.ix (.var 2)<|.ci 2)<|.ci 0) (ae e k i m room v (v/87) l M M) f=.ok (Wu<|b-1<0) f:=Zb3<|(Zu (y:=.int 0) (h2:=f) ((Zj (x:=.ref i) (y:=.int 2) rfl rfl).I kz) rfl).I rfl;obtain⟨t,g,ep,ct,pt⟩:=Zju H (n1+1) e (v/87/3) f (sc.map (·.1));by_cases Y:room<1
   . refine⟨t,f++g,a+1,b-1,?_,D.I Up.app,p.st.app,by lia,by lia,ct,by lia,by simp only[pz];lia⟩;have E:xs1 (P.tbl<|n1+2) ZaO (ae e k i m room v (v/87) l M M) f=.ok (.rt t.d,(ae e k i m room v (v/87) l M M)) (f++g):=(Zk<|ZsV<|Zh X<|decide_eq_true Y).I<|Zd<|ZP ep rfl rfl;rw[Zd E];rfl
   . by_cases W:b-1<0
     . refine⟨t,f++g,a+1,b-1,?_,D.I Up.app,p.st.app,by lia,by lia,ct,by lia,by simp only[pz];lia⟩;have E:xs1 (P.tbl<|n1+2) ZaO (ae e k i m room v (v/87) l M M) f=.ok (.rt t.d,(ae e k i m room v (v/87) l M M)) (f++g):=(Zk<|ZlT (Zh X<|decide_eq_false Y)<|Zh r2<|decide_eq_true W).I<|Zd<|ZP ep rfl rfl;rw[Zd E];rfl
     . obtain⟨r,n0,n',F,s,q2,q3,q4,q5,q6,q7⟩:=rc (by lia);have Ap:=Zlq r;have E:xs1 (P.tbl<|n1+2) ZaO (ae e k i m room v (v/87) l M M) f
        = .ok (.nx,(ae e k i m room v (v/87) l M M)) f:=by
        exact(Zg<|ZlT (Zh X<|decide_eq_false Y)<|Zh r2<|decide_eq_false W).I rfl
       have x8:xs1 (P.tbl<|n1+2) ZcE (ae e k i m room v (v/87) l M M) f
        = .ok (.nx,(ae e k i m room v (v/87/30) l M M)) f:=by
        exact rfl
       rw[Za E,Za x8];have pb:pz b=pz (b-1)+1:=by simp only[pz];lia
       by_cases h8:v/87/30%8=0
       . obtain⟨o,u,G,K,B,u1,L,l1,l2,Q,p1,z1⟩:=s (n'+1) cs ns f i j m k sc (a+1) (b-1) (O "n") (room-1) F p (by lia) (by lia);have jT:=p.up u1 L (by lia);obtain⟨C,g2,a2,b2,e2,u2,s2,l3,l4,c2,p2,z2⟩:=s (n'+1) cs ns u i j m k sc G K e (room-1) F jT (by lia) (by lia);have l7:=jT.up u2 s2 (by lia);obtain⟨t3,g3,a3,b3,e3,u3,s3,l5,l6,c3,p3,z3⟩:=s (n'+1) cs ns g2 i j m k sc a2 b2 e (room-1) F l7 (by lia) (by lia);rw[show n'+1+n0=n1+2 by lia]at B e2 e3;refine⟨.iff o C t3,g3,a3,b3,?_,D.I<|u1.I<|u2.I u3,s3,by lia,by lia,⟨Q,c2,c3⟩,by simp only[dep,nb];lia,by simp only[fw];rw[pb];clear s rc;lia⟩;have Z:xs1 (P.tbl<|n1+2) ZbL (ae e k i m room v (v/87/30) l M M) f=.ok (.rt (T.iff o C t3).d,(ae e k i m room v (v/87/30) l (J o.d)<|J C.d)) g3:=by refine(Zk<|Zh (t8 _)<|decide_eq_true h8).I ?_;refine(Za (ρ1:=ae e k i m room v (v/87/30) l (J o.d) M) (R:=u)<|ZP B rfl rfl).I ?_;refine(Za (ρ1:=ae e k i m room v (v/87/30) l (J o.d)<|J C.d) (R:=g2)<|ZP e2 rfl rfl).I ?_;exact Zd (ZP e3 rfl rfl)
         rw[Zd Z];rfl
       . have Z:xs1 (P.tbl<|n1+2) ZbL (ae e k i m room v (v/87/30) l M M) f=.ok (.nx,(ae e k i m room v (v/87/30) l M M)) f:=(Zg<|Zh (t8 _)<|decide_eq_false h8).I rfl;rw[Za Z];by_cases hw:e=O "n"
         . obtain⟨o,u,G,K,B,u1,L,l1,l2,Q,p1,z1⟩:=Zv8 H s q3 n' p (v/87/30/8) (room-1) F (by lia) (by lia);rw[<-q2]at B;refine⟨o,u,G,K,?_,D.I u1,L,by lia,by lia,Q,by lia,by rw[pb];clear s rc;lia⟩;have gW:xs1 (P.tbl<|n1+2) Za8 (ae e k i m room v (v/87/30) l M M) f=.ok (.rt o.d,(ae e k i m room v (v/87/30) l M M)) u:=(Zk<|Zh (Zas rfl rfl)<|decide_eq_true hw).I<|Zd<|ZP B rfl rfl;rw[Zd gW];rfl
         . obtain⟨o,u,G,K,B,u1,L,l1,l2,Q,p1,z1⟩:=ZwD H s n' p e (v/87/30/8) (room-1) F (by lia) (by lia);rw[<-q2]at B;refine⟨o,u,G,K,?_,D.I u1,L,by lia,by lia,Q,by lia,by rw[pb];clear s rc;lia⟩;have gW:xs1 (P.tbl<|n1+2) Za8 (ae e k i m room v (v/87/30) l M M) f=.ok (.nx,(ae e k i m room v (v/87/30) l M M)) f:=(Zg<|Zh (Zas rfl rfl)<|decide_eq_false hw).I rfl;have jZ:xs1 (P.tbl<|n1+2) Zb7 (ae e k i m room v (v/87/30) l M M) f=.ok (.rt o.d,(ae e k i m room v (v/87/30) l M M)) u:=ZP B rfl rfl;rw[Za gW,Zd jZ];rfl
theorem ZrS(H:Mk0 P):∀r ,Zn0 P r (2*r+3)
 |0=>λn e f h i j m k g a b w d l c o p=>by have:=any_gen H n c w d (A 0) 3 (by simp) (by lia) (by have:=Zlq 0;lia) (by decide) (λz=>by lia);trivial
 |r+1=>λn e f h i j m k g a b w d l c o p=>by have Ap:=Zlq r;have As:=Zw7 r;have:=any_gen H _ c w d (A<|r+1) (3*(r+1)+3) (by lia) (by lia) (by lia) (by lia) (λ_=>⟨r,2*r+3,n,by lia,ZrS H r,rfl,by lia,by lia,by lia,by lia,by lia⟩);trivial
end
set_option tactic.hygienic true
section
noncomputable def front:T->List D
 |.num n=>[.str<|O "num",.int n]
 |.name x=>[.str<|O "name",.str x]
 |.fn x _=>[.str<|O "fn",.str x]
 |.rcc f x _=>[.str<|O "rec",.str f,.str x]
 |.call _ _=>[.str<|O "call"]
 |.iff _ _ _=>[.str<|O "if"]
 |.op w _ _=>[.str w.s]
def Zru(t:T):t.d=.tup (front t++t.parts.map T.d):=by cases t<;>rfl
noncomputable def ZjK:D->Bool
 |.str _|.int _=>Wr
 |_=>Ws
def Zmd(t):∀d∈front t,ZjK d=Wr:=by cases t<;>simp[front,ZjK]
def Zrc(hf:ZjK d=Wr):Zb6 GD .isi [d,.ty "tuple"] h=.ok (.bl Ws) h:=by
 cases d with
 |str x=>rfl
 |int x=>rfl
 |_=>trivial
def Ztu:Zb6 GD .isi [.tup xs,.ty "tuple"] h=.ok (.bl Wr) h:=rfl
abbrev isT:Tx:=.ex (.blt .isi<|.w V0<|.cst<|.ty "tuple")
theorem Zih{U}{ag rest}:∀ds ,(∀d∈ds,ZjK d=Wr)->ag.length<Yc->ZI [] (.nm 0) (tsto U<|J isT) (ev U e) (ds++rest) [M] ag h=ZI [] (.nm 0) (tsto U<|J isT) (ev U e) rest [M] ag h
 |[],_,_=>rfl
 |d::ds,hd,a=>by rw[List.cons_append,ZL];simp[a,Zrc (GD:=U.GD) (h:=h)<|hd d _];exact Zih _ (λx b=>hd x<|by simp_all) a
theorem Zif{U}{f:T->Int}:∀(ts:List T) (ag) (h),(∀t∈ts,∀h,∃g,ev U e [J t.d] h=.ok (.int<|f t) (h++g))->ag.length+ts.length<=1000->∃g,ZI [] (.nm 0) (tsto U<|J isT) (ev U e) (ts.map T.d) [M] ag h=.ok (ag++ts.map λt=>.int<|f t) (h++g)
 |[],ag,h,_,_=>⟨[],by simp[ZI,Wk.stays]⟩
 |t::ts,ag,h,a,c=>by
  simp only[Os]at c;obtain⟨b,i⟩:=a t (by simp) h;obtain⟨j,k⟩:=Zif (U:=U) (e:=e) (f:=f) ts (ag++[.int<|f t]) (h++b) (λx l=>a x<|by simp[l]) (by simp;lia);refine⟨b++j,?_⟩;have m:ag.length<Yc:=by rw[YC];lia
  have it:Zb6 U.GD .isi [t.d,.ty "tuple"] h=.ok (.bl Wr) h:=by rw[Zru];exact Ztu
  rw[Op,ZL];simp[Wk.stays,m,it,i,k]
def Zf9{U}{f:T->Int}(t)(h)(ht:∀s∈t.parts,∀h,∃g,ev U e [J s.d] h=.ok (.int<|f s) (h++g)):∃g,ZI [] (.nm 0) (tsto U<|J isT) (ev U e) (front t++t.parts.map T.d) [M] [] h=.ok (t.parts.map λs=>.int<|f s) (h++g):=by obtain⟨g,a⟩:=Zif _ [] h ht (by cases t<;>simp[T.parts]);refine⟨g,?_⟩;rw[Zih _ (Zmd t)<|by trivial,a];simp
theorem ints_map(f):∀ts:List T,intsOf (ts.map λs=>D.int<|f s)=J (ts.map f)
 |[]=>rfl
 |t::ts=>by rw[Op,intsOf,ints_map f _];rfl
variable {P:Pg}
def ZmZ(t:T):t.size=1+(t.parts.map λs=>(s.size:Int)).sum:=by
 unfold T.size;rw[T.places_parts];have:∀a:List T,(a.flatMap T.places).length=(a.map λs=>(s.places.length:Int)).sum:=by
  intro a;induction a with
  |nil=>rfl
  |cons t a b=>simp_all
 rw[Os,<-this]
 lia
def Zf8{t s}(hs:s∈t.parts):dep s<dep t:=by
 cases t<;>simp[T.parts]at hs<;>simp[dep]
 . subst hs;lia
 . subst hs;lia
 . rcases hs with rfl|rfl<;>lia
 . lia
 . rcases hs with rfl|rfl<;>lia
theorem ZpU (H:Mk0 P):∀ (d n) (t) (h),dep t<=d->∃ g,run P (n+d+1) (O "_law_width") [t.d] h=.ok (.int t.size) (h++g):=by
 intro d;induction d with
 |zero =>
   intro n t h c;rw [Ze H.width rfl];obtain⟨g,e⟩:=Zf9 (U:=⟨P.G,P.GD,run P<|n+0,P.L⟩) (e:=.call (O "_law_width")<|.cons (.var 0) .nil) (f:=λs=>(s.size)) t h (λs b=>by have:=Zf8 b;lia);refine⟨g++[.lst<|t.parts.map λs=>.int s.size],?_⟩;rw [ZmZ,Zru];have a:Zb6 P.GD .sum [.ref (h++g).length] (h++g++[.lst<|t.parts.map λs=>D.int s.size])=.ok (.int (t.parts.map λs=>(s.size)).sum) (h++g++[.lst<|t.parts.map λs=>D.int s.size]):=by
     simp only [Zb6,ZrP,lstOf,Zay,Yz,ints_map];rfl
   simp at a e;simp [Zcv,Zep,Zx,ZaT,ZbY,e,a]
 |succ d i =>
   intro n t h c;rw [Ze H.width rfl];obtain⟨g,e⟩:=Zf9 (U:=⟨P.G,P.GD,run P<|n+(d+1),P.L⟩) (e:=.call (O "_law_width")<|.cons (.var 0) .nil) (f:=λs=>(s.size)) t h (λs b R=>by
     have:=Zf8 b;obtain⟨g,e⟩:=i n s R (by lia);refine⟨g,?_⟩;have j:run P (n+(d+1)) (O "_law_width") [s.d] R=.ok (.int s.size) (R++g):=e;simp [j])
   refine⟨g++[.lst<|t.parts.map λs=>.int s.size],?_⟩;rw [ZmZ,Zru];have a:Zb6 P.GD .sum [.ref (h++g).length] (h++g++[.lst<|t.parts.map λs=>D.int s.size])=.ok (.int (t.parts.map λs=>(s.size:Int)).sum) (h++g++[.lst<|t.parts.map λs=>D.int s.size]):=by
     simp only [Zb6,ZrP,lstOf,Zay,Yz,ints_map];rfl
   simp at a e;simp [Zcv,Zep,Zx,ZaT,ZbY,e,a]
def Zso(H:Mkr P)(d n)(t)(h)(hd:dep t<=d):∃g,run P (n+d+1) (O "_law_width") [t.d] h=.ok (.int t.size) (h++g):=ZpU H.toMk0 d n t h hd
end
section
variable {P:Pg}
def max2(x y:Nat):(if (1+(y:Int)) > 1+x then 1+(y:Int)else 1+x)=(max x y+1:Nat):=by split<;>lia
def ZwU(t:T):Zgv (t.parts.map λs=>1+(dep s)) 0=dep t:=by
 cases t with
 |num n=>rfl
 |name x=>rfl
 |fn x e|rcc f x e=>simp[T.parts,Zgv,dep];lia
 |call f a|op w f a=>simp only[T.parts,Zgv,dep,Op,Oy,List.foldl_cons,List.foldl_nil];rw[max2]
 |iff c t e=>
  simp only[T.parts,Zgv,dep,Op,Oy,List.foldl_cons,List.foldl_nil];rw[max2]
  lia
theorem Zvu (H:Mkr P):∀ (d n) (t) (h),dep t<=d->∃ g,run P (n+d+1) (O "_law_deep") [t.d] h=.ok (.int<|dep t) (h++g):=by
 have a:∀ (t) (h g:Hd),ZnY (.ref (h++g).length) (.int 0) (h++g++[.lst<|t.parts.map λs=>D.int<|1+dep s])=.ok (.int<|dep t) (h++g++[.lst<|t.parts.map λs=>D.int<|1+dep s]):=by
   intro t h g;simp only [ZnY,lstOf,Zay,Yz,ints_map (λs=>1+(dep s:Int)) t.parts,Yv,ZwU,ofO_some]
 intro d;induction d with
 |zero =>
   intro n t h i;rw [Ze H.deep rfl];obtain⟨g,e⟩:=Zf9 (U:=⟨P.G,P.GD,run P<|n+0,P.L⟩) (e:=.bin .Add (.ci 1)<|.call (O "_law_deep")<|.cons (.var 0) .nil) (f:=λs=>1+(dep s)) t h (λs c=>by have:=Zf8 c;lia);refine⟨g++[.lst<|t.parts.map λs=>.int<|1+(dep s)],?_⟩;have b:=a t h g;rw [Zru];simp at b e;simp [Zdt,Zfv,Zx,ZaT,ZbY,e,b]
 |succ d j =>
   intro n t h i;rw [Ze H.deep rfl];obtain⟨g,e⟩:=Zf9 (U:=⟨P.G,P.GD,run P<|n+(d+1),P.L⟩) (e:=.bin .Add (.ci 1)<|.call (O "_law_deep")<|.cons (.var 0) .nil) (f:=λs=>1+(dep s)) t h (λs c R=>by
     have:=Zf8 c;obtain⟨g,e⟩:=j n s R (by lia);refine⟨g,?_⟩;have k:run P (n+(d+1)) (O "_law_deep") [s.d] R=.ok (.int<|dep s) (R++g):=e;simp [k])
   refine⟨g++[.lst<|t.parts.map λs=>.int<|1+(dep s:Int)],?_⟩;have b:=a t h g;rw [Zru];simp at b e;simp [Zdt,Zfv,Zx,ZaT,ZbY,e,b]
theorem Zig(H:Mk0 P)(hk:h[k]?=J (.lst xs0)):∀(xs:List _) (j) (ag:List _),ag.length+xs.length<=1000->j+xs.length<=1000->∃cs:List _,cs.length=ag.length+xs.length /\
 ZI [(k,xs0)] (.two 0 1) (tsto ⟨P.G,P.GD,run P<|n+1,P.L⟩ M) (ev ⟨P.G,P.GD,run P<|n+1,P.L⟩<|.call (O "_law_mixed")<|.cons (.var 1)<|.cons (.bin .Add (.var 0)<|.ci 2) .nil) (xs.mapIdx λq x=>D.tup [.int (q+j:Nat),.int x]) [M,M] (ag.map .int) h
  = .ok (cs.map .int) h
 |[],j,ag,_,_=>⟨ag,rfl,by simp[ZI,Wk.stays,hk]⟩
 |x::xs,j,ag,R,h2=>by
  simp only[Os]at R h2;obtain⟨cs,q1,q2⟩:=Zig H hk xs (j+1) (ag++[mixed x<|(j)+2]) (by simp;lia) (by lia);refine⟨cs,by simp at q1;simp;lia,?_⟩;have hz:ag.length<Yc:=by rw[YC];lia
  have ei:(λ(q) (x)=>D.tup [.int<|(q+1+j:Nat),.int x])=λq x=>D.tup [.int<|(q+(j+1):Nat),.int x]:=by funext q x;rw[show q+1+j=q+(j+1) by lia]
  rw[List.mapIdx_cons,ZL];simp only[Wk.stays,hk,decide_true,true_and,Yu,hz,if_true,Zla,List.set_cons_zero,List.set_cons_succ,Zn5,Zow,ZA,bind_ok,ZnG,Zh9,ZO,ZjT,O0,OJ,Option.join_some,ofO_some,ZwO,ZwM,Zs8,Nat.zero_add,Zhy (.same H.mixed) n x ((j)+2) h ⟨by lia,by lia⟩];rw[ei];rw[List.map_append]at q2;exact q2
end
set_option tactic.hygienic false
section
variable {P:Pg}{cs:List Int}{ns:List Str}{h h':Hd}{i j m:Nat}{a b:Int}
def ZrU(H:Mk0 P)(r N:Nat)(hN:2*r+3<=N)(c:Ctx cs ns h i j m k sc a b)(w)(room:Int)(hr:room<=r)(hl:sc.length+2*r<=50)(ha:a+A r<2^50):
 Made cs h i j sc a b 0 (A r) (3*r+3) (run P N (O "_law_any") [.str w,.ref k,.ref i,.ref m,.int room] h):=by
 have:=ZrS H r (N-(2*r+3)) _ _ h i j m k _ a b w _ hr c hl ha
 simp_all
def Zki(H:Mkr P)(N)(t)(h)(hd:dep t<N):∃g,run P N (O "_law_width") [t.d] h=.ok (.int t.size) (h++g):=by obtain⟨g,e⟩:=Zso H _ _ t h<|Oq _;rw[show N-dep t-1+dep t+1=N by lia]at e;exact⟨g,e⟩
def ZtP(H:Mkr P)(N)(t)(h)(hd:dep t<N):∃g,run P N (O "_law_deep") [t.d] h=.ok (.int<|dep t) (h++g):=by obtain⟨g,e⟩:=Zvu H _ _ t h<|Oq _;rw[show N-dep t-1+dep t+1=N by lia]at e;exact⟨g,e⟩
def Ctx.bare(c:Ctx cs ns h i j m k sc a b):Ctx cs ns (h++[.lst []]) i j m h.length [] a b:=by
 have d:=c.app (g:=[.lst []]);refine⟨d.st,d.nm,d.n5,d.nok,d.nd,by unfold Zpa;simp,by simp,d.im,?_,d.ab⟩;have:=ZS c.st.1
 lia
noncomputable def vp(ro:D)(st:Int)(o2 o3 o4 o5 o6:Option D):Ev:=[J ro,J<|.int st,o2,o3,o4,o5,o6]
def Ztl:Sxs:=.o (.iff (.x .Lt (.f "_law_width"<|.o V5)<|.ci 50) (.w (.put V3 K2 K12)<|.s 5<|.tupl<|.u (.Ci_ "+") V5<|.f "_law_any"<|.y (.Ci_ "n") (.lstl .n) V3 V4 K6) .n)
inductive Turned(cs:List Int)(ns:List Str)(h:Hd)(i j m k:Nat)(sc:Scp)(a:Int)(dm:Nat)(S:Option D->Ev)(r:qe (Fl×Ev))(z0:Int):Prop
 |mk (t:T) (h':Hd) (a' b':Int) (e:r=.ok (.nx,S (J t.d)) h') (c:Cl [] t) (d:nb t<=dep t/\dep t<=dm) (u:Up i h h') (x:Ctx cs ns h' i j m k sc a' b') (l:a'<=a+65536) (z:fw t<=z0+36)
theorem turn(H:Mkr P)(hN:40<=N)(c:Ctx cs ns h i j m k sc a b)(ct:Cl [] t)(hd:nb t<=dep t/\dep t<=30)(ha:a<2^45)(ro)(st)(o2 o6):Turned cs ns h i j m k sc a (max (dep t) 21+1) (λo=>vp ro st o2 (J<|.ref i) (J<|.ref m) o o6)
   (xs2 (P.tbl N) Ztl (vp ro st o2 (J<|.ref i) (J<|.ref m) (J t.d) o6) h) (fw t):=by
 have A6:A 6=16384:=rfl;obtain⟨g,n⟩:=Zki H N t h (by lia);have e:=c.app (g:=g);by_cases p:(t.size:Int)<50
 . have l:ZbV (.ref i) (.int 2) (.int 12) (h++g)=.ok () ((h++g).set i<|.lst [.ref j,.int a,.int 12]):=by
     simp only [ZbV,e.st.1];rfl
   obtain⟨f,l,r,s⟩:∃ f,ZbV _ _ _ _=.ok _ f/\Up i h f/\Ctx _ _ f i j m k sc a 12:=⟨_,l,Up.app.I Up.set,e.up Up.set ⟨by rw [Ol<|ZS e.st.1],(Oc e.st.2.2).I e.st.2.1,e.st.2.2⟩ c.ab⟩
   obtain⟨u,v,w,x,y,z,B,l1,l2,C,D,E⟩:=ZrU H.toMk0 6 N (by lia) s.bare (O "n") 6 (by decide) (by simp) (by rw [A6];lia);have q:=r.I<|(Up.app (i:=i) (g:=[.lst []])).I z;refine⟨.op .add t u,v,w,x,(Za ((Zk<|Zh (Ztk (Zo n rfl) rfl)<|decide_eq_true p).I ((Za (by
     show qe.bnd (ZbV (.ref i) (.int 2) (.int 12)<|h++g) _=_;rw [l];rfl)).I ((Za<|Zm<|Z6 (Zc rfl<|Zc rfl<|Zc (Zo y<|Zc rfl<|Zc (Zfq rfl<|by simp) rfl) rfl)<|by simp).I rfl)))).I rfl,⟨ct,C⟩,by simp only [dep,nb];lia,q,c.up q B (by have:=c.ab;lia),by rw [A6] at l2;lia,by simp only [fw,pz] at *;lia⟩
 . exact⟨t,h++g,a,b,(Za<|(Zg<|Zh (Ztk (Zo n rfl) rfl)<|decide_eq_false p).I rfl).I rfl,ct,by lia,Up.app,e,by lia,by lia⟩
def ZxU(zs:List _)(st)(hz:zs.length<=100):∃ys:List _,ys.length<=100/\∀h ,ZfN (.ro<|zs.map D.int) (J st) M h=.ok (.ref h.length) (h++[.lst<|ys.map .int]):=by
 refine⟨(zs.drop<|HT.sIx zs.length 0<|J st).take<|HT.sIx zs.length zs.length M-HT.sIx zs.length 0 (J st),?_,λh=>?_⟩
 . rw[List.length_take,List.length_drop]
   lia
 . show ZeY _ h=_;simp[cutD,List.map_take]
inductive Begun(h:Hd)(S:Option D->Option D->Option D->Ev)(r:Sxs->qe (Fl×Ev))(U:Tb):Prop
 |mk (cs:List Int) (ns:List Str) (h':Hd) (i j m:Nat) (e:∀s,r s=xs2 U s (S (J (.ref j)) (J (.ref i)) (J (.ref m))) h') (c:Ctx cs ns (h'++[.lst []]) i j m h'.length [] 1 26) (l:h.length<=i) (u:Up i h h')
def ZvJ(H:Mkr P)(hN:40<=N)(zs:List _)(st)(h)(hz:zs.length<=100):Begun h (λo2 o3 o4=>vp (.ro<|zs.map .int) st o2 o3 o4 M M) (λs=>xs2 (P.tbl N) (.cons ZaI<|.cons ZdT<|.cons ZdS s) (vp (.ro<|zs.map .int) st M M M M M) h) (P.tbl N):=by
 obtain⟨N,rfl⟩:∃N3,N=N3+2:=⟨N-2,by lia⟩
 obtain⟨ys,mw,b8⟩:=ZxU zs st hz;obtain⟨cs,gJ,ec⟩:=Zig H.toMk0 (n:=N+1) (h:=h++[.lst<|ys.map .int]) (k:=h.length) (xs0:=ys.map .int) (by simp) ys 0 [] (by simp;lia) (by lia);have en:Zej (ys.map D.int)=ys.mapIdx λq x=>D.tup [.int<|(q+0:Nat),.int x]:=by unfold Zej;apply List.ext_getElem?;intro q;simp;cases ys[q]?<;>rfl
 have ei:evi (P.tbl<|N+2) (.enu<|.sl (.var 0) (J<|.var 1) M) (vp (.ro<|zs.map .int) st M M M M M) h=.ok ⟨[(h.length,ys.map .int)],Zej<|ys.map D.int⟩ (h++[.lst<|ys.map .int]):=by rw[ZnD,show ev (P.tbl<|N+2) (.sl (.var 0) (J<|.var 1) M) (vp (.ro<|zs.map .int) st M M M M M) h=.ok (.ref h.length) (h++[.lst<|ys.map .int])from b8 h,ZA];simp[Zhn]
 rw[<-en]at ec;have x1:xs1 (P.tbl<|N+2) ZaI (vp (.ro<|zs.map .int) st M M M M M) h=.ok (.nx,vp (.ro<|zs.map .int) st (J<|.ref (h++[DO.lst<|ys.map .int]).length) M M M M) (h++[.lst<|ys.map .int]++[.lst<|cs.map .int]):=Zm<|ZkW ei ec;generalize D.ro (zs.map .int)=ro at *;obtain⟨R,j,u1,k1,lj,x1⟩:∃(R:Hd) (j:Nat),Up R.length h R/\R[j]?=J (.lst<|cs.map .int)/\j<R.length/\xs1 (P.tbl<|N+2) ZaI (vp ro st M M M M M) h=.ok (.nx,vp ro st (J<|.ref j) M M M M) R:=⟨_,_,Up.app.I Up.app,Zay,by simp,x1⟩
 have s2:St3 (R++[.lst [.ref j,.int 0,.int 26]]) R.length j cs 0 26:=⟨Zay,by rw[Oe lj];exact k1,by lia⟩
 obtain⟨v,e3,_⟩:=ZlF H.toMk0 N s2 (by decide);rw[ZhC]at e3;obtain⟨ns,n5,nok,kt,e4⟩:=Zss (.same H.names) (N+1) v<|R++[.lst [.ref j,.int 1,.int 26]];have k6:=u1.1;refine⟨cs,ns,R++[.lst [.ref j,.int 1,.int 26]]++[.lst<|ns.map .str],R.length,j,(R++[DO.lst [.ref j,.int 1,.int 26]]).length,λs=>?_,⟨⟨by simp,by simp[Oe lj,k1],by lia⟩,by simp,n5,nok,kt,by unfold Zpa;simp,by simp,by simp,by simp,by decide⟩,k6,?_⟩
 . exact(Za x1).I ((Za<|Zm<|Zfq (Zc rfl<|Zc rfl<|Zc rfl rfl)<|by simp).I<|(Za<|Zm<|Zo e4<|Zc (Zo e3 rfl) rfl).I rfl)
 . rw[Oz];exact⟨by simp;lia,λm a n=>by rw[Oe<|by lia];exact u1.2 m a n⟩
inductive Sixth(h:Hd)(i:Nat)(S:Option D->Ev)(r:qe (Fl×Ev)):Prop
 |mk (t:T) (h':Hd) (e:r=.ok (.nx,S (J t.d)) h') (c:Cl [] t) (s:t.size<=100) (d:dep t<=20) (u:Up i h h') (z:fw t<=150/\nb t<=dep t)
def ZvI(H:Mkr P)(hN:40<=N)(c:Ctx cs ns h i j m k sc a b)(ct:Cl [] t)(hd:nb t<=dep t/\dep t<=26)(hf:fw t<=150)(ha:a<2^50)(ro)(st)(o2 o4 o6):Sixth h i (λo=>vp ro st o2 (J<|.ref i) o4 o o6) (xs1 (P.tbl N) ZbS (vp ro st o2 (J<|.ref i) o4 (J t.d) o6) h):=by
 obtain⟨g1,A⟩:=Zki H N t h (by lia);obtain⟨B,s⟩:=ZtP H N t (h++g1) (by lia);have w:tst (P.tbl N) (.ex<|.cmp _ (.call _<|.cons (.var 5) .nil)<|.cst _) (vp ro st o2 (J<|.ref i) o4 (J _) o6) h=.ok (Wu<|(100:Int)<t.size) _:=ZtB (Zo A rfl) rfl;have plain:∀{q:Sxs} (g),∃f l,xs2 (P.tbl N) (.cons (.set (.nm 5)<|.call (O "_law_plain")<|.cons (.Ci_ "n")<|.cons (.call (O "_law_next")<|.cons (.var 3) .nil) .nil) .nil) (vp ro st o2 (J<|.ref i) o4 (J t.d) o6) (h++g)=.ok (.nx,vp ro st o2 (J<|.ref i) o4 (J<|T.d f) o6) l/\Cl [] f/\(nb f<=dep f/\dep f<=2)/\(f.size<=4/\fw f<=0)/\Up i h l:=λg=>by
  obtain⟨N,rfl⟩:∃N3,N=N3+2:=⟨N-2,by lia⟩
  obtain⟨v,C,_⟩:=ZlF H.toMk0 N (c.app (g:=g)).st ⟨c.ab,ha⟩;obtain⟨tp,E,D,n,p,r⟩:=Zju H.toMk0 (N+1) (O "n") v ((h++g).set i<|.lst [.ref j,.int<|a+1,.int b]) [];exact⟨tp,_,(Za<|Zm<|Zo D<|Zc rfl<|Zc (Zo C rfl) rfl).I rfl,n,p,r,(Up.app.I Up.set).I Up.app⟩
 by_cases x:(100:Int)<t.size
 . obtain⟨f,l,e,n,p,r,u⟩:=plain (q:=.nil) g1;exact⟨f,l,(Zk<|ZsV<|Zh w<|decide_eq_true x).I e,n,by lia,by lia,u,by lia⟩
 . have y:=Zh w<|decide_eq_false x;by_cases z:(20:Int)<dep t
   . obtain⟨f,l,e,n,p,r,u⟩:=plain (q:=.nil)<|g1++B;rw[<-Oz]at e;exact⟨f,l,(Zk<|ZlT y<|Zh (ZtB (Zo s rfl) rfl)<|decide_eq_true z).I e,n,by lia,by lia,u,by lia⟩
   . exact⟨t,_,(Zg<|ZlT y<|Zh (ZtB (Zo s rfl) rfl)<|decide_eq_false z).I rfl,ct,by lia,by lia,Up.app.I Up.app,hf,hd.1⟩
def Zoj(H:Mkr P)(hN:40<=N)(zs:List _)(st)(h)(hz:zs.length<=100):∃t h',run P (N+1) (O "_law_program") [.ro<|zs.map .int,.int st] h=.ok (T.d t) h'/\Cl [] t/\t.size<=100/\dep t<=20/\h.length<=h'.length/\(∀q,q<h.length->h'[q]?=h[q]?)/\fw t<=150/\nb t<=dep t:=by
 rw[ZeO H.program rfl];have A7:A 7=65536:=rfl;cases ZvJ H hN _ _ h hz with
 |mk L Q R i j m n e S o=>
 cases ZrU H.toMk0 7 N (by lia) e (O "n") 7 (by simp) (by decide) (by trivial)with
 |mk p U V W r f s l1 l2 a X k=>
 have k:fw p<=78:=by simp only[pz]at k;lia
 rw[A7]at l2;cases turn H hN (e.up f s<|by lia) a (by lia) (by lia) (.ro<|zs.map .int) st (J<|.ref j) (J<|.int 0)with
 |mk Y Z a5 b5 v b d5 x y l4 z5=>
 cases turn H hN y b (by lia) (by lia) (.ro<|zs.map .int) st (J<|.ref j) (J<|.int 1)with
 |mk t6 h6 a6 b6 B c d6 C D l6 z6=>
 cases ZvI H hN D c (by lia) (by lia) (by lia) (.ro<|zs.map .int) st (J<|.ref j) (J<|.ref m) (J<|.int 1)with
 |mk t E F ct sz G u z=>
 have l:=(o.I<|(Up.app (i:=i) (g:=[.lst []])).I<|(f.I x).I C).I u;exact⟨t,E,(congrArg Zf<|(n<|.cons ZdR<|.cons ZdQ<|.cons ZbS<|.cons ZdP .nil).I<|(Za<|Zm<|Zo r<|Zc rfl<|Zc (Zfq rfl<|by simp) rfl).I<|(Za<|(Zec (w:=⟨[],[.int 0,.int 1]⟩) rfl).I<|(ZhU rfl v).I<|(ZhU rfl B).I rfl).I<|(Za F).I rfl).I rfl,ct,sz,G,l.1,λq K=>l.2 q K<|by lia,z⟩
end
end Gn
namespace Rw
open PySem L2 IV Gn
section
def ZJ:Sxs:=.y (.iff (.ors<|.c (.nq (.ix V1 K0)<|.Ci_ "num")<|.one<|.nq (.ix V2 K0)<|.Ci_ "num") (.o<|.ret<|.cst .non) .n) (.iff (.q V0<|.Ci_ "<") (.o<|.ret<|.tupl<|.w (.Ci_ "num")<|.ite (.x .Lt (.ix V1 K1)<|.ix V2 K1) K1 K0) .n) (.iff (.q V0<|.Ci_ "+") (.o<|.ret<|.tupl<|.w (.Ci_ "num")<|.bin .Mod (.bin .Add (.ix V1 K1)<|.ix V2 K1)<|.glo<|O "BEYOND") .n) (.iff (.q V0<|.Ci_ "-") (.o<|.ret<|.tupl<|.w (.Ci_ "num")<|.bin .Mod (.bin .Sub (.ix V1 K1)<|.ix V2 K1)<|.glo<|O "BEYOND") .n) (.ret<|.tupl<|.w (.Ci_ "num")<|.bin .Mod (.bin .Mult (.ix V1 K1)<|.ix V2 K1)<|.glo<|O "BEYOND")
def Zda:Fd:=fd_ 3 ["word","first","second"] ZJ
mutual
inductive Th where
 |num (n:Int)|clo (E:T) (ar:Ar)
inductive Ar where
 |nil|cons (x:Str) (v:Th) (r:Ar)
end
mutual
noncomputable def Th.d:Th->D
 |.num n=>.tup [.str<|O "num",.int n]
 |.clo E ar=>.tup [.str<|O "clo",E.d,.tup ar.ds]
noncomputable def Ar.ds:Ar->List D
 |.nil=>[]
 |.cons x v r=>.tup [.str x,v.d]::r.ds
end
inductive Wt where
 |arg (A:T) (ar:Ar)|fn (V:Th)|iff (t e:T) (ar:Ar)|right (w:Wd) (F:T) (ar:Ar)|left (w:Wd) (V:Th)
inductive Sta where
 |go (E:T) (ar:Ar) (rest:List Wt)|back (V:Th) (rest:List Wt)
inductive Ans where
 |quiet (s:Sta)|loud (s:Sta)|value|stuck
noncomputable def Ar.get(x:Str):Ar->Option Th
 |.nil=>M
 |.cons y v r=>if y=x then J v else r.get x
noncomputable def Ar.len:Ar->Nat
 |.nil=>0
 |.cons _ _ r=>r.len+1
noncomputable def thD:Option Th->D
 |none=>.non
 |some v=>v.d
variable {P:Pg}{h:Hd}
noncomputable def wk(w:Wd)(a b:Int):Int:=match w with
 |.lt=>if a<b then 1 else 0
 |.add=>(a+b)%1000000
 |.sub=>(a-b)%1000000
 |.mul=>a*b%1000000
theorem worked_nn (hw:P.tb.lookup (O "worked")=J Zda) (hb:P.G (O "BEYOND")=J (.int 1000000)) (n) (w) (hx:0<=x/\x<1000000) (hy:0<=y/\y<1000000):run P (n+1) (O "worked") [.str w.s,(T.num x).d,(T.num y).d] h=.ok (T.num<|wk w x y).d h:=by
 rw [Ze hw<|rfl];have fin:∀ (S:Ev) (e:Ex) (z:Int),ev (P.tbl n) e S h=.ok (.int z) h->xs1 (P.tbl n) (.ret<|.tupl<|.cons (.Ci_ "num")<|.cons (.bin .Mod e<|.glo<|O "BEYOND") .nil) S h=.ok (.rt (T.num<|z%1000000).d,S) h:=λS e z q =>
   Zn (Z6 (Zc rfl (Zc ((Zl q (λS=>by
   show qe.ofO (P.G<|O "BEYOND") h=_
   simp_all S)).I (Z4<|by decide)) rfl)) (by simp))
 show Zf (xs2 (P.tbl n) ZJ [J<|.str w.s,J (T.num x).d,J (T.num y).d] h)=_;rw [nx1 (U:=P.tbl n) (ss:=ZJ) (ρ1:=[J<|.str w.s,J (T.num x).d,J (T.num y).d]) (h2:=h) rfl rfl];cases w with
 |lt=>by_cases e:x<y<;>simp [ZJ,tlS,T.d,Wd.s,wk,e,YC]
 |add =>
   rw [nx1 (U:=P.tbl n) (ss:=tlS ZJ) (ρ1:=[J<|.str Wd.add.s,J (T.num x).d,J (T.num y).d]) (h2:=h) rfl rfl];exact rt1 (U:=P.tbl n) (ss:=tlS<|tlS ZJ) ((Zk rfl).I<|Zd<|fin _ _ (x+y) rfl) rfl
 |sub =>
   rw [nx1 (U:=P.tbl n) (ss:=tlS ZJ) (ρ1:=[J<|.str Wd.sub.s,J (T.num x).d,J (T.num y).d]) (h2:=h) rfl rfl,nx1 (U:=P.tbl n) (ss:=tlS<|tlS ZJ) (ρ1:=[J<|.str Wd.sub.s,J (T.num x).d,J (T.num y).d]) (h2:=h) rfl rfl];exact rt1 (U:=P.tbl n) (ss:=tlS<|tlS<|tlS ZJ) ((Zk rfl).I<|Zd<|fin _ _ (x-y) rfl) rfl
 |mul =>
   rw [nx1 (U:=P.tbl n) (ss:=tlS ZJ) (ρ1:=[J<|.str Wd.mul.s,J (T.num x).d,J (T.num y).d]) (h2:=h) rfl rfl,nx1 (U:=P.tbl n) (ss:=tlS<|tlS ZJ) (ρ1:=[J<|.str Wd.mul.s,J (T.num x).d,J (T.num y).d]) (h2:=h) rfl rfl,nx1 (U:=P.tbl n) (ss:=tlS<|tlS<|tlS ZJ) (ρ1:=[J<|.str Wd.mul.s,J (T.num x).d,J (T.num y).d]) (h2:=h) rfl rfl];exact rt1 (U:=P.tbl n) (ss:=tlS<|tlS<|tlS<|tlS ZJ) (fin _ _ (x*y)<|ZfP ⟨Zag (by lia)<|by lia,Zag (by lia)<|by lia⟩) rfl
end
section
variable {h:Hd}
noncomputable def isFn:T->Bool
 |.fn _ _|.rcc _ _ _=>Wr
 |_=>Ws
noncomputable def Ar.keys:Ar->List Str
 |.nil=>[]
 |.cons x _ r=>x::r.keys
theorem Ar.get_some:∀{ar:Ar},x∈ar.keys->∃v,ar.get x=J v
 |.nil,h=>by simp[Ar.keys]at h
 |.cons y v r,h=>by
  by_cases e:y=x
  . exact⟨v,by simp[Ar.get,e]⟩
  . have:x∈r.keys:=by
     simp[Ar.keys]at h;rcases h with z|z
     . exact absurd z.symm e
     . exact z
    obtain⟨u,q⟩:=Ar.get_some this;exact⟨u,by simp[Ar.get,e,q]⟩
mutual
def Zhf:Th->Prop
 |.num n=>0<=n/\n<1000000
 |.clo E ar=>isFn E=Wr/\Cl ar.keys E/\ArOk ar
def ArOk:Ar->Prop
 |.nil=>True
 |.cons _ v r=>Zhf v/\ArOk r
end
def thing(E:T)(ar:Ar):Option Th:=match E with
 |.num n=>J (.num n)
 |.name x=>ar.get x
 |.fn x e=>J (.clo (.fn x e) ar)
 |.rcc f x e=>J (.clo (.rcc f x e) ar)
 |_=>M
def step:Sta->Ans
 |.go E ar rest=>match E with
  |.call F A=>.quiet (.go F ar (.arg A ar::rest))
  |.iff C t e=>.quiet (.go C ar (.iff t e ar::rest))
  |.op w x y=>.quiet (.go x ar (.right w y ar::rest))
  |E=>match thing E ar with
   |some v=>.quiet (.back v rest)
   |none=>.stuck
 |.back V rest=>match rest with
  |[]=>.value
  |.arg A ar::r=>.quiet (.go A ar (.fn V::r))
  |.right w F ar::r=>.quiet (.go F ar (.left w V::r))
  |.fn W::r=>match W with
   |.clo (.fn x e) ar=>.loud (.go e (.cons x V ar) r)
   |.clo (.rcc f x e) ar=>.loud (.go e (.cons x V<|.cons f (.clo (.rcc f x e) ar) ar) r)
   |_=>.stuck
  |.iff t e ar::r=>match V with
   |.num z=>.loud (.go (if z=0 then e else t) ar r)
   |_=>.stuck
  |.left w W::r=>match W,V with
   |.num a,.num b=>.loud (.back (.num<|wk w a b) r)
   |_,_=>.stuck
end
end Rw
section
set_option maxHeartbeats 2000000
namespace Rw
open PySem L2 IV Gn
def ZiK:Wt->Prop
 |.arg A ar=>Cl ar.keys A/\ArOk ar
 |.fn V=>Zhf V
 |.iff t e ar=>Cl ar.keys t/\Cl ar.keys e/\ArOk ar
 |.right _ F ar=>Cl ar.keys F/\ArOk ar
 |.left _ V=>Zhf V
def Ziw:Sta->Prop
 |.go E ar rest=>Cl ar.keys E/\ArOk ar/\∀w∈rest,ZiK w
 |.back V rest=>Zhf V/\∀w∈rest,ZiK w
end Rw
end
namespace IV
open PySem L2
mutual
noncomputable def D.pure:D->Bool
 |.non|.bl _|.int _|.str _=>Wr
 |.tup xs=>D.pures xs
 |_=>Ws
noncomputable def D.pures:List D->Bool
 |[]=>Wr
 |x::xs=>D.pure x&&D.pures xs
end
mutual
noncomputable def D.dp:D->Nat
 |.tup xs=>D.dps xs+1
 |_=>0
noncomputable def D.dps:List D->Nat
 |[]=>0
 |x::xs=>max (D.dp x) (D.dps xs)
end
mutual
theorem Zm8:∀d:D,d.pure=Wr->∃p,D.py rd d=J p/\p.depth<=d.dp/\PyData.eqv p p=Wr
 |.non,_=>⟨.none,rfl,Oq _,rfl⟩
 |.bl b,_=>⟨.bool b,rfl,Oq _,by simp[PyData.eqv]⟩
 |.int b,_=>⟨.int b,rfl,Oq _,by simp[PyData.eqv]⟩
 |.str b,_=>⟨.str b,rfl,Oq _,by simp[PyData.eqv]⟩
 |.tup xs,h=>by
  obtain⟨ps,e1,e2,e3⟩:=pys_same (rd:=rd) xs (by simpa[D.pure]using h);refine⟨.tuple ps,by simp[D.py,e1],?_,?_⟩
  . simp only[PyData.depth,D.dp];lia
  . simpa[PyData.eqv]using e3
 |.ref _,h=>by cases h
 |.ty _,h=>by cases h
 |.ro _,h=>by cases h
 |.kd _,h=>by cases h
theorem pys_same:∀ds:List D,D.pures ds=Wr->∃ps,D.pys rd ds=J ps/\PyData.depthAll ps<=D.dps ds/\PyData.eqvAll ps ps=Wr
 |[],_=>⟨[],rfl,Oq _,by simp[PyData.eqvAll]⟩
 |x::xs,h=>by
  rw[D.pures,Oa]at h;obtain⟨p,a1,a2,a3⟩:=Zm8 (rd:=rd) x h.1;obtain⟨ps,b1,b2,b3⟩:=pys_same (rd:=rd) xs h.2;refine⟨p::ps,by simp[D.pys,a1,b1],?_,?_⟩
  . simp only[PyData.depthAll,D.dps];lia
  . simp[PyData.eqvAll,a3,b3]
end
def ZoF(hp:d.pure=Wr)(hd:d.dp<=1100):ZdW n d d h=.ok (.bl<|!n) h:=by obtain⟨p,e1,e2,e3⟩:=Zm8 (rd:=Zjt h 4) d hp;unfold ZdW;rw[show ZlN h d=J p from e1];simp only;rw[if_pos<|by lia,e3];cases n<;>rfl
end IV
namespace Rw
open PySem L2 IV Gn
theorem T.pure_d:∀t:T,t.d.pure=Wr
 |.num _=>rfl
 |.name _=>rfl
 |.fn _ e=>by simp[T.d,D.pure,D.pures,T.pure_d e]
 |.rcc _ _ e=>by simp[T.d,D.pure,D.pures,T.pure_d e]
 |.call f a=>by simp[T.d,D.pure,D.pures,T.pure_d f,T.pure_d a]
 |.iff c t e=>by simp[T.d,D.pure,D.pures,T.pure_d c,T.pure_d t,T.pure_d e]
 |.op _ f a=>by simp[T.d,D.pure,D.pures,T.pure_d f,T.pure_d a]
theorem T.dp_d:∀t:T,t.d.dp=dep t+1
 |.num _=>rfl
 |.name _=>rfl
 |.fn _ e=>by simp[T.d,D.dp,D.dps,T.dp_d e,dep]
 |.rcc _ _ e=>by simp[T.d,D.dp,D.dps,T.dp_d e,dep]
 |.call f a=>by simp[T.d,D.dp,D.dps,T.dp_d f,T.dp_d a,dep]
 |.iff c t e=>by simp[T.d,D.dp,D.dps,T.dp_d c,T.dp_d t,T.dp_d e,dep]
 |.op _ f a=>by simp[T.d,D.dp,D.dps,T.dp_d f,T.dp_d a,dep]
theorem Zjk:∀{ar:Ar},ArOk ar->ar.get x=J v->Zhf v
 |.nil,_,h=>by simp[Ar.get]at h
 |.cons y u r,a,h=>by
  by_cases e:y=x
  . simp[Ar.get,e]at h;subst h;exact a.1
  . simp[Ar.get,e]at h;exact Zjk a.2 h
def wk_ok(w:Wd)(a b:Int):0<=wk w a b/\wk w a b<1000000:=by
 cases w<;>simp only[wk]
 . lia
 . lia
 . exact⟨Int.emod_nonneg _<|by decide,Int.emod_lt_of_pos _<|by decide⟩
 . split<;>lia
def ZaC{α:Type}{p:α->Prop}{x:α}{xs:List α}(a:p x)(b:∀y∈xs,p y):∀y∈x::xs,p y:=by
 intro y hy;rcases O3.mp hy with rfl|hy
 . exact a
 . exact b y hy
end Rw
namespace Tm
open PySem L2 IV
def Z1:Sxs:=.w (.iff (.x .NotIn (.ix V0 K0)<|.glo<|O "FORMS") (.o<|.ret<|.tupl .n) .n) (.ret<|.sl V0 (J K1)<|J<|.bin .Add K1<|.ix (.ix (.glo<|O "FORMS")<|.ix V0 K0) K0)
def ZaB:Fd:=fd_ 1 ["E"] Z1
def Zck:Sxs:=.w (.iff (.x .NotIn (.ix V0 K0)<|.glo<|O "FORMS") (.o<|.ret V0) .n) (.ret<|.sl V0 M<|J<|.bin .Add K1<|.ix (.ix (.glo<|O "FORMS")<|.ix V0 K0) K0)
def Zh6:Fd:=fd_ 1 ["E"] Zck
def ZaE:Sxs:=.w (.iff (.x .NotIn (.ix V0 K0)<|.glo<|O "FORMS") (.o<|.ret K0) .n) (.ret<|.ix (.ix (.glo<|O "FORMS")<|.ix V0 K0) K1)
def Zfh:Fd:=fd_ 1 ["front"] ZaE
def ZnX:Sxs:=.u (.s 1<|.lstl .n) (.forr (.nm 2) (.rev V0)<|.w (.s 3<|.comp [O "k",O "done"] [M,J 1] (.rng<|.f "count_parts"<|.o V2) (.nm 0) M<|.meth .pop V1 .n)<|.drp<|.meth .app V1<|.o<|.bin .Add V2<|.blt .tup<|.o V3) (.ret<|.ix V1 K0)
def ZjR:Fd:=fd_ 1 ["fronts","done","front","parts"] ZnX
def Zjh:Sxs:=.o (.ret<|.cmp .Gt (.blt .len<|.o<|.f "places"<|.o V0)<|.glo<|O "WIDEST")
def ZgB:Fd:=fd_ 1 ["E"] Zjh
def ZmC:Sxs:=.w (.forr (.two 2 3) (.pl V1)<|.o<|.iff (.q V2 V0) (.o<|.ret V3) .n) (.ret<|.cst .non)
def Zh7:Fd:=fd_ 2 ["name","around","known","thing"] ZmC
def ZrN:Sxs:=.w (.iff (.q (.ix V0 K0)<|.Ci_ "clo") (.o<|.ret<|.sl V0 (J K1) M) .n) (.ret<|.tupl<|.w V0<|.tupl .n)
def ZkR:Fd:=fd_ 1 ["thing"] ZrN
def Zmv:Sxs:=.w (.iff (.nq (.ix V0 K0)<|.Ci_ "name") (.o<|.ret<|.cst .non) .n) (.ret<|.f "bound_to"<|.w (.ix V0 K1) V1)
def Zds:Fd:=fd_ 2 ["place","around"] Zmv
def Zlb:Sxs:=.o (.ret<|.bin .Add (.blt .tup<|.o<|.comp [O "name"] [M] (.pl<|.f "bound_names"<|.o V0) (.nm 0) M<|.tupl<|.w V0<|.cst .non) V1)
def ZhX:Fd:=fd_ 2 ["place","around"] Zlb
def ZmB:Sxs:=.o (.ret<|.cmp .In (.ix V0 K0)<|.glo<|O "VALUES")
def Zdu:Fd:=fd_ 1 ["E"] ZmB
def Zdz:Sx:=.s 2 (.blt .tup<|.o<|.comp [O "name",O "filling"] [M,J 1] (.dk V1) (.nm 0) M<|.tupl<|.w V0<|.tupl<|.u (.Ci_ "clo") (.ix V1 V0)<|.tupl .n)
def Zdy:Sx:=.ret (.m "Pen" "filled" (.mk (O "Pen")<|.o<|.cst .non)<|.w V0 V2)
def ZrM:Sxs:=.w Zdz Zdy
def Zh0:Fd:=fd_ 2 ["E","filling","around"] ZrM
def ZiH:Sxs:=.w (.iff (.q (.ix V0 K0)<|.Ci_ "if") (.o<|.ret<|.sl V0 (J K1)<|J K2) .n) (.ret<|.f "parts_of"<|.o V0)
def Zai:Fd:=fd_ 1 ["E"] ZiH
def Zkb:Sxs:=.w (.forr (.two 1 2) (.en1<|.f "parts_first"<|.o V0)<|.o<|.iff (.nt<|.ex<|.f "is_value"<|.o V2) (.o<|.ret V1) .n) (.ret<|.cst .non)
def Zf3:Fd:=fd_ 1 ["E","k","part"] Zkb
def Zim:Sxs:=.u (.s 1<|.lstl<|.o<|.tupl<|.w V0<|.f "first_open"<|.o V0) (.whl (.x .IsNot (.ix (.ix V1<|.neg K1) K1)<|.cst .non)<|.w (.s 2<|.ix (.ix (.ix V1<|.neg K1) K0)<|.ix (.ix V1<|.neg K1) K1)<|.drp<|.meth .app V1<|.o<|.tupl<|.w V2<|.f "first_open"<|.o V2) (.ret V1)
def ZhY:Fd:=fd_ 1 ["E","way","inner"] Zim
def Zev:Sxs:=.u (.iff (.q (.ix V0 K0)<|.Ci_ "fn") (.o<|.ret<|.f "put_in"<|.w (.ix V0 K2)<|.dictl<|.w (.ix V0 K1) V1) .n) (.iff (.q (.ix V0 K0)<|.Ci_ "rec") (.o<|.ret<|.f "put_in"<|.w (.ix V0 K3)<|.dictl<|.z (.ix V0 K1) V0 (.ix V0 K2) V1) .n) (.ret<|.cst .non)
def ZkT:Fd:=fd_ 2 ["F","A"] Zev
def Zgi:Sxs:=.w (.iff (.nq (.ix V0 K0)<|.Ci_ "num") (.o<|.ret<|.cst .non) .n) (.ret<|.ite (.q (.ix V0 K1) K0) V2 V1)
def Zeg:Fd:=fd_ 3 ["C","T","E"] Zgi
def Zil:Sx:=.iff (.ors<|.c (.nq (.ix V1 K0)<|.Ci_ "num")<|.one<|.nq (.ix V2 K0)<|.Ci_ "num") (.o<|.ret<|.cst .non) .n
def Zmp:Sx:=.iff (.q V0<|.Ci_ "<") (.o<|.ret<|.tupl<|.w (.Ci_ "num")<|.ite (.x .Lt (.ix V1 K1)<|.ix V2 K1) K1 K0) .n
def Zmo:Sx:=.iff (.q V0<|.Ci_ "+") (.o<|.ret<|.tupl<|.w (.Ci_ "num")<|.bin .Mod (.bin .Add (.ix V1 K1)<|.ix V2 K1)<|.glo<|O "BEYOND") .n
def Zmn:Sx:=.iff (.q V0<|.Ci_ "-") (.o<|.ret<|.tupl<|.w (.Ci_ "num")<|.bin .Mod (.bin .Sub (.ix V1 K1)<|.ix V2 K1)<|.glo<|O "BEYOND") .n
def Zmm:Sx:=.ret (.tupl<|.w (.Ci_ "num")<|.bin .Mod (.bin .Mult (.ix V1 K1)<|.ix V2 K1)<|.glo<|O "BEYOND")
def ZJ:Sxs:=.y Zil Zmp Zmo Zmn Zmm
def Zda:Fd:=fd_ 3 ["word","first","second"] ZJ
def ZmF:Sx:=.iff (.q (.ix V0 K0)<|.Ci_ "call") (.o<|.ret<|.f "called"<|.w (.ix V0 K1)<|.ix V0 K2) .n
def ZmE:Sx:=.iff (.q (.ix V0 K0)<|.Ci_ "if") (.o<|.ret<|.f "chosen"<|.u (.ix V0 K1) (.ix V0 K2)<|.ix V0 K3) .n
def ZmD:Sx:=.ret (.f "worked"<|.u (.ix V0 K0) (.ix V0 K1)<|.ix V0 K2)
def Za9:Sxs:=.u ZmF ZmE ZmD
def ZkU:Fd:=fd_ 1 ["E"] Za9
def Zio:Sxs:=.u (.s 2 V1) (.forr (.two 3 4) (.rev V0)<|.o<|.s 2<|.bin .Add (.bin .Add (.sl V3 M<|J V4)<|.tupl<|.o V2)<|.sl V3 (J<|.bin .Add V4 K1) M) (.ret V2)
def Zh1:Fd:=fd_ 2 ["way","E","whole","place","inner"] Zio
def Zg0:Sx:=.iff (.ex<|.f "is_value"<|.o V0) (.o<|.ret<|.tupl<|.o<|.Ci_ "value") .n
def Zeo:Sx:=.s 1 (.f "way_down"<|.o V0)
def Zen:Sx:=.s 2 (.f "become"<|.o<|.ix (.ix V1<|.neg K1) K0)
def ZcC:Sx:=.iff (.x .Is V2<|.cst .non) (.o<|.ret<|.tupl<|.o<|.Ci_ "stuck") .n
def Zem:Sx:=.ret (.tupl<|.w (.Ci_ "loud")<|.f "put_back"<|.w (.sl V1 M<|J<|.neg K1) V2)
def Zo3:Sxs:=.y Zg0 Zeo Zen ZcC Zem
def Zi1:Fd:=fd_ 1 ["E","way","F"] Zo3
def Zmu:Sx:=.s 2 (.lstl<|.o V0)
def Zmt:Sx:=.s 3 (.f "stepped"<|.o V0)
def Zms:Sx:=.whl (.q (.ix V3 K0)<|.Ci_ "loud") (.z (.iff (.x .Gt (.blt .len<|.o V2) V1) (.o<|.ret<|.tupl<|.w V2<|.Ci_ "open") .n) (.iff (.ex<|.f "is_wide"<|.o<|.ix V3 K1) (.o<|.ret<|.tupl<|.w V2<|.Ci_ "wide") .n) (.drp<|.meth .app V2<|.o<|.ix V3 K1)<|.s 3<|.f "stepped"<|.o<|.ix V3 K1)
def Zmr:Sx:=.ret (.tupl<|.w V2<|.ix V3 K0)
def ZrL:Sxs:=.z Zmu Zmt Zms Zmr
def ZkQ:Fd:=fd_ 2 ["E","most","row","step"] ZrL
def Zew:Sxs:=.w (.sa "Pen" V0 "most" V1) (.sa "Pen" V0 "used" K0)
def Za3:Fd:=fd_ 2 ["self","most"] Zew
noncomputable def ZrK(x:Sx):Sxs:=(.cons (.iff (.ex<|.cmp .Eq (.att [O "Pen"] (.var 0)<|O "used")<|.att [O "Pen"] (.var 0)<|O "most") (.cons x .nil) .nil)<|.cons (.auga [O "Pen"] (.var 0) (O "used")<|.ci 1) .nil)
def Zmf(x:Sx):Fd:=⟨[O "self"],[O "self"],ZrK x⟩
def ZdB:Sxs:=.z (.s 3<|.lstl .n) (.s 4<|.lstl<|.o<|.tupl<|.w V1 V2) (.whl (.ex V4)<|.u (.s 5<|.meth .pop V4 .n) (.s 6<|.f "meant_by"<|.w (.ix V5 K0)<|.ix V5 K1)<|.iff (.x .Is V6<|.cst .non) (.z (.drp<|.m "Pen" "take_place" V0 .n) (.drp<|.meth .app V3<|.o<|.f "front_of"<|.o<|.ix V5 K0) (.s 7<|.f "within"<|.w (.ix V5 K0)<|.ix V5 K1)<|.drp<|.meth .ext V4<|.o<|.comp [O "part",O "inner"] [M,J 7] (.rev<|.f "parts_of"<|.o<|.ix V5 K0) (.nm 0) M<|.tupl<|.w V0 V1)<|.o<|.drp<|.meth .app V4<|.o<|.f "opened"<|.o V6) (.ret<|.f "built"<|.o V3)
def Zf7:Fd:=fd_ 3 ["self","E","around","fronts","waiting","pair","thing","inner"] ZdB
structure Trb(P:Pg):Prop extends Gn.Tre P where
 bound_names:P.tb.lookup (O "bound_names")=J ZaB
 front_of:P.tb.lookup (O "front_of")=J Zh6
 count_parts:P.tb.lookup (O "count_parts")=J Zfh
 built:P.tb.lookup (O "built")=J ZjR
 bound_to:P.tb.lookup (O "bound_to")=J Zh7
 opened:P.tb.lookup (O "opened")=J ZkR
 meant_by:P.tb.lookup (O "meant_by")=J Zds
 within:P.tb.lookup (O "within")=J ZhX
 n_Pen___init__:P.tb.lookup (mnm (O "Pen")<|O "__init__")=M
 Pen___init__:P.ms.lookup (mnm (O "Pen")<|O "__init__")=J Za3
 n_Pen_take_place:P.tb.lookup (mnm (O "Pen")<|O "take_place")=M
 tk:∃x,P.ms.lookup (mnm (O "Pen")<|O "take_place")=J (Zmf x)
 n_Pen_filled:P.tb.lookup (mnm (O "Pen")<|O "filled")=M
 Pen_filled:P.ms.lookup (mnm (O "Pen")<|O "filled")=J Zf7
structure Trm(P:Pg):Prop extends Trb P where
 is_value:P.tb.lookup (O "is_value")=J Zdu
 put_in:P.tb.lookup (O "put_in")=J Zh0
 parts_first:P.tb.lookup (O "parts_first")=J Zai
 first_open:P.tb.lookup (O "first_open")=J Zf3
 way_down:P.tb.lookup (O "way_down")=J ZhY
 called:P.tb.lookup (O "called")=J ZkT
 chosen:P.tb.lookup (O "chosen")=J Zeg
 worked:P.tb.lookup (O "worked")=J Zda
 become:P.tb.lookup (O "become")=J ZkU
 put_back:P.tb.lookup (O "put_back")=J Zh1
 stepped:P.tb.lookup (O "stepped")=J Zi1
 gv:P.G (O "VALUES")=J (.tup [.str<|O "num",.str<|O "fn",.str<|O "rec"])
 gb:P.G (O "BEYOND")=J (.int 1000000)
structure Trw(P:Pg):Prop extends Trm P where
 is_wide:P.tb.lookup (O "is_wide")=J ZgB
 row_of:P.tb.lookup (O "row_of")=J ZkQ
 gw:P.G (O "WIDEST")=J (.int 120)
 pl:P.tb.lookup (O "places")=J Gn.ZfZ
section
variable {P:Pg}{h:Hd}
section
variable {w:Wd}
@[simp]def Zpk:w.s=O "num" ↔ False:=by cases w<;>simp[Wd.s]
@[simp]def ZmO:w.s=O "name" ↔ False:=by cases w<;>simp[Wd.s]
@[simp]def ZmP:w.s=O "call" ↔ False:=by cases w<;>simp[Wd.s]
@[simp]def Zpl:w.s=O "if" ↔ False:=by cases w<;>simp[Wd.s]
@[simp]def Zd5:Zao Gn.Zcf (.inr w.s)=J (.tup [.int 0,.int 2]):=by cases w<;>rfl
end
noncomputable def bnd:T->List Str
 |.fn x _=>[x]
 |.rcc f x _=>[f,x]
 |_=>[]
noncomputable def fr:T->List D
 |.num n=>[.str<|O "num",.int n]
 |.name x=>[.str<|O "name",.str x]
 |.fn x _=>[.str<|O "fn",.str x]
 |.rcc f x _=>[.str<|O "rec",.str f,.str x]
 |.call _ _=>[.str<|O "call"]
 |.iff _ _ _=>[.str<|O "if"]
 |.op w _ _=>[.str w.s]
def ZAe(t:T):t.d=.tup (fr t++t.parts.map T.d):=by cases t<;>rfl
def ZxV(H:Gn.Tre P)(hb:P.tb.lookup (O "bound_names")=J ZaB)(n)(t)(h):run P (n+1) (O "bound_names") [t.d] h=.ok (.tup<|(bnd t).map .str) h:=by
 have no:∀(w) (ds),Zao Gn.Zcf (.inr w)=M->run P (n+1) (O "bound_names") [.tup (.str w::ds)] h=.ok (.tup []) h:=λw ds e=>by rw[Ze hb rfl];show Zf (xs2 (P.tbl n) Z1 [J<|.tup (.str w::ds)] h)=_;rw[Z1,Zd<|(Zk<|Gn.ZbB H ⟨rfl,rfl⟩ Gn.ZdL e).I<|Zd<|Zn rfl];rfl
 have g:∀(w) (ds) (a b),Zao Gn.Zcf (.inr w)=J (.tup [.int a,.int b])->run P (n+1) (O "bound_names") [.tup (.str w::ds)] h=.ok (.tup<|cutD (.str w::ds) (J 1)<|J<|1+a) h:=λw ds a b e=>by rw[Ze hb rfl];show Zf (xs2 (P.tbl n) Z1 [J<|.tup (.str w::ds)] h)=_;rw[Z1,Za<|(Zg<|Gn.ZbB H ⟨rfl,rfl⟩ Gn.ZdL e).I rfl,Zd<|Zn<|(Gn.ZfI rfl rfl<|Gn.Zhj<|Gn.ZjN H (U:=P.tbl n) ⟨rfl,rfl⟩ (ds:=ds) (h:=h) e).I rfl];rfl
 cases t with
 |num z=>exact no (O "num") _ rfl
 |name x=>exact no (O "name") _ rfl
 |fn x e=>exact g (O "fn") _ 1 1 rfl
 |rcc f x e=>exact g (O "rec") _ 2 1 rfl
 |call f a=>exact g (O "call") _ 0 2 rfl
 |iff c a b=>exact g (O "if") _ 0 3 rfl
 |op w a b=>exact g w.s _ 0 2 Zd5
def ZeP(H:Trb P)(n)(t)(h):run P (n+1) (O "bound_names") [t.d] h=.ok (.tup<|(bnd t).map .str) h:=ZxV H.toTre H.bound_names n t h
def ZkO(H:Trb P)(n)(h)(w)(ds)(e:Zao Gn.Zcf (.inr w)=M):run P (n+1) (O "front_of") [.tup (.str w::ds)] h=.ok (.tup (.str w::ds)) h:=by rw[Ze H.front_of rfl];show Zf (xs2 (P.tbl n) Zck [J<|.tup (.str w::ds)] h)=_;rw[Zck,Zd<|(Zk<|Gn.ZbB H.toTre ⟨rfl,rfl⟩ Gn.ZdL e).I<|Zd<|Zn rfl];rfl
def Zc9(H:Trb P)(n)(h)(w)(ds)(a b)(e:Zao Gn.Zcf (.inr w)=J (.tup [.int a,.int b])):run P (n+1) (O "front_of") [.tup (.str w::ds)] h=.ok (.tup<|cutD (.str w::ds) M<|J<|1+a) h:=by rw[Ze H.front_of rfl];show Zf (xs2 (P.tbl n) Zck [J<|.tup (.str w::ds)] h)=_;rw[Zck,Za<|(Zg<|Gn.ZbB H.toTre ⟨rfl,rfl⟩ Gn.ZdL e).I rfl,Zd<|Zn<|(Gn.ZfI rfl rfl<|Gn.Zhj<|Gn.ZjN H.toTre (U:=P.tbl n) ⟨rfl,rfl⟩ (ds:=ds) (h:=h) e).I rfl];rfl
def Zsu(H:Trb P)(n)(t)(h):run P (n+1) (O "front_of") [t.d] h=.ok (.tup<|fr t) h:=by
 cases t with
 |num z=>exact ZkO H n h (O "num") _ rfl
 |name x=>exact ZkO H n h (O "name") _ rfl
 |fn x e=>exact Zc9 H n h (O "fn") _ 1 1 rfl
 |rcc f x e=>exact Zc9 H n h (O "rec") _ 2 1 rfl
 |call f a=>exact Zc9 H n h (O "call") _ 0 2 rfl
 |iff c a b=>exact Zc9 H n h (O "if") _ 0 3 rfl
 |op w a b=>exact Zc9 H n h w.s _ 0 2 Zd5
theorem Zhg (H:Trb P) (n) (t) (h):run P (n+1) (O "count_parts") [.tup<|fr t] h=.ok (.int t.parts.length) h:=by
 have no:∀ (w) (ds),Zao _ _=M->run P _ _ [.tup _] h=.ok _ h:=λw ds e=>by
   rw [Ze H.count_parts rfl];show Zf (xs2 (P.tbl n) ZaE [J<|.tup (.str w::ds)] h)=_;rw [ZaE,Zd<|(Zk<|Gn.ZbB H.toTre ⟨rfl,rfl⟩ Gn.ZdL e).I<|Zd<|Zn rfl];rfl
 have d:∀ (w) (ds) (a b),Zao _ _=J (.tup [.int a,.int b])->run P _ _ [.tup _] h=.ok _ h:=λw ds a b e=>by
   rw [Ze H.count_parts rfl];show Zf (xs2 (P.tbl n) ZaE [J<|.tup (.str w::ds)] h)=_;rw [ZaE,Za<|(Zg<|Gn.ZbB H.toTre ⟨rfl,rfl⟩ Gn.ZdL e).I rfl,Zd (Zn (by
     rw [ZnF,Gn.ZnA H.toTre ⟨rfl,rfl⟩ Gn.ZdL e];rfl))]
   rfl
 cases t with
 |num z=>exact no (O "num") _ rfl
 |name x=>exact no (O "name") _ rfl
 |fn x e=>exact d (O "fn") _ 1 1 rfl
 |rcc f x e=>exact d (O "rec") _ 2 1 rfl
 |call f a=>exact d (O "call") _ 0 2 rfl
 |iff c a b=>exact d (O "if") _ 0 3 rfl
 |op w a b=>exact d w.s _ 0 2 Zd5
noncomputable abbrev Ar:=List (Str×Option T)
noncomputable def thd(V:T):D:=.tup [.str<|O "clo",V.d,.tup []]
def ard(p:Str×Option T):D:=.tup [.str p.1,match p.2 with|some V=>thd V|none=>.non]
noncomputable def get:Ar->Str->Option T
 |[],_=>M
 |(y,v)::r,x=>if y=x then v else get r x
noncomputable abbrev En:=List (Str×Option Rw.Th)
def edd(p:Str×Option Rw.Th):D:=.tup [.str p.1,Rw.thD p.2]
noncomputable def ZgD:En->Str->Option Rw.Th
 |[],_=>M
 |(y,v)::r,x=>if y=x then v else ZgD r x
def ZqR:Sxs:=.o (.iff (.q V2 V0) (.o<|.ret V3) .n)
theorem ZyE:∀(ar) (a b),(∃S,ZG [] (.two 2 3) (xs2 U ZqR) (ar.map edd) [J<|.str x,J o,a,b] h=.ok (.rt<|Rw.thD<|ZgD ar x,S) h)\/(ZgD ar x=M/\∃S,ZG [] (.two 2 3) (xs2 U ZqR) (ar.map edd) [J<|.str x,J o,a,b] h=.ok (.nx,S) h)
 |[],a,b=>.inr ⟨rfl,_,rfl⟩
 |(y,v)::r,a,b=>by
  by_cases e:y=x
  . refine .inl ⟨[J<|.str x,J o,J<|.str y,J<|Rw.thD v],?_⟩;rw[ZgD,if_pos e];exact ZwF rfl (Zd<|(Zk<|Zh (Zas rfl rfl)<|decide_eq_true e).I<|Zd<|Zn rfl)
  . have b1:xs2 U ZqR [J<|.str x,J o,J<|.str y,J<|Rw.thD v] h=.ok (.nx,[J<|.str x,J o,J<|.str y,J<|Rw.thD v]) h:=(Za<|(Zg<|Zh (Zas rfl rfl)<|decide_eq_false e).I rfl).I rfl;have s1:=ZhU (g:=.two 2 3) (ds:=r.map edd) (S:=[J<|.str x,J o,a,b]) (d:=edd (y,v)) rfl b1;rw[ZgD,if_neg e];rcases ZyE r (J<|.str y) (J<|Rw.thD v)with⟨S,q⟩|⟨q0,S,q⟩
    . exact .inl ⟨S,s1.I q⟩
    . exact .inr ⟨q0,S,s1.I q⟩
def ZzM(H:Trb P)(n)(x)(ar):run P (n+1) (O "bound_to") [.str x,.tup<|ar.map edd] h=.ok (Rw.thD<|ZgD ar x) h:=by
 rw[Ze H.bound_to<|rfl];rcases ZyE ar M M with⟨S,q⟩|⟨a,S,q⟩
 . exact congrArg Zf (Zd<|(Zec<|ZjS rfl).I q)
 . rw[a];exact congrArg Zf ((Za<|(Zec<|ZjS rfl).I q).I<|Zd<|Zn rfl)
def mean(ar:Ar):T->Option T
 |.name x=>get ar x
 |_=>M
def Zdf(ar:En):T->Option Rw.Th
 |.name x=>ZgD ar x
 |_=>M
def Zjv(H:Trb P)(n)(t)(ar):run P (n+2) (O "meant_by") [t.d,.tup<|ar.map edd] h=.ok (Rw.thD<|Zdf ar t) h:=by
 rw[Ze H.meant_by<|rfl];cases t with
 |name x=>exact Zik (λU=>Zf<|xs2 U Zds.body (Zx Zds.N [(T.name x).d,.tup<|ar.map edd]) h) (ZzM H n (h:=h) x ar) rfl rfl
 |op w a b=>cases w<;>exact rfl
 |_=>trivial
def inn(t:T)(ar:Ar):Ar:=(bnd t).map (λx=>(x,M))++ar
def ZcQ(t:T)(ar:En):En:=(bnd t).map (λx=>(x,M))++ar
theorem Zk8:∀(xs:List Str) (ag),ag.length+xs.length<=1000->ZI [] (.nm 0) (tsto U M) (ev U<|.tupl<|.cons (.var 0)<|.cons (.cst .non) .nil) (xs.map .str) [M] ag h=.ok (ag++(xs.map λx=>D.tup [.str x,.non])) h
 |[],ag,_=>by simp[ZI,Wk.stays]
 |x::xs,ag,a=>by
  have b:=Zk8 (U:=U) xs (ag++[.tup [.str x,.non]]) (by simp at a ⊢;lia);have c:ag.length<16777216:=by lia
  rw[Op,ZL];simp[Wk.stays,c,YC];simpa using b
def ZfL(H:Trb P)(n)(t)(ar)(hz:ar.length<=100000):run P (n+2) (O "within") [t.d,.tup<|ar.map edd] h=.ok (.tup<|(ZcQ t ar).map edd) (h++[.lst<|(bnd t).map λx=>.tup [.str x,.non]]):=by
 rw[Ze H.within<|rfl];have c:(bnd t).length<=2:=by cases t<;>simp[bnd]
 have a:∀b,opB .Add (.tup<|(bnd t).map λx=>D.tup [.str x,.non]) (.tup<|ar.map edd) b=.ok (.tup<|(ZcQ t ar).map edd) b:=by intro b;rw[Za0 (by rw[YC];simp;lia)];simp[ZcQ,edd,Rw.thD,YX]
 simp[ZhX,Zlb,Zx,ZeP H n t h,ZaT,ZbY,Zk8 (U:=⟨P.G,P.GD,run P<|n+1,P.L⟩) (h:=h) (bnd t) [] (by simp;lia),Zb6,ZmH,lstOf,a]
def opn:Rw.Th->T×Rw.Ar
 |.num n=>(.num n,.nil)
 |.clo E ar=>(E,ar)
def ZpY(H:Trb P)(n)(v):run P (n+1) (O "opened") [v.d] h=.ok (.tup [(opn v).1.d,.tup (opn v).2.ds]) h:=by rw[Ze H.opened<|rfl];cases v<;>exact rfl
end
def sub:Ar->T->T
 |_,.num n=>.num n
 |ar,.name x=>(get ar x).getD (.name x)
 |ar,.fn x e=>.fn x (sub ((x,M)::ar) e)
 |ar,.rcc f x e=>.rcc f x (sub ((f,M)::(x,M)::ar) e)
 |ar,.call f a=>.call (sub ar f) (sub ar a)
 |ar,.iff c t e=>.iff (sub ar c) (sub ar t) (sub ar e)
 |ar,.op w a b=>.op w (sub ar a) (sub ar b)
def NN(ar:Ar):Prop:=∀x,get ar x=M
def NN.cons(h:NN ar)(y):NN ((y,M)::ar):=λx=>by
 unfold get;split
 . rfl
 . exact h x
theorem Zcb:∀(t) {ar},NN ar->sub ar t=t
 |.num _,_,_=>rfl
 |.name x,_,h=>by rw[sub,h x];rfl
 |.fn x e,_,h=>by rw[sub,Zcb e<|h.cons x]
 |.rcc f x e,_,h=>by rw[sub,Zcb e<|(h.cons x).cons f]
 |.call f a,_,h=>by rw[sub,Zcb f h,Zcb a h]
 |.iff c t e,_,h=>by rw[sub,Zcb c h,Zcb t h,Zcb e h]
 |.op w a b,_,h=>by rw[sub,Zcb a h,Zcb b h]
def Zb(t:T):t.size=1+(t.parts.map T.size).sum:=by
 unfold T.size;rw[T.places_parts];simp
 lia
def Zi(t:T):1<=t.size:=by rw[Zb];lia
def Zn9(t)(ar)(h:mean ar t=M):(sub ar t).parts=t.parts.map (sub<|inn t ar)/\fr (sub ar t)=fr t:=by
 cases t with
 |name x=>rw[sub,show get _ x=M from h];trivial
 |_=>trivial
def ZoJ{t}{V}(h:mean ar t=J V):sub ar t=V:=by
 cases t with
 |name x=>rw[sub,show get ar x=J V from h];rfl
 |_=>cases h
end Tm
namespace Rw
open PySem L2 IV
mutual
noncomputable def rd:Th->T
 |.num n=>.num n
 |.clo E ar=>Tm.sub (ra ar) E
noncomputable def ra:Ar->List (Str×Option T)
 |.nil=>[]
 |.cons x v r=>(x,J<|rd v)::ra r
end
end Rw
namespace Tm
open PySem L2 IV
section
variable {P:Pg}
def er(e:En):Ar:=e.map λp=>(p.1,p.2.map Rw.rd)
noncomputable def up:Rw.Ar->En
 |.nil=>[]
 |.cons x v r=>(x,J v)::up r
theorem Zud:∀ar ,(up ar).map edd=ar.ds
 |.nil=>rfl
 |.cons x v r=>by rw[up,Op,Zud r];rfl
theorem ZuC:∀ar ,er (up ar)=Rw.ra ar
 |.nil=>rfl
 |.cons x v r=>by rw[Rw.ra,<-ZuC r];rfl
theorem Zpp:∀ar ,(up ar).length=ar.len
 |.nil=>rfl
 |.cons x v r=>by rw[up,Rw.Ar.len,Os,Zpp r]
theorem Zmc(x):∀e ,get (er e) x=(ZgD e x).map Rw.rd
 |[]=>rfl
 |(y,v)::r=>by
  show(if y=x then v.map Rw.rd else get (er r) x)=(if y=x then v else ZgD r x).map Rw.rd;split
  . rfl
  . exact Zmc x r
def ZwP(t)(e):er (ZcQ t e)=inn t (er e):=by simp[er,ZcQ,inn,YX]
def tel(p:T×En):T:=sub (er p.2) p.1
def Zmj(h:Zdf e t=M):mean (er e) t=M:=by
 cases t with
 |name x=>show get (er e) x=M;rw[Zmc,show ZgD e x=M from h];rfl
 |_=>rfl
def ZmU(v):tel ((opn v).1,up (opn v).2)=Rw.rd v:=by
 cases v with
 |num n=>trivial
 |clo E ar=>show sub (er<|up ar) E=_;rw[ZuC,Rw.rd]
def Zic{t}{v}(h:Zdf e t=J v):tel (t,e)=Rw.rd v:=by
 cases t with
 |name x=>refine ZoJ ?_;show get (er e) x=_;rw[Zmc,show ZgD e x=J v from h];rfl
 |_=>cases h
def ZiL(h:Zdf e t=M):(tel (t,e)).parts=t.parts.map (λs=>tel (s,ZcQ t e))/\fr (tel (t,e))=fr t:=by obtain⟨a,b⟩:=Zn9 t (er e)<|Zmj h;refine⟨a.I ?_,b⟩;rw[<-ZwP];rfl
def tf(t:T):D:=.tup (fr t)
def ZM{h:Hd}(e:h[i]?=J o):i<h.length:=(Ob.mp e).1
def keep{h}{i:Nat}{g:Hd}(e:h[i]?=J o):(h++g)[i]?=J o:=(Oe<|ZM e).I e
structure B_(h0 h:Hd)(fk dk:Nat)(fs ds:List D):Prop where
 f:h[fk]?=J (.lst fs)
 d:h[dk]?=J (.lst ds)
 ne:dk≠fk
 o1:h0.length<=dk
 ol:h0.length<=h.length
 old:∀i,i<h0.length->h[i]?=h0[i]?
theorem B_.set{h0 h}(b:B_ h0 h fk dk fs ds)(es):B_ h0 (h.set dk<|.lst es) fk dk fs es:=⟨(Oc b.ne).I b.f,by rw[Ol<|ZM b.d],b.ne,b.o1,by simpa using b.ol,λi a=>(Oc (by have:=b.o1;lia)).I<|b.old i a⟩
def B_.app{h0 h g}{fk dk}{fs ds}(b:B_ h0 h fk dk fs ds):B_ h0 (h++g) fk dk fs ds:=⟨keep b.f,keep b.d,b.ne,b.o1,by have:=b.ol;simp;lia,λi a=>(Oe (by have:=b.ol;lia)).I<|b.old i a⟩
theorem ZuJ:∀(ks xs D0 ag) (h),ks.length=xs.length->ag.length+xs.length<=1000->B_ h0 h fk dk fs (D0++xs.reverse)->∃h',
 ZI [] (.nm 0) (tsto U M) (ev U<|.meth .pop (.var 1) .nil) ks [M,J<|.ref dk] ag h=.ok (ag++xs) h'/\B_ h0 h' fk dk fs D0
 |[],[],D0,ag,h,_,_,b=>⟨h,by simp[ZI,Wk.stays],by simp_all⟩
 |[],_::_,_,_,_,e,_,_=>by cases e
 |_::_,[],_,_,_,e,_,_=>by cases e
 |k::ks,x::xs,D0,ag,h,e,a,b=>by
  have b1:B_ h0 h fk dk fs ((D0++xs.reverse)++[x]):=by simp_all
  obtain⟨h',q,c⟩:=ZuJ _ _ D0 (ag++[x]) _ (by simpa using e) (by simp at a ⊢;lia)<|b1.set<|D0++xs.reverse;refine⟨h',?_,c⟩;have f:ag.length<16777216:=by lia
  rw[ZL];simp[Wk.stays,f,YC,ZeT b1.d,ZbG b1.d];simpa using q
def ZfS:Sxs:=.w (.s 3<|.comp [O "k",O "done"] [M,J 1] (.rng<|.f "count_parts"<|.o V2) (.nm 0) M<|.meth .pop V1 .n) (.drp<|.meth .app V1<|.o<|.bin .Add V2<|.blt .tup<|.o V3)
def Zsd(H:Trb P)(n){h0 h}{fk dk}{fs D0}(t)(b:B_ h0 h fk dk fs (D0++(t.parts.map T.d).reverse))(hz:D0.length<=1000000)(o0 o3):∃h' eN,
 xs2 (P.tbl<|n+1) ZfS [o0,J<|.ref dk,J<|tf t,o3] h=.ok (.nx,[o0,J<|.ref dk,J<|tf t,eN]) h'/\B_ h0 h' fk dk fs (D0++[t.d]):=by
 have hp:t.parts.length<=3:=by cases t<;>simp[T.parts]
 have hf:(fr t).length<=3:=by cases t<;>simp[fr]
 obtain⟨R,q1,b1⟩:=ZuJ (U:=P.tbl<|n+1) (ZbQ 0 t.parts.length) (t.parts.map T.d) D0 [] h (by simp[ZbQ]) (by simp;lia) b;refine⟨_,J<|.ref R.length,?_,(b1.app (g:=[.lst<|t.parts.map T.d])).set<|D0++[t.d]⟩;have k1:(R++[DO.lst<|t.parts.map T.d])[dk]?=J (.lst D0):=keep b1.d;have x1:xs1 (P.tbl<|n+1) (.set (.nm 3)<|.comp [O "k",O "done"] [M,J 1] (.rng<|.call (O "count_parts")<|.cons (.var 2) .nil) (.nm 0) M<|.meth .pop (.var 1) .nil) [o0,J<|.ref dk,J<|tf t,o3] h=.ok (.nx,[o0,J<|.ref dk,J<|tf t,J<|.ref R.length]) (R++[.lst<|t.parts.map T.d]):=by
  have ei:evi (P.tbl<|n+1) (.rng<|.call (O "count_parts")<|.cons (.var 2) .nil) [o0,J<|.ref dk,J<|tf t,o3] h=.ok ⟨[],ZbQ 0 t.parts.length⟩ h:=by have e1:ev (P.tbl<|n+1) (.call (O "count_parts")<|.cons (.var 2) .nil) [o0,J<|.ref dk,J<|tf t,o3] h=.ok (.int t.parts.length) h:=Zhg H n t h;rw[ZtJ,e1,ZA];exact(if_pos (by simp[ZeM];lia)).I (by rw[Int.toNat_natCast])
  rw[Zjl,ZjU,ei,ZA];simp only[ZbY,Op,Oy,Option.bind_none,Yz];rw[show([o0,J<|D.ref dk,J<|tf t,o3][1]?).join=J (.ref dk)from rfl,q1];rfl
 have x2:xs1 (P.tbl<|n+1) (.drp<|.meth .app (.var 1)<|.cons (.bin .Add (.var 2)<|.blt .tup<|.cons (.var 3) .nil) .nil) [o0,J<|.ref dk,J<|tf t,J<|.ref R.length] (R++[.lst<|t.parts.map T.d])=.ok (.nx,[o0,J<|.ref dk,J<|tf t,J<|.ref R.length]) (List.set (R++[.lst<|t.parts.map T.d]) dk<|.lst<|D0++[t.d]):=by
  have ad:∀h',opB .Add (tf t) (.tup<|t.parts.map T.d) h'=.ok t.d h':=λh'=>by rw[ZAe];exact Za0 (by rw[YC];simp;lia)
  simp[ZeT k1,Zb6,ZmH,lstOf,ad,ZW (d:=t.d) k1 (by rw[YC];lia)]
 rw[ZfS,Za x1,Za x2];rfl
def ZfY(e:h[j]?=J (.lst L))(b:ZbK g d S=J ρ1)(q:body ρ1 h=.ok (.nx,ρ2) h2):ZG [(j,L)] g body (d::ds) S h=ZG [(j,L)] g body ds ρ2 h2:=by
 have:Wk.stays [(j,L)] h=Wr:=by simp[Wk.stays,e]
 rw[ZG]
 simp_all
def Zed(e:h[j]?=J (.lst L)):ZG [(j,L)] g body [] S h=.ok (.nx,S) h:=by rw[ZG,if_pos<|by simp[Wk.stays,e]]
def wb(P:Pg)(n fk dk:Nat)(fs:List D)(o0:Option D)(rest:List D)(o2 o3:Option D)(h:Hd):qe (Fl×Ev):=ZG [(fk,fs)] (.nm 2) (xs2 (P.tbl<|n+1) ZfS) rest [o0,J<|.ref dk,o2,o3] h
def Bt(P:Pg)(n:Nat)(h0:Hd)(fk dk:Nat)(fs:List D)(o0:Option D)(xs D0 D1:List D):Prop:=∀(rest:List D) (h:Hd) (b c:Option D),B_ h0 h fk dk fs D0->∃a d e,wb P n fk dk fs o0 (xs++rest) b c h=wb P n fk dk fs o0 rest d e a/\B_ h0 a fk dk fs D1
section
variable {n:Nat}{h0:Hd}{fk dk:Nat}{fs:List D}{o0:Option D}{xs ys D0 D1 D2:List D}
def Bt.I(a:Bt P n h0 fk dk fs o0 xs D0 D1)(b:Bt P n h0 fk dk fs o0 ys D1 D2):Bt P n h0 fk dk fs o0 (xs++ys) D0 D2:=λrest h c d q=>by obtain⟨R,e,f,l,g⟩:=a (ys++rest) h c d q;obtain⟨m,i,j,o,k⟩:=b rest _ e f g;exact⟨_,i,j,by simp_all,k⟩
def Bt.front(H:Trb P)(t)(hz:D0.length<=1000000):Bt P n h0 fk dk fs o0 [tf t] (D0++(t.parts.map T.d).reverse) (D0++[t.d]):=λrest h c g b=>by obtain⟨i,j,e,a⟩:=Zsd H n t b hz _ _;exact⟨_,_,_,ZfY b.f rfl e,a⟩
end
theorem ZcK(H:Trb P):∀(t:T) (D0),D0.length+t.size<=1000000->Bt P n h0 fk dk fs o0 (t.places.map tf).reverse D0 (D0++[t.d])
 |.num m,D0,b=>by simpa[T.places,T.parts]using Bt.front H (.num m) (by lia)
 |.name m,D0,b=>by simpa[T.places,T.parts]using Bt.front H (.name m) (by lia)
 |.fn x e,D0,b=>by rw[Zb]at b;simp only[T.parts,Op,Oy,OI,List.sum_nil]at b;simpa[T.places,T.parts]using (ZcK H (n:=n) (h0:=h0) (fk:=fk) (dk:=dk) (fs:=fs) (o0:=o0) e D0<|by lia).I (Bt.front H (.fn x e)<|by lia)
 |.rcc f x e,D0,b=>by rw[Zb]at b;simp only[T.parts,Op,Oy,OI,List.sum_nil]at b;simpa[T.places,T.parts]using (ZcK H (n:=n) (h0:=h0) (fk:=fk) (dk:=dk) (fs:=fs) (o0:=o0) e D0<|by lia).I (Bt.front H (.rcc f x e)<|by lia)
 |.call f a,D0,b=>by rw[Zb]at b;simp only[T.parts,Op,Oy,OI,List.sum_nil]at b;have g:=Zi f;have q:=(ZcK H (n:=n) (h0:=h0) (fk:=fk) (dk:=dk) (fs:=fs) (o0:=o0) a D0<|by lia).I (ZcK H f (D0++[a.d]) (by simp;lia));have r:=Bt.front (P:=P) (n:=n) (h0:=h0) (fk:=fk) (dk:=dk) (fs:=fs) (o0:=o0) (D0:=D0) H (.call f a) (by lia);simp only[T.parts,Op,Oy,List.reverse_cons,List.reverse_nil,OB]at r;rw[<-Oz]at r;simpa[T.places]using q.I r
 |.op w f a,D0,b=>by rw[Zb]at b;simp only[T.parts,Op,Oy,OI,List.sum_nil]at b;have g:=Zi f;have q:=(ZcK H (n:=n) (h0:=h0) (fk:=fk) (dk:=dk) (fs:=fs) (o0:=o0) a D0<|by lia).I (ZcK H f (D0++[a.d]) (by simp;lia));have r:=Bt.front (P:=P) (n:=n) (h0:=h0) (fk:=fk) (dk:=dk) (fs:=fs) (o0:=o0) (D0:=D0) H (.op w f a) (by lia);simp only[T.parts,Op,Oy,List.reverse_cons,List.reverse_nil,OB]at r;rw[<-Oz]at r;simpa[T.places]using q.I r
 |.iff c t e,D0,b=>by rw[Zb]at b;simp only[T.parts,Op,Oy,OI,List.sum_nil]at b;have g:=Zi c;have h:=Zi t;have r:=Bt.front (P:=P) (n:=n) (h0:=h0) (fk:=fk) (dk:=dk) (fs:=fs) (o0:=o0) (D0:=D0) H (.iff c t e) (by lia);simp only[T.parts,Op,Oy,List.reverse_cons,List.reverse_nil,OB]at r;rw[<-Oz,<-Oz]at r;simpa[T.places]using (((ZcK H (n:=n) (h0:=h0) (fk:=fk) (dk:=dk) (fs:=fs) (o0:=o0) e D0<|by lia).I<|ZcK H t (D0++[e.d]) (by simp;lia)).I<|ZcK H c (D0++[e.d]++[t.d]) (by simp;lia)).I r
theorem Zsw (H:Trb P) (n) (t:T) (hf:h[fk]?=J (.lst<|t.places.map tf)) (hz:t.size<=500000):∃ g,run P (n+2) (O "built") [.ref fk] h=.ok t.d (h++g):=by
 rw [Ze H.built<|by rfl];have b0:B_ h (h++[.lst []]) fk h.length (t.places.map tf) []:=⟨keep hf,by simp,by have:=ZM hf;lia,Oq _,by simp,λi hi=>Oe hi⟩
 obtain⟨R,o2,o3,e1,b1⟩:=ZcK H (n:=n) (o0:=J<|.ref fk) t [] (by simp;lia) [] _ M M b0;have e2:wb P n fk h.length (t.places.map tf) (J<|.ref fk) [] o2 o3 R=.ok (.nx,[J<|.ref fk,J<|.ref h.length,o2,o3]) R:=Zed b1.f;rw [e2,Yt] at e1;have ex:∃ g,R=h++g:=⟨R.drop h.length,by
   apply List.ext_getElem?;intro i;rcases Nat.lt_or_ge i h.length with q|q
   . rw [b1.old i q,Oe q]
   . rw [Om q,List.getElem?_drop];congr 1
     lia⟩
 obtain⟨g,rfl⟩:=ex;refine⟨g,?_⟩;have x0:=ZC (GD:=P.GD) (k:=0) b1.d;have hw:Zhm (.ref fk) (h++[.lst []])=J ⟨[(fk,t.places.map tf)],t.places.map tf⟩:=by simp [Zhm,b0.f]
 unfold wb ZfS at e1;simp only [Pg.tbl] at e1;simp only [OB] at x0;simp [ZjR,ZnX,Zx,YC,hw,e1,x0]
end
section
variable {P:Pg}
noncomputable def Zaq(mo:D)(u:Int):DO:=.ins (O "Pen") [(O "most",mo),(O "used",.int u)]
def Lim(mo:D)(z:Int):Prop:=mo=.non\/∃m:Int,mo=.int m/\z<=m
def Zus(H:Trb P)(n)(mo)(h):Zg7 (run P<|n+1) (O "Pen") [mo] h=.ok (.ref h.length) (h++[Zaq mo 0]):=by unfold Zg7;rw[Zz H.n_Pen___init__ H.Pen___init__<|rfl];simp[Za3,Zew,Zx,Zgo,ZhD,Zaq]
def ZlD(H:Trb P)(n)(lm:Lim mo (u+1))(hp:h[pk]?=J (Zaq mo u)):run P (n+1) (mnm (O "Pen")<|O "take_place") [.ref pk] h=.ok .non (h.set pk<|Zaq mo<|u+1):=by
 obtain⟨x,a⟩:=H.tk;rw[Zz H.n_Pen_take_place a<|rfl];have ne:IV.ZdW Ws (D.int u) mo h=.ok (D.bl Ws) h:=by
  rcases lm with rfl|⟨m,rfl,q⟩
  . trivial
  . have:¬ u=m:=by lia
    simp_all
 unfold Zaq at hp ⊢;simp[Zmf,ZrK,Zx,Zgz,Z8,hp,Wh,ne,Zgo,ZhD]
def Wid(P:Pg):Prop:=∃m,P.ms.lookup (mnm (O "Pen")<|O "take_place")=J (Zmf<|.rai (O "Wide")<|.cst m)
def Zhx(H:Trb P)(w:Wid P)(n)(hp:h[pk]?=J (Zaq (.int u) u)):run P (n+1) (mnm (O "Pen")<|O "take_place") [.ref pk] h=.exc (O "Wide") h:=by
 obtain⟨m,a⟩:=w;rw[Zz H.n_Pen_take_place a<|rfl];have b:tst (P.tbl n) (.ex<|.cmp .Eq (.att [O "Pen"] (.var 0)<|O "used")<|.att [O "Pen"] (.var 0)<|O "most") [J<|.ref pk] h=.ok Wr h:=by unfold Zaq at hp;simp[Zgz,Z8,hp,Wh]
 exact congrArg _ (ZbU<|(Zk b).I<|ZbU<|ZxO rfl)
def pr(p:T×En):D:=.tup [p.1.d,.tup<|p.2.map edd]
structure Fi(mo:D)(h0 h:Hd)(pk fk wk:Nat)(u:Int)(F:List D)(W:List D):Prop where
 p:h[pk]?=J (Zaq mo u)
 f:h[fk]?=J (.lst F)
 w:h[wk]?=J (.lst W)
 ne:fk≠wk
 o2:h0.length<=fk
 o3:h0.length<=wk
 ol:h0.length<=h.length
 old:∀i,i<h0.length->i≠pk->h[i]?=h0[i]?
section
variable {mo:D}{h0 h g:Hd}{pk fk wk:Nat}{u:Int}{F W:List D}
def Fi.app(q:Fi mo h0 h pk fk wk u F W):Fi mo h0 (h++g) pk fk wk u F W:=⟨keep q.p,keep q.f,keep q.w,q.ne,q.o2,q.o3,by have:=q.ol;simp;lia,λi a b=>(Oe (by have:=q.ol;lia)).I<|q.old i a b⟩
def ZjG{i j:Nat}{l}(a:h[i]?=J (Zaq mo u))(b:h[j]?=J (.lst l)):i≠j:=λz=>by rw[z,b]at a;cases a
def Fi.setP(q:Fi mo h0 h pk fk wk u F W)(v):Fi mo h0 (h.set pk<|Zaq mo v) pk fk wk v F W:=⟨by rw[Ol<|ZM q.p],(Oc<|ZjG q.p q.f).I q.f,(Oc<|ZjG q.p q.w).I q.w,q.ne,q.o2,q.o3,by simpa using q.ol,λi b a=>(Oc<|YL a).I<|q.old i b a⟩
def Fi.setF(q:Fi mo h0 h pk fk wk u F W)(G):Fi mo h0 (h.set fk<|.lst G) pk fk wk u G W:=⟨(Oc (ZjG q.p q.f).symm).I q.p,by rw[Ol<|ZM q.f],(Oc q.ne).I q.w,q.ne,q.o2,q.o3,by simpa using q.ol,λi a b=>(Oc (by have:=q.o2;lia)).I<|q.old i a b⟩
def Fi.setW(q:Fi mo h0 h pk fk wk u F W)(G):Fi mo h0 (h.set wk<|.lst G) pk fk wk u F G:=⟨(Oc (ZjG q.p q.w).symm).I q.p,(Oc q.ne.symm).I q.f,by rw[Ol<|ZM q.w],q.ne,q.o2,q.o3,by simpa using q.ol,λi a b=>(Oc (by have:=q.o3;lia)).I<|q.old i a b⟩
theorem Fi.pop{d}(q:Fi mo h0 h pk fk wk u F (W++[d])):∃R,ZaA .pop (.ref wk) [] h=.ok d R/\Fi mo h0 R pk fk wk u F W:=⟨_,ZbG q.w,q.setW W⟩
def Fi.push(q:Fi mo h0 h pk fk wk u F W)(d)(hF:F.length<=1000000):∃R,ZaA .app (.ref fk) [d] h=.ok .non R/\Fi mo h0 R pk fk wk u (F++[d]) W:=⟨_,ZW q.f (by rw[YC];lia),q.setF _⟩
def Fi.wait(q:Fi mo h0 h pk fk wk u F W)(d)(hW:W.length<=1000000):∃R,ZaA .app (.ref wk) [d] h=.ok .non R/\Fi mo h0 R pk fk wk u F (W++[d]):=⟨_,ZW q.w (by rw[YC];lia),q.setW _⟩
theorem Fi.ext(q:Fi mo h0 h pk fk wk u F W)(xs)(hW:W.length+xs.length<=1001000):∃R,ZaA .ext (.ref wk) [.ref h.length] (h++[.lst xs])=.ok .non R/\Fi mo h0 R pk fk wk u F (W++xs):=by have q1:=q.app (g:=[.lst xs]);refine⟨_,?_,q1.setW<|W++xs⟩;simp only[ZaA,q1.w,Zgu,ZqO,Zay];rw[if_pos (by rw[YC];lia)]
def Fi.take(H:Trb P)(n)(lm:Lim mo (u+1))(q:Fi mo h0 h pk fk wk u F W):∃R,run P (n+1) (mnm (O "Pen")<|O "take_place") [.ref pk] h=.ok .non R/\Fi mo h0 R pk fk wk (u+1) F W:=⟨_,ZlD H n lm q.p,q.setP _⟩
end
def ve(pk fk wk:Nat)(o1 o2 o5 o6 o7:Option D):Ev:=[J<|.ref pk,o1,o2,J<|.ref fk,J<|.ref wk,o5,o6,o7]
def fl1:Sx:=.s 5 (.meth .pop V4 .n)
def fl2:Sx:=.s 6 (.f "meant_by"<|.w (.ix V5 K0)<|.ix V5 K1)
def fa1:Sx:=.drp (.m "Pen" "take_place" V0 .n)
def fa2:Sx:=.drp (.meth .app V3<|.o<|.f "front_of"<|.o<|.ix V5 K0)
def fa3:Sx:=.s 7 (.f "within"<|.w (.ix V5 K0)<|.ix V5 K1)
def fa4:Sx:=.drp (.meth .ext V4<|.o<|.comp [O "part",O "inner"] [M,J 7] (.rev<|.f "parts_of"<|.o<|.ix V5 K0) (.nm 0) M<|.tupl<|.w V0 V1)
def fb1:Sx:=.drp (.meth .app V4<|.o<|.f "opened"<|.o V6)
def fl3:Sx:=.iff (.x .Is V6<|.cst .non) (.z fa1 fa2 fa3 fa4) (.o fb1)
def ZeQ:Sxs:=.u fl1 fl2 fl3
def ZtG:ZdB=.cons (.set (.nm 3)<|.lstl .nil) (.cons (.set (.nm 4)<|.lstl<|.cons (.tupl<|.cons (.var 1)<|.cons (.var 2) .nil) .nil)<|.cons (.whl (.ex<|.var 4) ZeQ)<|.cons (.ret<|.call (O "built")<|.cons (.var 3) .nil) .nil):=rfl
theorem ZrJ:∀(ds ag),ag.length+ds.length<=1000->ZI [] (.nm 0) (tsto U M) (ev U<|.tupl<|.cons (.var 0)<|.cons (.var 1) .nil) ds [M,J a] ag h=.ok (ag++ds.map λd=>D.tup [d,a]) h
 |[],ag,_=>by simp[ZI,Wk.stays]
 |x::b,ag,c=>by
  have e:=ZrJ (U:=U) (h:=h) (a:=a) b (ag++[.tup [x,a]]) (by simp at c ⊢;lia);have f:ag.length<16777216:=by lia
  rw[ZL];simp[Wk.stays,f,YC];simpa using e
def Zsc(H:Trb P)(n)(t)(ar)(hm:Zdf ar t=M)(lm:Lim mo (u+1))(q:Fi mo h0 h pk fk wk u F (W++[pr (t,ar)]))(hF:F.length<=1000000)(hW:W.length<=1000000)(ha:ar.length<=90000)(o1 o2 o5 o6 o7):∃h' ia cA cz,
 xs2 (P.tbl<|n+2) ZeQ (ve pk fk wk o1 o2 o5 o6 o7) h=.ok (.nx,ve pk fk wk o1 o2 ia cA cz) h'/\Fi mo h0 h' pk fk wk (u+1) (F++[tf t]) (W++(t.parts.reverse.map λs=>pr (s,ZcQ t ar))):=by
 obtain⟨R,j,c⟩:=q.pop;have e:=Zjv H n (h:=R) t ar;rw[hm]at e;obtain⟨k,l,g⟩:=c.take H (n+1) lm;obtain⟨m,o,r⟩:=g.push (tf t) hF;obtain⟨b,v,i⟩:∃b,run P (n+2) (O "within") [t.d,.tup<|ar.map edd] m=.ok (.tup<|(ZcQ t ar).map edd) b/\Fi mo h0 b pk fk wk (u+1) (F++[tf t]) W:=⟨_,ZfL H n t ar<|by lia,r.app⟩
 have A:t.parts.length<=3:=by cases t<;>simp[T.parts]
 obtain⟨x,y,z⟩:=i.ext ((t.parts.map T.d).reverse.map λd=>D.tup [d,.tup<|(ZcQ t ar).map edd]) (by simp;lia);exact⟨x,J<|pr (t,ar),J .non,J<|.tup<|(ZcQ t ar).map edd,(Za<|Zm<|ZbI rfl q.w rfl j).I<|(Za<|Zm<|Zo e rfl).I<|(Za<|(Zk<|Ztv rfl).I<|(Za<|ZK<|ZB rfl c.p rfl rfl l).I<|(Za<|ZK<|ZbI rfl g.f (Zc (Zo (Zsu H (n+1) t k) rfl) rfl) o).I<|(Za<|Zm<|Zo v rfl).I<|(Za<|ZK<|ZbI rfl i.w (Zc (ZkW (ZwI<|Zo (Gn.Zdl H.toTre (n+1) t b) rfl)<|ZrJ (U:=P.tbl<|n+2) (h:=b) (a:=.tup<|(ZcQ t ar).map edd) (t.parts.map T.d).reverse [] (by simp;lia)) rfl) y).I rfl).I rfl,by simpa[pr,List.map_reverse,YX]using z⟩
def Zu7(H:Trb P)(w:Wid P)(n)(t)(ar)(hm:Zdf ar t=M)(q:Fi (.int u) h0 h pk fk wk u F (W++[pr (t,ar)]))(o1 o2 o5 o6 o7):∃h',
 xs2 (P.tbl<|n+2) ZeQ (ve pk fk wk o1 o2 o5 o6 o7) h=.exc (O "Wide") h'/\Fi (.int u) h0 h' pk fk wk u F W:=by
 obtain⟨R,c,a⟩:=q.pop;have b:=Zjv H n (h:=R) t ar;rw[hm]at b;exact⟨R,(Za<|Zm<|ZbI rfl q.w rfl c).I<|(Za<|Zm<|Zo b rfl).I<|ZbU<|(Zk<|Ztv rfl).I<|ZbU<|ZgY<|ZB rfl a.p rfl rfl<|Zhx H w (n+1) a.p,a⟩
def Zsb(H:Trb P)(n)(t)(ar)(hm:Zdf ar t=J v)(q:Fi mo h0 h pk fk wk u F (W++[pr (t,ar)]))(hW:W.length<=1000000)(o1 o2 o5 o6 o7):∃h' ia cA cz,
 xs2 (P.tbl<|n+2) ZeQ (ve pk fk wk o1 o2 o5 o6 o7) h=.ok (.nx,ve pk fk wk o1 o2 ia cA cz) h'/\Fi mo h0 h' pk fk wk u F (W++[pr ((opn v).1,up (opn v).2)]):=by
 obtain⟨R,e,a⟩:=q.pop;have b:=Zjv H n (h:=R) t ar;rw[hm]at b;obtain⟨f,g,i⟩:=a.wait (pr ((opn v).1,up (opn v).2)) hW;have c:=ZpY H (n+1) (h:=R) v;rw[<-Zud]at c;exact⟨f,J<|pr (t,ar),J v.d,o7,(Za<|Zm<|ZbI rfl q.w rfl e).I<|(Za<|Zm<|Zo b rfl).I<|(Za<|(Zg<|Ztw rfl (λz=>by cases v<;>cases z)).I<|(Za<|ZK<|ZbI rfl a.w (Zc (Zo c rfl) rfl) g).I rfl).I rfl,i⟩
end
end Tm
namespace Rw
open PySem L2 IV
mutual
def ThG(N:Nat):Th->Prop
 |.num _=>True
 |.clo E ar=>(∀x,E≠.name x)/\ar.len+2*E.size<=2*N/\ArG N ar
def ArG(N:Nat):Ar->Prop
 |.nil=>True
 |.cons _ v r=>ThG N v/\ArG N r
end
end Rw
namespace Tm
open PySem L2 IV
section
variable {P:Pg}
def ZfV:∀(xs:List Str) (ar:Ar) {x:Str}{V:T},get (xs.map (λy=>(y,M))++ar) x=J V->get ar x=J V:=by intro xs;induction xs<;>simp_all [Ar,get]<;>grind
def ZjA{t s:T}(hs:s∈t.parts):s.size+1<=t.size:=by
 rw[Zb t];have:∀l:List T,s∈l->s.size<=(l.map T.size).sum:=by
  intro l;induction l with
  |nil=>simp
  |cons a r b=>
   intro z;rw[Op,OI];rcases O3.mp z with rfl|z
   . lia
   . lia
 have:=this _ hs
 lia
def Wok(N:Nat)(p:T×En):Prop:=p.2.length+2*p.1.size<=2*N/\∀q∈p.2,∀v,q.2=J v->Rw.ThG N v
def Wok.part{N}(w:Wok N (t,ar))(hs:s∈t.parts):Wok N (s,ZcQ t ar):=by
 have R:=ZjA hs;have b:(bnd t).length<=2:=by cases t<;>simp[bnd]
 have a:=w.1;have:(ZcQ t ar).length=(bnd t).length+ar.length:=by simp[ZcQ]
 refine⟨?_,λq hq v e=>?_⟩
 . simp at a ⊢
   lia
 . rcases OD.mp hq with hq|hq
   . obtain⟨y,_,rfl⟩:=List.mem_map.mp hq;cases e
   . exact w.2 q hq v e
theorem Zxk:∀{ar},Rw.ArG N ar->∀q∈up ar,∀v,q.2=J v->Rw.ThG N v
 |.nil,_,q,hq,_,_=>by trivial
 |.cons x w r,h,q,hq,v,e=>by
  rcases O3.mp hq with rfl|hq
  . cases e;exact h.1
  . exact Zxk h.2 q hq v e
def Wok.thing(hN:1<=N)(h:Rw.ThG N v):Wok N ((opn v).1,up (opn v).2):=by
 cases v with
 |num n=>refine⟨?_,λq a=>by trivial⟩;show 0+2*1<=2*N;lia
 |clo E ar=>refine⟨?_,Zxk h.2.2⟩;have:=h.2.1;rw[Zpp];trivial
def Zrr:∀{e:En},ZgD e x=J v->∃q∈e,q.2=J v:=by intro x;induction x<;>simp_all [En,ZgD]<;>grind
def Wok.mean(w:Wok N (t,e))(h:Zdf e t=J v):Rw.ThG N v:=by
 cases t with
 |name x=>obtain⟨q,a,e⟩:=Zrr<|h;exact w.2 q a v e
 |_=>cases h
def Zqu(h:Rw.ThG N v):Zdf (up (opn v).2) (opn v).1=M:=by
 cases v with
 |num n=>rfl
 |clo E ar=>cases E with
  |name x=>exact absurd rfl (h.1 x)
  |_=>rfl
def tot(W:List (T×En)):Nat:=(W.map λp=>(tel p).size).sum
def Zjo(A B_):tot (A++B_)=tot A+tot B_:=by simp[tot]
def Zjn(p):tot [p]=(tel p).size:=rfl
def Zn6(h:Zdf e t=M):(tel (t,e)).size=1+tot (t.parts.reverse.map λs=>(s,ZcQ t e)):=by rw[Zb,(ZiL h).1];simp[tot,YX]
def com(W:List (T×En)):List D:=(W.reverse.flatMap λp=>(tel p).places).map tf
def ZjW(W)(p):com (W++[p])=(tel p).places.map tf++com W:=by simp[com]
def Zo0(W)(h:Zdf e t=M):com (W++[(t,e)])=tf t::com (W++t.parts.reverse.map λs=>(s,ZcQ t e)):=by obtain⟨R,a⟩:=ZiL h;rw[ZjW,T.places_parts,Op,show tf (tel (t,e))=tf t by unfold tf;rw[a],R];simp[com,List.flatMap_map]
def Bud(P:Pg)(mo:D)(u:Int)(K n:Nat):Prop:=(mo=.non/\n<=K)\/(mo=.int (u+(K:Int))/\(n<=K\/Wid P))
def nb(e:En)(t:T):Nat:=match Zdf e t with
 |some _=>1
 |none=>0
def nbs(W:List (T×En)):Nat:=match W.getLast? with
 |some p=>nb p.2 p.1
 |none=>0
def Zyr(e)(t):nb e t<=1:=by unfold nb;split<;>lia
def ZqI(W):nbs W<=1:=by unfold nbs;split;exact Zyr _ _;lia
def Znk(W)(p):nbs (W++[p])=nb p.2 p.1:=by simp[nbs]
def Old(h0 h:Hd)(pk:Nat):Prop:=h0.length<=h.length/\∀i,i<h0.length->i≠pk->h[i]?=h0[i]?
inductive Fld(P:Pg)(n:Nat)(mo:D)(h0:Hd)(pk fk wk:Nat)(o1 o2:Option D)(u:Int)(F:List D)(W:List (T×En))(K:Nat):qe (Fl×Ev)->Prop
 |ok {h':Hd}{o5 o6 o7:Option D} (le:tot W<=K) (q:Fi mo h0 h' pk fk wk (u+(tot W:Int)) (F++com W) []):Fld P n mo h0 pk fk wk o1 o2 u F W K (.ok (.nx,ve pk fk wk o1 o2 o5 o6 o7) h')
 |ex {h':Hd} (lt:K<tot W) (q:Old h0 h' pk):Fld P n mo h0 pk fk wk o1 o2 u F W K (.exc (O "Wide") h')
theorem Zl6(H:Trb P)(n)(hN:1<=N)(bX:N<=45000):∀ (fuel) (W) (F) (u) (h) (o5 o6 o7) (K:Nat),Bud P mo u K (tot W)->2*K+1+nbs W<=fuel->F.length+K<=400000->W.length+3*K<=1000000->(∀ p∈W,Wok N p)->Fi mo h0 h pk fk wk u F (W.map pr) ->
   Fld P n mo h0 pk fk wk o1 o2 u F W K (ZH (tst (P.tbl<|n+2)<|.ex<|.var 4) (xs2 (P.tbl<|n+2) ZeQ) fuel (ve pk fk wk o1 o2 o5 o6 o7) h)
 |0,W,F,u,h,o5,o6,o7,K,_,hf,_,_,_,_=>by lia
 |fuel+1,W,F,u,h,o5,o6,o7,K,bu,hf,hz,hw,ok,q=>by
   rcases List.eq_nil_or_concat W with rfl|⟨V,p,rfl⟩
   . rw [Zdj<|Ze9 rfl q.w];exact .ok (Yy _) (by simpa [com,tot] using q)
   . obtain⟨t,ar⟩:=p;rw [List.concat_eq_append] at bu hf hw ok q ⊢;have q':Fi mo h0 h pk fk wk u F (V.map pr++[pr (t,ar)]):=by simpa using q
     have hW:=ok (t,ar) (by simp);have gz:∀ p∈V,Wok N p:=λp hp=>ok p (by simp [hp]);rw [Znk] at hf;simp only at hf;rw [OA,List.length_singleton] at hw;have hV:(V.map pr).length<=1000000:=by rw [Yu];lia
     have tt:=Zh (Ze9 (U:=P.tbl<|n+2) (S:=ve pk fk wk o1 o2 o5 o6 o7) (e:=.var 4) rfl q'.w) (c:=true) (by simp);have e1:tot (V++[(t,ar)])=tot V+(tel (t,ar)).size:=by rw [Zjo,Zjn]
     cases hm:Zdf ar t with
     |none =>
       have t1:=Zn6 hm;rw [show nb ar t=0 by unfold nb;rw [hm]] at hf;cases K with
       |zero =>
         rcases bu with⟨_,z⟩|⟨rfl,z⟩
         . lia
         . rcases z with z|z
           . lia
           . obtain⟨R,x,q1⟩:=Zu7 H z n t ar hm (by simpa using q') o1 o2 o5 o6 o7;rw [Zjm tt x];exact .ex (by lia) ⟨q1.ol,q1.old⟩
       |succ K =>
         obtain⟨R,h9,hZ,hJ,x,q1⟩:=Zsc H n t ar hm (by
           rcases bu with⟨e,_⟩|⟨e,_⟩
           . exact .inl e
           . exact .inr ⟨_,e,by lia⟩) q' (by lia) hV (by have:=hW.1;simp only at this;lia) o1 o2 o5 o6 o7
         rw [Zbz tt x];have e2:tot (V++t.parts.reverse.map λs=>(s,ZcQ t ar))=tot V+tot (t.parts.reverse.map λs=>(s,ZcQ t ar)):=Zjo _ _;have hp:t.parts.length<=3:=by cases t<;>simp [T.parts]
         have nl:=ZqI<|V++t.parts.reverse.map λs=>(s,ZcQ t ar);have ih:=Zl6 H n hN bX (o1:=o1) (o2:=o2) fuel (V++t.parts.reverse.map λs=>(s,ZcQ t ar)) (F++[tf t]) (u+1) R h9 hZ hJ K (by
           rcases bu with⟨e,z⟩|⟨e,z⟩
           . exact .inl ⟨e,by lia⟩
           . exact .inr ⟨by rw [e];congr 1;lia,z.imp (λz=>by lia) id⟩) (by lia) (by rw [OA,List.length_singleton];lia) (by rw [OA,Yu,List.length_reverse];lia) (λp hp=>by
           rcases OD.mp hp with hp|hp
           . exact gz p hp
           . obtain⟨s,hs,rfl⟩:=List.mem_map.mp hp;exact hW.part<|by simpa using hs) (by simpa [List.map_map,YX] using q1)
         generalize ZH _ _ _ _ _=r at ih ⊢;cases ih with
         |ok le q =>
           refine .ok (by lia) ?_;rw [Zo0 V hm,show u+((tot (V++[(t,ar)]):Nat):Int)=u+1+((tot (V++t.parts.reverse.map λs=>(s,ZcQ t ar)):Nat):Int) by rw [e1,e2,t1];lia];simpa using q
         |ex lt q=>exact .ex (by lia) q
     |some v =>
       rw [show nb ar t=1 by unfold nb;rw [hm]] at hf;have g:=hW.mean hm;have s1:(tel (t,ar)).size=(tel ((opn v).1,up (opn v).2)).size:=by rw [Zic hm,ZmU]
       have e2:tot (V++[((opn v).1,up (opn v).2)])=tot (V++[(t,ar)]):=by rw [e1,Zjo,Zjn,s1]
       obtain⟨R,h9,hZ,hJ,x,q1⟩:=Zsb H n t ar hm q' hV o1 o2 o5 o6 o7;rw [Zbz tt x];have ih:=Zl6 H n hN bX (o1:=o1) (o2:=o2) fuel (V++[((opn v).1,up (opn v).2)]) F u R h9 hZ hJ K (by rw [e2];exact bu) (by rw [Znk];unfold nb;rw [Zqu g];simp only;lia) hz (by rw [OA,List.length_singleton];lia) (λp hp=>by
         rcases OD.mp hp with hp|hp
         . exact gz p hp
         . rw [Ox.mp hp];exact Wok.thing hN g) (by simpa using q1)
       have e3:com (V++[((opn v).1,up (opn v).2)])=com (V++[(t,ar)]):=by rw [ZjW,ZjW,Zic hm,ZmU]
       generalize ZH _ _ _ _ _=r at ih ⊢;cases ih with
       |ok le q =>
         rw [e2,e3] at q;exact .ok (by lia) q
       |ex lt q=>exact .ex (by lia) q
theorem grown{h0 h:Hd}(hl:h0.length<=h.length)(old:∀ i,i<h0.length->h[i]?=h0[i]?):∃ g,h=h0++g:=⟨h.drop h0.length,by
 apply List.ext_getElem?;intro i;rcases Nat.lt_or_ge i h0.length with q|q
 . rw [old i q,Oe q]
 . rw [Om q]
   simp_all⟩
def Aft(h0 h:Hd)(pk:Nat)(mo:D)(u:Int):Prop:=h[pk]?=J (Zaq mo u)/\h0.length<=h.length/\∀i,i<h0.length->i≠pk->h[i]?=h0[i]?
inductive Out(h0:Hd)(pk:Nat)(mo:D)(t:T)(u:Int)(K:Nat):qe D->Prop
 |ok {h':Hd} (le:t.size<=K) (a:Aft h0 h' pk mo (u+(t.size:Int))):Out h0 pk mo t u K (.ok t.d h')
 |ex {h':Hd} (lt:K<t.size) (a:Old h0 h' pk):Out h0 pk mo t u K (.exc (O "Wide") h')
def Zvt(H:Trb P)(n)(hN:1<=N)(bX:N<=45000)(t)(e)(a:Aft h0 h pk mo u)(bu:Bud P mo u K (tel (t,e)).size)(hK:K<=300000)(hw:Wok N (t,e)):
 Out h0 pk mo (tel (t,e)) u K (run P (n+3) (mnm (O "Pen")<|O "filled") [.ref pk,t.d,.tup<|e.map edd] h):=by
 obtain⟨b,A,c⟩:=a;rw[Zz H.n_Pen_filled H.Pen_filled<|by rfl];have B:Fi mo h0 (h++[.lst [],.lst<|[(t,e)].map pr]) pk h.length (h.length+1) u [] ([(t,e)].map pr):=⟨keep b,by simp,by simp,by lia,A,by lia,by simp;lia,λi C D=>by rw[Oe<|by lia];exact c i C D⟩
 have j:=Zjn (t,e);have big:=H.big;have T:=ZqI [(t,e)];have x:=Zl6 H n hN bX (o1:=J t.d) (o2:=J<|.tup<|e.map edd) P.L [(t,e)] [] u _ M M M K (by rw[j];exact bu) (by lia) (by simp only[List.length_nil];lia) (by simp only[Os,List.length_nil];lia) (λp b=>by rw[Ox.mp b];exact hw) B;have E:xs1 (P.tbl<|n+2) (.set (.nm 3)<|.lstl .nil) [J<|.ref pk,J t.d,J<|.tup<|e.map edd,M,M,M,M,M] h=.ok (.nx,[J<|.ref pk,J t.d,J<|.tup<|e.map edd,J<|.ref h.length,M,M,M,M]) (h++[.lst []]):=Zm (Zfq rfl<|by decide);have F:xs1 (P.tbl<|n+2) (.set (.nm 4)<|.lstl<|.cons (.tupl<|.cons (.var 1)<|.cons (.var 2) .nil) .nil) [J<|.ref pk,J t.d,J<|.tup<|e.map edd,J<|.ref h.length,M,M,M,M] (h++[.lst []])=.ok (.nx,[J<|.ref pk,J t.d,J<|.tup<|e.map edd,J<|.ref h.length,J<|.ref<|h.length+1,M,M,M]) (h++[.lst [],.lst<|[(t,e)].map pr]):=by have:=Zm (U:=P.tbl<|n+2) (i:=4) (Zfq (S:=[J<|.ref pk,J t.d,J<|.tup<|e.map edd,J<|.ref h.length,M,M,M,M]) (h:=h++[.lst []]) (es:=.cons (.tupl<|.cons (.var 1)<|.cons (.var 2) .nil) .nil) (Zc (Z6 (Zc rfl<|Zc rfl rfl)<|by simp) rfl)<|by simp);simpa[pr]using this
 have k:∀y,Fld P n mo h0 pk h.length (h.length+1) (J t.d) (J<|.tup<|e.map edd) u [] [(t,e)] K y->xs1 (P.tbl<|n+2) (.whl (.ex<|.var 4) ZeQ) [J<|.ref pk,J t.d,J<|.tup<|e.map edd,J<|.ref h.length,J<|.ref<|h.length+1,M,M,M] (h++[.lst [],.lst<|[(t,e)].map pr])=y->Out h0 pk mo (tel (t,e)) u K (Zf<|xs2 (P.tbl<|n+2) ZdB [J<|.ref pk,J t.d,J<|.tup<|e.map edd,M,M,M,M,M] h):=by
  intro y x z;rw[ZtG,Za E,Za F];cases x with
  |ex lt q=>rw[ZbU z];exact .ex (by rw[j]at lt;exact lt) q
  |@ok R o r s le l=>
   have v:=l.f;have G:com [(t,e)]=(tel (t,e)).places.map tf:=by simp[com]
   rw[G,OB]at v;rw[j]at le l;obtain⟨w,I⟩:=Zsw H n (tel (t,e)) v (by lia);have m:=l.app (g:=w);have Q:xs1 (P.tbl<|n+2) (.ret<|.call (O "built")<|.cons (.var 3) .nil) (ve pk h.length (h.length+1) (J t.d) (J<|.tup<|e.map edd) o r s) R=.ok (.rt (tel (t,e)).d,ve pk h.length (h.length+1) (J t.d) (J<|.tup<|e.map edd) o r s) (R++w):=Zn<|Zo I rfl;rw[Za z,Zd Q];exact .ok le ⟨m.p,m.ol,m.old⟩
 exact k _ x rfl
noncomputable abbrev Fil:=List (Str×T)
noncomputable def Fil.ar(f:Fil):Ar:=f.map λp=>(p.1,J p.2)
noncomputable def fen(f:Fil):En:=f.map λp=>(p.1,J<|Rw.Th.clo p.2 .nil)
def ZtH(f):f.ar.map ard=(fen f).map edd:=by simp[Fil.ar,fen,ard,edd,thd,Rw.thD,Rw.Th.d,Rw.Ar.ds,YX]
def ZwQ(f):er (fen f)=f.ar:=by simp[er,fen,Fil.ar,Rw.rd,Rw.ra,Zcb _<|show NN []from λ_=>rfl,YX]
noncomputable def Fil.kv(f:Fil):List (Key×D):=f.map λp=>(.inr p.1,p.2.d)
theorem ZmQ:∀{f:Fil}{x}{V},(f.map (·.1)).Nodup->(x,V)∈f->Zao f.kv (.inr x)=J V.d
 |(y,W)::r,x,V,a,hm=>by
  rw[Op,List.nodup_cons]at a;unfold Zao Fil.kv;rw[Op,List.find?_cons];rcases O3.mp hm with e|hm
  . simp_all
  . have:¬ (YE y:Key)=YE x:=λz=>(λz=>a.1 (by rw[z];exact List.mem_map.mpr ⟨(x,V),hm,rfl⟩)) (Sum.inr.inj z)
    simp only[this,decide_false];exact ZmQ a.2 hm
def fe1:Ex:=.tupl (.w V0<|.tupl<|.u (.Ci_ "clo") (.ix V1 V0)<|.tupl .n)
theorem ZuK{U}{f:Fil}(nd:(f.map (·.1)).Nodup)(hd:h[dk]?=J (.fdic f.kv)):∀(r:Fil) (ag),(∀p∈r,p∈f)->ag.length+r.length<=1000 ->
 ZI [] (.nm 0) (tsto U M) (ev U fe1) (r.map λp=>D.str p.1) [M,J<|.ref dk] ag h=.ok (ag++r.ar.map ard) h
 |[],ag,_,_=>by simp[ZI,Wk.stays,Fil.ar]
 |(x,V)::r,ag,hm,a=>by
  have b:ag.length<16777216:=by lia
  have c:ZaQ U.GD (.ref dk) (.str x) h=.ok V.d h:=by simp[ZaQ,dicOf,hd,ZmQ nd<|hm (x,V) Oi]
  have e:ev U fe1 [J<|.str x,J<|.ref dk] h=.ok (ard (x,J V)) h:=by simp[fe1,c,YC,ard,thd]
  rw[Op,ZL];simp[Wk.stays,b,YC,e];simpa[Fil.ar]using ZuK (U:=U) nd hd r (ag++[ard (x,J V)]) (λp g=>hm p<|Oh _ g) (by simp at a ⊢;lia)
theorem Zvp (H:Trb P) (kL:P.tb.lookup (O "put_in")=J Zh0) (n) (t) (f:Fil) {h} (nd:(f.map (·.1)).Nodup) (hf:f.length<=100) (hd:h[dk]?=J (.dic f.kv)) {N} (hN:1<=N) (bX:N<=45000) (hw:Wok N (t,fen f)) (hz:(sub f.ar t).size<=300000) :
   ∃ g,run P (n+4) (O "put_in") [t.d,.ref dk] h=.ok (sub f.ar t).d (h.set dk (.fdic f.kv)++g):=by
 rw [Ze kL<|by rfl];generalize c:h.set dk (.fdic f.kv)=R;have w:R[dk]?=J (.fdic f.kv):=by rw [<-c,Ol<|ZM hd]
 have l1:R.length=h.length:=by rw [<-c];simp
 have x:(f.kv.map λp=>Zq6 p.1)=f.map λp=>D.str p.1:=by simp [Fil.kv,Zq6,YX]
 have m:xs1 (P.tbl<|n+3) Zdz [J t.d,J<|.ref dk,M] h=.ok (.nx,[J t.d,J<|.ref dk,J<|.tup<|f.ar.map ard]) (R++[.lst<|f.ar.map ard]):=by
   have y:evi (P.tbl<|n+3) (.dk<|.var 1) [J t.d,J<|.ref dk,M] h=.ok ⟨[],f.map λp=>D.str p.1⟩ R:=by
     show Zri (.ref dk) h=_;simp [Zri,hd,c,x]
   have q:ev (P.tbl<|n+3) (.comp [O "name",O "filling"] [M,J 1] (.dk<|.var 1) (.nm 0) M fe1) [J t.d,J<|.ref dk,M] h=.ok (.ref R.length) (R++[.lst<|f.ar.map ard]):=by
     rw [ZjU,y,ZA];simp only [ZbY,Op,Oy,Option.bind_none,Yz];rw [show ([J t.d,J<|D.ref dk,M][1]?).join=J (.ref dk) from rfl,ZuK (U:=P.tbl<|n+3) nd w f [] (λp z=>z) (by simp;lia)];rfl
   unfold fe1 at q;simp [-ZjU,Zdz,q,Zb6,ZmH,lstOf]
 generalize j:R++[DO.lst<|f.ar.map ard]=b at m;have l2:b.length=h.length+1:=by rw [<-j];simp [l1]
 have s:tel (t,fen f)=sub f.ar t:=by show sub (er<|fen f) t=_;rw [ZwQ]
 have o:=Zvt H n hN bX t (fen f) (mo:=.non) (h0:=R) (h:=b++[Zaq .non 0]) (pk:=b.length) (u:=0) (K:=(sub f.ar t).size) ⟨by simp,by simp;lia,λi k _=>λi k=>by
   rw [Oe<|by lia,<-j,Oe k] i k⟩ (.inl ⟨rfl,by rw [s];exact Oq _⟩) hz hw
 rw [s,<-ZtH] at o;obtain⟨l,e,v⟩:∃ l,run P (n+3) (mnm (O "Pen")<|O "filled") [.ref b.length,t.d,.tup<|f.ar.map ard] (b++[Zaq .non 0])=.ok (sub f.ar t).d l/\Aft R l b.length .non (0+((sub f.ar t).size:Int)):=by
   generalize run P (n+3) _ _ _=r at o;cases o with
   |ok le a=>exact⟨_,rfl,a⟩
   |ex lt a=>lia
 obtain⟨g,rfl⟩:=grown v.2.1 (λi k=>v.2.2 i k<|by lia);refine⟨g,?_⟩;have A:Z8 (.ref b.length) (b++[Zaq .non 0])=J (O "Pen",[(O "most",.non),(O "used",.int 0)]):=by simp [Z8,Zaq]
 have B:xs1 (P.tbl<|n+3) Zdy [J t.d,J<|.ref dk,J<|.tup<|f.ar.map ard] b=.ok (.rt (sub f.ar t).d,[J t.d,J<|.ref dk,J<|.tup<|f.ar.map ard]) (R++g):=by
   simp [Zdy,Pg.tbl,Zus H (n+2) .non b,A,Wh,e]
 show Zf (xs2 (P.tbl<|n+3) (.cons Zdz<|.cons Zdy .nil) [J t.d,J<|.ref dk,M] h)=_;rw [Za m,Zd B];rfl
def Zur(H:Trm P)(n)(t)(f:Fil){h0 h}(nd:(f.map (·.1)).Nodup)(hf:f.length<=100)(hd:h[dk]?=J (.dic f.kv))(ho:h0.length<=dk)(hl:h0.length<=h.length)(old:∀i,i<h0.length->h[i]?=h0[i]?){N}(hN:1<=N)(bX:N<=45000)(hw:Wok N (t,fen f))(hz:(sub f.ar t).size<=300000):
 ∃g,run P (n+4) (O "put_in") [t.d,.ref dk] h=.ok (sub f.ar t).d (h0++g):=by
 obtain⟨g,e⟩:=Zvp H.toTrb H.put_in n t f nd hf hd hN bX hw hz;obtain⟨a,c⟩:=grown (h0:=h0) (h:=h.set dk (.fdic f.kv)++g) (by simp;lia) λi b=>by rw[Oe (by simp;lia),Oc<|by lia];exact old i b
 exact⟨a,by simp_all⟩
end
section
variable {P:Pg}{h:Hd}
noncomputable def isV:T->Bool
 |.num _|.fn _ _|.rcc _ _ _=>Wr
 |_=>Ws
def pf:T->List T
 |.iff c _ _=>[c]
 |t=>t.parts
def ZhT:Nat->List T->Option Nat
 |_,[]=>M
 |k,t::r=>if isV t then ZhT (k+1) r else J k
def fo(t:T):Option Nat:=ZhT 1 (pf t)
noncomputable def oN:Option Nat->D
 |some k=>.int (k:Int)
 |none=>.non
def Zut(H:Trm P)(n)(t):run P (n+1) (O "is_value") [t.d] h=.ok (.bl<|isV t) h:=by
 rw[Ze H.is_value<|rfl];refine Zy7 (λU=>Zf<|xs2 U Zdu.body (Zx Zdu.N [t.d]) h) H.gv ?_ ?_
 . trivial
 . cases t with
   |op w a b=>cases w<;>exact rfl
   |_=>trivial
def ZzN(H:Trm P)(n)(t):run P (n+2) (O "parts_first") [t.d] h=.ok (.tup<|(pf t).map T.d) h:=by
 rw[Ze H.parts_first (by cases t<;>rfl)];have e:=Gn.Zdl H.toTre n t h;cases t with
 |iff c a b=>exact rfl
 |op w a b=>exact Zik (U:=P.tbl<|n+1) (λU=>Zf<|xs2 U Zai.body (Zx Zai.N [(T.op w a b).d]) h) e (by cases w<;>rfl) (by cases w<;>rfl)
 |_=>exact Zik (U:=P.tbl<|n+1) (λU=>Zf<|xs2 U Zai.body (Zx Zai.N [T.d _]) h) e rfl rfl
def ZiW:Sxs:=.o (.iff (.nt<|.ex<|.f "is_value"<|.o V2) (.o<|.ret V1) .n)
noncomputable def cnt(k:Nat):List T->List D
 |[]=>[]
 |t::r=>.tup [.int ((k+1:Nat):Int),t.d]::cnt (k+1) r
def ZrC:∀(ts:List T) (k:Nat),((ts.map T.d).mapIdx λi x=>D.tup [.int<|(k+i+1:Nat),x])=cnt k ts:=by intro k;induction k<;>simp_all [cnt,IV.T.d]<;>grind
theorem ZyG(H:Trm P)(n):∀(ts) (k) (a b),(∃S,ZG [] (.two 1 2) (xs2 (P.tbl<|n+1) ZiW) (cnt k ts) [J E,a,b] h=.ok (.rt<|oN<|ZhT (k+1) ts,S) h)\/(ZhT (k+1) ts=M/\∃S,ZG [] (.two 1 2) (xs2 (P.tbl<|n+1) ZiW) (cnt k ts) [J E,a,b] h=.ok (.nx,S) h)
 |[],k,a,b=>.inr ⟨rfl,_,rfl⟩
 |t::r,k,a,b=>by
  have ev:=Zut H n (h:=h) t;rw[cnt,Zca];cases c:isV t with
  |false=>refine .inl ⟨[J E,J<|.int<|k+1,J t.d],?_⟩;simp[ZiW,Pg.tbl,ev,ZhT,c,oN]
  |true=>
   rw[c]at ev;have x:xs2 (P.tbl<|n+1) ZiW [J E,J<|.int (k+1:Nat),J t.d] h=.ok (.nx,[J E,J<|.int<|k+1,J t.d]) h:=by simp[ZiW,Pg.tbl,ev]
   have e:=ZyG H n (E:=E) r (k+1) (J<|.int<|k+1)<|J t.d;simp only[Zla,List.set_cons_zero,List.set_cons_succ,x,ZhT,c];trivial
theorem ZxT (H:Trm P) (n:Nat) (t:T):run P (n+3) (O "first_open") [t.d] h=.ok (oN<|fo t) h:=by
 rw [Ze H.first_open (by cases t<;>rfl)];have a:evi (P.tbl<|n+2) (.en1<|.call (O "parts_first")<|.cons (.var 0) .nil) [J t.d,M,M] h=.ok ⟨[],cnt 0<|pf t⟩ h:=by
   have b:ev (P.tbl<|n+2) (.call (O "parts_first")<|.cons (.var 0) .nil) [J t.d,M,M] h=.ok (.tup<|(pf t).map T.d) h:=ZzN H n (h:=h) t;rw [ZtK,b,ZA];have:=ZrC (pf t) 0;simp only [Nat.zero_add] at this;simp only [Zfs,this]
 show Zf (xs2 (P.tbl<|n+2) (.cons (.forr (.two 1 2) (.en1<|.call (O "parts_first")<|.cons (.var 0) .nil) ZiW)<|.cons (.ret<|.cst .non) .nil) [J t.d,M,M] h)=_;rcases ZyG H (n+1) (E:=t.d) (h:=h) (pf t) 0 M M with⟨S,q⟩|⟨c,S,q⟩
 . rw [Zd (by
     rw [Zkh,a,ZA];exact q)]
   rfl
 . rw [Za (by
     rw [Zkh,a,ZA];exact q)]
   have:fo t=M:=c;rw [this];rfl
def pth:T->List (T×Nat)
 |.call f a=>if isV f then(if isV a then []else(.call f a,2)::pth a)else(.call f a,1)::pth f
 |.op w f a=>if isV f then(if isV a then []else(.op w f a,2)::pth a)else(.op w f a,1)::pth f
 |.iff c t e=>if isV c then []else(.iff c t e,1)::pth c
 |_=>[]
def bot:T->T
 |.call f a=>if isV f then(if isV a then .call f a else bot a)else bot f
 |.op w f a=>if isV f then(if isV a then .op w f a else bot a)else bot f
 |.iff c t e=>if isV c then .iff c t e else bot c
 |t=>t
def Zct(t:T):List D:=(pth t).map (λp=>D.tup [p.1.d,.int (p.2:Int)])++[.tup [(bot t).d,.non]]
def Zr0(t:T)(nv:isV t=Ws)(nn:∀x,t≠.name x):(fo t=M/\pth t=[]/\bot t=t)\/∃k s,fo t=J k/\pth t=(t,k)::pth s/\bot t=bot s/\isV s=Ws/\s∈t.parts/\(∀GD,ZaQ GD t.d (.int<|k) h=.ok s.d h):=by
 cases t with
 |num _=>cases nv
 |fn _ _=>cases nv
 |rcc _ _ _=>cases nv
 |name x=>exact absurd rfl (nn x)
 |call f a|op w f a=>
  cases hf:isV f with
  |false=>exact .inr ⟨1,f,by simp[fo,pf,T.parts,ZhT,hf],by simp[pth,hf],by simp[bot,hf],hf,by simp[T.parts],λGD=>by simp[T.d]⟩
  |true=>
   cases ha:isV a with
   |false=>exact .inr ⟨2,a,by simp[fo,pf,T.parts,ZhT,hf,ha],by simp[pth,hf,ha],by simp[bot,hf,ha],ha,by simp[T.parts],λGD=>by simp[T.d]⟩
   |true=>exact .inl ⟨by simp[fo,pf,T.parts,ZhT,hf,ha],by simp[pth,hf,ha],by simp[bot,hf,ha]⟩
 |iff c a b=>
  cases hf:isV c with
  |false=>exact .inr ⟨1,c,by simp[fo,pf,ZhT,hf],by simp[pth,hf],by simp[bot,hf],hf,by simp[T.parts],λGD=>by simp[T.d]⟩
  |true=>exact .inl ⟨by simp[fo,pf,ZhT,hf],by simp[pth,hf],by simp[bot,hf]⟩
def ZqY{a:D}:atI (l++[a]) (-1)=J a:=Zdi
def Zmk:cutD (l++[a]) M (J<|-1)=l:=by
 have e:HT.sIx (l++[a]).length (l++[a]).length (J<|-1)=l.length:=by simp[HT.sIx];lia
 have b:HT.sIx (l++[a]).length 0 M=0:=rfl;unfold cutD;rw[e,b];simp
def ZtS(c:Gn.Cl [] t)(nv:isV t=Ws)(hs:s∈t.parts):Gn.Cl [] s:=by
 cases t with
 |num _=>cases nv
 |fn _ _=>cases nv
 |rcc _ _ _=>cases nv
 |name _=>cases hs
 |call f a|op w f a=>simp[T.parts]at hs;rcases hs with rfl|rfl;exact c.1;exact c.2
 |iff f a b=>simp[T.parts]at hs;rcases hs with rfl|rfl|rfl;exact c.1;exact c.2.1;exact c.2.2
def Zy4(c:Gn.Cl [] t):∀x,t≠.name x:=λx e=>by subst e;cases c
def wd(t:T):D:=.tup [t.d,oN<|fo t]
def wc:Tx:=.x .IsNot (.ix (.ix V1<|.neg K1) K1) (.cst .non)
def ZqQ:Sxs:=.w (.s 2<|.ix (.ix (.ix V1<|.neg K1) K0)<|.ix (.ix V1<|.neg K1) K1) (.drp<|.meth .app V1<|.o<|.tupl<|.w V2<|.f "first_open"<|.o V2)
theorem Zux(H:Trm P)(n):∀(fuel) (t) (A) (o2),t.size<=fuel->A.length+t.size<=1000000->Gn.Cl [] t->isV t=Ws->∃fA,
 ZH (tst (P.tbl<|n+3) wc) (xs2 (P.tbl<|n+3) ZqQ) fuel [J E,J<|.ref h.length,o2] (h++[.lst<|A++[wd t]])=.ok (.nx,[J E,J<|.ref h.length,fA]) (h++[.lst<|A++Zct t])
 |0,t,A,o2,l,_,_,_=>by have:=Zi t;lia
 |fuel+1,t,A,o2,l,o,c,g=>by
  have a:ev (P.tbl<|n+3) (.ix (.ix (.var 1)<|.neg<|.ci 1)<|.ci 1) [J E,J<|.ref h.length,o2] (h++[.lst<|A++[wd t]])=.ok (oN<|fo t) (h++[.lst<|A++[wd t]]):=(Zj ((Zj rfl rfl).I (by rw[ZC Zay,ZqY];rfl)) rfl).I rfl;rcases Zr0 (h:=h++[.lst<|A++[wd t]]) t g (Zy4 c)with⟨R,b,f⟩|⟨k,s,R,b,f,m,i,h6⟩
  . refine⟨o2,(Zdj<|Zh (Zrb a) (by rw[R];simp[oN])).I ?_⟩;simp[Zct,b,f,wd,R,oN]
  . have p:=ZjA i;obtain⟨fA,e⟩:=Zux H n (E:=E) fuel s (A++[wd t]) (J s.d) (by lia) (by simp;lia) (ZtS c g i) m;rw[R]at a;have j:=ZW (d:=wd s) (Zay (h:=h) (x:=.lst<|A++[wd t]) (r:=[])) (by rw[YC];simp;lia);rw[ZhC]at j;refine⟨fA,(Zbz (Zh (Zrb a)<|by simp[oN])<|(Za<|Zm<|(Zj ((Zj ((Zj rfl rfl).I (by rw[ZC Zay,ZqY];rfl)) rfl).I rfl) a).I<|h6 P.GD).I<|(Za<|ZK<|ZbI rfl Zay (Zc (Z6 (Zc rfl<|Zc (Zo (ZxT H n s) rfl) rfl)<|by simp) rfl) j).I rfl).I<|Eq.I e ?_⟩;simp[Zct,b,f,wd,R,oN]
def ZxP(H:Trm P)(n)(t)(c:Gn.Cl [] t)(nv:isV t=Ws)(hz:t.size<=100000):run P (n+4) (O "way_down") [t.d] h=.ok (.ref h.length) (h++[.lst<|Zct t]):=by rw[Ze H.way_down<|rfl];have big:=H.big;obtain⟨a,e⟩:=Zux H n P.L t [] M (by lia) (by simp;lia) c nv;have w:xs2 (P.tbl<|n+3) Zim [J t.d,M,M] h=.ok (.rt<|.ref h.length,[J t.d,J<|.ref h.length,a]) (h++[.lst<|[]++Zct t]):=(Za<|Zm<|Zfq (Zc (Z6 (Zc rfl<|Zc (Zo (ZxT H n t) rfl) rfl)<|by simp) rfl)<|by simp).I<|(Za (s:=.whl wc ZqQ) e).I<|Zd<|Zn rfl;exact congrArg Zf w
noncomputable def ZdJ:T->Nat->T->T
 |.call _ a,1,u=>.call u a
 |.call f _,2,u=>.call f u
 |.op w _ a,1,u=>.op w u a
 |.op w f _,2,u=>.op w f u
 |.iff _ t e,1,u=>.iff u t e
 |s,_,_=>s
def ZbR:List (T×Nat)->T->T
 |[],u=>u
 |(s,k)::r,u=>ZdJ s k (ZbR r u)
def p1c:ZdJ (.call f a) 1 u=.call u a:=rfl
def p2c:ZdJ (.call f a) 2 u=.call f u:=rfl
def p1o:ZdJ (.op w f a) 1 u=.op w u a:=rfl
def p2o:ZdJ (.op w f a) 2 u=.op w f u:=rfl
def p1i:ZdJ (.iff c t e) 1 u=.iff u t e:=rfl
inductive Vp:T×Nat->Prop
 |c1 {f a:T}:Vp (.call f a,1)
 |c2 {f a:T}:Vp (.call f a,2)
 |o1 {w:Wd}{f a:T}:Vp (.op w f a,1)
 |o2 {w:Wd}{f a:T}:Vp (.op w f a,2)
 |i1 {c t e:T}:Vp (.iff c t e,1)
theorem Zgr:∀t ,∀p∈pth t,Vp p
 |.num _,p,hp=>by trivial
 |.name _,p,hp=>by trivial
 |.fn _ _,p,hp=>by trivial
 |.rcc _ _ _,p,hp=>by trivial
 |.call f a,p,hp=>by
  simp[pth]at hp;split at hp
  . split at hp
    . trivial
    . rcases O3.mp hp with rfl|hp
      . exact .c2
      . exact Zgr a p hp
  . rcases O3.mp hp with rfl|hp
    . exact .c1
    . exact Zgr f p hp
 |.op w f a,p,hp=>by
  simp[pth]at hp;split at hp
  . split at hp
    . trivial
    . rcases O3.mp hp with rfl|hp
      . exact .o2
      . exact Zgr a p hp
  . rcases O3.mp hp with rfl|hp
    . exact .o1
    . exact Zgr f p hp
 |.iff c t e,p,hp=>by
  simp only[pth]at hp;split at hp
  . cases hp
  . rcases O3.mp hp with rfl|hp
    . exact .i1
    . exact Zgr c p hp
noncomputable def pd(p:T×Nat):D:=.tup [p.1.d,.int (p.2:Int)]
def lb1:Sx:=.s 2 (.bin .Add (.bin .Add (.sl V3 M<|J V4)<|.tupl<|.o V2)<|.sl V3 (J<|.bin .Add V4 K1) M)
def ZfT:Sxs:=.o lb1
def Zu8(p:T×Nat)(v:Vp p)(u:T):xs2 U ZfT [J a,J b,J u.d,J p.1.d,J<|.int<|p.2] h=.ok (.nx,[J a,J b,J (ZdJ p.1 p.2 u).d,J p.1.d,J<|.int<|p.2]) h:=by
 have o:∀(xs c:List D),xs.length+c.length<=10->opB .Add (.tup xs) (.tup c) h=.ok (.tup<|xs++c) h:=λxs c q=>Za0 (by rw[YC];lia);have go:∀r,xs1 U lb1 [J a,J b,J u.d,J p.1.d,J<|.int<|p.2] h=.ok (.nx,[J a,J b,J r,J p.1.d,J<|.int<|p.2]) h->xs2 U ZfT [J a,J b,J u.d,J p.1.d,J<|.int<|p.2] h=.ok (.nx,[J a,J b,J r,J p.1.d,J<|.int<|p.2]) h:=λr e=>by rw[ZfT,Za e];rfl
 cases v with
 |c1|c2|o1|o2|i1=>exact go _ rfl
theorem Zq3(hw:h[wk]?=J (.lst L)):∀(ps) (rest) (u) (o3 o4),(∀p∈ps,Vp p)->∃eN km,
 ZG [(wk,L)] (.two 3 4) (xs2 U ZfT) ((ps.map pd).reverse++rest) [J a,J b,J u.d,o3,o4] h=ZG [(wk,L)] (.two 3 4) (xs2 U ZfT) rest [J a,J b,J (ZbR ps u).d,eN,km] h
 |[],rest,u,o3,o4,_=>⟨o3,o4,rfl⟩
 |p::ps,rest,u,o3,o4,v=>by obtain⟨f,g,e⟩:=Zq3 hw ps (pd p::rest) u o3 o4<|λq c=>v q<|Oh _ c;refine⟨J p.1.d,J<|.int p.2,?_⟩;rw[Op,List.reverse_cons,Oz,List.cons_append,OB,e];exact ZfY hw rfl (Zu8 p (v p Oi)<|ZbR ps u)
def ZlK(H:Trm P)(n)(ps)(u)(hw:h[wk]?=J (.lst<|ps.map pd))(v:∀p∈ps,Vp p):run P (n+1) (O "put_back") [.ref wk,u.d] h=.ok (ZbR ps u).d h:=by
 rw[Ze H.put_back<|rfl];obtain⟨a,b,e⟩:=Zq3 hw ps [] u M M v;rw[Yt,Zed hw]at e;have c:evi (P.tbl n) (.rev<|.var 0) [J<|.ref wk,J u.d,J u.d,M,M] h=.ok ⟨[(wk,ps.map pd)],(ps.map pd).reverse⟩ h:=by simp[Zhm,hw]
 have w:xs2 (P.tbl n) Zio [J<|.ref wk,J u.d,M,M,M] h=.ok (.rt (ZbR ps u).d,[J<|.ref wk,J u.d,J (ZbR ps u).d,a,b]) h:=(Za<|Zm rfl).I<|(Za<|(Zec c).I e).I<|Zd<|Zn rfl;exact congrArg Zf w
def ZbH(f:Str)(F:T)(x:Str)(A:T):Fil:=if f=x then [(x,A)]else [(f,F),(x,A)]
def bec:T->Option T
 |.call F A=>match F with
  |.fn x e=>J (sub (Fil.ar [(x,A)]) e)
  |.rcc f x e=>J (sub (Fil.ar<|ZbH f (.rcc f x e) x A) e)
  |_=>M
 |.iff c t e=>match c with
  |.num z=>J (if z=0 then e else t)
  |_=>M
 |.op w a b=>match a,b with
  |.num a,.num b=>J (.num<|_root_.Rw.wk w a b)
  |_,_=>M
 |_=>M
def next(t:T):Option T:=(bec<|bot t).map (ZbR<|pth t)
noncomputable def oT:Option T->D
 |some t=>t.d
 |none=>.non
theorem ZcI(hM:1<=qd):∀(t) (ar),(∀x V,get ar x=J V->V.size<=qd)->(sub ar t).size<=t.size*qd
 |.num _,_,_=>by simp[sub,T.size,T.places];lia
 |.name x,ar,b=>by
  cases e:get ar x with
  |none=>simp[sub,e,T.size,T.places];lia
  |some V=>have:=b x V e;simp[sub,e];simp[T.size,T.places]at *;lia
 |.fn x e,ar,b=>by
  have h:=ZcI hM e ((x,M)::ar)<|λy V q=>b y V<|ZfV [x] ar q;rw[sub,Zb,Zb<|.fn x e];simp[T.parts,Nat.add_mul]at h ⊢
  lia
 |.rcc f x e,ar,b=>by
  have h:=ZcI hM e ((f,M)::(x,M)::ar)<|λy V q=>b y V<|ZfV [f,x] ar q;rw[sub,Zb,Zb<|.rcc f x e];simp[T.parts,Nat.add_mul]at h ⊢
  lia
 |.call f a,ar,b=>by
  have d:=ZcI hM f ar b;have g:=ZcI hM a ar b;rw[sub,Zb,Zb<|.call f a];simp[T.parts,Nat.add_mul]at d g ⊢
  lia
 |.op w f a,ar,b=>by
  have d:=ZcI hM f ar b;have g:=ZcI hM a ar b;rw[sub,Zb,Zb<|.op w f a];simp[T.parts,Nat.add_mul]at d g ⊢
  lia
 |.iff c t e,ar,b=>by
  have d:=ZcI hM c ar b;have g:=ZcI hM t ar b;have i:=ZcI hM e ar b;rw[sub,Zb,Zb<|.iff c t e];simp[T.parts,Nat.add_mul]at d g i ⊢
  lia
def ZwB:∀(f:Fil) {x:Str}{V:T},get f.ar x=J V->(x,V)∈f:=by intro f;induction f<;>simp_all [Fil,get,Fil.ar]<;>grind
def Zme{t}{f:Fil}(hs:∀p∈f,p.2.size<=300):(sub f.ar t).size<=t.size*300:=ZcI (by lia) t f.ar λx V e=>hs (x,V) (ZwB f e)
def Zrj{t}{f}(ht:t.size<=300)(hf:f.length<=2)(hs:∀p∈f,p.2.size<=300/\∀x,p.2≠.name x):Wok 301 (t,fen f)/\(sub f.ar t).size<=300000:=by
 have:=Zme (t:=t) λp a=>(hs p a).1;refine⟨⟨?_,λq b v e=>?_⟩,by lia⟩
 . have:(fen f).length=f.length:=by simp[fen]
   simp only
   lia
 . obtain⟨p,a,rfl⟩:=List.mem_map.mp b;cases e;refine⟨(hs p a).2,?_,trivial⟩;have:=(hs p a).1;show 0+2*p.2.size<=602
   lia
theorem Zp2 (H:Trm P) (n:Nat) (F A:T) (hv:isV F=Wr) (hF:F.size<=300) (hA:A.size<=300) (nA:∀ x,A≠.name x):∃ g,run P (n+5) (O "called") [F.d,A.d] h=.ok (oT<|bec<|.call F A) (h++g):=by
 rw [Ze H.called (by cases F<;>rfl)];have o:∀ (f:Fil),∃ k,k=h.length/\(h++[DO.dic f.kv])[k]?=J (.dic f.kv):=λf=>⟨_,rfl,by simp⟩
 cases F with
 |num z=>exact⟨[],by rw [Yt];exact rfl⟩
 |fn x e =>
   obtain⟨a,b⟩:=Zrj (t:=e) (f:=[(x,A)]) (by rw [Zb] at hF;simp [T.parts] at hF;lia) (by simp) (by simp;exact⟨by lia,nA⟩);obtain⟨g,q⟩:=Zur H n e [(x,A)] (h0:=h) (h:=h++[.dic<|Fil.kv [(x,A)]]) (dk:=h.length) (by simp) (by simp) (by simp) (Oq _) (by simp) (λi c=>Oe c) (by lia) (by lia) a b;exact⟨g,rt1 (U:=P.tbl<|n+4) (ss:=Zev) (S:=[J (T.fn x e).d,J A.d]) (ZP q rfl rfl) rfl⟩
 |rcc f x e =>
   have j:(ZbH f (.rcc f x e) x A).length<=2:=by unfold ZbH;split<;>simp
   have l:((ZbH f (.rcc f x e) x A).map (·.1)).Nodup:=by
     unfold ZbH;split
     . simp
     . simpa using (by assumption)
   obtain⟨a,b⟩:=Zrj (t:=e) (f:=ZbH f (.rcc f x e) x A) (by rw [Zb] at hF;simp [T.parts] at hF;lia) j (by
     unfold ZbH;split
     . simp;exact⟨by lia,nA⟩
     . simp;exact⟨hF,hA,nA⟩)
   obtain⟨g,q⟩:=Zur H n e (ZbH f (.rcc f x e) x A) (h0:=h) (h:=h++[.dic<|Fil.kv<|ZbH f (.rcc f x e) x A]) (dk:=h.length) l (by lia) (by simp) (Oq _) (by simp) (λi c=>Oe c) (by lia) (by lia) a b;refine⟨g,?_⟩;have m:ZcL [] [(YE f,(T.rcc f x e).d),(YE x,A.d)]=Fil.kv (ZbH f (.rcc f x e) x A):=by
     unfold ZbH;by_cases z:f=x
     . subst z;simp [ZcL,putD,Fil.kv]
     . have:¬ (YE f:Key)=YE x:=λq=>z<|Sum.inr.inj q;simp [ZcL,putD,Fil.kv,z]
   rw [<-m] at q;show Zf (xs2 (P.tbl<|n+4) Zev [J (T.rcc f x e).d,J A.d] h)=_;rw [nx1 (U:=P.tbl<|n+4) (ss:=Zev) (S:=[J (T.rcc f x e).d,J A.d]) (ρ1:=[J (T.rcc f x e).d,J A.d]) (h2:=h) rfl rfl];exact rt1 (U:=P.tbl<|n+4) (ss:=tlS Zev) (ZP q rfl rfl) rfl
 |_=>cases hv
def ZhA(H:Trm P)(n)(c a b)(hv:isV c=Wr):run P (n+1) (O "chosen") [c.d,a.d,b.d] h=.ok (oT<|bec<|.iff c a b) h:=by
 rw[Ze H.chosen<|rfl];cases c with
 |num z=>by_cases e:z=0<;>simp[Zeg,Zgi,Zx,T.d,bec,oT,e]
 |fn x e=>trivial
 |rcc f x e=>trivial
 |_=>trivial
def Zhw(H:Trm P)(n)(w)(a b)(va:isV a=Wr)(vb:isV b=Wr)(ca:Gn.Cl [] a)(cb:Gn.Cl [] b):run P (n+1) (O "worked") [.str w.s,a.d,b.d] h=.ok (oT<|bec<|.op w a b) h:=by
 have no:∀(a b:T),xs1 (P.tbl n) Zil [J<|.str w.s,J a.d,J b.d] h=.ok (.rt .non,[J<|.str w.s,J a.d,J b.d]) h->run P (n+1) (O "worked") [.str w.s,a.d,b.d] h=.ok .non h:=λa b e=>(Ze H.worked<|rfl).I<|rt1 e rfl;cases a with
 |num x=>
  cases b with
  |num y=>exact _root_.Rw.worked_nn H.worked H.gb n w ca cb
  |fn _ _=>exact no (.num x) (.fn _ _) rfl
  |rcc _ _ _=>exact no (.num x) (.rcc _ _ _) rfl
  |_=>trivial
 |fn _ _=>exact no (.fn _ _) b rfl
 |rcc _ _ _=>exact no (.rcc _ _ _) b rfl
 |_=>trivial
def Red:T->Prop
 |.call f a|.op _ f a=>isV f=Wr/\isV a=Wr
 |.iff c _ _=>isV c=Wr
 |_=>False
theorem Zdw:∀t ,isV t=Ws->Gn.Cl [] t->Red (bot t)/\Gn.Cl [] (bot t)/\(bot t).size<=t.size
 |.num _,e,_=>by trivial
 |.name x,_,c=>by cases c
 |.fn _ _,e,_=>by trivial
 |.rcc _ _ _,e,_=>by trivial
 |.call f a,_,c=>by
  have z:(T.call f a).size=1+(f.size+a.size):=by rw[Zb];trivial
  simp[bot];split
  . split
    . exact⟨⟨by trivial,by trivial⟩,c,Oq _⟩
    . rename_i q;have d:=Zdw a (by simpa using q) c.2;exact⟨d.1,d.2.1,by lia⟩
  . rename_i q;have d:=Zdw f (by simpa using q) c.1;exact⟨d.1,d.2.1,by lia⟩
 |.op w f a,_,c=>by
  have z:(T.op w f a).size=1+(f.size+a.size):=by rw[Zb];simp[T.parts]
  simp only[bot];split
  . split
    . exact⟨⟨by assumption,by assumption⟩,c,Oq _⟩
    . rename_i q;have d:=Zdw a (by simpa using q) c.2;exact⟨d.1,d.2.1,by lia⟩
  . rename_i q;have d:=Zdw f (by simpa using q) c.1;exact⟨d.1,d.2.1,by lia⟩
 |.iff f a b,_,c=>by
  have z:(T.iff f a b).size=1+(f.size+(a.size+b.size)):=by rw[Zb];simp[T.parts]
  simp only[bot];split
  . exact⟨by assumption,c,Oq _⟩
  . rename_i q;have d:=Zdw f (by simpa using q) c.1;exact⟨d.1,d.2.1,by lia⟩
theorem Zp3 (H:Trm P) (n) (t) (r:Red t) (c:Gn.Cl [] t) (hz:t.size<=300):∃ g,run P (n+6) (O "become") [t.d] h=.ok (oT<|bec t) (h++g):=by
 rw [Ze H.become<|rfl];cases t with
 |call F A =>
   have z:(T.call F A).size=1+(F.size+A.size):=by rw [Zb];simp [T.parts]
   obtain⟨g,e⟩:=Zp2 H n (h:=h) F A r.1 (by lia) (by lia) (λx z=>by have:=r.2;rw [z] at this;cases this);exact⟨g,rt1 (U:=P.tbl<|n+5) (ss:=Za9) (S:=[J (T.call F A).d]) (ZP e rfl rfl) rfl⟩
 |iff a b d =>
   exact⟨[],by
     rw [Yt];show Zf (xs2 (P.tbl<|n+5) Za9 [J (T.iff a b d).d] h)=_;rw [nx1 (U:=P.tbl<|n+5) (ss:=Za9) (S:=[J (T.iff a b d).d]) (ρ1:=[J (T.iff a b d).d]) (h2:=h) rfl rfl];exact rt1 (U:=P.tbl<|n+5) (ss:=tlS Za9) (ZP (ZhA H (n+4) (h:=h) a b d r) rfl rfl) rfl⟩
 |op w a b =>
   exact⟨[],by
     rw [Yt];show Zf (xs2 (P.tbl<|n+5) Za9 [J (T.op w a b).d] h)=_;rw [nx1 (U:=P.tbl<|n+5) (ss:=Za9) (S:=[J (T.op w a b).d]) (ρ1:=[J (T.op w a b).d]) (h2:=h) (by cases w<;>rfl) rfl,nx1 (U:=P.tbl<|n+5) (ss:=tlS Za9) (S:=[J (T.op w a b).d]) (ρ1:=[J (T.op w a b).d]) (h2:=h) (by cases w<;>rfl) rfl];exact rt1 (U:=P.tbl<|n+5) (ss:=tlS<|tlS Za9) (ZP (Zhw H (n+4) (h:=h) w a b r.1 r.2 c.1 c.2) rfl rfl) rfl⟩
 |_=>cases r
def ans(t:T):D:=if isV t then .tup [.str<|O "value"]else match next t with
 |some u=>.tup [.str<|O "loud",u.d]
 |none=>.tup [.str<|O "stuck"]
def ZiO(H:Trm P)(n)(t)(c:Gn.Cl [] t)(hz:t.size<=300):∃g,run P (n+7) (O "stepped") [t.d] h=.ok (ans t) (h++g):=by
 rw[Ze H.stepped<|by rfl];have ev:=Zut H (n+5) (h:=h) t;show ∃g,Zf (xs2 (P.tbl<|n+6) (.cons Zg0<|.cons Zeo<|.cons Zen<|.cons ZcC<|.cons Zem .nil) [J t.d,M,M] h)=_;cases a:isV t with
 |true=>rw[a]at ev;refine⟨[],?_⟩;rw[Zd<|ZP ev rfl rfl,Yt,ans,a];rfl
 |false=>
  rw[a]at ev;have f:xs1 (P.tbl<|n+6) Zeo [J t.d,M,M] h=.ok (.nx,[J t.d,J<|.ref h.length,M]) (h++[.lst<|Zct t]):=ZP (ZxP H (n+2) (h:=h) t c a<|by lia) rfl rfl;obtain⟨i,j,w⟩:=Zdw t a c;obtain⟨g,k⟩:=Zp3 H n (h:=h++[.lst<|Zct t]) (bot t) i j (by lia);have l:ZaQ P.GD (.ref h.length) (.int<|-1) (h++[.lst<|Zct t])=.ok (.tup [(bot t).d,.non]) (h++[.lst<|Zct t]):=by rw[ZC (xs:=Zct t)<|by simp,Zct,ZqY];rfl
  have m:xs1 (P.tbl<|n+6) Zen [J t.d,J<|.ref h.length,M] (h++[.lst<|Zct t])=.ok (.nx,[J t.d,J<|.ref h.length,J<|oT<|bec<|bot t]) (h++[.lst<|Zct t]++g):=Zm<|Zo k<|Zc ((Zj ((Zj rfl rfl).I l) rfl).I rfl) rfl;rw[Za<|ZP ev rfl rfl,Za f,Za m];have o:(h++[DO.lst<|Zct t]++g)[h.length]?=J (.lst<|Zct t):=by simp
  cases e:bec (bot t)with
  |none=>refine⟨[.lst<|Zct t]++g,?_⟩;have b:xs1 (P.tbl<|n+6) ZcC [J t.d,J<|.ref h.length,J<|oT M] (h++[.lst<|Zct t]++g)=.ok (.rt<|.tup [.str<|O "stuck"],[J t.d,J<|.ref h.length,J<|oT M]) (h++[.lst<|Zct t]++g):=(Zk<|Ztv rfl).I<|Zd<|Zn rfl;rw[Zd b,ans,a,next,e,<-Oz];rfl
  |some u=>
   generalize p:h++[DO.lst<|Zct t]++g=R at *;have q:u.d≠.non:=by cases u<;>simp[T.d]
   have b:xs1 (P.tbl<|n+6) ZcC [J t.d,J<|.ref h.length,J<|oT<|J u] R=.ok (.nx,[J t.d,J<|.ref h.length,J<|oT<|J u]) R:=(Zg<|Ztw rfl q).I rfl;have r:=ZlK H (n+5) (h:=R++[.lst<|(pth t).map pd]) (wk:=R.length) (pth t) u (by simp)<|Zgr t;have s:ZfN (.ref h.length) M (J<|-1) R=.ok (.ref R.length) (R++[.lst<|(pth t).map pd]):=by
    have:cutD (Zct t) M (J<|-1)=(pth t).map pd:=by rw[Zct,Zmk];rfl
    simp[ZfN,lstOf,o,this]
   refine⟨[.lst<|Zct t]++g++[.lst<|(pth t).map pd],?_⟩;have v:xs1 (P.tbl<|n+6) Zem [J t.d,J<|.ref h.length,J<|oT<|J u] R=.ok (.rt<|.tup [.str<|O "loud",(ZbR (pth t) u).d],[J t.d,J<|.ref h.length,J<|oT<|J u]) (R++[.lst<|(pth t).map pd]):=Zn (Z6 (Zc rfl<|Zc (Zo r<|Zc ((Gn.ZfI rfl rfl rfl).I s) rfl) rfl)<|by simp);rw[Za b,Zd v,ans,a,next,e,<-Oz,<-Oz,p];rfl
def Kp(ar:Ar)(sc aF:List Str):Prop:=∀x∈sc,(∃V,get ar x=J V/\Gn.Cl [] V)\/(get ar x=M/\x∈aF)
def Kp.bind(k:Kp ar sc aF)(y):Kp ((y,M)::ar) (y::sc) (y::aF):=λx hx=>by
 unfold get;by_cases e:y=x
 . rw[if_pos e];exact .inr ⟨rfl,by rw[e];simp⟩
 . rw[if_neg e];rcases O3.mp hx with z|z
   . simp_all
   . rcases k x z with q|q
     . exact .inl q
     . exact .inr ⟨q.1,Oh _ q.2⟩
def Kp.two(k:Kp ar sc aF)(f x):Kp ((f,M)::(x,M)::ar) (x::f::sc) (x::f::aF):=λz a=>by
 have q:=(k.bind x).bind f z (by simp at a ⊢;rcases a with h|h|h<;>simp[h]);rcases q with q|q
 . exact .inl q
 . exact .inr ⟨q.1,by have:=q.2;simp at this ⊢;rcases this with h|h|h<;>simp[h]⟩
theorem ZcU:∀(t:T) {ar:Ar}{sc aF:List _},Kp ar sc aF->Gn.Cl sc t->Gn.Cl aF (sub ar t)
 |.num _,_,_,_,_,c=>c
 |.name x,ar,sc,aF,k,c=>by
  rcases k x c with⟨V,e,d⟩|⟨e,m⟩
  . rw[sub,e];exact Gn.Cl.mono (λy g=>by cases g) d
  . rw[sub,e];exact m
 |.fn x e,_,_,_,k,c=>⟨ZcU e (k.bind x) c.1,c.2⟩
 |.rcc f x e,_,_,_,k,c=>⟨ZcU e (k.two f x) c.1,c.2⟩
 |.call f a,_,_,_,k,c|.op _ f a,_,_,_,k,c=>⟨ZcU f k c.1,ZcU a k c.2⟩
 |.iff f a b,_,_,_,k,c=>⟨ZcU f k c.1,ZcU a k c.2.1,ZcU b k c.2.2⟩
def zc(f a):(T.call f a).size=1+(f.size+a.size):=by rw[Zb];trivial
def zo(w)(f a):(T.op w f a).size=1+(f.size+a.size):=by rw[Zb];trivial
def zi(f a b):(T.iff f a b).size=1+(f.size+(a.size+b.size)):=by rw[Zb];trivial
def zf(x)(e):(T.fn x e).size=1+e.size:=by rw[Zb];trivial
def zr(f x)(e):(T.rcc f x e).size=1+e.size:=by rw[Zb];trivial
def l_2{a b c d:Nat}(p:a<c)(q:b<d):max a b<c+d:=Nat.max_lt.mpr ⟨Ot p<|Nat.le_add_right _ _,Ot q<|YY _ _⟩
def l_1{a c:Nat}(p:a<c):a+1<1+c:=by lia
theorem ZcS:∀t:T,Gn.dep t<t.size
 |.num _|.name _=>by simp[Gn.dep,T.size,T.places]
 |.fn x e=>by rw[zf];exact l_1 (ZcS e)
 |.rcc f x e=>by rw[zr];exact l_1 (ZcS e)
 |.call f a=>by rw[zc];exact l_1 (l_2 (ZcS f)<|ZcS a)
 |.op w f a=>by rw[zo];exact l_1 (l_2 (ZcS f)<|ZcS a)
 |.iff c t e=>by rw[zi];exact l_1 (l_2 (ZcS c)<|l_2 (ZcS t)<|ZcS e)
def Zrk{f:Fil}(hc:∀p∈f,Gn.Cl [] p.2)(sc:List _)(hk:∀x∈sc,x∈f.map (·.1)):Kp f.ar sc []:=λx hx=>by
 have:∀(f:Fil),(∀p∈f,Gn.Cl [] p.2)->x∈f.map (·.1)->∃V,get f.ar x=J V/\Gn.Cl [] V:=by
  intro f;induction f with
  |nil=>simp
  |cons p r ih=>
   intro hc z;rw[Fil.ar,Op,get];by_cases e:p.1=x
   . rw[if_pos e];exact⟨_,rfl,hc p Oi⟩
   . rw[if_neg e];rcases O3.mp z with q|q
     . simp_all
     . exact ih (λp hp=>hc p<|Oh _ hp) q
 exact .inl (this f hc<|hk x hx)
def Zt3(t u)(r:Red t)(c:Gn.Cl [] t)(hz:t.size<=300)(e:bec t=J u):Gn.Cl [] u/\u.size<=t.size*300:=by
 cases t with
 |call F A=>
  have z:=zc F A;cases F with
  |fn x b=>cases e;refine⟨ZcU b (Zrk (by simp;exact c.2) [x]<|by simp) c.1.1,OE (Zme (t:=b) (f:=[(x,A)]) (by simp;lia))<|Nat.mul_le_mul_right _ (by rw[z,zf x b];lia)⟩
  |rcc f x b=>
   cases e;have mem:∀p∈ZbH f (.rcc f x b) x A,p.2=.rcc f x b\/p.2=A:=by
    intro p g;unfold ZbH at g;split at g
    . simp at g;rw[g];exact .inr rfl
    . simp at g;rcases g with rfl|rfl
      . exact .inl rfl
      . exact .inr rfl
   refine⟨ZcU b (Zrk (λp g=>by rcases mem p g with q|q<;>rw[q];exact c.1;exact c.2) [x,f] (by unfold ZbH;split<;>simp_all)) c.1.1,OE (Zme (t:=b) (f:=ZbH f (.rcc f x b) x A) (λp g=>by rcases mem p g with q|q<;>rw[q]<;>lia))<|Nat.mul_le_mul_right _ (by rw[z,zr f x b];lia)⟩
  |_=>cases e
 |iff a b d=>
  have z:=zi a b d;cases a with
  |num m=>
   simp only[bec,Option.some.injEq]at e;subst e;split
   . exact⟨c.2.2,by lia⟩
   . exact⟨c.2.1,by lia⟩
  |_=>cases e
 |op w a b=>
  cases a with
  |num x=>
   cases b with
   |num y=>cases e;exact⟨_root_.Rw.wk_ok w x y,by simp[T.size,T.places]⟩
   |_=>cases e
  |_=>cases e
 |_=>cases r
def Zqi:∀(t:T) (u:T),Gn.Cl [] t->Gn.Cl [] u->Gn.Cl [] (ZbR (pth t) u)/\(ZbR (pth t) u).size<=t.size+u.size:=by
 have two:∀a b c u:Nat,a<=b+u->1+(a+c)<=1+(b+c)+u:=λa b c u q=>by lia
 have j:∀a b c u:Nat,a<=b+u->1+(c+a)<=1+(c+b)+u:=λa b c u q=>by lia
 intro t u;induction t with
 |num _|name _|fn _ _ _|rcc _ _ _ _=>exact λ_ d=>⟨d,YY _ _⟩
 |call f a g h=>
  intro c d;cases e:isV f with
  |false=>simp only[pth,e,ZbR,p1c,p2c,p1o,p2o,p1i,OG,if_false];exact⟨⟨(g c.1 d).1,c.2⟩,by rw[zc,zc];exact two _ _ _ _ (g c.1 d).2⟩
  |true=>
   cases i:isV a with
   |false=>simp only[pth,e,i,ZbR,p1c,p2c,p1o,p2o,p1i,OG,if_false,if_true];exact⟨⟨c.1,(h c.2 d).1⟩,by rw[zc,zc];exact j _ _ _ _ (h c.2 d).2⟩
   |true=>simp only[pth,e,i,ZbR,if_true];exact⟨d,YY _ _⟩
 |op w f a g h=>
  intro c d;cases e:isV f with
  |false=>simp only[pth,e,ZbR,p1c,p2c,p1o,p2o,p1i,OG,if_false];exact⟨⟨(g c.1 d).1,c.2⟩,by rw[zo,zo];exact two _ _ _ _ (g c.1 d).2⟩
  |true=>
   cases i:isV a with
   |false=>simp only[pth,e,i,ZbR,p1c,p2c,p1o,p2o,p1i,OG,if_false,if_true];exact⟨⟨c.1,(h c.2 d).1⟩,by rw[zo,zo];exact j _ _ _ _ (h c.2 d).2⟩
   |true=>simp only[pth,e,i,ZbR,if_true];exact⟨d,YY _ _⟩
 |iff f a b g h k=>
  intro c d;cases e:isV f with
  |false=>simp only[pth,e,ZbR,p1c,p2c,p1o,p2o,p1i,OG,if_false];exact⟨⟨(g c.1 d).1,c.2.1,c.2.2⟩,by rw[zi,zi];exact two _ _ _ _ (g c.1 d).2⟩
  |true=>simp only[pth,e,ZbR,if_true];exact⟨d,YY _ _⟩
def ZqH{t u}(nv:isV t=Ws)(c:Gn.Cl [] t)(hz:t.size<=120)(e:next t=J u):Gn.Cl [] u/\u.size<=40000:=by obtain⟨v,a,rfl⟩:=Oo.mp e;obtain⟨b,d,h⟩:=Zdw t nv c;obtain⟨f,i⟩:=Zt3 (bot t) v b d (by lia) a;obtain⟨g,j⟩:=Zqi t v c f;exact⟨g,by lia⟩
end
section
variable {P:Pg}
def row:Nat->T->List T×Str
 |0,t=>([t],if isV t then O "value" else match next t with
  |none=>O "stuck"
  |some _=>O "open")
 |m+1,t=>if isV t then([t],O "value")else match next t with
  |none=>([t],O "stuck")
  |some u=>if 120<u.size then([t],O "wide")else(t::(row m u).1,(row m u).2)
def Zvl(H:Trw P)(n)(t:T)(hz:t.size<=800000)(h):run P (n+3) (O "is_wide") [t.d] h=.ok (.bl<|Wu<|120<t.size) (h++[.lst<|t.places.map T.d,.lst []]):=by
 rw[Ze H.is_wide<|by rfl];have l:(h++[DO.lst<|t.places.map T.d,.lst []])[h.length]?=J (.lst<|t.places.map T.d):=by simp
 have c:Wu ((120)<(t.places.length:Int))=Wu (120<t.size):=by
  rw[Bool.eq_iff_iff];simp only[decide_eq_true_eq];unfold T.size
  lia
 simp[ZgB,Zjh,Zx,Gn.ZpW H.toTrm.toTre H.pl n t h hz,H.gw,Zb6,ZmI,seqOf,lstOf,c]
def rw1:Sx:=.iff (.x .Gt (.blt .len<|.o V2) V1) (.o<|.ret<|.tupl<|.w V2<|.Ci_ "open") .n
def rw2:Sx:=.iff (.ex<|.f "is_wide"<|.o<|.ix V3 K1) (.o<|.ret<|.tupl<|.w V2<|.Ci_ "wide") .n
def rw3:Sx:=.drp (.meth .app V2<|.o<|.ix V3 K1)
def rw4:Sx:=.s 3 (.f "stepped"<|.o<|.ix V3 K1)
def ZqS:Sxs:=.z rw1 rw2 rw3 rw4
def rwc:Tx:=.q (.ix V3 K0) (.Ci_ "loud")
def rwR:Sxs:=.o (.ret<|.tupl<|.w V2<|.ix V3 K0)
def rwF(U:Tb)(r:qe (Fl×Ev)):qe D:=Zf (r.bnd λp R=>match p with
 |(.nx,ρ1)=>xs2 U rwR ρ1 R
 |p=>.ok p R)
noncomputable def vr(E:D)(qd rk:Nat)(a:D):Ev:=[J E,J<|.int (qd:Int),J<|.ref rk,J a]
theorem Zuy(H:Trw P)(n)(qd)(hM:qd<=1000):∀(m) (t) (A) (g:Hd) (fuel),A.length+m=qd->m<fuel->Gn.Cl [] t->t.size<=120->∃g',
 rwF (P.tbl<|n+7) (ZH (tst (P.tbl<|n+7) rwc) (xs2 (P.tbl<|n+7) ZqS) fuel (vr E qd h.length<|ans t) (h++.lst ((A++[t]).map T.d)::g))=.ok (.tup [.ref h.length,.str (row m t).2]) (h++.lst ((A++(row m t).1).map T.d)::g')
 |m,t,A,g,0,_,B,_,_=>by lia
 |m,t,A,g,fuel+1,K,B,c,C=>by
  have i:∀w:Str,w≠O "loud" -> ans t=.tup [.str w]->row m t=([t],w)->∃g',rwF (P.tbl<|n+7) (ZH (tst (P.tbl<|n+7) rwc) (xs2 (P.tbl<|n+7) ZqS) (fuel+1) (vr E qd h.length<|ans t) (h++.lst ((A++[t]).map T.d)::g))=.ok (.tup [.ref h.length,.str (row m t).2]) (h++.lst ((A++(row m t).1).map T.d)::g'):=by intro w k D F;rw[D,F];exact⟨g,(congrArg (rwF _)<|Zdj<|Zh (Zas rfl rfl)<|decide_eq_false k).I rfl⟩
  cases f:isV t with
  |true=>exact i (O "value") (by simp) (by simp[ans,f]) (by cases m<;>simp[row,f])
  |false=>
   cases j:next t with
   |none=>exact i (O "stuck") (by simp) (by simp[ans,f,j]) (by cases m<;>simp[row,f,j])
   |some u=>
    obtain⟨s,L⟩:=ZqH f c C j;rw[show ans t=.tup [.str<|O "loud",u.d] by simp[ans,f,j]];have p:∀q,tst (P.tbl<|n+7) rwc (vr E qd h.length<|.tup [.str<|O "loud",u.d]) q=.ok Wr q:=λq=>Zh (Zas rfl rfl)<|decide_eq_true rfl;have v:∀g,tst (P.tbl<|n+7) (.ex<|.cmp .Gt (.blt .len<|.cons (.var 2) .nil)<|.var 1) (vr E qd h.length<|.tup [.str<|O "loud",u.d]) (h++.lst ((A++[t]).map T.d)::g)=.ok (Wu<|(qd:Int)<((A++[t]).map T.d).length) (h++.lst ((A++[t]).map T.d)::g):=λg=>ZtB (Zib rfl<|ZgQ Zay) rfl;cases m with
    |zero=>
     have e:row 0 t=([t],O "open"):=by simp[row,f,j]
     rw[e];exact⟨g,(congrArg (rwF _)<|Zhl (p _)<|Zd<|(Zk<|Zh (v g)<|decide_eq_true (by simp;lia)).I<|Zd<|Zn<|Z6 (Zc rfl<|Zc rfl rfl)<|by simp).I rfl⟩
    |succ m=>
     have y:=(Zg (U:=P.tbl<|n+7) (a:=.cons (.ret<|.tupl<|.cons (.var 2)<|.cons (.Ci_ "open") .nil) .nil) (b:=.nil)<|Zh (v g)<|decide_eq_false (by simp;lia)).I rfl;obtain⟨l,o⟩:∃l,run P (n+7) (O "is_wide") [u.d] (h++.lst ((A++[t]).map T.d)::g)=.ok (.bl<|Wu<|120<u.size) (h++.lst ((A++[t]).map T.d)::l):=⟨_,(Zvl H (n+4) u (by lia) _).I (by rw[Oz];rfl)⟩
     by_cases k:120<u.size
     . have e:row (m+1) t=([t],O "wide"):=by simp[row,f,j,k]
       rw[e];rw[decide_eq_true k]at o;exact⟨l,(congrArg (rwF _)<|Zhl (p _)<|(Za y).I<|Zd<|(Zk<|Zb3<|Zo o rfl).I<|Zd<|Zn<|Z6 (Zc rfl<|Zc rfl rfl)<|by simp).I rfl⟩
     . have er:row (m+1) t=(t::(row m u).1,(row m u).2):=by simp[row,f,j,k]
       rw[decide_eq_false k]at o;have z:=ZW (d:=u.d) (Zay (h:=h) (x:=.lst<|(A++[t]).map T.d) (r:=l)) (by rw[YC];simp;lia);rw[ZhC,show(A++[t]).map T.d++[u.d]=(A++[t]++[u]).map T.d by simp]at z;obtain⟨G,J⟩:=ZiO H.toTrm n (h:=h++.lst ((A++[t]++[u]).map T.d)::l) u s (by lia);obtain⟨g',e⟩:=Zuy H n (h:=h) (E:=E) qd hM m u (A++[t]) (l++G) fuel (by simp;lia) (by lia) s (by lia);rw[er,show A++(t::(row m u).1,(row m u).2).1=A++[t]++(row m u).1 by simp];refine⟨g',(congrArg (rwF _)<|Zbz (p _)<|(Za y).I<|(Za<|(Zg<|Zb3<|Zo o rfl).I rfl).I<|(Za<|ZK<|ZbI rfl Zay (Zc rfl rfl) z).I<|(Za<|Zm<|Zo J rfl).I rfl).I ?_⟩;rw[Oz h];exact e
def ZgM(H:Trw P)(n)(t)(qd:Nat)(hM:qd<=1000)(c:Gn.Cl [] t)(hz:t.size<=120)(h):∃g,run P (n+8) (O "row_of") [t.d,.int qd] h=.ok (.tup [.ref h.length,.str (row qd t).2]) (h++.lst ((row qd t).1.map T.d)::g):=by rw[Ze H.row_of<|by rfl];obtain⟨a,b⟩:=ZiO H.toTrm n (h:=h++[.lst [t.d]]) t c (by lia);have big:=H.big;obtain⟨f,e⟩:=Zuy H n (h:=h) (E:=t.d) qd hM qd t [] a P.L (by simp) (by lia) c hz;exact⟨f,Eq.I (congrArg Zf<|(Za<|Zm<|Zfq (Zc rfl rfl)<|by simp).I<|(Za<|Zm<|Zo b rfl).I (by rw[Oz];rfl)) e⟩
end
end Tm
namespace Rw
open PySem L2 IV Gn
theorem Zre(x):∀ar ,Tm.get (ra ar) x=(ar.get x).map rd
 |.nil=>rfl
 |.cons y v r=>by
  rw[ra,Tm.get,Ar.get];split
  . rfl
  . exact Zre x r
mutual
theorem Zup:∀v:Th,Zhf v->Cl [] (rd v)
 |.num n,h=>by rw[rd];exact h
 |.clo E ar,h=>by rw[rd];exact Tm.ZcU E (kp_ra ar h.2.2) h.2.1
theorem kp_ra:∀ar:Ar,ArOk ar->Tm.Kp (ra ar) ar.keys []
 |.nil,_=>λx hx=>by cases hx
 |.cons y v r,h=>λx hx=>by
  rw[ra,Tm.get];split
  . exact .inl ⟨rd v,rfl,Zup v h.1⟩
  . rename_i ne;rcases O3.mp hx with e|hx
    . exact absurd e.symm ne
    . exact kp_ra r h.2 x hx
end
theorem Zls:∀{ar}{x}{V},ArOk ar->Tm.get (ra ar) x=J V->Cl [] V
 |.nil,x,V,_,e=>by cases e
 |.cons y v r,x,V,h,e=>by
  rw[ra,Tm.get]at e;split at e
  . cases e;exact Zup v h.1
  . exact Zls h.2 e
def Zoh(h:Zhf v):Tm.isV (rd v)=Wr:=by
 cases v with
 |num n=>rfl
 |clo E ar=>
  cases E with
  |fn x e=>rfl
  |rcc f x e=>rfl
  |_=>cases h.1
theorem ZcJ:∀(t) {sc}{ar:List _},Cl sc t->(∀y∈sc,Tm.get ar y=M)->Tm.sub ar t=t
 |.num _,_,_,_,_=>rfl
 |.name x,_,_,c,n=>by rw[Tm.sub,n x c];rfl
 |.fn x e,sc,ar,c,n=>by
  rw[Tm.sub,ZcJ e c.1 λy hy=>?_];rw[Tm.get];split
  . rfl
  . rename_i ne;rcases O3.mp hy with q|q
    . exact absurd q.symm ne
    . exact n y q
 |.rcc f x e,sc,ar,c,n=>by
  rw[Tm.sub,ZcJ e c.1 λy hy=>?_];rw[Tm.get];split
  . rfl
  . rename_i nf;rw[Tm.get];split
    . rfl
    . rename_i nx;rcases O3.mp hy with q|q
      . exact absurd q.symm nx
      . rcases O3.mp q with q|q
        . exact absurd q.symm nf
        . exact n y q
 |.call f a,_,_,c,n=>by rw[Tm.sub,ZcJ f c.1 n,ZcJ a c.2 n]
 |.iff p q r,_,_,c,n=>by rw[Tm.sub,ZcJ p c.1 n,ZcJ q c.2.1 n,ZcJ r c.2.2 n]
 |.op w f a,_,_,c,n=>by rw[Tm.sub,ZcJ f c.1 n,ZcJ a c.2 n]
def Cmp(r t k:List (Str×Option T)):Prop:=∀x,(∃V,Tm.get r x=J V/\Tm.get k x=J V/\Cl [] V)\/(Tm.get r x=M/\Tm.get k x=Tm.get t x)
def Cmp.none(c:Cmp r t k)(y):Cmp ((y,M)::r) ((y,M)::t) ((y,M)::k):=λx=>by
 simp only[Tm.get];split
 . exact .inr ⟨rfl,rfl⟩
 . exact c x
theorem ZaW:∀(e) {r t k},Cmp r t k->Tm.sub t (Tm.sub r e)=Tm.sub k e
 |.num _,_,_,_,_=>rfl
 |.name x,r,t,k,c=>by
  rcases c x with⟨V,b,d,g⟩|⟨b,d⟩
  . simp[Tm.sub,b,d];exact ZcJ V g λy h=>by trivial
  . simp[Tm.sub,b,d]
 |.fn x e,_,_,_,c=>by rw[Tm.sub,Tm.sub,Tm.sub,ZaW e<|c.none x]
 |.rcc f x e,_,_,_,c=>by rw[Tm.sub,Tm.sub,Tm.sub,ZaW e<|(c.none x).none f]
 |.call f a,_,_,_,c=>by rw[Tm.sub,Tm.sub,Tm.sub,ZaW f c,ZaW a c]
 |.iff p q s,_,_,_,c=>by rw[Tm.sub,Tm.sub,Tm.sub,ZaW p c,ZaW q c,ZaW s c]
 |.op w f a,_,_,_,c=>by rw[Tm.sub,Tm.sub,Tm.sub,ZaW f c,ZaW a c]
def Zvc{x}{A}(ok:ArOk ar):Tm.sub [(x,J A)] (Tm.sub ((x,M)::ra ar) e)=Tm.sub ((x,J A)::ra ar) e:=by
 refine ZaW e λy=>?_;simp only[Tm.get];split
 . exact .inr ⟨rfl,rfl⟩
 . cases q:Tm.get _ y with
   |none=>exact .inr ⟨rfl,rfl⟩
   |some V=>exact .inl ⟨V,rfl,rfl,Zls ok q⟩
def Zsg{f x}(ne:f≠x){F A}(ok:ArOk ar):Tm.sub [(f,J F),(x,J A)] (Tm.sub ((f,M)::(x,M)::ra ar) e)=Tm.sub ((x,J A)::(f,J F)::ra ar) e:=by
 refine ZaW e λy=>?_;simp only[Tm.get];by_cases q1:f=y
 . subst q1;rw[if_pos rfl,if_neg<|YL ne,if_pos rfl,if_pos rfl];exact .inr ⟨rfl,rfl⟩
 . rw[if_neg q1,if_neg q1,if_neg q1];by_cases q2:x=y
   . rw[if_pos q2,if_pos q2,if_pos q2];exact .inr ⟨rfl,rfl⟩
   . rw[if_neg q2,if_neg q2,if_neg q2];cases q:Tm.get _ y with
     |none=>exact .inr ⟨rfl,rfl⟩
     |some V=>exact .inl ⟨V,rfl,rfl,Zls ok q⟩
def fw:Wt->T->T
 |.arg A ar,t=>.call t (Tm.sub (ra ar) A)
 |.fn V,t=>.call (rd V) t
 |.iff a b ar,t=>.iff t (Tm.sub (ra ar) a) (Tm.sub (ra ar) b)
 |.right w F ar,t=>.op w t (Tm.sub (ra ar) F)
 |.left w V,t=>.op w (rd V) t
def rnd(ws:List Wt)(t:T):T:=ws.foldl (λt w=>fw w t) t
def read:Sta->T
 |.go E ar a=>rnd a (Tm.sub (ra ar) E)
 |.back V a=>rnd a (rd V)
structure Wn(t t':T)(k:Nat)(f:T->T):Prop where
 v:Tm.isV t'=Ws
 l:(Tm.pth t').length=(Tm.pth t).length+k
 b:Tm.bot t'=Tm.bot t
 p:∀u,Tm.ZbR (Tm.pth t') u=f (Tm.ZbR (Tm.pth t) u)
def ZyN(ok:ZiK w)(nv:Tm.isV t=Ws):Wn t (fw w t) 1 (fw w):=by
 cases w with
 |arg A ar=>exact⟨rfl,by simp[fw,Tm.pth,nv],by simp[fw,Tm.bot,nv],λu=>by simp[fw,Tm.pth,nv,Tm.ZbR,Tm.ZdJ]⟩
 |fn V=>have v:=Zoh ok;exact⟨rfl,by simp[fw,Tm.pth,nv,v],by simp[fw,Tm.bot,nv,v],λu=>by simp[fw,Tm.pth,nv,v,Tm.ZbR,Tm.ZdJ]⟩
 |iff a b ar=>exact⟨rfl,by simp[fw,Tm.pth,nv],by simp[fw,Tm.bot,nv],λu=>by simp[fw,Tm.pth,nv,Tm.ZbR,Tm.ZdJ]⟩
 |right w F ar=>exact⟨rfl,by simp[fw,Tm.pth,nv],by simp[fw,Tm.bot,nv],λu=>by simp[fw,Tm.pth,nv,Tm.ZbR,Tm.ZdJ]⟩
 |left w V=>have v:=Zoh ok;exact⟨rfl,by simp[fw,Tm.pth,nv,v],by simp[fw,Tm.bot,nv,v],λu=>by simp[fw,Tm.pth,nv,v,Tm.ZbR,Tm.ZdJ]⟩
theorem ZpQ:∀(ws) {t},(∀w∈ws,ZiK w)->Tm.isV t=Ws->Wn t (rnd ws t) ws.length (rnd ws)
 |[],t,_,c=>⟨c,rfl,rfl,λ_=>rfl⟩
 |w::ws,t,ok,c=>by have a:=ZyN (ok w Oi) c;have b:=ZpQ _ (λx d=>ok x<|Oh _ d) a.v;exact⟨b.v,by rw[show rnd _ t=rnd _ (fw w t)from rfl,b.l,a.l,Os];lia,b.b.I a.b,λu=>by rw[show rnd _ t=rnd _ (fw w t)from rfl,b.p,a.p];rfl⟩
def Zvj(ok:∀w∈ws,ZiK w)(nv:Tm.isV t=Ws)(hp:Tm.pth t=[])(hb:Tm.bot t=t):Tm.isV (rnd ws t)=Ws/\Tm.next (rnd ws t)=(Tm.bec t).map (rnd ws)/\(Tm.pth<|rnd ws t).length=ws.length:=by have a:=ZpQ _ ok nv;refine⟨a.v,?_,by rw[a.l,hp];simp⟩;unfold Tm.next;rw[a.b,hb];refine congrArg (λf=>(Tm.bec t).map f) ?_;funext u;rw[a.p,hp];rfl
def At(s:Sta):Prop:=Tm.isV (read s)=Ws/\∃V a,s=.back V a/\(Tm.pth<|read s).length+1=a.length
def Sim(s:Sta):Ans->Prop
 |.quiet a=>read a=read s
 |.loud a=>At s/\Tm.next (read s)=J (read a)
 |.value=>∃V,s=.back V []/\Tm.isV (read s)=Wr
 |.stuck=>At s/\Tm.next (read s)=M
def ZfG(s)(ok:Ziw s):Sim s (step s):=by
 cases s with
 |go E ar ws=>
  cases E with
  |num z=>rfl
  |name x=>
   obtain⟨v,e⟩:=Ar.get_some ok.1;have:step (.go (.name x) ar ws)=.quiet (.back v ws):=by simp[step,thing,e]
   rw[this];show rnd ws (rd v)=rnd ws (Tm.sub (ra ar)<|.name x);rw[Tm.sub,Zre,e];rfl
  |fn x e=>trivial
  |rcc f x e=>trivial
  |call F A=>trivial
  |iff C t e=>exact rfl
  |op w x y=>exact rfl
 |back V ws=>
  cases ws with
  |nil=>exact⟨V,rfl,Zoh ok.1⟩
  |cons w r=>
   have cy:∀x∈r,ZiK x:=λx hx=>ok.2 x<|Oh _ hx;have aR:=ok.2 w Oi;have vV:=Zoh ok.1;have eY:∀t:T,fw w (rd V)=t->Tm.isV t=Ws->Tm.pth t=[]->Tm.bot t=t->At (.back V (w::r))/\Tm.next (read<|.back V (w::r))=(Tm.bec t).map (rnd r):=λt e nv hp hb=>by
    have q:=Zvj cy nv hp hb;have e2:read (.back V (w::r))=rnd r t:=by rw[<-e];rfl
    exact⟨⟨by rw[e2];exact q.1,V,w::r,rfl,by rw[e2,q.2.2];rfl⟩,by rw[e2];exact q.2.1⟩
   cases w with
   |arg A ar=>exact rfl
   |right w F ar=>exact rfl
   |fn W=>
    have vW:=Zoh aR;obtain⟨a,n⟩:=eY _ rfl rfl (by simp[fw,Tm.pth,vV,vW]) (by simp[fw,Tm.bot,vV,vW]);cases W with
    |num z=>exact⟨a,n⟩
    |clo E ar=>
     cases E with
     |fn x e=>refine⟨a,n.I ?_⟩;show J (rnd r<|Tm.sub [(x,J<|rd V)]<|Tm.sub ((x,M)::ra ar) e)=J (rnd r<|Tm.sub ((x,J<|rd V)::ra ar) e);rw[Zvc aR.2.2]
     |rcc f x e=>refine⟨a,n.I ?_⟩;have ne:=aR.2.1.2.1;show J (rnd r<|Tm.sub (Tm.Fil.ar<|Tm.ZbH f (rd<|.clo (.rcc f x e) ar) x<|rd V)<|Tm.sub ((f,M)::(x,M)::ra ar) e)=J (rnd r<|Tm.sub ((x,J<|rd V)::(f,J<|rd<|.clo (.rcc f x e) ar)::ra ar) e);rw[<-Zsg ne aR.2.2,Tm.ZbH,if_neg ne];rfl
     |_=>cases aR.1
   |iff t e ar=>
    obtain⟨a,n⟩:=eY _ rfl rfl (by simp[fw,Tm.pth,vV]) (by simp[fw,Tm.bot,vV]);cases V with
    |num z=>refine⟨a,n.I ?_⟩;show J (rnd r<|if z=0 then Tm.sub (ra ar) e else Tm.sub (ra ar) t)=J (rnd r<|Tm.sub (ra ar)<|if z=0 then e else t);split<;>rfl
    |clo E cm=>
     cases E with
     |fn x e=>exact⟨a,n⟩
     |rcc f x e=>exact⟨a,n⟩
     |_=>cases ok.1.1
   |left w W=>
    have vW:=Zoh aR;obtain⟨a,n⟩:=eY _ rfl rfl (by simp[fw,Tm.pth,vV,vW]) (by simp[fw,Tm.bot,vV,vW]);cases W with
    |num y=>
     cases V with
     |num z=>exact⟨a,n⟩
     |clo E cm=>
      cases E with
      |fn x e=>exact⟨a,n⟩
      |rcc f x e=>exact⟨a,n⟩
      |_=>cases ok.1.1
    |clo E cm=>
     cases E with
     |fn x e=>exact⟨a,n⟩
     |rcc f x e=>exact⟨a,n⟩
     |_=>cases aR.1
section
variable {N:Nat}
def Bd(N:Nat)(E:T)(ar:Ar):Prop:=ar.len+2*E.size<=2*N
mutual
def ThN(N:Nat):Th->Prop
 |.num _=>True
 |.clo E ar=>Bd N E ar/\ArN N ar
def ArN(N:Nat):Ar->Prop
 |.nil=>True
 |.cons _ v r=>ThN N v/\ArN N r
end
def WtN(N:Nat):Wt->Prop
 |.arg A ar=>Bd N A ar/\ArN N ar
 |.fn V=>ThN N V
 |.iff t e ar=>(Bd N t ar/\Bd N e ar)/\ArN N ar
 |.right _ F ar=>Bd N F ar/\ArN N ar
 |.left _ V=>ThN N V
def StN(N:Nat):Sta->Prop
 |.go E ar a=>Bd N E ar/\ArN N ar/\∀w∈a,WtN N w
 |.back V a=>ThN N V/\∀w∈a,WtN N w
theorem Zlo:∀{ar},ArN N ar->ar.get x=J v->ThN N v
 |.nil,_,e=>by cases e
 |.cons y u r,h,e=>by
  rw[Ar.get]at e;split at e
  . cases e;exact h.1
  . exact Zlo h.2 e
def Zdx(h:Bd N E ar)(hf:F∈E.parts):Bd N F ar:=by
 have:=Tm.ZjA hf;unfold Bd at *
 lia
def Zkk(ok:Ziw s)(b:StN N s)(e:step s=.quiet s'\/step s=.loud s'):Ziw s'/\StN N s':=by
 cases s with
 |go E ar ws=>
  cases E with
  |num z=>rcases e with e|e<;>cases e;exact⟨⟨ok.1,ok.2.2⟩,trivial,b.2.2⟩
  |name x=>
   obtain⟨v,q⟩:=Ar.get_some ok.1;have:step (.go (.name x) ar ws)=.quiet (.back v ws):=by simp[step,thing,q]
   rw[this]at e;rcases e with e|e<;>cases e;exact⟨⟨Zjk ok.2.1 q,ok.2.2⟩,Zlo b.2.1 q,b.2.2⟩
  |fn x f=>rcases e with e|e<;>cases e;exact⟨⟨⟨rfl,ok.1,ok.2.1⟩,ok.2.2⟩,⟨b.1,b.2.1⟩,b.2.2⟩
  |rcc g x f=>rcases e with e|e<;>cases e;exact⟨⟨⟨rfl,ok.1,ok.2.1⟩,ok.2.2⟩,⟨b.1,b.2.1⟩,b.2.2⟩
  |call F A=>rcases e with e|e<;>cases e;exact⟨⟨ok.1.1,ok.2.1,ZaC ⟨ok.1.2,ok.2.1⟩ ok.2.2⟩,Zdx b.1<|by simp[T.parts],b.2.1,ZaC ⟨Zdx b.1<|by simp[T.parts],b.2.1⟩ b.2.2⟩
  |iff C t f=>rcases e with e|e<;>cases e;exact⟨⟨ok.1.1,ok.2.1,ZaC ⟨ok.1.2.1,ok.1.2.2,ok.2.1⟩ ok.2.2⟩,Zdx b.1<|by simp[T.parts],b.2.1,ZaC ⟨⟨Zdx b.1<|by simp[T.parts],Zdx b.1<|by simp[T.parts]⟩,b.2.1⟩ b.2.2⟩
  |op w x y=>rcases e with e|e<;>cases e;exact⟨⟨ok.1.1,ok.2.1,ZaC ⟨ok.1.2,ok.2.1⟩ ok.2.2⟩,Zdx b.1<|by simp[T.parts],b.2.1,ZaC ⟨Zdx b.1<|by simp[T.parts],b.2.1⟩ b.2.2⟩
 |back V ws=>
  cases ws with
  |nil=>rcases e with e|e<;>cases e
  |cons w r=>
   have cy:∀x∈r,ZiK x:=λx hx=>ok.2 x<|Oh _ hx;have br:∀x∈r,WtN N x:=λx hx=>b.2 x<|Oh _ hx;have aR:=ok.2 w Oi;have bw:=b.2 w Oi;cases w with
   |arg A ar=>rcases e with e|e<;>cases e;exact⟨⟨aR.1,aR.2,ZaC ok.1 cy⟩,bw.1,bw.2,ZaC b.1 br⟩
   |right w F ar=>rcases e with e|e<;>cases e;exact⟨⟨aR.1,aR.2,ZaC ok.1 cy⟩,bw.1,bw.2,ZaC b.1 br⟩
   |fn W=>
    cases W with
    |num z=>rcases e with e|e<;>cases e
    |clo E ar=>
     cases E with
     |fn x f=>
      rcases e with e|e<;>cases e;refine⟨⟨aR.2.1.1,⟨ok.1,aR.2.2⟩,cy⟩,?_,⟨b.1,bw.2⟩,br⟩;have R:=bw.1;have h2:=Tm.Zb<|.fn x f;simp only[T.parts,Op,Oy,OI,List.sum_nil]at h2;unfold Bd at *;rw[Ar.len]
      lia
     |rcc g x f=>
      rcases e with e|e<;>cases e;refine⟨⟨aR.2.1.1,⟨ok.1,aR,aR.2.2⟩,cy⟩,?_,⟨b.1,bw,bw.2⟩,br⟩;have R:=bw.1;have h2:=Tm.Zb<|.rcc g x f;simp only[T.parts,Op,Oy,OI,List.sum_nil]at h2;unfold Bd at *;rw[Ar.len,Ar.len]
      lia
     |_=>cases aR.1
   |iff t f ar=>
    cases V with
    |num z=>
     rcases e with e|e<;>cases e;by_cases q:z=0
     . simp only[q,if_true];exact⟨⟨aR.2.1,aR.2.2,cy⟩,bw.1.2,bw.2,br⟩
     . simp only[if_neg q];exact⟨⟨aR.1,aR.2.2,cy⟩,bw.1.1,bw.2,br⟩
    |clo E cm=>rcases e with e|e<;>cases e
   |left w W=>
    cases W with
    |num y=>
     cases V with
     |num z=>rcases e with e|e<;>cases e;exact⟨⟨wk_ok w y z,cy⟩,trivial,br⟩
     |clo E cm=>rcases e with e|e<;>cases e
    |clo E cm=>rcases e with e|e<;>cases e
def ZtE(w)(t):t.size+1<=(fw w t).size:=by
 cases w with
 |arg A ar=>rw[fw,Tm.Zb<|.call _ _];simp[T.parts];lia
 |fn V=>rw[fw,Tm.Zb<|.call _ _];simp[T.parts];lia
 |iff a b ar=>rw[fw,Tm.Zb<|.iff _ _ _];simp[T.parts];lia
 |right w F ar=>rw[fw,Tm.Zb<|.op _ _ _];simp[T.parts];lia
 |left w V=>rw[fw,Tm.Zb<|.op _ _ _];simp[T.parts];lia
theorem Zhv:∀(ws) (t),t.size+ws.length<=(rnd ws t).size
 |[],_=>Oq _
 |w::ws,t=>by
  have a:=ZtE w t;have b:=Zhv ws<|fw w t;rw[Os,show rnd _ t=rnd _ (fw w t)from rfl]
  lia
noncomputable def wts:Sta->List Wt
 |.go _ _ a=>a
 |.back _ a=>a
end
end Rw
namespace Ce
open PySem L2 IV
set_option tactic.hygienic false
def Z1:Sxs:=.w (.iff (.x .NotIn (.ix V0 K0)<|.glo<|O "FORMS") (.o<|.ret<|.tupl .n) .n) (.ret<|.sl V0 (J K1)<|J<|.bin .Add K1<|.ix (.ix (.glo<|O "FORMS")<|.ix V0 K0) K0)
def ZaB:Fd:=fd_ 1 ["E"] Z1
def ZaM:Sxs:=.w (.iff (.x .NotIn (.ix V0 K0)<|.glo<|O "FORMS") (.o<|.ret<|.tupl .n) .n) (.ret<|.sl V0 (J<|.bin .Add K1<|.ix (.ix (.glo<|O "FORMS")<|.ix V0 K0) K0) M)
def Zdr:Fd:=fd_ 1 ["E"] ZaM
def Zhb:Sxs:=.w (.iff (.x .Is V0<|.cst .non) (.o<|.ret<|.tupl<|.o<|.Ci_ "stuck") .n) (.ret<|.tupl<|.w (.Ci_ "loud") V0)
def ZdM:Fd:=fd_ 1 ["state"] Zhb
def Zgi:Sxs:=.w (.iff (.nq (.ix V0 K0)<|.Ci_ "num") (.o<|.ret<|.cst .non) .n) (.ret<|.ite (.q (.ix V0 K1) K0) V2 V1)
def Zeg:Fd:=fd_ 3 ["C","T","E"] Zgi
def ZJ:Sxs:=.y (.iff (.ors<|.c (.nq (.ix V1 K0)<|.Ci_ "num")<|.one<|.nq (.ix V2 K0)<|.Ci_ "num") (.o<|.ret<|.cst .non) .n) (.iff (.q V0<|.Ci_ "<") (.o<|.ret<|.tupl<|.w (.Ci_ "num")<|.ite (.x .Lt (.ix V1 K1)<|.ix V2 K1) K1 K0) .n) (.iff (.q V0<|.Ci_ "+") (.o<|.ret<|.tupl<|.w (.Ci_ "num")<|.bin .Mod (.bin .Add (.ix V1 K1)<|.ix V2 K1)<|.glo<|O "BEYOND") .n) (.iff (.q V0<|.Ci_ "-") (.o<|.ret<|.tupl<|.w (.Ci_ "num")<|.bin .Mod (.bin .Sub (.ix V1 K1)<|.ix V2 K1)<|.glo<|O "BEYOND") .n) (.ret<|.tupl<|.w (.Ci_ "num")<|.bin .Mod (.bin .Mult (.ix V1 K1)<|.ix V2 K1)<|.glo<|O "BEYOND")
def Zda:Fd:=fd_ 3 ["word","first","second"] ZJ
def Zkc:Sxs:=.o (.ret<|.tupl<|.z K0 (.tupl .n) (.tupl .n)<|.tupl .n)
def Zf5:Fd:=fd_ 1 ["code"] Zkc
def Zmq:Sxs:=.u (.iff (.q (.ix V0 K0)<|.Ci_ "num") (.o<|.ret V0) .n) (.iff (.q (.ix V0 K0)<|.Ci_ "fetch") (.o<|.ret<|.ix V1<|.ix V0 K1) .n) (.ret<|.tupl<|.z (.Ci_ "clo") (.ix V0 K1) (.ix V0 K2) V1)
def ZhZ:Fd:=fd_ 2 ["row","around"] Zmq
def ZiD:Sxs:=.u (.iff (.q (.ix V0 K0)<|.Ci_ "jump") (.o<|.ret<|.bin .Add (.tupl<|.o<|.ix V0 K1)<|.sl V1 (J K1) M) .n) (.iff (.q (.ix V0 K0)<|.Ci_ "back") (.w (.s 2<|.ix (.ix V1 K3) K0)<|.ret<|.tupl<|.z (.ix V2 K0) (.ix V1 K1) (.ix V2 K1)<|.sl (.ix V1 K3) (J K1) M) .n) (.ret<|.tupl<|.z (.bin .Add (.ix V1 K0) K1) (.bin .Add (.ix V1 K1)<|.tupl<|.o<|.f "thing_of"<|.w V0<|.ix V1 K2) (.ix V1 K2)<|.ix V1 K3)
def Zfe:Fd:=fd_ 2 ["row","state","below"] ZiD
def Zo7:Sxs:=.w (.iff (.q (.blt .len<|.o<|.ix V0 K2) K1) (.o<|.ret<|.bin .Add (.tupl<|.o V1)<|.ix V0 K3) .n) (.ret<|.bin .Add (.tupl<|.w V1 V0)<|.ix V0 K3)
def Zi3:Fd:=fd_ 2 ["W","V"] Zo7
def Zo8:Sxs:=.u (.s 2<|.ix V0<|.neg K2) (.iff (.q (.ix V2 K0)<|.Ci_ "num") (.o<|.ret<|.cst .non) .n) (.ret<|.tupl<|.z (.ix V2 K1) (.sl V0 M<|J<|.neg K2) (.f "entered"<|.w V2<|.ix V0<|.neg K1) V1)
def Zi5:Fd:=fd_ 2 ["stack","pile","W"] Zo8
def Zji:Sxs:=.u (.s 2<|.f "chosen"<|.u (.ix (.ix V1 K1)<|.neg K1) (.bin .Add (.ix V1 K0) K1) V0) (.iff (.x .Is V2<|.cst .non) (.o<|.ret<|.cst .non) .n) (.ret<|.tupl<|.z V2 (.sl (.ix V1 K1) M<|J<|.neg K1) (.ix V1 K2)<|.ix V1 K3)
def Zi2:Fd:=fd_ 2 ["L","state","at"] Zji
def Zin:Sxs:=.z (.s 2<|.ix V1 K1) (.s 3<|.f "worked"<|.u V0 (.ix V2<|.neg K2)<|.ix V2<|.neg K1) (.iff (.x .Is V3<|.cst .non) (.o<|.ret<|.cst .non) .n) (.ret<|.tupl<|.z (.bin .Add (.ix V1 K0) K1) (.bin .Add (.sl V2 M<|J<|.neg K2)<|.tupl<|.o V3) (.ix V1 K2)<|.ix V1 K3)
def Zfp:Fd:=fd_ 2 ["word","state","stack","N"] Zin
def Zj3:Sxs:=.z (.iff (.q (.ix V0 K0)<|.Ci_ "call") (.o<|.ret<|.f "applied"<|.w (.ix V1 K1)<|.bin .Add (.tupl<|.o<|.tupl<|.w (.bin .Add (.ix V1 K0) K1)<|.ix V1 K2)<|.ix V1 K3) .n) (.iff (.q (.ix V0 K0)<|.Ci_ "hop") (.o<|.ret<|.f "applied"<|.w (.ix V1 K1)<|.ix V1 K3) .n) (.iff (.q (.ix V0 K0)<|.Ci_ "unless") (.o<|.ret<|.f "gone_on"<|.w (.ix V0 K1) V1) .n) (.ret<|.f "reckoned"<|.w (.ix V0 K1) V1)
def Zf0:Fd:=fd_ 2 ["row","state"] Zj3
def Zle:Sxs:=.z (.s 2<|.ix V0<|.ix V1 K0) (.iff (.q (.ix V2 K0)<|.Ci_ "end") (.o<|.ret<|.tupl<|.o<|.Ci_ "value") .n) (.iff (.x .In (.ix V2 K0)<|.glo<|O "LOUD") (.o<|.ret<|.f "loud_or_stuck"<|.o<|.f "loud_state"<|.w V2 V1) .n) (.ret<|.tupl<|.w (.Ci_ "quiet")<|.f "quiet_state"<|.w V2 V1)
def ZgW:Fd:=fd_ 2 ["code","state","row"] Zle
def Zgh:Sxs:=.z (.s 1 K0) (.s 2<|.lstl<|.o V0) (.whl (.ex V2)<|.u (.s 3<|.meth .pop V2 .n) (.aug 1 .Add<|.ite (.q (.ix V3 K0)<|.Ci_ "if") K2 K1)<|.iff (.nt<|.ex<|.f "bound_names"<|.o V3) (.o<|.drp<|.meth .ext V2<|.o<|.f "parts_of"<|.o V3) .n) (.ret V1)
def Zf4:Fd:=fd_ 1 ["E","count","waiting","place"] Zgh
def ZiG:Sx:=.iff (.q (.ix V0 K0)<|.Ci_ "call") (.o<|.ret<|.lstl<|.u (.tupl<|.u (.Ci_ "part") (.ix V0 K1)<|.cst<|.bl Ws) (.tupl<|.u (.Ci_ "part") (.ix V0 K2)<|.cst<|.bl Ws)<|.tupl<|.w (.Ci_ "row")<|.ite (.ex V1) (.tupl<|.o<|.Ci_ "hop")<|.tupl<|.o<|.Ci_ "call") .n
def ZiF:Sx:=.iff (.q (.ix V0 K0)<|.Ci_ "if") (.o<|.ret<|.lstl<|.y (.tupl<|.u (.Ci_ "part") (.ix V0 K1)<|.cst<|.bl Ws) (.tupl<|.w (.Ci_ "row")<|.tupl<|.w (.Ci_ "unless")<|.bin .Add (.f "count_rows"<|.o<|.ix V0 K2) K2) (.tupl<|.u (.Ci_ "part") (.ix V0 K2) V1) (.tupl<|.w (.Ci_ "row")<|.tupl<|.w (.Ci_ "jump")<|.bin .Add (.f "count_rows"<|.o<|.ix V0 K3) K1)<|.tupl<|.u (.Ci_ "part") (.ix V0 K3) V1) .n
def ZiE:Sx:=.ret (.lstl<|.u (.tupl<|.u (.Ci_ "part") (.ix V0 K1)<|.cst<|.bl Ws) (.tupl<|.u (.Ci_ "part") (.ix V0 K2)<|.cst<|.bl Ws)<|.tupl<|.w (.Ci_ "row")<|.tupl<|.w (.Ci_ "work")<|.ix V0 K0)
def Zld:Sxs:=.u ZiG ZiF ZiE
def ZgU:Fd:=fd_ 2 ["E","last"] Zld
def Zgg:Sxs:=.u (.s 1<|.lstl<|.o K0) (.forr (.nm 2) (.pl V0)<|.o<|.drp<|.meth .app V1<|.o<|.bin .Add (.ix V1<|.neg K1)<|.blt .len<|.o<|.a "Unit" V2 "rows") (.ret V1)
def Zf2:Fd:=fd_ 1 ["units","firsts","unit"] Zgg
def Zip:Sxs:=.u (.iff (.x .In (.ix V0 K0)<|.glo<|O "LEADING") (.o<|.ret<|.tupl<|.w (.ix V0 K0)<|.bin .Add V1<|.ix V0 K1) .n) (.iff (.q (.ix V0 K0)<|.Ci_ "close") (.o<|.ret<|.tupl<|.u (.Ci_ "close") (.ix V2<|.ix V0 K1)<|.ix V0 K2) .n) (.ret V0)
def Zh2:Fd:=fd_ 3 ["row","first","firsts"] Zip
def Zll:Sx:=.s 1 (.mk (O "Coder") .n)
def Zlk:Sx:=.drp (.m "Coder" "begin_unit" V1<|.u V0 (.tupl .n)<|.Ci_ "end")
def Zlj:Sx:=.drp (.m "Coder" "do_all" V1 .n)
def Zli:Sx:=.s 2 (.f "first_rows"<|.o<|.a "Coder" V1 "units")
def Zlh:Sx:=.s 3 (.lstl .n)
def Zg4:Sx:=.forr (.nm 4) (.pl<|.a "Coder" V1 "units") (.w (.s 5<|.blt .len<|.o V3)<|.drp<|.meth .ext V3<|.o<|.comp [O "row",O "first",O "firsts"] [M,J 5,J 2] (.pl<|.a "Unit" V4 "rows") (.nm 0) M<|.f "numbered"<|.u V0 V1 V2)
def Zlg:Sx:=.ret V3
def Zjj:Sxs:=.c Zll (.c Zlk<|.y Zlj Zli Zlh Zg4 Zlg)
def Zi4:Fd:=fd_ 1 ["E","coder","firsts","code","unit","first"] Zjj
def ZdU:Sxs:=.w (.sa "Unit" V0 "around" V1) (.sa "Unit" V0 "rows"<|.lstl .n)
def ZaG:Fd:=fd_ 2 ["self","around"] ZdU
def Ziu:Sxs:=.o (.iff (.x .In (.ix V1 K0)<|.glo<|O "LEADING") (.o<|.drp<|.meth .app (.a "Unit" V0 "rows")<|.o<|.tupl<|.w (.ix V1 K0)<|.bin .Add (.blt .len<|.o<|.a "Unit" V0 "rows")<|.ix V1 K1)<|.o<|.drp<|.meth .app (.a "Unit" V0 "rows")<|.o V1)
def Za2:Fd:=fd_ 2 ["self","row"] Ziu
def Zdh:Sxs:=.w (.sa "Coder" V0 "units"<|.lstl .n) (.sa "Coder" V0 "waiting"<|.lstl .n)
def Zar:Fd:=fd_ 1 ["self"] Zdh
def ZgK:Sxs:=.o (.drp<|.meth .ext (.a "Coder" V0 "waiting")<|.o<|.comp [O "piece",O "unit"] [M,J 1] (.rev V2) (.nm 0) M<|.tupl<|.w V1 V0)
def Zde:Fd:=fd_ 3 ["self","unit","pieces"] ZgK
def ZeH:Sx:=.s 4 (.mk (O "Unit")<|.o V2)
def ZeG:Sx:=.drp (.meth .app (.a "Coder" V0 "units")<|.o V4)
def ZeF:Sx:=.drp (.m "Coder" "wait_for" V0<|.w V4<|.lstl<|.w (.tupl<|.u (.Ci_ "part") V1<|.cmp .Eq V3<|.Ci_ "back")<|.tupl<|.w (.Ci_ "row")<|.tupl<|.o V3)
def Zfy:Sxs:=.u ZeH ZeG ZeF
def Zcg:Fd:=fd_ 4 ["self","E","around","ended","unit"] Zfy
def Zc4:Sx:=.s 3 (.trev<|.f "bound_names"<|.o V2)
def Zc3:Sx:=.drp (.m "Unit" "add_row" V1<|.o<|.tupl<|.u (.Ci_ "close") (.blt .len<|.o<|.a "Coder" V0 "units") V3)
def Zc2:Sx:=.drp (.m "Coder" "begin_unit" V0<|.u (.ix (.f "parts_of"<|.o V2) K0) (.bin .Add V3<|.a "Unit" V1 "around")<|.Ci_ "back")
def ZdG:Sxs:=.u Zc4 Zc3 Zc2
def Za7:Fd:=fd_ 3 ["self","unit","E","names"] ZdG
def ZbT:Sxs:=.o (.iff (.q (.ix V2 K0)<|.Ci_ "num") (.o<|.drp<|.m "Unit" "add_row" V1<|.o V2)<|.o<|.iff (.q (.ix V2 K0)<|.Ci_ "name") (.o<|.drp<|.m "Unit" "add_row" V1<|.o<|.tupl<|.w (.Ci_ "fetch")<|.tix (.a "Unit" V1 "around")<|.ix V2 K1)<|.o<|.iff (.ex<|.f "bound_names"<|.o V2) (.o<|.drp<|.m "Coder" "begin_function" V0<|.w V1 V2)<|.o<|.drp<|.m "Coder" "wait_for" V0<|.w V1<|.f "pieces_of"<|.w V2 V3)
def ZdN:Fd:=fd_ 4 ["self","unit","E","last"] ZbT
def Ziv:Sxs:=.o (.whl (.ex<|.a "Coder" V0 "waiting")<|.u (.s 1<|.meth .pop (.a "Coder" V0 "waiting") .n) (.s 2<|.ix V1 K1)<|.iff (.q (.ix V2 K0)<|.Ci_ "row") (.o<|.drp<|.m "Unit" "add_row" (.ix V1 K0)<|.o<|.ix V2 K1)<|.o<|.drp<|.m "Coder" "do_part" V0<|.u (.ix V1 K0) (.ix V2 K1)<|.ix V2 K2)
def Zei:Fd:=fd_ 1 ["self","pair","piece"] Ziv
structure Cof(P:Pg):Prop where
 bound_names:P.tb.lookup (O "bound_names")=J ZaB
 parts_of:P.tb.lookup (O "parts_of")=J Zdr
 count_rows:P.tb.lookup (O "count_rows")=J Zf4
 pieces_of:P.tb.lookup (O "pieces_of")=J ZgU
 first_rows:P.tb.lookup (O "first_rows")=J Zf2
 numbered:P.tb.lookup (O "numbered")=J Zh2
 code_of:P.tb.lookup (O "code_of")=J Zi4
 n_Unit___init__:P.tb.lookup (mnm (O "Unit")<|O "__init__")=M
 Unit___init__:P.ms.lookup (mnm (O "Unit")<|O "__init__")=J ZaG
 n_Unit_add_row:P.tb.lookup (mnm (O "Unit")<|O "add_row")=M
 Unit_add_row:P.ms.lookup (mnm (O "Unit")<|O "add_row")=J Za2
 n_Coder___init__:P.tb.lookup (mnm (O "Coder")<|O "__init__")=M
 Coder___init__:P.ms.lookup (mnm (O "Coder")<|O "__init__")=J Zar
 n_Coder_wait_for:P.tb.lookup (mnm (O "Coder")<|O "wait_for")=M
 Coder_wait_for:P.ms.lookup (mnm (O "Coder")<|O "wait_for")=J Zde
 n_Coder_begin_unit:P.tb.lookup (mnm (O "Coder")<|O "begin_unit")=M
 Coder_begin_unit:P.ms.lookup (mnm (O "Coder")<|O "begin_unit")=J Zcg
 n_Coder_begin_function:P.tb.lookup (mnm (O "Coder")<|O "begin_function")=M
 Coder_begin_function:P.ms.lookup (mnm (O "Coder")<|O "begin_function")=J Za7
 n_Coder_do_part:P.tb.lookup (mnm (O "Coder")<|O "do_part")=M
 Coder_do_part:P.ms.lookup (mnm (O "Coder")<|O "do_part")=J ZdN
 n_Coder_do_all:P.tb.lookup (mnm (O "Coder")<|O "do_all")=M
 Coder_do_all:P.ms.lookup (mnm (O "Coder")<|O "do_all")=J Zei
 g:P.G (O "FORMS")=J (.kd<|O "FORMS")
 gl:P.G (O "LEADING")=J (.tup [.str<|O "unless",.str<|O "jump"])
 gd:P.GD (O "FORMS")=J Gn.Zcf
 big:1000000<=P.L
structure Cod(P:Pg):Prop extends Cof P where
 loud_or_stuck:P.tb.lookup (O "loud_or_stuck")=J ZdM
 chosen:P.tb.lookup (O "chosen")=J Zeg
 worked:P.tb.lookup (O "worked")=J Zda
 code_begun:P.tb.lookup (O "code_begun")=J Zf5
 thing_of:P.tb.lookup (O "thing_of")=J ZhZ
 quiet_state:P.tb.lookup (O "quiet_state")=J Zfe
 entered:P.tb.lookup (O "entered")=J Zi3
 applied:P.tb.lookup (O "applied")=J Zi5
 gone_on:P.tb.lookup (O "gone_on")=J Zi2
 reckoned:P.tb.lookup (O "reckoned")=J Zfp
 loud_state:P.tb.lookup (O "loud_state")=J Zf0
 code_step:P.tb.lookup (O "code_step")=J ZgW
 go:P.G (O "LOUD")=J (.tup [.str<|O "call",.str<|O "hop",.str<|O "unless",.str<|O "work"])
 gb:P.G (O "BEYOND")=J (.int 1000000)
section
variable {P:Pg}
noncomputable def bnd:T->List Str
 |.fn x _=>[x]
 |.rcc f x _=>[f,x]
 |_=>[]
section
variable {w:Wd}
@[simp]def Zpk:w.s=O "num" ↔ False:=by cases w<;>simp[Wd.s]
@[simp]def ZmO:w.s=O "name" ↔ False:=by cases w<;>simp[Wd.s]
@[simp]def ZmP:w.s=O "call" ↔ False:=by cases w<;>simp[Wd.s]
@[simp]def Zpl:w.s=O "if" ↔ False:=by cases w<;>simp[Wd.s]
@[simp]def Zd5:Zao Gn.Zcf (.inr w.s)=J (.tup [.int 0,.int 2]):=by cases w<;>rfl
end
def Cof.tre(H:Cof P):Gn.Tre P:=⟨H.parts_of,H.g,H.gd,H.big⟩
def ZeP(H:Cof P)(n)(t)(h):run P (n+1) (O "bound_names") [t.d] h=.ok (.tup<|(bnd t).map .str) h:=by
 have no:∀(w) (ds),Zao Gn.Zcf (.inr w)=M->run P (n+1) (O "bound_names") [.tup (.str w::ds)] h=.ok (.tup []) h:=λw ds e=>by exact(Ze H.bound_names rfl).I (congrArg Zf<|Zd<|(Zk<|Gn.ZbB H.tre ⟨rfl,rfl⟩ Gn.ZdL e).I<|Zd<|Zn (d:=.tup []) rfl)
 have g:∀(w) (ds) (a b),Zao Gn.Zcf (.inr w)=J (.tup [.int a,.int b])->run P (n+1) (O "bound_names") [.tup (.str w::ds)] h=.ok (.tup<|cutD (.str w::ds) (J 1)<|J<|1+a) h:=λw ds a b e=>by exact(Ze H.bound_names rfl).I (congrArg Zf<|(Za<|(Zg<|Gn.ZbB H.tre ⟨rfl,rfl⟩ Gn.ZdL e).I rfl).I<|Zd<|Zn<|(Gn.ZfI (x:=.tup (.str w::ds)) rfl rfl<|Gn.Zhj<|Gn.ZjN H.tre ⟨rfl,rfl⟩ e).I rfl)
 cases t with
 |num z=>exact no (O "num") _ rfl
 |name x=>exact no (O "name") _ rfl
 |fn x e=>exact g (O "fn") _ 1 1 rfl
 |rcc f x e=>exact g (O "rec") _ 2 1 rfl
 |call f a=>exact g (O "call") _ 0 2 rfl
 |iff c a b=>exact g (O "if") _ 0 3 rfl
 |op w a b=>exact g w.s _ 0 2 Zd5
theorem Zdl(H:Cof P)(n)(t:T)(h):run P (n+1) (O "parts_of") [t.d] h=.ok (.tup<|t.parts.map T.d) h:=Gn.Zdl H.tre n t h
noncomputable def cnt:T->Nat
 |.call f a=>cnt f+cnt a+1
 |.op _ a b=>cnt a+cnt b+1
 |.iff c t e=>cnt c+cnt t+cnt e+2
 |_=>1
def inn(t:T):List T:=if bnd t=[]then t.parts else []
noncomputable def one:T->Int
 |.iff _ _ _=>2
 |_=>1
def ZtQ(t):cnt t=one t+((inn t).map cnt).sum:=by cases t<;>simp[cnt,one,inn,bnd,T.parts]<;>lia
def Zb(t:T):t.size=1+(t.parts.map T.size).sum:=by
 unfold T.size;rw[T.places_parts];simp
 lia
def ZpK(t):1+((inn t).map T.size).sum<=t.size:=by
 rw[Zb t];unfold inn;split
 . lia
 simp
def Zi(t:T):1<=t.size:=by rw[Zb];lia
theorem ZkI:∀W:List T,W.length<=(W.map T.size).sum
 |[]=>by simp
 |t::W=>by
  have:=Zi t;have:=ZkI W;simp
  lia
def lc1:Sx:=.s 3 (.meth .pop V2 .n)
def lc2:Ex:=.ite (.q (.ix V3 K0)<|.Ci_ "if") K2 K1
def lc3:Sx:=.iff (.nt<|.ex<|.f "bound_names"<|.o V3) (.o<|.drp<|.meth .ext V2<|.o<|.f "parts_of"<|.o V3) .n
def ZkH:Sxs:=.u lc1 (.aug 1 .Add lc2) lc3
def Zfz{U}(p:ev U o S h=.ok (.ref i) R)(hc:R[i]?=J (.ins C fs))(hl:fs.lookup f=J d):ev U (.att [C] o f) S h=.ok d R:=by rw[Zro,p];simp only[ZA,Zgz,Z8,hc,if_pos<|Ox.mpr rfl,hl];rfl
def Zfo{U}(p:ev U o S h=.ok (.tup (x::ds)) R):ev U (.ix o<|.ci 0) S h=.ok x R:=by simp_all
def Zza{U}(a:S[i]?=J (J<|.int x))(q:ev U e S h=.ok (.int y) R):xs1 U (.aug i .Add e) S h=.ok (.nx,S.set i<|J<|.int<|x+y) R:=by show qe.bind _ _=_;rw[a];show qe.bind (ev U e _ h) _=_;rw[q];rfl
section
variable {h:Hd}
def ZzY:ZaA .pop (.ref h.length) [] (h++[.lst<|l++[d]])=.ok d (h++[.lst l]):=(ZbG Zay).I (by rw[ZhC])
def Zz8(hz:l.length+xs.length<=Yc):ZaA .ext (.ref h.length) [.tup xs] (h++[.lst l])=.ok .non (h++[.lst<|l++xs]):=by simp only[ZaA,Zay,Zgu,ZqO];rw[if_pos hz,ZhC]
end
def Zy0{U}(t)(h)(a b c):ev U lc2 [a,b,c,J t.d] h=.ok (.int<|one t) h:=by
 have e:∀(w) (ds),ev U lc2 [a,b,c,J<|.tup (.str w::ds)] h=.ok (.int<|if w=O "if" then 2 else 1) h:=λw ds=>by
  unfold lc2;rw[Zrn,Zas (Zfo rfl) rfl,ZA];split
  . rename_i z;rw[if_pos<|of_decide_eq_true z];rfl
  simp_all
 cases t with
 |op w x y=>exact(e w.s _).I (by rw[if_neg λz=>Zpl.mp z];rfl)
 |_=>exact e _ _
theorem Zns(H:Cof P){h:Hd}(n):∀(fuel) (W:List T) (c) (p),(W.map T.size).sum<fuel->(W.map T.size).sum<=900000->∃p',
 ZH (tst (P.tbl<|n+1)<|.ex<|.var 2) (xs2 (P.tbl<|n+1) ZkH) fuel [J E,J<|.int c,J<|.ref h.length,p] (h++[.lst<|W.map T.d])
  = .ok (.nx,[J E,J<|.int<|c+(W.map cnt).sum,J<|.ref h.length,p']) (h++[.lst []])
 |0,W,c,p,R,h2=>by lia
 |fuel+1,W,c,p,R,h2=>by
  rcases List.eq_nil_or_concat W with rfl|⟨V,t,rfl⟩
  . exact⟨p,(Zdj<|Ze9 (ys:=[]) rfl Zay).I<|by rw[Oy,List.sum_nil,Int.natCast_zero,Int.add_zero]⟩
  . rw[List.concat_eq_append,List.map_append,List.sum_append]at R h2;rw[List.concat_eq_append,List.map_append];have e1:=ZpK t;have e2:=ZtQ t;have e3:=ZkI V;have e4:t.parts.length<=3:=by cases t<;>simp[T.parts]
    simp only[Op,Oy,OI,List.sum_nil]at R h2;obtain⟨p',e⟩:=Zns H (h:=h) (E:=E) n fuel (V++inn t) (c+one t) (J t.d) (by rw[List.map_append,List.sum_append];lia) (by rw[List.map_append,List.sum_append];lia);rw[List.map_append]at e;refine⟨p',(Zbz (Zh (Ze9 rfl Zay)<|by simp)<|(Za<|Zm<|ZbI rfl Zay rfl ZzY).I<|(Za<|Zza rfl<|Zy0 t _ _ _ _).I<|Za (R:=h++[.lst<|V.map T.d++(inn t).map T.d]) ?_).I<|e.I ?_⟩
    . have rb:=ZeP H n t<|h++[.lst<|V.map T.d];unfold inn;cases hb:bnd t with
      |nil=>rw[hb]at rb;rw[if_pos rfl];exact(Zk<|Zgb rb rfl rfl).I ((Za<|ZK<|ZbI rfl Zay (Zc (Zo (Zdl H n t _) rfl) rfl)<|Zz8 (by rw[YC,Yu,Yu];lia)).I rfl)
      |cons y ys=>rw[hb]at rb;rw[if_neg<|by simp,Oy,Yt];exact(Zg<|Zgb rb rfl rfl).I rfl
    . rw[show c+one t+(((V++inn t).map cnt).sum:Int)=c+((V++[t]).map cnt).sum by simp;lia]
def Zhg(H:Cof P)(n)(t)(h)(hz:t.size<=1000):run P (n+2) (O "count_rows") [t.d] h=.ok (.int<|cnt t) (h++[.lst []]):=by rw[Ze H.count_rows rfl];obtain⟨a,e⟩:=Zns H (h:=h) (E:=t.d) n P.L [t] 0 M (by have:=H.big;simp;lia) (by simp;lia);rw[show(0+(([t].map cnt).sum:Nat):Int)=cnt t by simp]at e;have w:xs2 (P.tbl<|n+1) Zgh [J t.d,M,M,M] h=.ok (.rt<|.int<|cnt t,_) (h++[.lst []]):=(Za<|Zm rfl).I ((Za<|Zm<|Zfq (xs:=[t.d]) rfl (by decide:1<=1000)).I<|(Za (s:=.whl (.ex<|.var 2) ZkH) (T:=P.tbl<|n+1) e).I<|Zd<|Zn rfl);exact congrArg Zf w
end
set_option tactic.hygienic true
section
set_option genInjectivity true in
inductive Rw where
 |num (n:Int)|fetch (i:Nat)|close (k:Int) (ns:List Str)|work (w:Wd)|call|hop|unl (k:Int)|jmp (k:Int)|back|fin
noncomputable def Rw.d:Rw->D
 |.num n=>.tup [.str<|O "num",.int n]
 |.fetch i=>.tup [.str<|O "fetch",.int (i:Int)]
 |.close k ns=>.tup [.str<|O "close",.int k,.tup<|ns.map .str]
 |.work w=>.tup [.str<|O "work",.str w.s]
 |.call=>.tup [.str<|O "call"]
 |.hop=>.tup [.str<|O "hop"]
 |.unl k=>.tup [.str<|O "unless",.int k]
 |.jmp k=>.tup [.str<|O "jump",.int k]
 |.back=>.tup [.str<|O "back"]
 |.fin=>.tup [.str<|O "end"]
noncomputable def wd:Rw->String
 |.num _ => "num" |.fetch _ => "fetch" |.close _ _ => "close" |.work _ => "work" |.call => "call" |.hop => "hop" |.unl _ => "unless" |.jmp _ => "jump" |.back => "back" |.fin => "end"
def ZkZ(r:Rw):∃ds,r.d=.tup (.str (Str.ofString<|wd r)::ds):=by cases r<;>exact⟨_,rfl⟩
noncomputable def Rw.up(p:Int):Rw->Rw
 |.unl k=>.unl (p+k)
 |.jmp k=>.jmp (p+k)
 |r=>r
inductive It where
 |row (r:Rw)|part (t:T) (last:Bool)
noncomputable def It.d:It->D
 |.row r=>.tup [.str<|O "row",r.d]
 |.part t b=>.tup [.str<|O "part",t.d,.bl b]
def its(last:Bool):T->List It
 |.call f a=>[.part f Ws,.part a Ws,.row<|if last then .hop else .call]
 |.op w a b=>[.part a Ws,.part b Ws,.row<|.work w]
 |.iff c t e=>[.part c Ws,.row<|.unl<|cnt t+2,.part t last,.row<|.jmp<|cnt e+1,.part e last]
 |_=>[]
structure Un where
 u:Nat
 r:Nat
 sc:List Str
 rows:List Rw
structure St(h0 h:Hd)(c us w:Nat)(U:List Un)(ws:List D):Prop where
 qc:h[c]?=J (.ins (O "Coder") [(O "units",.ref us),(O "waiting",.ref w)])
 qs:h[us]?=J (.lst<|U.map λx=>.ref x.u)
 qw:h[w]?=J (.lst ws)
 qu:∀x∈U,h[x.u]?=J (.ins (O "Unit") [(O "around",.tup<|x.sc.map .str),(O "rows",.ref x.r)])
 qr:∀x∈U,h[x.r]?=J (.lst<|x.rows.map Rw.d)
 nd:(U.map Un.r).Nodup
 d1:us≠w
 d2:∀x∈U,us≠x.r
 d3:∀x∈U,w≠x.r
 o1:h0.length<=us
 o2:h0.length<=w
 o3:∀x∈U,h0.length<=x.r
 ol:h0.length<=h.length
 old:∀i,i<h0.length->h[i]?=h0[i]?
variable {h0 h:Hd}{c us w:Nat}{U A B_:List Un}{x:Un}{ws:List D}
def ZM(e:h[i]?=J o):i<h.length:=by
 rcases Nat.lt_or_ge i _ with q|q
 . exact q
 simp_all
def keep{i:Nat}{o}{g}(e:h[i]?=J o):(h++g)[i]?=J o:=(Oe<|ZM e).I e
def St.app(q:St h0 h c us w U ws){g}:St h0 (h++g) c us w U ws:=⟨keep q.qc,keep q.qs,keep q.qw,λx a=>keep<|q.qu x a,λx a=>keep<|q.qr x a,q.nd,q.d1,q.d2,q.d3,q.o1,q.o2,q.o3,by have:=q.ol;simp;lia,λi b=>(Oe (by have:=q.ol;lia)).I<|q.old i b⟩
def ZfQ{i j:Nat}{C fs l}(e:h[i]?=J (.ins C fs))(e':h[j]?=J (.lst l)):j≠i:=by
 intro q
 simp_all
def St.setW(q:St h0 h c us w U ws)(vs):St h0 (h.set w<|.lst vs) c us w U vs:=by
 refine⟨?_,?_,?_,λx a=>?_,λx a=>?_,q.nd,q.d1,q.d2,q.d3,q.o1,q.o2,q.o3,by simpa using q.ol,λi b=>(Oc (by have:=q.o2;lia)).I<|q.old i b⟩
 . rw[Oc<|ZfQ q.qc q.qw];exact q.qc
 . rw[Oc q.d1.symm];exact q.qs
 . rw[Ol<|ZM q.qw]
 . rw[Oc<|ZfQ (q.qu x a) q.qw];exact q.qu x a
 . rw[Oc<|q.d3 x a];exact q.qr x a
def St.setR(q:St h0 h c us w (A++x::B_) ws)(vs):St h0 (h.set x.r<|.lst<|vs.map Rw.d) c us w (A++{x with rows:=vs}::B_) ws:=by
 have a:x∈A++x::B_:=by simp
 have b:=q.qr x a;have f:=q.nd;rw[List.map_append,Op,List.nodup_append]at f;obtain⟨l,g,j⟩:=f;rw[List.nodup_cons]at g;have ne:∀y,y∈A\/y∈B_->x.r≠y.r:=by
  intro y hy e;rcases hy with hy|hy
  . exact j y.r (List.mem_map_of_mem hy) x.r (Oi) e.symm
  . exact g.1 (e▸List.mem_map_of_mem hy)
 have mem:∀y,y∈A++{x with rows:=vs}::B_->y={x with rows:=vs}\/(y∈A\/y∈B_):=by
  intro y hy;rcases OD.mp hy with hy|hy
  . exact .inr (.inl hy)
  . rcases O3.mp hy with hy|hy
    . exact .inl hy
    . exact .inr (.inr hy)
 have old:∀y,y∈A\/y∈B_->y∈A++x::B_:=by intro y hy;rcases hy with hy|hy<;>simp[hy]
 refine⟨?_,?_,?_,λy hy=>?_,λy hy=>?_,?_,q.d1,λy hy=>?_,λy hy=>?_,q.o1,q.o2,λy hy=>?_,by simpa using q.ol,λi k=>by rw[Oc (by have:=q.o3 x a;lia)];exact q.old i k⟩
 . rw[Oc<|ZfQ q.qc b];exact q.qc
 . rw[Oc (q.d2 x a).symm];have:=q.qs;simpa using this
 . rw[Oc (q.d3 x a).symm];exact q.qw
 . rcases mem y hy with rfl|hy
   . rw[Oc<|ZfQ (q.qu x a) b];exact q.qu x a
   . rw[Oc<|ZfQ (q.qu y<|old y hy) b];exact q.qu y (old y hy)
 . rcases mem y hy with rfl|hy
   . rw[Ol<|ZM b]
   . rw[Oc<|ne y hy];exact q.qr y (old y hy)
 . have:=q.nd;simpa using this
 . rcases mem y hy with rfl|hy
   . exact q.d2 x a
   . exact q.d2 y (old y hy)
 . rcases mem y hy with rfl|hy
   . exact q.d3 x a
   . exact q.d3 y (old y hy)
 . rcases mem y hy with rfl|hy
   . exact q.o3 x a
   . exact q.o3 y (old y hy)
def St.more(q:St h0 h c us w U ws)(sc):St h0 (List.set (h++[.ins (O "Unit") [(O "around",.tup<|sc.map .str),(O "rows",.ref<|h.length+1)],.lst []]) us<|.lst<|(U.map λx=>.ref x.u)++[.ref h.length]) c us w (U++[⟨h.length,h.length+1,sc,[]⟩]) ws:=by
 have f:=q.app (g:=[.ins (O "Unit") [(O "around",.tup<|sc.map .str),(O "rows",.ref<|h.length+1)],.lst []]);have m:=ZM q.qs;have new:∀y,y∈U++[⟨h.length,h.length+1,sc,[]⟩]->y∈U\/y=⟨h.length,h.length+1,sc,[]⟩:=λy d=>by simpa using d
 refine⟨?_,?_,?_,λy d=>?_,λy d=>?_,?_,q.d1,λy d=>?_,λy d=>?_,q.o1,q.o2,λy d=>?_,by have:=q.ol;simp;lia,λi j=>by rw[Oc (by have:=q.o1;lia)];exact f.old i j⟩
 . rw[Oc<|ZfQ f.qc f.qs];exact f.qc
 . rw[Ol (by simp;lia)];simp
 . rw[Oc q.d1];exact f.qw
 . rcases new y d with d|rfl
   . rw[Oc<|ZfQ (f.qu y d) f.qs];exact f.qu y d
   . rw[Oc (by simp only;lia)];simp
 . rcases new y d with d|rfl
   . rw[Oc<|q.d2 y d];exact f.qr y d
   . rw[Oc (by simp only;lia)];simp
 . rw[List.map_append,List.nodup_append];refine⟨q.nd,by simp,λa k b l e=>?_⟩;obtain⟨y,d,rfl⟩:=List.mem_map.mp k;have:=ZM<|q.qr y d;simp at l
   lia
 . rcases new y d with d|rfl
   . exact q.d2 y d
   . simp only;lia
 . rcases new y d with d|rfl
   . exact q.d3 y d
   . have:=ZM q.qw;simp only;lia
 . rcases new y d with d|rfl
   . exact q.o3 y d
   . have:=q.ol;simp only;lia
end
set_option tactic.hygienic false
section
variable {P:Pg}{h0 h:Hd}{c us w:Nat}{U:List Un}{x:Un}{ws:List D}
def Zun{U}(q:ev U e S h=.ok (.int z) R):ev U (.tupl<|.cons (.cst<|.str a)<|.cons (.tupl<|.cons (.cst<|.str b)<|.cons e .nil) .nil) S h=.ok (.tup [.str a,.tup [.str b,.int z]]) R:=Z6 (Zc rfl<|Zc (Z6 (Zc rfl<|Zc q rfl)<|show 2<=1000 by decide) rfl) (show 2<=1000 by decide)
def ZpX(H:Cof P)(n)(t)(last)(h)(hz:t.size<=1000)(ht:its last t≠[]):∃g,run P (n+3) (O "pieces_of") [t.d,.bl last] h=.ok (.ref (h++g).length) ((h++g)++[.lst<|(its last t).map It.d]):=by
 rw[Ze H.pieces_of rfl];cases t with
 |call f a=>exact⟨[],by rw[Yt];cases last<;>exact rfl⟩
 |op w a b=>refine⟨[],?_⟩;rw[Yt];exact congrArg Zf ((Za<|(Zg<|Zh (Zas (x:=w.s) rfl rfl)<|decide_eq_false ZmP.mp).I rfl).I<|(Za<|(Zg<|Zh (Zas (x:=w.s) rfl rfl)<|decide_eq_false Zpl.mp).I rfl).I<|Zd<|Zn rfl)
 |iff c t e=>rw[Zb]at hz;simp only[T.parts,Op,Oy,OI,List.sum_nil]at hz;refine⟨[.lst []]++[.lst []],?_⟩;rw[<-Oz];exact congrArg Zf ((Za<|(Zg rfl).I rfl).I<|Zd<|(Zk rfl).I<|Zd<|Zn<|Zfq (xs:=[_,_,_,_,_]) (Zc rfl<|Zc (Zun<|(Zl (Zo (Zhg H n t h<|by lia) rfl) rfl).I rfl)<|Zc rfl<|Zc (Zun<|(Zl (Zo (Zhg H n e _<|by lia) rfl) rfl).I rfl)<|Zc rfl rfl)<|show 5<=1000 by decide)
 |_=>exact absurd rfl ht
def Zty{GD}{h}{x}:opC GD .In (.str<|Str.ofString x) (.tup [.str<|O "unless",.str<|O "jump"]) h=.ok (.bl<|Wu<|x="unless" \/ x="jump") h:=by simpa using @Zb1 _ h [Str.ofString _,Str.ofString _] (Str.ofString x)
def ZpB(H:Cof P)(n)(r)(p:ev (P.tbl n) e S h=.ok r.d h):tst (P.tbl n) (.ex<|.cmp .In (.ix e<|.ci 0)<|.glo<|O "LEADING") S h=.ok (Wu<|wd r="unless" \/ wd r="jump") h:=by obtain⟨ds,a⟩:=ZkZ r;rw[a]at p;exact Zb3 ((Zu (Zfo p) (by rw[Zia,show(P.tbl n).G _=_ from H.gl];rfl)).I Zty)
def Zm5(H:Cof P)(n)(q:St h0 h c us w U ws)(hx:x∈U)(az:Rw)(hz:x.rows.length<=100000):
 run P (n+1) (mnm (O "Unit")<|O "add_row") [.ref x.u,az.d] h=.ok .non (h.set x.r<|.lst<|(x.rows++[az.up x.rows.length]).map Rw.d):=by
 rw[Zz H.n_Unit_add_row H.Unit_add_row rfl,List.map_append];have a:=q.qr x hx;have b:∀d,ev (P.tbl n) (.att [O "Unit"] (.var 0)<|O "rows") [J<|.ref x.u,d] h=.ok (.ref x.r) h:=λd=>Zfz rfl (q.qu x hx) rfl;have app:∀{e o d},ev (P.tbl n) e [J<|.ref x.u,o] h=.ok d h->xs2 (P.tbl n) (.cons (.drp<|.meth .app (.att [O "Unit"] (.var 0)<|O "rows")<|.cons e .nil) .nil) [J<|.ref x.u,o] h=.ok (.nx,[J<|.ref x.u,o]) (h.set x.r<|.lst<|x.rows.map Rw.d++[d]):=λp=>(Za<|ZK<|ZbI (b _) a (Zc p rfl)<|ZW a (by rw[Yu,YC];lia)).I rfl;have t:=ZpB H n (e:=.var 1) (S:=[J<|.ref x.u,J az.d]) (h:=h) az rfl;have two:∀{s}{z},ev (P.tbl n) (.tupl<|.cons (.ix (.var 1)<|.ci 0)<|.cons (.bin .Add (.blt .len<|.cons (.att [O "Unit"] (.var 0)<|O "rows") .nil)<|.ix (.var 1)<|.ci 1) .nil) [J<|.ref x.u,J<|.tup [.str s,.int z]] h=.ok (.tup [.str s,.int<|x.rows.length+z]) h:=λ{s z}=>Z6 (Zc (Zfo rfl)<|Zc ((Zl (Zib (Zc (b _) rfl)<|ZgQ a) rfl).I<|by simp) rfl) (show 2<=1000 by decide)
 have go:wd az ≠ "unless" -> wd az ≠ "jump" -> az.up x.rows.length=az->Zf (xs2 (P.tbl n) Za2.body (Zx Za2.N [.ref x.u,az.d]) h)=.ok .non (h.set x.r<|.lst<|x.rows.map Rw.d++[az.up x.rows.length].map Rw.d):=λf g e=>by rw[e];exact congrArg Zf ((Za<|(Zg<|Zh t<|decide_eq_false λz=>z.elim f g).I<|app rfl).I rfl)
 cases az with
 |unl k=>exact congrArg Zf ((Za<|(Zk<|Zh t<|decide_eq_true<|.inl rfl).I<|app two).I rfl)
 |jmp k=>exact congrArg Zf ((Za<|(Zk<|Zh t<|decide_eq_true<|.inr rfl).I<|app two).I rfl)
 |_=>exact go (by simp[wd]) (by simp[wd]) rfl
theorem ZqZ{U}{u k}{ps}(e:h[k]?=J (.lst ps)):∀(ds ag),ag.length+ds.length<=1000 ->
 ZI [(k,ps)] (.nm 0) (tsto U M) (ev U<|.tupl<|.cons (.var 1)<|.cons (.var 0) .nil) ds [M,J<|.ref u] ag h=.ok (ag++ds.map λd=>.tup [.ref u,d]) h
 |[],ag,a=>by simp[ZI,Wk.stays,e]
 |d::ds,ag,a=>by
  have b:=ZqZ (U:=U) (u:=u) e ds (ag++[.tup [.ref u,d]]) (by simp at a ⊢;lia);have c:ag.length<16777216:=by simp at a;lia
  rw[ZL];simp[Wk.stays,e,c,YC];simpa using b
def ZwJ{U}(p:ev U e S h=.ok (.ref i) R)(l:R[i]?=J (.lst ys)):evi U (.rev e) S h=.ok ⟨[(i,ys)],ys.reverse⟩ R:=by rw[ZnC,p,ZA];simp only[Zhm,l];rfl
def ZuB(e:h[i]?=J (.lst ys))(l:h[j]?=J (.lst zs))(hz:ys.length+zs.length<=Yc):ZaA .ext (.ref i) [.ref j] h=.ok .non (h.set i<|.lst<|ys++zs):=by
 simp only[ZaA,e,Zgu,ZqO,l]
 simp_all
def ZpV(H:Cof P)(n)(q:St h0 h c us w U ws){u k}{ps}(e:h[k]?=J (.lst ps))(hp:ps.length<=1000)(hz:ws.length<=100000):
 run P (n+1) (mnm (O "Coder")<|O "wait_for") [.ref c,.ref u,.ref k] h=.ok .non (List.set (h++[DO.lst<|ps.reverse.map λd=>.tup [.ref u,d]]) w<|.lst<|ws++ps.reverse.map λd=>.tup [.ref u,d]):=by
 rw[Zz H.n_Coder_wait_for H.Coder_wait_for rfl];exact congrArg Zf ((Za<|ZK<|ZbI (Zfz rfl q.qc rfl) q.qw (Zc (ZkW (ZwJ rfl e)<|ZqZ (U:=P.tbl n) (u:=u) e ps.reverse [] (by simp;lia)) rfl)<|ZuB (keep q.qw) Zay (by rw[YC];simp;lia)).I rfl)
def Zvm(H:Cof P)(n)(sc:List _):Zg7 (run P<|n+1) (O "Unit") [.tup<|sc.map .str] h=.ok (.ref h.length) (h++[.ins (O "Unit") [(O "around",.tup<|sc.map .str),(O "rows",.ref<|h.length+1)],.lst []]):=by unfold Zg7;rw[Zz H.n_Unit___init__ H.Unit___init__<|rfl];simp[ZaG,ZdU,Zx,Zgo,ZhD,YC]
def Zwd{U}(p:evs U es S h=.ok xs R)(q:Zg7 U.C C xs R=r):ev U (.mk C es) S h=r:=by simp_all
noncomputable def ZdV(u:Nat)(is:List It):List D:=(is.map λi=>D.tup [.ref u,i.d]).reverse
def Zm4(H:Cof P)(n)(q:St h0 h c us w U ws)(t)(sc)(fn:Bool)(hU:U.length<=100000)(hw:ws.length<=100000):
 ∃h' y,run P (n+2) (mnm (O "Coder")<|O "begin_unit") [.ref c,t.d,.tup<|sc.map .str,.str<|Str.ofString<|if fn then "back" else "end"] h=.ok .non h'
  /\ y.sc=sc/\y.rows=[]/\St h0 h' c us w (U++[y]) (ws++ZdV y.u [.part t fn,.row<|if fn then .back else .fin]):=by
 rw[Zz H.n_Coder_begin_unit H.Coder_begin_unit rfl];have a:=q.app (g:=[.ins (O "Unit") [(O "around",.tup<|sc.map .str),(O "rows",.ref<|h.length+1)],.lst []]);have e:=ZW (d:=.ref h.length) a.qs (by rw[YC];simp;lia);have b:=q.more sc;generalize j:List.set (h++[.ins (O "Unit") [(O "around",.tup<|sc.map .str),(O "rows",.ref<|h.length+1)],.lst []]) us (.lst<|(U.map λx=>.ref x.u)++[.ref h.length])=R at b e;have f:=b.app (g:=[.lst<|[It.part t fn,.row<|if fn then .back else .fin].map It.d]);have i:=ZpV H n f (u:=h.length) (k:=R.length) (ps:=[It.part t fn,.row<|if fn then .back else .fin].map It.d) Zay (show 2<=1000 by decide) hw;refine⟨_,⟨h.length,h.length+1,sc,[]⟩,?_,rfl,rfl,(f.app (g:=[.lst<|([It.part t fn,.row<|if fn then .back else .fin].map It.d).reverse.map λd=>D.tup [.ref h.length,d]])).setW<|ws++([It.part t fn,.row<|if fn then .back else .fin].map It.d).reverse.map λd=>D.tup [.ref h.length,d]⟩;exact congrArg Zf ((Za<|Zm<|Zwd rfl<|Zvm H n sc).I<|(Za<|ZK<|ZbI (Zfz rfl a.qc rfl) a.qs rfl e).I<|(Za<|ZK<|ZB rfl b.qc rfl (Zc rfl<|Zc (Zfq (xs:=[_,_]) (by cases fn<;>exact rfl)<|show 2<=1000 by decide) rfl) i).I rfl)
end
set_option tactic.hygienic true
section
variable {P:Pg}{h0 h:Hd}{c us w:Nat}{A B_:List Un}{x:Un}{ws:List D}
theorem Zgs:∀ {sc},y∈sc->∃ i,Tx.place y sc=J i/\i<sc.length
 |[],h=>by cases h
 |z::r,h=>by
   unfold Tx.place;by_cases e:z=y
   . exact⟨0,by rw [if_pos e],by simp⟩
   . obtain⟨i,e1,e2⟩:=Zgs (by
       rcases O3.mp h with q|q
       . exact absurd q.symm e
       trivial)
     simp_all
def Zsh(ss):strsOf (ss.map D.str)=J ss:=by
 induction ss with
 |nil=>rfl
 |cons s r a=>simp[strsOf,a]
def Zvy(H:Cof P)(n)(q:St h0 h c us w (A++x::B_) ws)(t e)(hp:t.parts=[e])(hb:bnd t≠[])(hx:x.rows.length<=100000)(hU:(A++x::B_).length<=90000)(hw:ws.length<=100000)(hs:x.sc.length<=100000):
 ∃h' y,run P (n+3) (mnm (O "Coder")<|O "begin_function") [.ref c,.ref x.u,t.d] h=.ok .non h'/\y.sc=(bnd t).reverse++x.sc/\y.rows=[]
  /\ St h0 h' c us w ((A++{x with rows:=x.rows++[.close (A++x::B_).length (bnd t).reverse]}::B_)++[y]) (ws++ZdV y.u [.part e Wr,.row .back]):=by
 rw[Zz H.n_Coder_begin_function H.Coder_begin_function rfl];have eP:x∈A++x::B_:=by simp
 have ea:=Zm5 H (n+1) q eP (.close (A++x::B_).length (bnd t).reverse) hx;have q1:=q.setR<|x.rows++[.close (A++x::B_).length (bnd t).reverse];simp only[Rw.up]at ea;generalize h.set x.r (.lst<|(x.rows++[Rw.close (A++x::B_).length (bnd t).reverse]).map Rw.d)=R at ea q1;have ep:=Zdl H (n+1) t R;rw[hp]at ep;obtain⟨h',y,e3,y1,y2,q3⟩:=Zm4 H n q1 e ((bnd t).reverse++x.sc) Wr (by simp at hU ⊢;lia) hw;refine⟨h',y,?_,y1,y2,q3⟩;have kG:ZrO (.tup<|(bnd t).map .str) h=.ok (.tup<|(bnd t).reverse.map .str) h:=by
  cases iZ:bnd t with
  |nil=>exact absurd iZ hb
  |cons b r=>rw[List.map_reverse];rfl
 have kI:opB .Add (.tup<|(bnd t).reverse.map .str) (.tup<|x.sc.map .str) R=.ok (.tup<|((bnd t).reverse++x.sc).map .str) R:=by
  have bl:(bnd t).length<=2:=by cases t<;>simp[bnd]
  rw[Za0 (by rw[YC];simp;lia),List.map_append]
 exact congrArg Zf ((Za<|Zm (by rw[ZtL,Zo (ZeP H (n+1) t h) rfl];exact kG)).I<|(Za<|ZK<|ZB rfl (q.qu x eP) rfl (Zc (Z6 (xs:=[_,_,_]) (Zc rfl<|Zc ((Zib (Zc (Zfz rfl q.qc rfl) rfl)<|ZgQ q.qs).I<|by rw[Yu]) rfl)<|show 3<=1000 by decide) rfl) ea).I<|(Za<|ZK<|ZB rfl q1.qc rfl (Zc ((Zj (Zo ep rfl) rfl).I rfl)<|Zc ((Zl rfl<|Zfz rfl (q1.qu {x with rows:=x.rows++[.close (A++x::B_).length (bnd t).reverse]}<|by simp) rfl).I kI) rfl) e3).I rfl)
end
set_option tactic.hygienic false
section
variable {P:Pg}{h0 h:Hd}{c us w:Nat}{A B_:List Un}{x:Un}{ws:List D}
def leaf(sc:List Str):T->Option Rw
 |.num n=>J (.num n)
 |.name y=>(Tx.place y sc).map .fetch
 |_=>M
def Zvr(H:Cof P)(n)(q:St h0 h c us w (A++x::B_) ws)(t)(last)(hr:leaf x.sc t=J r)(hx:x.rows.length<=100000):
 ∃h',run P (n+4) (mnm (O "Coder")<|O "do_part") [.ref c,.ref x.u,t.d,.bl last] h=.ok .non h'/\St h0 h' c us w (A++{x with rows:=x.rows++[r]}::B_) ws:=by
 rw[Zz H.n_Coder_do_part H.Coder_do_part rfl];have a:x∈A++x::B_:=by simp
 have b:=q.qu x a;cases t with
 |num m=>cases hr;exact⟨_,congrArg Zf<|(Za<|(Zk rfl).I<|(Za<|ZK<|ZB rfl b rfl rfl<|Zm5 H (n+2) q a (.num m) hx).I rfl).I rfl,q.setR _⟩
 |name y=>
  obtain⟨i,e,rfl⟩:=Oo.mp hr;have f:Zo9 (.tup<|x.sc.map .str) (.str y) h=.ok (.int i) h:=by unfold Zo9;simp only[Zsh,e];rfl
  refine⟨_,congrArg Zf<|(Za<|(Zg rfl).I<|(Za<|(Zk rfl).I<|(Za<|ZK<|ZB rfl b rfl (Zc (Z6 (xs:=[_,_]) (Zc rfl<|Zc (by rw[ZwK,Zfz rfl b rfl];exact f) rfl)<|show 2<=1000 by decide) rfl)<|Zm5 H (n+2) q a (.fetch i) hx).I rfl).I rfl).I rfl,q.setR _⟩
 |_=>cases hr
def Zp0(H:Cof P)(n)(q:St h0 h c us w (A++x::B_) ws)(t e)(last)(hp:t.parts=[e])(hb:bnd t≠[])(hx:x.rows.length<=100000)(hU:(A++x::B_).length<=90000)(hw:ws.length<=100000)(hs:x.sc.length<=100000):
 ∃h' y,run P (n+4) (mnm (O "Coder")<|O "do_part") [.ref c,.ref x.u,t.d,.bl last] h=.ok .non h'/\y.sc=(bnd t).reverse++x.sc/\y.rows=[]
  /\ St h0 h' c us w ((A++{x with rows:=x.rows++[.close (A++x::B_).length (bnd t).reverse]}::B_)++[y]) (ws++ZdV y.u [.part e Wr,.row .back]):=by
 rw[Zz H.n_Coder_do_part H.Coder_do_part<|by rfl];obtain⟨h',y,e1,y1,y2,q1⟩:=Zvy H n q t e hp hb hx hU hw hs;refine⟨h',y,?_,y1,y2,q1⟩;have ha:∀(w:Str) (ds:List D),t.d=.tup (.str w::ds)->w≠O "num" -> w≠O "name" -> Zf (xs2 (P.tbl<|n+3) ZbT [J<|.ref c,J<|.ref x.u,J t.d,J<|.bl last] h)=.ok .non h':=λw ds ed n1 n2=>by
  have eb:=ZeP H (n+2) t h;cases hb':bnd t with
  |nil=>exact absurd hb' hb
  |cons b r=>rw[hb']at eb;rw[ed]at e1 eb ⊢;exact congrArg Zf ((Za<|(Zg<|Zh (Zas (Zfo rfl) rfl)<|decide_eq_false n1).I<|(Za<|(Zg<|Zh (Zas (Zfo rfl) rfl)<|decide_eq_false n2).I<|(Za<|(Zk<|Zgb eb rfl rfl).I<|(Za<|ZK<|ZB rfl q.qc rfl rfl e1).I rfl).I rfl).I rfl).I rfl)
 cases t with
 |fn a b=>exact ha _ _ rfl (by decide) (by decide)
 |rcc f a b=>exact ha _ _ rfl (by decide) (by decide)
 |_=>exact absurd rfl hb
def Zvq(H:Cof P)(n)(q:St h0 h c us w (A++x::B_) ws)(t)(last)(ht:its last t≠[])(hz:t.size<=1000)(hw:ws.length<=100000):
 ∃h',run P (n+4) (mnm (O "Coder")<|O "do_part") [.ref c,.ref x.u,t.d,.bl last] h=.ok .non h'/\St h0 h' c us w (A++x::B_) (ws++ZdV x.u (its last t)):=by
 rw[Zz H.n_Coder_do_part H.Coder_do_part<|by rfl];obtain⟨g,e1⟩:=ZpX H n t last h hz ht;have q2:St h0 (h++g++[.lst<|(its last t).map It.d]) c us w (A++x::B_) ws:=q.app.app;have hl:(its last t).length<=5:=by cases t<;>simp[its]
 have e2:=ZpV H (n+2) q2 (u:=x.u) (k:=(h++g).length) (ps:=(its last t).map It.d) Zay (by simp;lia) hw;have q3:=(q2.app (g:=[.lst<|((its last t).map It.d).reverse.map λd=>.tup [.ref x.u,d]])).setW<|ws++((its last t).map It.d).reverse.map λd=>.tup [.ref x.u,d];generalize (List.set (h++g++[.lst<|(its last t).map It.d]++[DO.lst<|((its last t).map It.d).reverse.map λd=>.tup [.ref x.u,d]]) w<|.lst<|ws++((its last t).map It.d).reverse.map λd=>.tup [.ref x.u,d])=h2 at e2 q3;rw[show((its last t).map It.d).reverse.map (λd=>D.tup [.ref x.u,d])=ZdV x.u (its last t) by simp[ZdV,List.map_reverse,YX]]at q3;refine⟨h2,?_,q3⟩;have ha:∀(w:Str) (ds:List D),t.d=.tup (.str w::ds)->w≠O "num" -> w≠O "name" -> bnd t=[]->Zf (xs2 (P.tbl<|n+3) ZbT [J<|.ref c,J<|.ref x.u,J t.d,J<|.bl last] h)=.ok .non h2:=λw ds ed n1 n2 hb=>by have eb:=ZeP H (n+2) t h;rw[hb]at eb;rw[ed]at e1 eb ⊢;exact congrArg Zf ((Za<|(Zg<|Zh (Zas (Zfo rfl) rfl)<|decide_eq_false n1).I<|(Za<|(Zg<|Zh (Zas (Zfo rfl) rfl)<|decide_eq_false n2).I<|(Za<|(Zg<|Zgb eb rfl rfl).I<|(Za<|ZK<|ZB rfl q.qc rfl (Zc rfl<|Zc (Zo e1 rfl) rfl) e2).I rfl).I rfl).I rfl).I rfl)
 cases t with
 |call f a=>exact ha _ _ rfl (by decide) (by decide) rfl
 |op wd a b=>exact ha _ _ rfl Zpk.mp ZmO.mp rfl
 |iff a b d=>exact ha _ _ rfl (by decide) (by decide) rfl
 |_=>exact absurd rfl ht
def ZqT:Sxs:=.u (.s 1<|.meth .pop (.a "Coder" V0 "waiting") .n) (.s 2<|.ix V1 K1) (.iff (.q (.ix V2 K0)<|.Ci_ "row") (.o<|.drp<|.m "Unit" "add_row" (.ix V1 K0)<|.o<|.ix V2 K1)<|.o<|.drp<|.m "Coder" "do_part" V0<|.u (.ix V1 K0) (.ix V2 K1)<|.ix V2 K2)
def loop(P:Pg)(n c fuel:Nat)(pr pc:Option D)(h:Hd):qe (Fl×Ev):=ZH (tst ⟨P.G,P.GD,run P<|n+4,P.L⟩<|.ex<|.att [O "Coder"] (.var 0)<|O "waiting") (xs2 ⟨P.G,P.GD,run P<|n+4,P.L⟩ ZqT) fuel [J<|.ref c,pr,pc] h
inductive Sr(h0:Hd)(P:Pg)(n c us w:Nat)(A B_:List Un)(x:Un)(rr:Rw)(ws:List D)(h:Hd)(fuel:Nat)(pr pc:Option D):Prop
 |mk (h':Hd) (cn cr:Option D) (e:loop P n c (fuel+1) pr pc h=loop P n c fuel cn cr h') (q:St h0 h' c us w (A++{x with rows:=x.rows++[rr.up x.rows.length]}::B_) ws)
def s_row(H:Cof P)(n fuel)(q:St h0 h c us w (A++x::B_) (ws++[.tup [.ref x.u,(It.row rr).d]]))(hx:x.rows.length<=100000)(pr pc):
 Sr h0 P n c us w A B_ x rr ws h fuel pr pc:=by
 have a:=q.setW ws;exact⟨_,J<|.tup [.ref x.u,(It.row rr).d],J (It.row rr).d,Zbz (Zh (Ze9 (Zfz rfl q.qc rfl) q.qw)<|by simp)<|(Za<|Zm<|ZbI (Zfz rfl q.qc rfl) q.qw rfl<|ZbG q.qw).I<|(Za<|Zm rfl).I<|(Za<|(Zk rfl).I<|(Za<|ZK<|ZB rfl (a.qu x<|by simp) rfl rfl<|Zm5 H (n+3) a (by simp) rr hx).I rfl).I rfl,a.setR _⟩
def ZlB(H:Cof P)(n fuel)(t)(last)(q:St h0 h c us w (A++x::B_) (ws++[.tup [.ref x.u,(It.part t last).d]]))(pr pc):
 ∃hp,St h0 hp c us w (A++x::B_) ws/\∀h',run P (n+4) (mnm (O "Coder")<|O "do_part") [.ref c,.ref x.u,t.d,.bl last] hp=.ok .non h'->∃cn cr,loop P n c (fuel+1) pr pc h=loop P n c fuel cn cr h':=by
 have a:=q.setW ws;have b:=ZbG q.qw;generalize h.set w (.lst ws)=hp at a b;exact⟨hp,a,λh' e=>⟨J<|.tup [.ref x.u,(It.part t last).d],J (It.part t last).d,Zbz (Zh (Ze9 (Zfz rfl q.qc rfl) q.qw)<|by simp)<|(Za<|Zm<|ZbI (Zfz rfl q.qc rfl) q.qw rfl b).I<|(Za<|Zm rfl).I<|(Za<|(Zg rfl).I<|(Za<|ZK<|ZB rfl a.qc rfl rfl e).I rfl).I rfl⟩⟩
end
section
def comp:T->List Str->Bool->Nat->Nat->List Rw×List (List Rw)
 |.num n,_,_,_,_=>([.num n],[])
 |.name y,b,_,_,_=>([.fetch<|(Tx.place y b).getD 0],[])
 |.fn y e,b,_,_,k=>([.close k [y]],((comp e (y::b) Wr 0<|k+1).1++[.back])::(comp e (y::b) Wr 0<|k+1).2)
 |.rcc f y e,b,_,_,k=>([.close k [y,f]],((comp e (y::f::b) Wr 0<|k+1).1++[.back])::(comp e (y::f::b) Wr 0<|k+1).2)
 |.call f a,b,l,p,k=>
  ((comp f b Ws p k).1++((comp a b Ws (p+cnt f)<|k+(comp f b Ws p k).2.length).1++[if l then .hop else .call]),
   (comp f b Ws p k).2++(comp a b Ws (p+cnt f)<|k+(comp f b Ws p k).2.length).2)
 |.op w f a,b,_,p,k=>
  ((comp f b Ws p k).1++((comp a b Ws (p+cnt f)<|k+(comp f b Ws p k).2.length).1++[.work w]),
   (comp f b Ws p k).2++(comp a b Ws (p+cnt f)<|k+(comp f b Ws p k).2.length).2)
 |.iff c t e,b,l,p,k=>
  ((comp c b Ws p k).1++(.unl ((p+cnt c+1+cnt t+1:Nat):Int)::((comp t b l (p+cnt c+1)<|k+(comp c b Ws p k).2.length).1 ++
   (.jmp ((p+cnt c+1+cnt t+1+cnt e:Nat):Int)::(comp e b l (p+cnt c+1+cnt t+1)<|k+(comp c b Ws p k).2.length+(comp t b l (p+cnt c+1)<|k+(comp c b Ws p k).2.length).2.length).1))),
   (comp c b Ws p k).2++((comp t b l (p+cnt c+1)<|k+(comp c b Ws p k).2.length).2 ++
    (comp e b l (p+cnt c+1+cnt t+1)<|k+(comp c b Ws p k).2.length+(comp t b l (p+cnt c+1)<|k+(comp c b Ws p k).2.length).2.length).2))
theorem ZD:∀(t) (sc) (l) (p k),(comp t sc l p k).1.length=cnt t
 |.num _,_,_,_,_=>rfl
 |.name _,_,_,_,_=>rfl
 |.fn _ _,_,_,_,_=>rfl
 |.rcc _ _ _,_,_,_,_=>rfl
 |.call f a,sc,l,p,k=>by simp[comp,ZD f,ZD a,cnt];lia
 |.op w f a,sc,l,p,k=>by simp[comp,ZD f,ZD a,cnt];lia
 |.iff c t e,sc,l,p,k=>by simp[comp,ZD c,ZD t,ZD e,cnt];lia
noncomputable def cost:T->Nat
 |.num _=>1
 |.name _=>1
 |.fn _ e=>cost e+2
 |.rcc _ _ e=>cost e+2
 |.call f a=>cost f+cost a+2
 |.op _ f a=>cost f+cost a+2
 |.iff c t e=>cost c+cost t+cost e+3
theorem ZcT:∀t ,cnt t<=2*t.size
 |.num _=>by simp[cnt,T.size,T.places]
 |.name _=>by simp[cnt,T.size,T.places]
 |.fn _ e=>by rw[Zb];simp[cnt,T.parts];lia
 |.rcc _ _ e=>by rw[Zb];simp[cnt,T.parts];lia
 |.call f a=>by have:=ZcT f;have:=ZcT a;rw[Zb];simp[cnt,T.parts];lia
 |.op _ f a=>by have:=ZcT f;have:=ZcT a;rw[Zb];simp[cnt,T.parts];lia
 |.iff c t e=>by have:=ZcT c;have:=ZcT t;have:=ZcT e;rw[Zb];simp[cnt,T.parts];lia
theorem units_le:∀(t) (sc) (l) (p k),(comp t sc l p k).2.length+1<=t.size
 |.num _,_,_,_,_=>by simp[comp,T.size,T.places]
 |.name _,_,_,_,_=>by simp[comp,T.size,T.places]
 |.fn y e,sc,l,p,k=>by have:=units_le e (y::sc) Wr 0<|k+1;rw[Zb];simp[comp,T.parts];lia
 |.rcc f y e,sc,l,p,k=>by have:=units_le e (y::f::sc) Wr 0<|k+1;rw[Zb];simp[comp,T.parts];lia
 |.call f a,sc,l,p,k=>by have:=units_le f sc Ws p k;have:=units_le a sc Ws (p+cnt f)<|k+(comp f sc Ws p k).2.length;rw[Zb];simp[comp,T.parts];lia
 |.op w f a,sc,l,p,k=>by have:=units_le f sc Ws p k;have:=units_le a sc Ws (p+cnt f)<|k+(comp f sc Ws p k).2.length;rw[Zb];simp[comp,T.parts];lia
 |.iff c t e,sc,l,p,k=>by
  have:=units_le c sc Ws p k;have:=units_le t sc l (p+cnt c+1)<|k+(comp c sc Ws p k).2.length;have:=units_le e sc l (p+cnt c+1+cnt t+1)<|k+(comp c sc Ws p k).2.length+(comp t sc l (p+cnt c+1)<|k+(comp c sc Ws p k).2.length).2.length;rw[Zb];simp[comp,T.parts]
  lia
variable {P:Pg}{h0:Hd}{c us w:Nat}
structure Ri(m:Nat)(A B_:List Un)(x:Un)(ws:List D):Prop where
 z:m<=2000
 r:x.rows.length+m<=50000
 u:2*(A++x::B_).length+m<=100000
 w:2*ws.length+5*m<=100000
 s:x.sc.length+m<=50000
abbrev Rm(t:T):=Ri (2*t.size)
inductive Dn(h0:Hd)(P:Pg)(n c us w:Nat)(t:T)(last:Bool)(A B_:List Un)(x:Un)(ws:List D)(h:Hd)(fuel:Nat)(pr pc:Option D):Prop
 |mk (h':Hd) (cn cr:Option D) (N:List Un) (e:loop P n c (fuel+cost t) pr pc h=loop P n c fuel cn cr h') (m:N.map Un.rows=(comp t x.sc last x.rows.length (A++x::B_).length).2)
  (q:St h0 h' c us w (A++{x with rows:=x.rows++(comp t x.sc last x.rows.length (A++x::B_).length).1}::(B_++N)) ws)
def Done(h0:Hd)(P:Pg)(n c us w:Nat)(t:T)(last:Bool)(A B_:List Un)(x:Un)(ws:List D)(h:Hd):Prop:=∀a pr b,Dn h0 P n c us w t last A B_ x ws h a pr b
def Zi6(H:Cof P)(n)(t)(last)(rm:Rm t A B_ x ws)(hr:leaf x.sc t=J r)(hc:(comp t x.sc last x.rows.length (A++x::B_).length)=([r],[]))(R:cost t=1)
 (q:St h0 h c us w (A++x::B_) (ws++[.tup [.ref x.u,(It.part t last).d]])):Done h0 P n c us w t last A B_ x ws h:=by
 intro a pr e;have m:=rm.r;obtain⟨o,f,k⟩:=ZlB H n a t last q pr e;obtain⟨b,g,p⟩:=Zvr H n f t last hr (by lia);obtain⟨i,j,l⟩:=k b g;refine⟨b,i,j,[],R▸l,by rw[hc];rfl,?_⟩;rw[hc]
 simp_all
end
section
variable {P:Pg}{h0:Hd}{c us w:Nat}
def map_len{N:List _}(e:N.map Un.rows=l):N.length=l.length:=by rw[<-e];simp
def ZkX(H:Cof P)(n)(t e)(last)(rm:Rm t A B_ x ws)(hp:t.parts=[e])(hb:bnd t≠[])(bW:cost t=cost e+2)
 (hc:comp t x.sc last x.rows.length (A++x::B_).length=([.close (A++x::B_).length (bnd t).reverse],((comp e ((bnd t).reverse++x.sc) Wr 0<|(A++x::B_).length+1).1++[.back])::(comp e ((bnd t).reverse++x.sc) Wr 0<|(A++x::B_).length+1).2))
 (ih:∀(A' B':List Un) (x':Un) (aC:List D) (h':Hd),x'.sc=(bnd t).reverse++x.sc->Rm e A' B' x' aC->St h0 h' c us w (A'++x'::B') (aC++[.tup [.ref x'.u,(It.part e Wr).d]])->Done h0 P n c us w e Wr A' B' x' aC h')
 (q:St h0 h c us w (A++x::B_) (ws++[.tup [.ref x.u,(It.part t last).d]])):Done h0 P n c us w t last A B_ x ws h:=by
 intro a pr m;obtain⟨O,Q,S,T,U⟩:=rm;have sz:t.size=1+e.size:=by rw[Zb,hp];simp
 have V:=Zi e;have W:(bnd t).length<=2:=by cases t<;>simp[bnd]
 obtain⟨X,o,k⟩:=ZlB H n (a+1+cost e) t last q pr m;obtain⟨R,y,p,b,i,j⟩:=Zp0 H n o t e last hp hb (by lia) (by lia) (by lia) (by lia);obtain⟨r,s,v⟩:=k R p;have z:ws++ZdV y.u [.part e Wr,.row .back]=(ws++[.tup [.ref y.u,(It.row .back).d]])++[.tup [.ref y.u,(It.part e Wr).d]]:=by simp[ZdV]
 rw[z]at j;have l:((A++{x with rows:=x.rows++[Rw.close (A++x::B_).length (bnd t).reverse]}::B_)++[y]).length=(A++x::B_).length+1:=by simp;lia
 have B:Rm e (A++{x with rows:=x.rows++[Rw.close (A++x::B_).length (bnd t).reverse]}::B_) [] y (ws++[.tup [.ref y.u,(It.row .back).d]]):=⟨by lia,by rw[i];simp;lia,by rw[l];lia,by simp;lia,by rw[b];simp;lia⟩
 obtain⟨Y,C,E,N,F,f,g⟩:=ih _ [] y _ R b B j (a+1) r s;rw[b,i,l]at f g;simp only[List.length_nil,OB]at f g;obtain⟨G,I,J,K,L⟩:=s_row H n a g (by simp only[ZD];have:=ZcT e;lia) C E;refine⟨G,I,J,{y with rows:=(comp e ((bnd t).reverse++x.sc) Wr 0<|(A++x::B_).length+1).1++[Rw.back]}::N,?_,?_,?_⟩
 . rw[bW,show a+(cost e+2)=a+1+cost e+1 by lia,v,F,K]
 . rw[hc,Op,f]
 . rw[hc];simpa[Rw.up,b]using L
noncomputable def It.cnt:It->Nat
 |.row _=>1
 |.part t _=>Ce.cnt t
def It.wt:It->Nat
 |.row _=>1
 |.part t _=>2*t.size
noncomputable def It.cost:It->Nat
 |.row _=>1
 |.part t _=>Ce.cost t
def It.comp(sc:List Str)(p k:Nat):It->List Rw×List (List Rw)
 |.row r=>([r.up p],[])
 |.part t l=>Ce.comp t sc l p k
def ZjX(sc:List Str):List It->Nat->Nat->List Rw×List (List Rw)
 |[],_,_=>([],[])
 |i::is,p,k=>((i.comp sc p k).1++(ZjX sc is (p+i.cnt)<|k+(i.comp sc p k).2.length).1,(i.comp sc p k).2++(ZjX sc is (p+i.cnt)<|k+(i.comp sc p k).2.length).2)
def PI(h0:Hd)(P:Pg)(n c us w:Nat)(sc:List Str):List It->Prop
 |[]=>True
 |.row _::is=>PI h0 P n c us w sc is
 |.part t l::is=>(∀(A B_:List Un) (x:Un) (a:List D) (h:Hd),x.sc=sc->Rm t A B_ x a->St h0 h c us w (A++x::B_) (a++[.tup [.ref x.u,(It.part t l).d]])->Done h0 P n c us w t l A B_ x a h)/\PI h0 P n c us w sc is
inductive Di(h0:Hd)(P:Pg)(n c us w:Nat)(co:Nat)(cp:List Rw×List (List Rw))(A B_:List Un)(x:Un)(ws:List D)(h:Hd)(fuel:Nat)(pr pc:Option D):Prop
 |mk (h':Hd) (cn cr:Option D) (N:List Un) (e:loop P n c (fuel+co) pr pc h=loop P n c fuel cn cr h') (m:N.map Un.rows=cp.2) (q:St h0 h' c us w (A++{x with rows:=x.rows++cp.1}::(B_++N)) ws)
theorem Zph:∀is:List _,is.length<=(is.map It.wt).sum
 |[]=>Oq _
 |i::is=>by
  have:=Zph is;have:1<=i.wt:=by
   cases i with
   |row _=>exact Oq _
   |part t _=>have:=Zi t;show 1<=2*t.size;lia
  rw[Op,OI,Os]
  lia
def ZyJ(i:It)(sc)(p k):(i.comp sc p k).1.length=i.cnt/\i.cnt<=i.wt/\2*(i.comp sc p k).2.length<=i.wt:=by
 cases i with
 |row r=>exact⟨rfl,Oq _,Yy _⟩
 |part t l=>exact⟨ZD t _ l p k,ZcT t,by have:=units_le t sc l p k;show 2*(Ce.comp t _ l p k).2.length<=2*t.size;lia⟩
theorem items(H:Cof P)(n):∀(is) (A B_) (x) (ws) (h),PI h0 P n c us w x.sc is->Ri (is.map It.wt).sum A B_ x ws->St h0 h c us w (A++x::B_) (ws++ZdV x.u is)->∀fuel pr pc,
 Di h0 P n c us w (is.map It.cost).sum (ZjX x.sc is x.rows.length (A++x::B_).length) A B_ x ws h fuel pr pc
 |[],A,B_,x,ws,h,g,j,q,fuel,pr,pc=>⟨h,pr,pc,[],rfl,rfl,by simpa[ZdV,ZjX]using q⟩
 |i::is,A,B_,x,ws,h,g,j,q,fuel,pr,pc=>by
  rw[Op,OI]at j;obtain⟨z,r,u,y,s⟩:=j;have l0:=ZyJ i x.sc x.rows.length (A++x::B_).length;have lw:=Zph is;rw[show ws++ZdV x.u (i::is)=(ws++ZdV x.u is)++[.tup [.ref x.u,i.d]] by simp[ZdV]]at q;have B:PI h0 P n c us w x.sc is/\Di h0 P n c us w i.cost (i.comp x.sc x.rows.length (A++x::B_).length) A B_ x (ws++ZdV x.u is) h (fuel+(is.map It.cost).sum) pr pc:=by
   cases i with
   |row K=>obtain⟨R,a,b,e,f⟩:=s_row H n (fuel+(is.map It.cost).sum) q (by lia) pr pc;exact⟨g,R,a,b,[],e,rfl,by rw[Yt];exact f⟩
   |part t l=>rw[show(It.part t l).wt=2*t.size from rfl]at z r u y s;obtain⟨R,a,b,N,e,m,f⟩:=g.1 A B_ x _ h rfl ⟨by lia,by lia,by lia,by simp only[OA,ZdV,List.length_reverse,Yu];lia,by lia⟩ q (fuel+(is.map It.cost).sum) pr pc;exact⟨g.2,R,a,b,N,e,m,f⟩
  obtain⟨C,R,a,b,N,e,m,f⟩:=B;have D:=map_len m;have k:(x.rows++(i.comp x.sc x.rows.length (A++x::B_).length).1).length=x.rows.length+i.cnt:=by rw[OA,l0.1]
  have o:(A++{x with rows:=x.rows++(i.comp x.sc x.rows.length (A++x::B_).length).1}::(B_++N)).length=(A++x::B_).length+(i.comp x.sc x.rows.length (A++x::B_).length).2.length:=by rw[<-D];simp only[OA,Os];lia
  obtain⟨E,F,G,N2,J,p,v⟩:=items H n is A (B_++N) {x with rows:=x.rows++(i.comp x.sc x.rows.length (A++x::B_).length).1} ws R C ⟨by lia,by rw[k];lia,by rw[o];lia,by lia,by show x.sc.length+_<=_;lia⟩ f fuel a b;rw[k,o]at p v;refine⟨E,F,G,N++N2,?_,?_,?_⟩
  . rw[Op,OI,Nat.add_comm i.cost,<-Nat.add_assoc];exact e.I J
  . rw[List.map_append,m,p];rfl
  . rw[<-Oz,show(ZjX x.sc (i::is) x.rows.length (A++x::B_).length).1=_++_ from rfl,<-Oz];exact v
def Zid(H:Cof P)(n)(t)(last)(rm:Rm t A B_ x ws)(ht:its last t≠[])(hw:((its last t).map It.wt).sum<=2*t.size)(bW:cost t=((its last t).map It.cost).sum+1)(hc:comp t x.sc last x.rows.length (A++x::B_).length=ZjX x.sc (its last t) x.rows.length (A++x::B_).length)
 (pi:PI h0 P n c us w x.sc (its last t)) (q:St h0 h c us w (A++x::B_) (ws++[.tup [.ref x.u,(It.part t last).d]])):Done h0 P n c us w t last A B_ x ws h:=by
 intro a pr e;obtain⟨z,r,u,C,s⟩:=rm;obtain⟨D,f,k⟩:=ZlB H n (a+((its last t).map It.cost).sum) t last q pr e;obtain⟨R,g,i⟩:=Zvq H n f t last ht (by lia) (by lia);obtain⟨j,l,o⟩:=k R g;obtain⟨p,v,y,N,B,m,b⟩:=items H n (its last t) A B_ x ws R pi ⟨by lia,by lia,by lia,by lia,by lia⟩ i a j l;rw[<-hc]at m b;exact⟨p,v,y,N,by rw[bW];exact o.I B,m,b⟩
theorem ZiA(H:Cof P)(n):∀ (t) (last) (A B_) (x) (ws) (h),Gn.Cl x.sc t->Rm t A B_ x ws->St h0 h c us w (A++x::B_) (ws++[.tup [.ref x.u,(It.part t last).d]])->Done h0 P n c us w t last A B_ x ws h
 |.num m,last,A,B_,x,ws,h,hc,s,q=>Zi6 H n _ _ s rfl rfl rfl q
 |.name y,last,A,B_,x,ws,h,hc,s,q=>by
   obtain⟨i,v,_⟩:=Zgs<|hc;exact Zi6 H n (.name y) last s (r:=.fetch i) (by simp [leaf,v]) (by simp [comp,v]) rfl q
 |.fn y e,last,A,B_,x,ws,h,hc,s,q=>ZkX H n (.fn y e) e last s rfl (by simp [bnd]) rfl (by simp [comp,bnd]) (λA' B' j k l o g p=>ZiA H n e Wr A' B' j k l (by rw [o];exact hc.1) g p) q
 |.rcc f y e,last,A,B_,x,ws,h,hc,s,q=>ZkX H n (.rcc f y e) e last s rfl (by simp [bnd]) rfl (by simp [comp,bnd]) (λA' B' j k l o g p=>ZiA H n e Wr A' B' j k l (by rw [o];exact hc.1) g p) q
 |.call f a,last,A,B_,x,ws,h,hc,s,q=>Zid H n (.call f a) last s nofun (by rw [Zb];simp [its,It.wt,T.parts];lia) (by simp [its,It.cost,cost];lia) (by cases last<;>simp [comp,ZjX,its,It.comp,It.cnt,Rw.up])
     ⟨λA' B' j k l o g p=>ZiA H n f Ws A' B' j k l (by rw [o];exact hc.1) g p,λA' B' j k l o g p=>ZiA H n a Ws A' B' j k l (by rw [o];exact hc.2) g p,trivial⟩ q
 |.op wd f a,last,A,B_,x,ws,h,hc,s,q=>Zid H n (.op wd f a) last s nofun (by rw [Zb];simp [its,It.wt,T.parts];lia) (by simp [its,It.cost,cost];lia) (by simp [comp,ZjX,its,It.comp,It.cnt,Rw.up])
     ⟨λA' B' j k l o g p=>ZiA H n f Ws A' B' j k l (by rw [o];exact hc.1) g p,λA' B' j k l o g p=>ZiA H n a Ws A' B' j k l (by rw [o];exact hc.2) g p,trivial⟩ q
 |.iff f a b,last,A,B_,x,ws,h,hc,s,q=>Zid H n (.iff f a b) last s nofun (by rw [Zb];simp [its,It.wt,T.parts];lia) (by simp [its,It.cost,cost];lia) (by
       simp only [comp,ZjX,its,It.comp,It.cnt,Rw.up,List.length_nil,Nat.add_zero,Yt,OB,List.cons_append];rw [show ((x.rows.length+cnt f:Nat):Int)+((cnt a:Int)+2)=((x.rows.length+cnt f+1+cnt a+1:Nat):Int) by lia,show ((x.rows.length+cnt f+1+cnt a:Nat):Int)+((cnt b:Int)+1)=((x.rows.length+cnt f+1+cnt a+1+cnt b:Nat):Int) by lia])
     ⟨λA' B' j k l o g p=>ZiA H n f Ws A' B' j k l (by rw [o];exact hc.1) g p,λA' B' j k l o g p=>ZiA H n a last A' B' j k l (by rw [o];exact hc.2.1) g p,λA' B' j k l o g p=>ZiA H n b last A' B' j k l (by rw [o];exact hc.2.2) g p,trivial⟩ q
end
section
variable {P:Pg}{h0 h:Hd}{c us w:Nat}{U A:List Un}{x:Un}{ws:List D}
def ZqU(n fuel)(q:St h0 h c us w U [])(pr pc):loop P n c (fuel+1) pr pc h=.ok (.nx,[J<|.ref c,pr,pc]) h:=Zdj (Zh (Ze9 (Zfz rfl q.qc rfl) q.qw) rfl)
def ZxW(H:Cof P)(n)(t)(ct:Gn.Cl [] t)(hz:t.size<=1000)(hs:x.sc=[])(hr:x.rows=[])(q:St h0 h c us w [x] (ZdV x.u [.part t Ws,.row .fin])):
 ∃h' y N,run P (n+5) (mnm (O "Coder")<|O "do_all") [.ref c] h=.ok .non h'/\St h0 h' c us w (y::N) []/\(y::N).map Un.rows=((comp t [] Ws 0 1).1++[.fin])::(comp t [] Ws 0 1).2:=by
 rw[Zz H.n_Coder_do_all H.Coder_do_all<|by rfl];have v:∀t:T,cost t<=3*t.size:=by
  intro t;induction t with
  |num m=>simp[cost,T.size,T.places]
  |name m=>simp[cost,T.size,T.places]
  |fn y e z=>rw[Zb];simp[cost,T.parts];lia
  |rcc f y e z=>rw[Zb];simp[cost,T.parts];lia
  |call f a j k=>rw[Zb];simp[cost,T.parts];lia
  |op wd f a j k=>rw[Zb];simp[cost,T.parts];lia
  |iff a b d j k U=>rw[Zb];simp[cost,T.parts];lia
 have V:=H.big;have W:=v t;obtain⟨m,B⟩:∃m,P.L=(m+1+1)+cost t:=⟨P.L-2-cost t,by lia⟩
 have C:ZdV x.u [.part t Ws,.row .fin]=[D.tup [.ref x.u,(It.row .fin).d]]++[.tup [.ref x.u,(It.part t Ws).d]]:=by simp[ZdV]
 rw[C]at q;obtain⟨R,E,F,N,G,g,i⟩:=ZiA H n t Ws [] [] x _ h (by rw[hs];exact ct) ⟨by lia,by rw[hr];simp;lia,by simp;lia,by simp;lia,by rw[hs];simp;lia⟩ q (m+1+1) M M;rw[hs,hr]at g i;simp only[OB,List.length_nil,Os,Nat.zero_add]at g i;obtain⟨l,o,p,K,r⟩:=s_row H n (m+1) (A:=[]) (ws:=[]) (by simpa using i) (by simp only[ZD];have:=ZcT t;lia) E F;have Q:=ZqU (P:=P) n m r o p;refine⟨l,_,N,?_,r,?_⟩
 . have S:loop P n c P.L M M h=.ok (.nx,[J<|.ref c,o,p]) l:=by rw[B,G,K,Q]
   exact congrArg Zf ((Za (s:=.whl (.ex<|.att [O "Coder"] (.var 0)<|O "waiting") ZqT) (T:=P.tbl<|n+4) S).I rfl)
 . rw[Op,g];simp[Rw.up]
noncomputable def Zcc(a:Nat):List (List Rw)->List Nat
 |[]=>[a]
 |r::b=>a::Zcc (a+r.length) b
noncomputable def nmb(a:Nat)(F:List Nat):Rw->Rw
 |.unl k=>.unl (a+k)
 |.jmp k=>.jmp (a+k)
 |.close k b=>.close (((F[k.toNat]?).getD 0:Nat):Int) b
 |r=>r
def flat(F:List Nat)(a:Nat):List (List Rw)->List Rw
 |[]=>[]
 |r::b=>r.map (nmb a F)++flat F (a+r.length) b
def ZiX:Sxs:=.o (.drp<|.meth .app V1<|.o<|.bin .Add (.ix V1<|.neg K1)<|.blt .len<|.o<|.a "Unit" V2 "rows")
def ZfY{j:Nat}{L:List D}{g}{body:Ev->Hd->qe (Fl×Ev)}{d}{ds:List D}{S}{h:Hd}(e:h[j]?=J (.lst L)):ZG [(j,L)] g body (d::ds) S h=match ZbK g d S with
 |none=>.bad
 |some ρ1=>(body ρ1 h).bnd λp h2=>match p with
  |(.nx,ρ2)=>ZG [(j,L)] g body ds ρ2 h2
  |(.ct,ρ2)=>ZG [(j,L)] g body ds ρ2 h2
  |(.bk,ρ2)=>.ok (.nx,ρ2) h2
  |(.rt d,ρ2)=>.ok (.rt d,ρ2) h2:=by
 rw[ZG,if_pos<|by simp[Wk.stays,e]];rfl
def ZjO(e:h[j]?=J (.lst L))(b:ZbK g d S=J ρ1)(q:body ρ1 h=.ok (.nx,ρ2) h2):ZG [(j,L)] g body (d::ds) S h=ZG [(j,L)] g body ds ρ2 h2:=by
 rw[ZfY e]
 simp_all
def Zmh{U}(p:ev U e S h=.ok (.ref i) R)(l:R[i]?=J (.lst ys)):evi U (.pl e) S h=.ok ⟨[(i,ys)],ys⟩ R:=by rw[Zrl,p,ZA];simp only[ZaT,l];rfl
def Zed{j}{L}{g}{body}{S}{h}(e:h[j]?=J (.lst L)):ZG [(j,L)] g body [] S h=.ok (.nx,S) h:=by rw[ZG,if_pos<|by simp[Wk.stays,e]]
theorem ZkK{T}(q:St h0 h c us w U ws){o0}:∀(V:List Un) (ag:List D) (a:Nat) (un:Option D),(∀y∈V,y∈U)->ag.length+V.length<=100000->∃di,
 ZG [(us,U.map λx=>D.ref x.u)] (.nm 2) (xs2 T ZiX) (V.map λx=>D.ref x.u) [o0,J<|.ref h.length,un] (h++[.lst<|ag++[.int (a:Int)]])
  = .ok (.nx,[o0,J<|.ref h.length,di]) (h++[.lst<|ag++(Zcc a<|V.map Un.rows).map λ(n:Nat)=>D.int (n:Int)])
 |[],ag,a,un,d,b=>⟨un,by rw[Oy,Zed<|keep q.qs];simp[Zcc]⟩
 |y::V,ag,a,un,d,b=>by
  obtain⟨di,e⟩:=ZkK (T:=T) q (o0:=o0) V (ag++[.int (a:Int)]) (a+y.rows.length) (J<|.ref y.u) (λz b=>d z<|Oh _ b) (by simp at b ⊢;lia);have f:=d y Oi;have g:(h++[DO.lst<|ag++[.int (a:Int)]])[y.r]?=_:=keep<|q.qr y f;have i:ZaQ T.GD (.ref h.length) (.int<|-1) (h++[.lst<|ag++[.int (a:Int)]])=.ok (.int (a:Int)) (h++[.lst<|ag++[.int (a:Int)]]):=by rw[ZC Zay,IV.Zdi];rfl
  have x:xs2 T ZiX [o0,J<|.ref h.length,J<|.ref y.u] (h++[.lst<|ag++[.int (a:Int)]])=.ok (.nx,[o0,J<|.ref h.length,J<|.ref y.u]) (h++[.lst<|ag++[.int (a:Int)]++[.int ((a+y.rows.length:Nat):Int)]]):=(Za<|ZK<|ZbI rfl Zay (Zc ((Zl ((Zj rfl rfl).I i)<|Zib (Zc (Zfz rfl (keep<|q.qu y f) rfl) rfl)<|ZgQ g).I (by rw[Yu];rfl)) rfl)<|(ZW Zay (by rw[YC];simp at b ⊢;lia)).I<|by rw[ZhC,Int.natCast_add]).I rfl
  exact⟨di,(ZjO (keep q.qs) rfl x).I<|e.I (by rw[Oz];rfl)⟩
def Zp1(H:Cof P)(n)(q:St h0 h c us w U ws)(hU:U.length<=90000):run P (n+1) (O "first_rows") [.ref us] h=.ok (.ref h.length) (h++[.lst<|(Zcc 0<|U.map Un.rows).map λ(n:Nat)=>D.int n]):=by rw[Ze H.first_rows<|rfl];obtain⟨un,e⟩:=ZkK q U [] 0 M (λy a=>a) (by simp;lia);have w:xs2 (P.tbl n) Zgg [J<|.ref us,M,M] h=.ok (.rt<|.ref h.length,_) _:=(Za<|Zm<|Zfq (xs:=[_]) rfl<|show 1<=1000 by decide).I<|(Za<|(Zec<|Zmh rfl<|keep q.qs).I e).I<|Zd<|Zn rfl;exact congrArg Zf w
end
section
variable {P:Pg}{h0:Hd}{c us w:Nat}{U:List Un}{ws:List D}
def ZdZ(m:Nat):Rw->Prop
 |.close k _=>∃i:Nat,k=i/\i<m
 |_=>True
noncomputable def Fd'(F:List Nat):List D:=F.map λ(n:Nat)=>D.int (n:Int)
def ZxR(H:Cof P)(n)(r)(a fk:Nat)(F)(h)(hf:h[fk]?=J (.lst<|Fd' F))(hr:ZdZ F.length r):run P (n+1) (O "numbered") [r.d,.int a,.ref fk] h=.ok (nmb a F r).d h:=by
 rw[Ze H.numbered rfl];have t:=ZpB H n (e:=.var 0) (S:=[J r.d,J<|.int a,J<|.ref fk]) (h:=h) r rfl;have go:wd r ≠ "unless" -> wd r ≠ "jump" -> Str.ofString (wd r)≠O "close" -> nmb a F r=r->Zf (xs2 (P.tbl n) Zip [J r.d,J<|.int a,J<|.ref fk] h)=.ok (nmb a F r).d h:=λc f g e=>by rw[e];obtain⟨ds,j⟩:=ZkZ r;rw[j]at t ⊢;exact congrArg Zf ((Za<|(Zg<|Zh t<|decide_eq_false λz=>z.elim c f).I rfl).I<|(Za<|(Zg<|Zh (Zas (Zfo rfl) rfl)<|decide_eq_false g).I rfl).I<|Zd<|Zn rfl)
 cases r with
 |close k l=>
  obtain⟨i,rfl,b⟩:=hr;have e:ZaQ (P.tbl n).GD (.ref fk) (.int (i:Int)) h=.ok (.int ((F[i]'b:Nat):Int)) h:=by rw[ZC hf,IV.ZbF];simp[Fd',b]
  exact(congrArg Zf<|(Za<|(Zg<|Zh t<|decide_eq_false<|by simp[wd]).I rfl).I<|Zd<|(Zk rfl).I<|Zd<|Zn<|Z6 (xs:=[_,_,_]) (Zc rfl<|Zc ((Zj rfl rfl).I e) rfl)<|show 3<=1000 by decide).I (by simp[nmb,Rw.d,b])
 |unl k=>exact congrArg Zf (Zd<|(Zk<|Zh t<|decide_eq_true<|.inl rfl).I<|Zd<|Zn rfl)
 |jmp k=>exact congrArg Zf (Zd<|(Zk<|Zh t<|decide_eq_true<|.inr rfl).I<|Zd<|Zn rfl)
 |_=>exact go (by simp[wd]) (by simp[wd]) (by simp[wd]) rfl
theorem Zuz(H:Cof P)(n){k a fk:Nat}(e:h[k]?=J (.lst ps))(hf:h[fk]?=J (.lst<|Fd' F)):∀(ds:List _) (ag),ag.length+ds.length<=100000->(∀r∈ds,ZdZ F.length r) ->
 ZI [(k,ps)] (.nm 0) (tsto ⟨P.G,P.GD,run P<|n+1,P.L⟩ M) (ev ⟨P.G,P.GD,run P<|n+1,P.L⟩<|.call (O "numbered")<|.cons (.var 0)<|.cons (.var 1)<|.cons (.var 2) .nil) (ds.map Rw.d) [M,J<|.int a,J<|.ref fk] ag h=.ok (ag++(ds.map<|nmb a F).map Rw.d) h
 |[],ag,b,hc=>by simp[ZI,Wk.stays,e]
 |d::ds,ag,b,hc=>by
  have c:ag.length<16777216:=by lia
  rw[Op,ZL];simp[Wk.stays,e,c,YC,ZxR H n d a fk F h hf<|hc d Oi];simpa using Zuz H n (a:=a) e hf ds (ag++[(nmb a F d).d]) (by simp at b ⊢;lia) (λr f=>hc r<|Oh _ f)
structure Ct(h0 h:Hd)(c us w ck fk:Nat)(U:List Un)(ws:List D)(F:List Nat)(cs:List Rw):Prop where
 q:St h0 h c us w U ws
 f:h[fk]?=J (.lst<|Fd' F)
 k:h[ck]?=J (.lst<|cs.map Rw.d)
 n1:ck≠us
 n2:ck≠w
 n3:ck≠fk
 n4:∀y∈U,ck≠y.r
 n5:h0.length<=ck
theorem Ct.app(z:Ct h0 h c us w ck fk U ws F cs):Ct h0 (h++g) c us w ck fk U ws F cs:=⟨z.q.app,keep z.f,keep z.k,z.n1,z.n2,z.n3,z.n4,z.n5⟩
theorem Ct.set(z:Ct h0 h c us w ck fk U ws F cs)(ds):Ct h0 (h.set ck<|.lst<|ds.map Rw.d) c us w ck fk U ws F ds:=by
 have q:=z.q;refine⟨⟨?_,?_,?_,λy a=>?_,λy a=>?_,q.nd,q.d1,q.d2,q.d3,q.o1,q.o2,q.o3,by simpa using q.ol,λi b=>(Oc (by have:=z.n5;lia)).I<|q.old i b⟩,?_,?_,z.n1,z.n2,z.n3,z.n4,z.n5⟩
 . rw[Oc<|ZfQ q.qc z.k];exact q.qc
 . rw[Oc z.n1];exact q.qs
 . rw[Oc z.n2];exact q.qw
 . rw[Oc<|ZfQ (q.qu y a) z.k];exact q.qu y a
 . rw[Oc<|z.n4 y a];exact q.qr y a
 . rw[Oc z.n3];exact z.f
 . rw[Ol<|ZM z.k]
def Ztm:Sxs:=.w (.s 5<|.blt .len<|.o V3) (.drp<|.meth .ext V3<|.o<|.comp [O "row",O "first",O "firsts"] [M,J 5,J 2] (.pl<|.a "Unit" V4 "rows") (.nm 0) M<|.f "numbered"<|.u V0 V1 V2)
theorem Zq1(H:Cof P)(n):∀(V:List _) (cs) (h) (un fs),(∀y∈V,y∈U)->(∀y∈V,∀r∈y.rows,ZdZ F.length r)->cs.length+(V.map λy=>y.rows.length).sum<=50000->Ct h0 h c us w ck fk U ws F cs->∃h' di bh,
 ZG [(us,U.map λx=>D.ref x.u)] (.nm 4) (xs2 ⟨P.G,P.GD,run P<|n+1,P.L⟩ Ztm) (V.map λx=>D.ref x.u) [o0,o1,J<|.ref fk,J<|.ref ck,un,fs] h=.ok (.nx,[o0,o1,J<|.ref fk,J<|.ref ck,di,bh]) h'
  /\ Ct h0 h' c us w ck fk U ws F (cs++flat F cs.length (V.map Un.rows))
 |[],cs,h,un,fs,b,hc,l,z=>⟨h,un,fs,by rw[Oy,Zed z.q.qs],by simpa[flat]using z⟩
 |y::V,cs,h,un,fs,b,hc,l,z=>by
  have i:=b y Oi;simp only[Op,OI]at l;obtain⟨h',di,bh,e,m⟩:=Zq1 H n (o0:=o0) (o1:=o1) V _ _ (J<|.ref y.u) (J<|.int (cs.length:Int)) (λr j=>b r<|Oh _ j) (λr j=>hc r<|Oh _ j) (by simp;lia)<|(z.app (g:=[.lst<|(y.rows.map<|nmb cs.length F).map Rw.d])).set<|cs++y.rows.map (nmb cs.length F);refine⟨h',di,bh,?_,?_⟩
  . refine(ZjO z.q.qs rfl ?_).I e;rw[List.map_append];exact(Za<|Zm<|(Zib rfl<|ZgQ z.k).I<|by rw[Yu]).I ((Za<|ZK<|ZbI rfl z.k (Zc (ZkW (Zmh (Zfz rfl (z.q.qu y i) rfl)<|z.q.qr y i)<|Zuz H n (a:=cs.length) (z.q.qr y i) z.f y.rows [] (by simp;lia)<|hc y Oi) rfl)<|ZuB (keep z.k) Zay (by rw[YC];simp;lia)).I rfl)
  . have o:(cs++y.rows.map (nmb cs.length F)).length=cs.length+y.rows.length:=by simp
    rw[o]at m;simpa[flat]using m
end
set_option tactic.hygienic true
section
variable {P:Pg}
def ZdZ.mono(h:m<=k)(c:ZdZ m r):ZdZ k r:=by
 cases r with
 |close a b=>obtain⟨i,e,q⟩:=c;exact⟨i,e,by lia⟩
 |_=>trivial
theorem Zkx:∀(L) (a),(Zcc a L).length=L.length+1
 |[],a=>rfl
 |r::L,a=>by simp[Zcc,Zkx L]
def Rows(X:List Rw×List (List Rw))(Q:Rw->Prop):Prop:=(∀r∈X.1,Q r)/\∀u∈X.2,∀r∈u,Q r
def Rows.imp(h:Rows X Q)(f:∀r,Q r->Q' r):Rows X Q':=⟨λr a=>f r<|h.1 r a,λu b r a=>f r<|h.2 u b r a⟩
def Zpt(hx:Rows X (ZdZ<|k+X.2.length))(hy:Rows Y (ZdZ<|k+X.2.length+Y.2.length))(h0:∀{m},ZdZ m r0):Rows (X.1++(Y.1++[r0]),X.2++Y.2) (ZdZ<|k+(X.2++Y.2).length):=by
 have a:=hx.imp (λr hr=>hr.mono (k:=k+(X.2++Y.2).length)<|by simp);have b:=hy.imp (λr hr=>hr.mono (k:=k+(X.2++Y.2).length) (by simp;lia));refine⟨?_,?_⟩
 . intro r hr;simp only[OD,Ox]at hr;rcases hr with hr|hr|rfl
   . exact a.1 r hr
   . exact b.1 r hr
   . exact h0
 . intro u hu r hr;rcases OD.mp hu with hu|hu
   . exact a.2 u hu r hr
   . exact b.2 u hu r hr
def Zpx(hx:Rows X (ZdZ<|k+X.2.length))(hy:Rows Y (ZdZ<|k+X.2.length+Y.2.length))(hz:Rows Z_ (ZdZ<|k+X.2.length+Y.2.length+Z_.2.length)):Rows (X.1++(.unl a::(Y.1++.jmp b::Z_.1)),X.2++(Y.2++Z_.2)) (ZdZ<|k+(X.2++(Y.2++Z_.2)).length):=by
 have c:=hx.imp (λr hr=>hr.mono (k:=k+(X.2++(Y.2++Z_.2)).length)<|by simp);have d:=hy.imp (λr hr=>hr.mono (k:=k+(X.2++(Y.2++Z_.2)).length) (by simp;lia));have e:=hz.imp (λr hr=>hr.mono (k:=k+(X.2++(Y.2++Z_.2)).length) (by simp;lia));refine⟨?_,?_⟩
 . intro r hr;simp at hr;rcases hr with hr|rfl|hr|rfl|hr
   . exact c.1 r hr
   . trivial
   . exact d.1 r hr
   . trivial
   . exact e.1 r hr
 . intro u hu r hr;simp at hu;rcases hu with hu|hu|hu
   . exact c.2 u hu r hr
   . exact d.2 u hu r hr
   . exact e.2 u hu r hr
theorem ZaD:∀(t) (sc) (l) (p k),Rows (comp t sc l p k) (ZdZ<|k+(comp t sc l p k).2.length)
 |.num _,_,_,_,_=>by simp[comp,Rows,ZdZ]
 |.name _,_,_,_,_=>by simp[comp,Rows,ZdZ]
 |.fn y e,sc,l,p,k=>by
  have b:=(ZaD e (y::sc) Wr 0<|k+1).imp (λr hr=>hr.mono (k:=k+((comp e (y::sc) Wr 0<|k+1).2.length+1))<|by lia);refine⟨?_,?_⟩
  . intro r hr;simp[comp]at hr;subst hr;exact⟨k,rfl,by simp[comp]⟩
  . intro u hu r hr;simp only[comp,O3]at hu;rcases hu with rfl|hu
    . rcases OD.mp hr with hr|hr
      . exact b.1 r hr
      . simp at hr;subst hr;trivial
    . exact b.2 u hu r hr
 |.rcc f y e,sc,l,p,k=>by
  have d:=ZaD e (y::f::sc) Wr 0<|k+1;have b:=d.imp (λr hr=>hr.mono (k:=k+((comp e (y::f::sc) Wr 0<|k+1).2.length+1))<|by lia);refine⟨?_,?_⟩
  . intro r hr;simp[comp]at hr;subst hr;exact⟨k,rfl,by simp[comp]⟩
  . intro u hu r hr;simp only[comp,O3]at hu;rcases hu with rfl|hu
    . rcases OD.mp hr with hr|hr
      . exact b.1 r hr
      . simp at hr;subst hr;trivial
    . exact b.2 u hu r hr
 |.call f a,sc,l,p,k=>Zpt (ZaD f sc Ws p k) (ZaD a sc Ws (p+cnt f)<|k+(comp f sc Ws p k).2.length) (by cases l<;>(intro m;trivial))
 |.op w f a,sc,l,p,k=>Zpt (ZaD f sc Ws p k) (ZaD a sc Ws (p+cnt f)<|k+(comp f sc Ws p k).2.length) trivial
 |.iff c t e,sc,l,p,k=>Zpx (ZaD c sc Ws p k) (ZaD t sc l (p+cnt c+1)<|k+(comp c sc Ws p k).2.length)
  (ZaD e sc l (p+cnt c+1+cnt t+1)<|k+(comp c sc Ws p k).2.length+(comp t sc l (p+cnt c+1)<|k+(comp c sc Ws p k).2.length).2.length)
def units(t:T):List (List Rw):=((comp t [] Ws 0 1).1++[.fin])::(comp t [] Ws 0 1).2
def code(t:T):List Rw:=flat (Zcc 0<|units t) 0 (units t)
def Zpr(t):∀u∈units t,∀r∈u,ZdZ (Zcc 0<|units t).length r:=by
 have a:=(ZaD t [] Ws 0 1).imp (λr hr=>hr.mono (k:=(Zcc 0<|units t).length) (by rw[Zkx];simp[units];lia));intro u hu r hr;simp[units]at hu;rcases hu with rfl|hu
 . rcases OD.mp hr with hr|hr
   . exact a.1 r hr
   . simp at hr;subst hr;trivial
 . exact a.2 u hu r hr
theorem ZaX:∀(t) (sc) (l) (p k),(comp t sc l p k).1.length+((comp t sc l p k).2.map List.length).sum<=3*t.size
 |.num _,_,_,_,_=>by simp[comp,T.size,T.places]
 |.name _,_,_,_,_=>by simp[comp,T.size,T.places]
 |.fn y e,sc,l,p,k=>by have:=ZaX e (y::sc) Wr 0<|k+1;rw[Zb];simp[comp,T.parts];lia
 |.rcc f y e,sc,l,p,k=>by have:=ZaX e (y::f::sc) Wr 0<|k+1;rw[Zb];simp[comp,T.parts];lia
 |.call f a,sc,l,p,k=>by have:=ZaX f sc Ws p k;have:=ZaX a sc Ws (p+cnt f)<|k+(comp f sc Ws p k).2.length;rw[Zb];simp[comp,T.parts];lia
 |.op w f a,sc,l,p,k=>by have:=ZaX f sc Ws p k;have:=ZaX a sc Ws (p+cnt f)<|k+(comp f sc Ws p k).2.length;rw[Zb];simp[comp,T.parts];lia
 |.iff c t e,sc,l,p,k=>by
  have:=ZaX c sc Ws p k;have:=ZaX t sc l (p+cnt c+1)<|k+(comp c sc Ws p k).2.length;have:=ZaX e sc l (p+cnt c+1+cnt t+1)<|k+(comp c sc Ws p k).2.length+(comp t sc l (p+cnt c+1)<|k+(comp c sc Ws p k).2.length).2.length;rw[Zb];simp[comp,T.parts]
  lia
def Zsv(H:Cof P)(n)(h):Zg7 (run P<|n+1) (O "Coder") [] h=.ok (.ref h.length) (h++[.ins (O "Coder") [(O "units",.ref<|h.length+1),(O "waiting",.ref<|h.length+2)],.lst [],.lst []]):=by unfold Zg7;rw[Zz H.n_Coder___init__ H.Coder___init__<|rfl];simp[Zar,Zdh,Zx,Zgo,ZhD,YC]
theorem Zvw (H:Cof P) (n) (t) (ct:Gn.Cl [] t) (hz:t.size<=1000) (h:Hd):∃ h' k,run P (n+6) (O "code_of") [t.d] h=.ok (.ref k) h'/\h'[k]?=J (.lst<|(code t).map Rw.d)/\h.length<=k/\h.length<=h'.length/\∀ i,i<h.length->h'[i]?=h[i]? := by
 rw [Ze H.code_of<|by rfl];have o:=Zsv H (n+4) h;have g:St h (h++[.ins (O "Coder") [(O "units",.ref<|h.length+1),(O "waiting",.ref<|h.length+2)],.lst [],.lst []]) h.length (h.length+1) (h.length+2) [] [] :=
   ⟨by simp,by simp,by simp,by simp,by simp,by simp,by lia,by simp,by simp,by lia,by lia,by simp,by simp,λi p=>by rw [Oe p]⟩
 have s:=g.qc;generalize (h++[.ins (O "Coder") [(O "units",.ref<|h.length+1),(O "waiting",.ref<|h.length+2)],.lst [],.lst []])=R at *;obtain⟨W,y,v,A,B,a⟩:=Zm4 H (n+3) g t [] Ws (by simp) (by simp);simp only [OB] at a;have C:=a.qc;obtain⟨h3,z,N,D,q2,er⟩:=ZxW H n t ct hz A B a;have E:=q2.qc;have F:(z::N).length=(units t).length:=by rw [<-Yu (f:=Un.rows),er];rfl
 have j:=units_le t [] Ws 0 1;have l:=Zp1 H (n+4) q2 (by rw [F];simp [units];lia);rw [er] at l;have b:Ct h (h3++[.lst<|Fd'<|Zcc 0<|units t]++[.lst []]) h.length (h.length+1) (h.length+2) (h3.length+1) h3.length (z::N) [] (Zcc 0<|units t) []:=by
   have l1:=ZM q2.qs;have l2:=ZM q2.qw;exact⟨q2.app.app,by simp [Fd'],by simp,by lia,by lia,by lia,λx G=>by have:=ZM<|q2.qr x G;lia,by have:=q2.ol;lia⟩
 have K:(h3++[DO.lst<|Fd'<|Zcc 0<|units t]++[.lst []])[h.length+1]?=_:=b.q.qs;have L:(h3++[DO.lst<|Fd'<|Zcc 0<|units t]++[.lst []])[h.length]?=_:=b.q.qc;have Q:∀ u∈z::N,u.rows∈units t:=λu j=>by
   have:u.rows∈(z::N).map Un.rows:=List.mem_map_of_mem j;rw [er] at this;exact this
 obtain⟨m,un,fs,T,c⟩:=Zq1 H (n+4) (o0:=J t.d) (o1:=J<|.ref h.length) (z::N) [] _ M M (λy e=>e) (λy e r U=>Zpr t y.rows (Q y e) r U) (by
     have:((z::N).map λy=>y.rows.length).sum=((units t).map List.length).sum:=by
       rw [show (λy:Un=>y.rows.length)=List.length ∘ Un.rows from rfl,<-List.map_map,er];rfl
     rw [this];have:=ZaX t [] Ws 0 1;simp [units]
     lia) b
 refine⟨m,h3.length+1,?_,?_,by have:=q2.ol;lia,c.q.ol,c.q.old⟩
 . have x5:∀ S,ev (P.tbl<|n+5) (.lstl .nil) S (h3++[.lst<|Fd'<|Zcc 0<|units t])=.ok (.ref<|h3.length+1) (h3++[.lst<|Fd'<|Zcc 0<|units t]++[.lst []]):=λS=>(Zfq (xs:=[]) rfl<|by decide).I (by rw [OA];rfl);have V:xs1 (P.tbl<|n+5) Zg4 [J t.d,J<|.ref h.length,J<|.ref h3.length,J<|.ref<|h3.length+1,M,M] _=_:=(Zec<|Zmh (Zfz rfl L rfl) K).I T;have w:xs2 (P.tbl<|n+5) Zjj [J t.d,M,M,M,M,M] h=.ok (.rt<|.ref<|h3.length+1,_) m:=(Za<|Zm<|Zwd rfl o).I<|(Za<|ZK<|ZB rfl s rfl rfl v).I<|(Za<|ZK<|ZB rfl C rfl rfl D).I<|(Za<|Zm<|Zo l<|Zc (Zfz rfl E rfl) rfl).I<|(Za<|Zm<|x5 _).I<|(Za V).I<|Zd<|Zn rfl;exact congrArg Zf w
 . have:=c.k;rw [er] at this;simpa [code,units] using this
end
set_option tactic.hygienic false
section
noncomputable def off(L:List (List Rw))(i:Nat):Nat:=((L.take i).map List.length).sum
theorem Zna:∀(L) (a i),i<=L.length->(Zcc a L)[i]?=J (a+off L i)
 |[],a,i,h=>by simp at h;subst h;rfl
 |r::L,a,0,h=>rfl
 |r::L,a,i+1,h=>by
  simp[Zcc,Zna L _ i<|by simp_all,off]
  lia
theorem ZnB(F):∀(L) (a i j) (u) (r),L[i]?=J u->u[j]?=J r->(flat F a L)[off L i+j]?=J (nmb (a+off L i) F r)
 |[],a,i,j,u,r,hi,hj=>by trivial
 |v::L,a,0,j,u,r,hi,hj=>by simp at hi;subst hi;rw[flat,show off _ 0=0 by rfl,Nat.zero_add,Oe<|by simpa using (Ob.mp hj).1,O2,hj];rfl
 |v::L,a,i+1,j,u,r,hi,hj=>by
  have e:off (v::L) (i+1)=v.length+off L i:=rfl;rw[flat,e,Om (by simp;lia),show v.length+off L i+j-(v.map<|nmb a F).length=off L i+j by simp;lia,ZnB F L (a+v.length) i j u r (by simpa using hi) hj];congr 2
  lia
def Plc(L:List (List Rw))(i p:Nat)(rs:List Rw):Prop:=∃u,L[i]?=J u/\∀j r,rs[j]?=J r->u[p+j]?=J r
def Uts(L:List (List Rw))(k:Nat)(us:List (List Rw)):Prop:=∀j u,us[j]?=J u->L[k+j]?=J u
variable {L:List (List Rw)}{i p k:Nat}
def Plc.left(h:Plc L i p (a++b)):Plc L i p a:=by obtain⟨u,R,d⟩:=h;exact⟨u,R,λj r c=>d j r<|(Oe (Ob.mp c).1).I c⟩
def Plc.right(h:Plc L i p (a++b)):Plc L i (p+a.length) b:=by
 obtain⟨u,R,h2⟩:=h;refine⟨u,R,λj r hr=>?_⟩;rw[<-h2 (a.length+j) r (by rw[Om<|by lia];simpa using hr)];congr 1
 lia
def Plc.head(h:Plc L i p (r::b)):(flat (Zcc 0 L) 0 L)[off L i+p]?=J (nmb (off L i) (Zcc 0 L) r):=by obtain⟨u,R,a⟩:=h;simpa using ZnB _ L 0 i p u r R (by simpa using a 0 r rfl)
def Plc.tail(h:Plc L i p (r::b)):Plc L i (p+1) b:=Plc.right (a:=[r]) h
def Uts.left(h:Uts L k (a++b)):Uts L k a:=λj u c=>h j u ((Oe (Ob.mp c).1).I c)
def Uts.right(h:Uts L k (a++b)):Uts L (k+a.length) b:=λj u hu=>by
 rw[<-h (a.length+j) u (by rw[Om<|by lia];simpa using hu)];congr 1
 lia
def Uts.head(h:Uts L k (r::b)):Plc L k 0 r:=⟨r,by simpa using h 0 r rfl,λj x a=>by simp_all⟩
def Uts.len(h:Uts L k (r::b)):k<L.length:=(Ob.mp<|by simpa using h 0 r rfl).1
def Uts.tail(h:Uts L k (r::b)):Uts L (k+1) b:=Uts.right (a:=[r]) h
end
section
noncomputable def Zak(z:Int):D:=.tup [.str<|O "num",.int z]
def Zam(q:Nat)(ns:List Str)(ds:List D):D:=.tup [.str<|O "clo",.int q,.tup<|ns.map .str,.tup ds]
structure Ma where
 p:Nat
 S_:List D
 E:List D
 pl:List (Nat×List D)
noncomputable def fr(f:Nat×List D):D:=.tup [.int (f.1:Int),.tup f.2]
def Ma.d(s:Ma):D:=.tup [.int (s.p:Int),.tup s.S_,.tup s.E,.tup<|s.pl.map fr]
inductive Ans where
 |quiet (s:Ma)|loud (s:Ma)|value|stuck
noncomputable def Ans.d:Ans->D
 |.quiet s=>.tup [.str<|O "quiet",s.d]
 |.loud s=>.tup [.str<|O "loud",s.d]
 |.value=>.tup [.str<|O "value"]
 |.stuck=>.tup [.str<|O "stuck"]
section
variable {α:Type}{l:List α}{a b:α}
def ZrQ:atI (l++[a,b]) (-1)=J b:=by simpa using Zdi (l:=l++[a])
def ZnZ:atI (l++[a,b]) (-2)=J a:=by
 unfold atI ixN;rw[if_neg<|by decide,if_pos (by simp;lia)];have:(-2+((l++[a,b]).length:Int)).toNat=l.length:=by simp;lia
 simp_all
end
def Zmk:cutD (l++[a]) M (J<|-1)=l:=by
 have e:HT.sIx (l++[a]).length (l++[a]).length (J<|-1)=l.length:=by simp[HT.sIx];lia
 have b:HT.sIx (l++[a]).length 0 M=0:=rfl;unfold cutD;rw[e,b];simp
def Zrw:cutD (l++[a,b]) M (J<|-2)=l:=by
 have e:HT.sIx (l++[a,b]).length (l++[a,b]).length (J<|-2)=l.length:=by simp[HT.sIx];lia
 have c:HT.sIx (l++[a,b]).length 0 M=0:=rfl;unfold cutD;rw[e,c];simp
variable {P:Pg}{h:Hd}
def Ztx:opC GD .In (.str<|Str.ofString x) (.tup [.str<|O "call",.str<|O "hop",.str<|O "unless",.str<|O "work"]) h=.ok (.bl<|Wu<|x="call" \/ x="hop" \/ x="unless" \/ x="work") h:=by simpa using @Zb1 _ h [Str.ofString _,Str.ofString _,Str.ofString _,Str.ofString _] (Str.ofString x)
def psh(E:List D):Rw->Option D
 |.num z=>J (Zak z)
 |.fetch i=>E[i]?
 |.close q ns=>J (.tup [.str<|O "clo",.int q,.tup<|ns.map .str,.tup E])
 |_=>M
def ZcP(e:atI E i=J x):ZaQ GD (.tup E) (.int i) h=.ok x h:=by simp_all
def Zm1(H:Cod P)(n)(r)(E)(hx:psh E r=J x):run P (n+1) (O "thing_of") [r.d,.tup E] h=.ok x h:=by
 rw[Ze H.thing_of rfl];cases r with
 |num z=>cases hx;rfl
 |fetch i=>exact congrArg _ ((Za<|(Zg rfl).I rfl).I<|Zd<|(Zk rfl).I<|Zd<|Zn<|(Zj rfl rfl).I<|ZcP<|IV.ZbF.I hx)
 |close q a=>cases hx;rfl
 |_=>trivial
def Zsr(H:Cod P)(n)(r)(s:Ma)(hx:psh s.E r=J x)(hz:s.S_.length<=10000):run P (n+2) (O "quiet_state") [r.d,s.d] h=.ok (Ma.d ⟨s.p+1,s.S_++[x],s.E,s.pl⟩) h:=by
 rw[Ze H.quiet_state rfl];have a:=Zm1 H n (h:=h) r s.E hx;have b:Str.ofString (wd r)≠O "jump" /\ Str.ofString (wd r)≠O "back" := by cases r<;>first|trivial|simp[wd]
 obtain⟨ds,c⟩:=ZkZ r;rw[c]at a ⊢;exact congrArg Zf ((Za<|(Zg<|Zh (Zas (Zfo rfl) rfl)<|decide_eq_false b.1).I rfl).I<|(Za<|(Zg<|Zh (Zas (Zfo rfl) rfl)<|decide_eq_false b.2).I rfl).I<|Zd<|Zn<|Z6 (xs:=[_,_,_,_]) (Zc rfl<|Zc ((Zl rfl<|Z6 (xs:=[_]) (Zc (Zo a rfl) rfl)<|show 1<=1000 by simp).I<|Za0 (by rw[YC];simp;lia)) rfl)<|show 4<=1000 by decide)
def ZlG(H:Cod P)(n)(q:Nat)(s:Ma):run P (n+1) (O "quiet_state") [(Rw.jmp q).d,s.d] h=.ok (Ma.d ⟨q,s.S_,s.E,s.pl⟩) h:=by rw[Ze H.quiet_state rfl];rfl
def ZlK(H:Cod P)(n)(p q)(S_ E ds)(pl):run P (n+1) (O "quiet_state") [Rw.back.d,Ma.d ⟨p,S_,E,(q,ds)::pl⟩] h=.ok (Ma.d ⟨q,S_,ds,pl⟩) h:=(Ze H.quiet_state rfl).I (congrArg _<|(Za<|(Zg rfl).I rfl).I<|Zd<|(Zk rfl).I<|(Za<|Zm<|Zfo rfl).I<|Zd<|Zn<|Z6 (xs:=[_,_,_,_]) (Zc rfl<|Zc rfl<|Zc rfl<|Zc ((Gn.ZfI rfl rfl rfl).I<|by simp) rfl)<|show 4<=1000 by simp)
def ent(q:Nat)(ns:List Str)(ds:List D)(v:D):List D:=if ns.length=1 then v::ds else v::Zam q ns ds::ds
def Zom(H:Cod P)(n)(q)(ns)(ds)(v)(hz:ds.length<=10000):run P (n+1) (O "entered") [Zam q ns ds,v] h=.ok (.tup<|ent q ns ds v) h:=by
 rw[Ze H.entered rfl];unfold ent;have t:tst (P.tbl n) (.ex<|.cmp _ (.blt .len<|.cons (.ix (.var 0)<|.ci 2) .nil)<|.cst _) [J<|Zam q _ ds,J v] h=.ok (Wu<|((ns.map _).length:Int)=1) h:=Zfr rfl rfl;rw[Yu]at t;by_cases e:ns.length=1
 . rw[if_pos e];exact congrArg Zf (Zd<|(Zk<|Zh t<|decide_eq_true<|by lia).I<|Zd<|Zn<|(Zl rfl rfl).I<|Za0 (xs:=[v]) (by rw[YC];simp;lia))
 . rw[if_neg e];exact congrArg Zf ((Za<|(Zg<|Zh t<|decide_eq_false<|by lia).I rfl).I<|Zd<|Zn<|(Zl rfl rfl).I<|Za0 (xs:=[v,Zam q ns ds]) (by rw[YC];simp;lia))
def Zoq(H:Cod P)(n)(z)(S_)(V pl):run P (n+2) (O "applied") [.tup<|S_++[Zak z,V],pl] h=.ok .non h:=(Ze H.applied rfl).I (congrArg _<|(Za<|Zm<|(Zj rfl rfl).I<|ZcP ZnZ).I<|Zd<|(Zk rfl).I rfl)
def ZiS(H:Cod P)(n)(q)(ns)(ds)(S_)(V pl)(hz:ds.length<=10000):run P (n+2) (O "applied") [.tup<|S_++[Zam q ns ds,V],pl] h=.ok (.tup [.int q,.tup S_,.tup<|ent q ns ds V,pl]) h:=(Ze H.applied rfl).I (congrArg _<|(Za<|Zm<|(Zj rfl rfl).I<|ZcP ZnZ).I<|(Za<|(Zg rfl).I rfl).I<|Zd<|Zn<|Z6 (xs:=[_,_,_,_]) (Zc rfl<|Zc ((Gn.ZfI rfl rfl rfl).I (by show qe.ok (D.tup<|cutD _ _ _) h=_;rw[Zrw]))<|Zc (Zo (Zom H n q ns ds V hz)<|Zc rfl<|Zc ((Zj rfl rfl).I<|ZcP ZrQ) rfl) rfl)<|show 4<=1000 by simp)
def ZhA(H:Cod P)(n)(z)(A B_):run P (n+1) (O "chosen") [Zak z,A,B_] h=.ok (if z=0 then B_ else A) h:=by
 rw[Ze H.chosen rfl];refine congrArg _<|(Za<|(Zg rfl).I rfl).I<|Zd<|Zn ?_;rw[Zrn,Zfr rfl rfl];by_cases e:z=0
 . rw[decide_eq_true e,if_pos e];rfl
 . rw[decide_eq_false e,if_neg e];rfl
def Zjx(H:Cod P)(n)(q)(ns)(ds)(A B_):run P (n+1) (O "chosen") [Zam q ns ds,A,B_] h=.ok .non h:=(Ze H.chosen rfl).I rfl
def Zhw(H:Cod P)(n)(w)(a b)(ha:0<=a/\a<1000000)(hb:0<=b/\b<1000000):run P (n+1) (O "worked") [.str w.s,Zak a,Zak b] h=.ok (Zak<|_root_.Rw.wk w a b) h:=_root_.Rw.worked_nn H.worked H.gb n w ha hb
end
section
variable {P:Pg}{h:Hd}{C:List Rw}
def ZxI{U}(p:ev U e S h=.ok (.tup<|S_++[x]) h):ev U (.sl e M<|J<|.neg<|.ci 1) S h=.ok (.tup S_) h:=(Gn.ZfI p rfl rfl).I (by show qe.ok _ h=_;rw[Zmk])
def ZlI(H:Cod P)(n)(q p:Nat)(z)(S_ E)(pl):run P (n+2) (O "gone_on") [.int q,Ma.d ⟨p,S_++[Zak z],E,pl⟩] h=.ok (Ma.d ⟨if z=0 then q else p+1,S_,E,pl⟩) h:=by
 rw[Ze H.gone_on rfl];have a:=ZhA H n (h:=h) z (.int<|p+1)<|.int q;have go:∀m:Nat,(if z=0 then D.int q else .int _)=.int m->Zf (xs2 (P.tbl<|n+1) Zji [J _,J<|Ma.d ⟨p,_,E,_⟩,M] h)=.ok (Ma.d ⟨m,S_,E,pl⟩) h:=λm e=>by rw[e]at a;exact congrArg Zf ((Za<|Zm<|Zo a<|Zc ((Zj rfl rfl).I<|ZcP Zdi) rfl).I<|(Za<|(Zg<|Ztw (x:=.int m) rfl nofun).I rfl).I<|Zd<|Zn<|Z6 (xs:=[_,_,_,_]) (Zc rfl<|Zc (ZxI rfl) rfl)<|show 4<=1000 by simp)
 exact go _ (by split<;>rfl)
def ZlJ(H:Cod P)(n)(q p:Nat)(k)(ns)(ds)(S_ E)(pl):run P (n+2) (O "gone_on") [.int q,Ma.d ⟨p,S_++[Zam k ns ds],E,pl⟩] h=.ok .non h:=(Ze H.gone_on rfl).I (congrArg _<|(Za<|Zm<|Zo (Zjx H n k _ _ _ _)<|Zc ((Zj rfl rfl).I<|ZcP Zdi) rfl).I<|Zd<|(Zk<|Ztv rfl).I rfl)
def Zvn(H:Cod P)(n)(w)(p)(a b)(S_ E)(pl)(ha:0<=a/\a<1000000)(hb:0<=b/\b<1000000)(hz:S_.length<=10000):run P (n+2) (O "reckoned") [.str w.s,Ma.d ⟨p,S_++[Zak a,Zak b],E,pl⟩] h=.ok (Ma.d ⟨p+1,S_++[Zak<|_root_.Rw.wk w a b],E,pl⟩) h:=(Ze H.reckoned rfl).I (congrArg Zf<|(Za<|Zm rfl).I<|(Za<|Zm<|Zo (Zhw H n w a b ha hb)<|Zc rfl<|Zc ((Zj rfl rfl).I<|ZcP ZnZ)<|Zc ((Zj rfl rfl).I<|ZcP ZrQ) rfl).I<|(Za<|(Zg<|Ztw (x:=Zak _) rfl nofun).I rfl).I<|Zd<|Zn<|Z6 (xs:=[_,_,_,_]) (Zc rfl<|Zc ((Zl ((Gn.ZfI rfl rfl rfl).I (by show qe.ok (D.tup<|cutD _ _ _) h=_;rw[Zrw])) rfl).I<|Za0 (by rw[YC];simp;lia)) rfl)<|show 4<=1000 by simp)
def ZuL:D->Ans->Prop:=λd a=>(d=.non/\a=.stuck)\/∃s:Ma,d=s.d/\a=.loud s
def Zok(H:Cod P)(n)(ha:ZuL d a):run P (n+1) (O "loud_or_stuck") [d] h=.ok a.d h:=by
 rw[Ze H.loud_or_stuck rfl];rcases ha with⟨rfl,rfl⟩|⟨s,rfl,rfl⟩
 . exact congrArg Zf (Zd<|(Zk<|Ztv rfl).I rfl)
 . exact congrArg Zf ((Za<|(Zg<|Ztw (x:=s.d) rfl nofun).I rfl).I<|Zd<|Zn rfl)
def ZiQ(H:Cod P)(n)(s:Ma)(hz:s.pl.length<=10000)(e:run P (n+2) (O "applied") [.tup s.S_,.tup<|((s.p+1,s.E)::s.pl).map fr] h=.ok d h):run P (n+3) (O "loud_state") [Rw.call.d,s.d] h=.ok d h:=(Ze H.loud_state rfl).I (congrArg Zf<|Zd<|(Zk rfl).I<|Zd<|Zn<|Zo e<|Zc rfl<|Zc ((Zl rfl rfl).I<|Za0 (by rw[YC];simp;lia)) rfl)
def Zkq(H:Cod P)(n)(s:Ma)(e:run P (n+2) (O "applied") [.tup s.S_,.tup<|s.pl.map fr] h=.ok d h):run P (n+3) (O "loud_state") [Rw.hop.d,s.d] h=.ok d h:=(Ze H.loud_state rfl).I (congrArg _<|(Za<|(Zg rfl).I rfl).I<|Zd<|(Zk rfl).I<|Zd<|Zn<|Zo e rfl)
def Zkp(H:Cod P)(n)(q)(s:Ma)(e:run P (n+2) (O "gone_on") [.int q,s.d] h=.ok d h):run P (n+3) (O "loud_state") [(Rw.unl q).d,s.d] h=.ok d h:=(Ze H.loud_state rfl).I (congrArg _<|(Za<|(Zg rfl).I rfl).I<|(Za<|(Zg rfl).I rfl).I<|Zd<|(Zk rfl).I<|Zd<|Zn<|Zo e rfl)
def ZiP(H:Cod P)(n)(w)(s:Ma)(e:run P (n+2) (O "reckoned") [.str w.s,s.d] h=.ok d h):run P (n+3) (O "loud_state") [(Rw.work w).d,s.d] h=.ok d h:=(Ze H.loud_state rfl).I (congrArg _<|(Za<|(Zg rfl).I rfl).I<|(Za<|(Zg rfl).I rfl).I<|(Za<|(Zg rfl).I rfl).I<|Zd<|Zn<|Zo e rfl)
def ZaY{GD}{k p:Nat}{r}(hk:h[k]?=J (.lst<|C.map Rw.d))(hc:C[p]?=J r):ZaQ GD (.ref k) (.int p) h=.ok r.d h:=by rw[ZC hk,IV.ZbF,O2,hc];rfl
noncomputable def Zuv:Rw->Bool
 |.call|.hop|.unl _|.work _=>Wr
 |_=>Ws
noncomputable def ZlM:Rw->Bool
 |.num _|.fetch _|.close _ _|.jmp _|.back=>Wr
 |_=>Ws
def ZlE(H:Cod P)(n)(s:Ma){k}(hk:h[k]?=J (.lst<|C.map Rw.d))(hc:C[s.p]?=J .fin):run P (n+1) (O "code_step") [.ref k,s.d] h=.ok Ans.value.d h:=(Ze H.code_step rfl).I (congrArg _<|(Za<|Zm<|(Zj rfl rfl).I<|ZaY hk hc).I<|Zd<|(Zk rfl).I<|Zd<|Zn rfl)
def Zno{r}(hr:Zuv r=Wr):Str.ofString (wd r)≠O "end" /\ (wd r="call" \/ wd r="hop" \/ wd r="unless" \/ wd r="work"):=by cases r<;>first|trivial|simp[wd]
def Zku{r}(hr:ZlM r=Wr):Str.ofString (wd r)≠O "end" /\ ¬ (wd r="call" \/ wd r="hop" \/ wd r="unless" \/ wd r="work"):=by cases r<;>first|trivial|simp[wd]
def ZpA(H:Cod P)(p:ev (P.tbl n) e S h=.ok (.str<|Str.ofString x) h):tst (P.tbl n) (.ex<|.cmp .In e<|.glo<|O "LOUD") S h=.ok (Wu<|x="call" \/ x="hop" \/ x="unless" \/ x="work") h:=Zb3 ((Zu p (by rw[Zia,show(P.tbl n).G _=_ from H.go];rfl)).I Ztx)
def Z7(H:Cod P)(n)(s:Ma){k}{r}(hk:h[k]?=J (.lst<|C.map Rw.d))(hc:C[s.p]?=J r)(hr:Zuv r=Wr){d}{a}(ha:ZuL d a)(e1:run P (n+3) (O "loud_state") [r.d,s.d] h=.ok d h):run P (n+4) (O "code_step") [.ref k,s.d] h=.ok a.d h:=by rw[Ze H.code_step rfl];obtain⟨ds,ed⟩:=ZkZ r;have e:=ZaY (GD:=P.GD) hk hc;rw[ed]at e e1;exact congrArg _ ((Za<|Zm<|(Zj rfl rfl).trans e).trans<|(Za<|(Zg<|Zh (Zas (Zfo rfl) rfl)<|decide_eq_false (Zno hr).1).trans rfl).trans<|Zd<|(Zk<|Zh (ZpA (n:=n+3) H<|Zfo rfl)<|decide_eq_true (Zno hr).2).trans<|Zd<|Zn<|Zo (Zok H (n+2) ha)<|Zc (Zo e1 rfl) rfl)
def Zdk(H:Cod P)(n)(s s':Ma){k}{r}(hk:h[k]?=J (.lst<|C.map Rw.d))(hc:C[s.p]?=J r)(hr:ZlM r=Wr)(e1:run P (n+3) (O "quiet_state") [r.d,s.d] h=.ok s'.d h):run P (n+4) (O "code_step") [.ref k,s.d] h=.ok (Ans.quiet s').d h:=by rw[Ze H.code_step rfl];obtain⟨ds,a⟩:=ZkZ r;have e:=ZaY (GD:=P.GD) hk hc;rw[a]at e e1;exact congrArg _ ((Za<|Zm<|(Zj rfl rfl).I e).I<|(Za<|(Zg<|Zh (Zas (Zfo rfl) rfl)<|decide_eq_false (Zku hr).1).I rfl).I<|(Za<|(Zg<|Zh (ZpA (n:=n+3) H<|Zfo rfl)<|decide_eq_false (Zku hr).2).I rfl).I<|Zd<|Zn<|Z6 (xs:=[_,_]) (Zc rfl<|Zc (Zo e1 rfl) rfl)<|show 2<=1000 by simp)
end
set_option tactic.hygienic true
inductive Cd(C:List Rw):List Str->Bool->Nat->T->Nat->Prop
 |num {sc:List Str}{l:Bool}{p:Nat}{n:Int}:C[p]?=J (.num n)->Cd C sc l p (.num n) (p+1)
 |name {sc:List Str}{l:Bool}{p i:Nat}{x:Str}:C[p]?=J (.fetch i)->Tx.place x sc=J i->Cd C sc l p (.name x) (p+1)
 |fn {sc:List Str}{l:Bool}{p q q':Nat}{x:Str}{e:T}:C[p]?=J (.close (q:Int) [x])->Cd C (x::sc) Wr q e q'->C[q']?=J .back->Cd C sc l p (.fn x e) (p+1)
 |rcc {sc:List Str}{l:Bool}{p q q':Nat}{f x:Str}{e:T}:C[p]?=J (.close (q:Int) [x,f])->Cd C (x::f::sc) Wr q e q'->C[q']?=J .back->Cd C sc l p (.rcc f x e) (p+1)
 |call {sc:List Str}{l:Bool}{p p1 p2:Nat}{f a:T}:Cd C sc Ws p f p1->Cd C sc Ws p1 a p2->C[p2]?=J (if l then .hop else .call)->Cd C sc l p (.call f a) (p2+1)
 |op {sc:List Str}{l:Bool}{p p1 p2:Nat}{w:Wd}{a b:T}:Cd C sc Ws p a p1->Cd C sc Ws p1 b p2->C[p2]?=J (.work w)->Cd C sc l p (.op w a b) (p2+1)
 |iff {sc:List Str}{l:Bool}{p p1 p2 p3:Nat}{c t e:T}:Cd C sc Ws p c p1->C[p1]?=J (.unl ((p2+1:Nat):Int))->Cd C sc l (p1+1) t p2->C[p2]?=J (.jmp (p3:Int))->Cd C sc l (p2+1) e p3->Cd C sc l p (.iff c t e) p3
section
variable {L:List (List Rw)}{i p k:Nat}
def Zk4{ns}{r}{us}(hp:Plc L i p [.close k ns])(hu:Uts L k (r::us)):(flat (Zcc 0 L) 0 L)[off L i+p]?=J (.close (off L k) ns):=by
 have e:nmb (off L i) (Zcc 0 L) (.close k ns)=.close (off L k) ns:=by simp[nmb,Zna L 0 k<|Nat.le_of_lt hu.len]
 rw[<-e];exact hp.head
def ZrF{m}{rs}{us}(hu:Uts L k ((rs++[.back])::us))(hm:rs.length=m):(flat (Zcc 0 L) 0 L)[off L k+(0+m)]?=J .back:=by have:=hu.head.right.head;rw[hm]at this;trivial
theorem ZbD:∀(t) (sc) (l) (p k i),Gn.Cl sc t->Plc L i p (comp t sc l p k).1->Uts L k (comp t sc l p k).2->Cd (flat (Zcc 0 L) 0 L) sc l (off L i+p) t (off L i+(p+cnt t))
 |.num m,sc,l,p,k,i,ct,d,b=>.num d.head
 |.name y,sc,l,p,k,i,ct,d,b=>by obtain⟨j,r,u⟩:=Zgs<|ct;have s:=d.head;simp[r]at s;exact .name s r
 |.fn y e,sc,l,p,k,i,ct,d,b=>.fn (Zk4 d b) (ZbD e (y::sc) Wr 0 (k+1) k ct.1 b.head.left b.tail) (ZrF b<|ZD e _ _ _ _)
 |.rcc f y e,sc,l,p,k,i,ct,d,b=>.rcc (Zk4 d b) (ZbD e (y::f::sc) Wr 0 (k+1) k ct.1 b.head.left b.tail) (ZrF b<|ZD e _ _ _ _)
 |.call f a,sc,l,p,k,i,ct,d,b=>by have g:=d.right;rw[ZD]at g;have h:=g.right;rw[ZD]at h;have:=Cd.call (l:=l) (ZbD f sc Ws p k i ct.1 d.left b.left) (ZbD a sc Ws (p+cnt f) _ i ct.2 g.left b.right) (by cases l<;>exact h.head);rw[show off L i+(p+cnt (T.call f a))=off L i+(p+cnt f+cnt a)+1 by simp only[cnt];lia];exact this
 |.op w f a,sc,l,p,k,i,ct,d,b=>by have g:=d.right;rw[ZD]at g;have h:=g.right;rw[ZD]at h;have:=Cd.op (l:=l) (ZbD f sc Ws p k i ct.1 d.left b.left) (ZbD a sc Ws (p+cnt f) _ i ct.2 g.left b.right) h.head;rw[show off L i+(p+cnt (T.op w f a))=off L i+(p+cnt f+cnt a)+1 by simp only[cnt];lia];exact this
 |.iff c t e,sc,l,p,k,i,ct,d,b=>by have g:=d.right;rw[ZD]at g;have h:=g.tail;have n:=h.right;rw[ZD]at n;have o:=g.head;have q:=n.head;simp only[nmb]at o q;rw[show((off L i:Nat):Int)+((p+cnt c+1+cnt t+1:Nat):Int)=((off L i+(p+cnt c+1+cnt t)+1:Nat):Int) by lia]at o;rw[show((off L i:Nat):Int)+((p+cnt c+1+cnt t+1+cnt e:Nat):Int)=((off L i+(p+cnt c+1+cnt t+1+cnt e):Nat):Int) by lia]at q;have:=Cd.iff (l:=l) (ZbD c sc Ws p k i ct.1 d.left b.left) o (ZbD t sc l (p+cnt c+1) _ i ct.2.1 h.left b.right.left) q<|ZbD e sc l (p+cnt c+1+cnt t+1) _ i ct.2.2 n.tail b.right.right;rw[show p+cnt (T.iff c t e)=p+cnt c+1+cnt t+1+cnt e by simp[cnt];lia];exact this
end
def ZtU(t)(ct:Gn.Cl [] t):Cd (code t) [] Ws 0 t (cnt t)/\(code t)[cnt t]?=J .fin:=by
 have a:Plc (units t) 0 0 ((comp t [] Ws 0 1).1++[.fin]):=⟨_,rfl,λj x d=>by simp_all⟩
 have R:=a.right.head;rw[ZD]at R;have b:=ZbD t [] Ws 0 1 0 ct a.left λj u c=>by rw[Nat.add_comm];simpa[units]using c
 have z:off (units t) 0=0:=rfl;rw[z]at R b;simp at R b;trivial
section
inductive Stp(C:List Rw):Ma->Bool->Ma->Prop
 |push {p:Nat}{S_ E:List D}{pl:List (Nat×List D)}{r:Rw}{x:D} (hc:C[p]?=J r) (hx:psh E r=J x) (hz:S_.length<=10000):Stp C ⟨p,S_,E,pl⟩ Ws ⟨p+1,S_++[x],E,pl⟩
 |jmp {p q:Nat}{S_ E:List D}{pl:List (Nat×List D)} (hc:C[p]?=J (.jmp (q:Int))):Stp C ⟨p,S_,E,pl⟩ Ws ⟨q,S_,E,pl⟩
 |back {p q:Nat}{S_ E ds:List D}{pl:List (Nat×List D)} (hc:C[p]?=J .back):Stp C ⟨p,S_,E,(q,ds)::pl⟩ Ws ⟨q,S_,ds,pl⟩
 |call {p q:Nat}{ns:List Str}{V:D}{S_ E ds:List D}{pl:List (Nat×List D)} (hc:C[p]?=J .call) (hd:ds.length<=10000) (hp:pl.length<=10000):Stp C ⟨p,S_++[Zam q ns ds,V],E,pl⟩ Wr ⟨q,S_,ent q ns ds V,(p+1,E)::pl⟩
 |hop {p q:Nat}{ns:List Str}{V:D}{S_ E ds:List D}{pl:List (Nat×List D)} (hc:C[p]?=J .hop) (hd:ds.length<=10000):Stp C ⟨p,S_++[Zam q ns ds,V],E,pl⟩ Wr ⟨q,S_,ent q ns ds V,pl⟩
 |work {p:Nat}{w:Wd}{a b:Int}{S_ E:List D}{pl:List (Nat×List D)} (hc:C[p]?=J (.work w)) (ha:0<=a/\a<1000000) (hb:0<=b/\b<1000000) (hz:S_.length<=10000):Stp C ⟨p,S_++[Zak a,Zak b],E,pl⟩ Wr ⟨p+1,S_++[Zak (_root_.Rw.wk w a b)],E,pl⟩
 |unl {p q:Nat}{z:Int}{S_ E:List D}{pl:List (Nat×List D)} (hc:C[p]?=J (.unl (q:Int))):Stp C ⟨p,S_++[Zak z],E,pl⟩ Wr ⟨if z=0 then q else p+1,S_,E,pl⟩
noncomputable def ZAn(ld:Bool)(s:Ma):Ans:=if ld then .loud s else .quiet s
def Zx4{E}{r}{x}(h:psh E r=J x):ZlM r=Wr:=by cases r<;>first|rfl|cases h
variable {P:Pg}{h:Hd}{C:List Rw}
def Zuq(H:Cod P)(n){k}{s s'}{ld}(hk:h[k]?=J (.lst<|C.map Rw.d))(q:Stp C s ld s'):run P (n+4) (O "code_step") [.ref k,s.d] h=.ok (ZAn ld s').d h:=by
 cases q with
 |push hc hx hz=>exact Zdk H n _ _ hk hc (Zx4 hx) (Zsr H _ _ _ hx hz)
 |jmp hc=>exact Zdk H n _ _ hk hc rfl (ZlG H _ _ _)
 |back hc=>exact Zdk H n _ _ hk hc rfl (ZlK H _ _ _ _ _ _ _)
 |@call p q ns V S_ E ds pl hc hd hp=>exact Z7 H n _ hk hc rfl (.inr ⟨_,rfl,rfl⟩) (ZiQ H n _ hp<|ZiS H n _ _ _ _ _ _ hd)
 |@hop p q ns V S_ E ds pl hc hd=>exact Z7 H n _ hk hc rfl (.inr ⟨⟨q,S_,ent q ns ds V,pl⟩,rfl,rfl⟩) (Zkq H n ⟨p,S_++[Zam q ns ds,V],E,pl⟩<|ZiS H n _ _ _ _ _ _ hd)
 |work hc ha hb hz=>exact Z7 H n _ hk hc rfl (.inr ⟨_,rfl,rfl⟩) (ZiP H n _ _<|Zvn H n _ _ _ _ _ _ _ ha hb hz)
 |unl hc=>exact Z7 H n _ hk hc rfl (.inr ⟨_,rfl,rfl⟩) (Zkp H n _ _<|ZlI H n _ _ _ _ _ _)
end
end Ce
namespace Cs
open PySem IV Gn
open Rw (Th Ar Wt Sta Zhf ArOk ZiK Ziw StN read rnd rd ra)
open Ce (Cd Ma Zam Zak ent psh Stp)
section
mutual
inductive Vr(C:List Ce.Rw):D->Th->Prop
 |num {z:Int}:Vr C (Zak z) (.num z)
 |fn {q q':Nat}{x:Str}{e:T}{ds:List D}{sc:List Str}{ar:Ar} (c:Cd C (x::sc) Wr q e q') (b:C[q']?=J .back) (r:Er C ds sc ar):Vr C (Zam q [x] ds) (.clo (.fn x e) ar)
 |rcc {q q':Nat}{f x:Str}{e:T}{ds:List D}{sc:List Str}{ar:Ar} (c:Cd C (x::f::sc) Wr q e q') (b:C[q']?=J .back) (r:Er C ds sc ar):Vr C (Zam q [x,f] ds) (.clo (.rcc f x e) ar)
inductive Er(C:List Ce.Rw):List D->List Str->Ar->Prop
 |nil:Er C [] [] .nil
 |cons {d:D}{v:Th}{ds:List D}{sc:List Str}{ar:Ar} (x:Str) (h:Vr C d v) (r:Er C ds sc ar):Er C (d::ds) (x::sc) (.cons x v ar)
end
variable {C:List Ce.Rw}
def ZbJ(q:Cd C sc l p t p'):p<p':=by
 induction q with
 |num _=>lia
 |name _ _=>lia
 |fn _ _ _ _=>lia
 |rcc _ _ _ _=>lia
 |call _ _ _ a b=>lia
 |op _ _ _ a b=>lia
 |iff _ _ _ _ _ a b d=>lia
theorem Er.get:∀{ds}{sc}{ar}{i},Er C ds sc ar->L2.Tx.place x sc=J i->∃d v,ds[i]?=J d/\ar.get x=J v/\Vr C d v
 |_,_,_,i,.nil,h=>by cases h
 |_,_,_,i,.cons y hv r,h=>by
  rw[L2.Tx.place]at h;split at h
  . rename_i e;cases h;exact⟨_,_,rfl,if_pos e,hv⟩
  . rename_i ne;cases q:L2.Tx.place x _ with
    |none=>rw[q]at h;cases h
    |some j=>rw[q]at h;cases h;obtain⟨d,v,e1,e2,e3⟩:=r.get q;exact⟨d,v,by trivial,(if_neg ne).I e2,e3⟩
theorem Er.len:∀{ds}{sc}{ar},Er C ds sc ar->ds.length=ar.len
 |_,_,_,.nil=>rfl
 |_,_,_,.cons x h r=>by rw[Os,Ar.len,r.len]
def Hp(r:Ce.Rw)(b:Bool)(S_:List D)(ws:List Wt):Prop:=(r=.call/\(b=Wr->ws≠[]))\/(r=.hop/\b=Wr/\S_=[]/\ws=[])
def Ls(l b:Bool)(S_:List D)(ws:List Wt):Prop:=(l=Wr->b=Wr/\S_=[]/\ws=[])/\(l=Ws->b=Wr->ws≠[])
def Ls.no:Ls Ws b S_ (w::ws):=⟨nofun,nofun⟩
inductive Cx(C:List Ce.Rw):Bool->List Str->Ar->Nat->List D->List Wt->Prop
 |fin {sc:List Str}{ar:Ar}{p:Nat} (hc:C[p]?=J .fin):Cx C Ws sc ar p [] []
 |back {sc:List Str}{ar:Ar}{p:Nat} (hc:C[p]?=J .back):Cx C Wr sc ar p [] []
 |jmp {b:Bool}{sc:List Str}{ar:Ar}{p q:Nat}{S_:List D}{ws:List Wt} (hc:C[p]?=J (.jmp (q:Int))) (hq:p<q) (k:Cx C b sc ar q S_ ws):Cx C b sc ar p S_ ws
 |app {b:Bool}{sc:List Str}{ar:Ar}{p:Nat}{S_:List D}{ws:List Wt}{r:Ce.Rw}{d:D}{W:Th} (hc:C[p]?=J r) (hr:Hp r b S_ ws) (v:Vr C d W) (k:Cx C b sc ar (p+1) S_ ws):Cx C b sc ar p (S_++[d]) (.fn W::ws)
 |arg {b:Bool}{sc:List Str}{ar:Ar}{p p1:Nat}{S_:List D}{ws:List Wt}{r:Ce.Rw}{A:T} (c:Cd C sc Ws p A p1) (hc:C[p1]?=J r) (hr:Hp r b S_ ws) (k:Cx C b sc ar (p1+1) S_ ws):Cx C b sc ar p S_ (.arg A ar::ws)
 |work {b:Bool}{sc:List Str}{ar:Ar}{p:Nat}{S_:List D}{ws:List Wt}{w:Wd}{d:D}{W:Th} (hc:C[p]?=J (.work w)) (v:Vr C d W) (k:Cx C b sc ar (p+1) S_ ws):Cx C b sc ar p (S_++[d]) (.left w W::ws)
 |right {b:Bool}{sc:List Str}{ar:Ar}{p p1:Nat}{S_:List D}{ws:List Wt}{w:Wd}{F:T} (c:Cd C sc Ws p F p1) (hc:C[p1]?=J (.work w)) (k:Cx C b sc ar (p1+1) S_ ws):Cx C b sc ar p S_ (.right w F ar::ws)
 |cho {b l:Bool}{sc:List Str}{ar:Ar}{p p2 p3:Nat}{S_:List D}{ws:List Wt}{t e:T} (hc:C[p]?=J (.unl ((p2+1:Nat):Int))) (ct:Cd C sc l (p+1) t p2) (hj:C[p2]?=J (.jmp (p3:Int))) (ce:Cd C sc l (p2+1) e p3) (hl:Ls l b S_ ws) (k:Cx C b sc ar p3 S_ ws):Cx C b sc ar p S_ (.iff t e ar::ws)
inductive Dx(C:List Ce.Rw):Bool->List (Nat×List D)->List D->List Wt->Prop
 |nil:Dx C Ws [] [] []
 |cons {b:Bool}{sc:List Str}{ar:Ar}{p:Nat}{E S_ S0:List D}{ws vs:List Wt}{pl:List (Nat×List D)} (r:Er C E sc ar) (k:Cx C b sc ar p S_ ws) (hw:b=Wr->ws≠[]) (hc:∃p0,p=p0+1/\C[p0]?=J .call) (x:Dx C b pl S0 vs):Dx C Wr ((p,E)::pl) (S0++S_) (ws++vs)
inductive Rc(C:List Ce.Rw):Ma->Sta->Prop
 |go {b l:Bool}{sc:List Str}{ar:Ar}{p p':Nat}{E S_ S0:List D}{ws vs:List Wt}{pl:List (Nat×List D)}{t:T} (r:Er C E sc ar) (c:Cd C sc l p t p') (hl:Ls l b S_ ws) (k:Cx C b sc ar p' S_ ws) (x:Dx C b pl S0 vs):Rc C ⟨p,S0++S_,E,pl⟩ (.go t ar (ws++vs))
 |back {b:Bool}{sc:List Str}{ar:Ar}{p:Nat}{E S_ S0:List D}{ws vs:List Wt}{pl:List (Nat×List D)}{d:D}{V:Th} (r:Er C E sc ar) (v:Vr C d V) (k:Cx C b sc ar p S_ ws) (x:Dx C b pl S0 vs):Rc C ⟨p,S0++S_++[d],E,pl⟩ (.back V (ws++vs))
inductive Qs:Sta->Sta->Prop
 |refl {s:Sta}:Qs s s
 |step {s s' t:Sta} (e:Rw.step s=.quiet s') (q:Qs s' t):Qs s t
def Qs.I(a:Qs s t)(b:Qs t u):Qs s u:=by
 induction a with
 |refl=>exact b
 |step e _ c=>exact .step e (c b)
noncomputable def atm:T->Bool
 |.num _|.name _|.fn _ _|.rcc _ _ _=>Wr
 |_=>Ws
theorem down:∀ {t}{b l}{sc}{ar}{p p'}{S_}{ws vs},Cd C sc l p t p'->Ls l b S_ ws->Cx C b sc ar p' S_ ws->∃ t0 l0 p0 bI,atm t0=Wr/\Cd C sc l0 p t0 p0/\Ls l0 b S_ bI/\Cx C b sc ar p0 S_ bI/\Qs (.go t ar<|ws++vs) (.go t0 ar<|bI++vs)
 |.num _,_,_,_,_,_,_,_,_,_,c,d,k=>⟨_,_,_,_,rfl,c,d,k,.refl⟩
 |.name _,_,_,_,_,_,_,_,_,_,c,d,k=>⟨_,_,_,_,rfl,c,d,k,.refl⟩
 |.fn _ _,_,_,_,_,_,_,_,_,_,c,d,k=>⟨_,_,_,_,rfl,c,d,k,.refl⟩
 |.rcc _ _ _,_,_,_,_,_,_,_,_,_,c,d,k=>⟨_,_,_,_,rfl,c,d,k,.refl⟩
 |.call f a,b,l,sc,ar,p,p',S_,ws,vs,c,d,k=>by
   cases c with
   |call g h i =>
     obtain⟨t0,l0,p0,bI,R,j,m,n,o⟩:=down g .no (.arg h i (by
       cases l with
       |true=>exact .inr ⟨rfl,d.1 rfl⟩
       |false=>exact .inl ⟨rfl,d.2 rfl⟩) k)
     exact⟨t0,l0,p0,bI,R,j,m,n,.step rfl o⟩
 |.op w x y,b,l,sc,ar,p,p',S_,ws,vs,c,d,k=>by
   cases c with
   |op g h i =>
     obtain⟨t0,l0,p0,bI,R,j,m,n,o⟩:=down (b:=b) (vs:=vs) g .no<|.right h i k;exact⟨t0,l0,p0,bI,R,j,m,n,.step rfl o⟩
 |.iff x t e,b,l,sc,ar,p,p',S_,ws,vs,c,d,k=>by
   cases c with
   |iff g i h q r =>
     obtain⟨t0,l0,p0,bI,R,j,m,n,o⟩:=down (b:=b) (vs:=vs) g .no<|.cho i h q r d k;exact⟨t0,l0,p0,bI,R,j,m,n,.step rfl o⟩
end
end Cs
namespace Cs
open PySem IV Gn
open Rw (Th Ar Wt Sta Zhf ArOk ZiK Ziw StN WtN ThN read rnd rd ra wts)
open Ce (Cd Ma Zam Zak ent psh Stp)
section
variable {C:List Ce.Rw}{N:Nat}
inductive Stk(C:List Ce.Rw):Ma->Prop
 |app {p:Nat}{r:Ce.Rw}{z:Int}{V:D}{S_ E:List D}{pl:List (Nat×List D)} (hc:C[p]?=J r) (hr:r=.call\/r=.hop) (hp:pl.length<=10000):Stk C ⟨p,S_++[Zak z,V],E,pl⟩
 |unl {p q k:Nat}{ns:List Str}{ds S_ E:List D}{pl:List (Nat×List D)} (hc:C[p]?=J (.unl (q:Int))):Stk C ⟨p,S_++[Zam k ns ds],E,pl⟩
 |work {p:Nat}{w:Wd}{A B_:D}{S_ E:List D}{pl:List (Nat×List D)}{V W:Th} (hc:C[p]?=J (.work w)) (va:Vr C A W) (vb:Vr C B_ V) (hn:¬ ∃a b,A=Zak a/\B_=Zak b):Stk C ⟨p,S_++[A,B_],E,pl⟩
inductive Sc(C:List Ce.Rw)(s:Ma)(Z:Sta):Ce.Ans->Prop
 |quiet {s':Ma}{σ':Sta} (e:Stp C s Ws s') (r:Rc C s' σ') (q:Qs Z σ'):Sc C s Z (.quiet s')
 |loud {s':Ma}{σ0 σ1 σ':Sta} (e:Stp C s Wr s') (q0:Qs Z σ0) (h:Rw.step σ0=.loud σ1) (r:Rc C s' σ') (q:Qs σ1 σ'):Sc C s Z (.loud s')
 |value {σ0:Sta} (e:C[s.p]?=J .fin) (q:Qs Z σ0) (h:Rw.step σ0=.value):Sc C s Z .value
 |stuck {σ0:Sta} (e:Stk C s) (q:Qs Z σ0) (h:Rw.step σ0=.stuck):Sc C s Z .stuck
def Sc.pre(q:Qs Z σ0)(h:Sc C s σ0 a):Sc C s Z a:=by
 cases h with
 |quiet e r b=>exact .quiet e r (q.I b)
 |loud e c h r b=>exact .loud e (q.I c) h r b
 |value e b h=>exact .value e (q.I b) h
 |stuck e b h=>exact .stuck e (q.I b) h
def Zlx(r:Er C E sc ar)(c:Cd C sc l p t p')(hl:Ls l b S_ ws)(k:Cx C b sc ar p' S_ ws)(x:Dx C b pl S0 vs)(hz:(S0++S_).length<=10000):∃a,Sc C ⟨p,S0++S_,E,pl⟩ (.go t ar<|ws++vs) a:=by
 obtain⟨m,l0,o,bI,R,i,F,q,h5⟩:=down c hl k;have g:∀{rw}{d}{V},C[p]?=J rw->psh E rw=J d->o=p+1->Vr C d V->Rw.step (.go m ar<|bI++vs)=.quiet (.back V<|bI++vs)->∃a,Sc C ⟨p,S0++S_,E,pl⟩ (.go t ar<|ws++vs) a:=λh s u w z=>by subst u;exact⟨_,.quiet (.push h s hz) (.back r w q x)<|h5.I<|.step z .refl⟩
 cases m with
 |num n=>cases i with|num h=>exact g h rfl rfl .num rfl
 |name y=>
  cases i with
  |name h e=>obtain⟨d,v,A,B,D⟩:=r.get e;exact g h A rfl D (by simp[Rw.step,Rw.thing,B])
 |fn y e=>cases i with|fn h c j=>exact g h rfl rfl (.fn c j r) rfl
 |rcc f y e=>cases i with|rcc h c j=>exact g h rfl rfl (.rcc c j r) rfl
 |_=>trivial
def Zzc:S0++(S_++[a])++[d]=S0++S_++[a,d]:=by simp
def ZpL(r:Er C E sc ar)(v:Vr C d V)(k:Cx C b sc ar p S_ ws)(x:Dx C b pl S0 vs)(hz:(S0++S_).length<=9000)(hp:pl.length<=9000)(hN:N<=5000)(ok:Ziw (.back V<|ws++vs))(on:StN N (.back V<|ws++vs)):∃a,Sc C ⟨p,S0++S_++[d],E,pl⟩ (.back V<|ws++vs) a:=by
 cases k with
 |fin hc=>cases x;exact⟨_,.value hc .refl rfl⟩
 |back hc=>
  cases x with
  |cons r' k' hw cV x'=>rw[Yt];exact⟨_,.quiet (.back hc) (Rc.back r' v k' x') .refl⟩
 |jmp hc hq k=>exact⟨_,.quiet (.jmp hc) (.back r v k x) .refl⟩
 |arg c hc hr k=>obtain⟨a,h⟩:=Zlx (vs:=vs) r c .no (.app hc hr v k) x (by simp at hz ⊢;lia);rw[<-Oz]at h;exact⟨a,h.pre<|.step rfl .refl⟩
 |right c hc k=>obtain⟨a,h⟩:=Zlx (vs:=vs) r c .no (.work hc v k) x (by simp at hz ⊢;lia);rw[<-Oz]at h;exact⟨a,h.pre<|.step rfl .refl⟩
 |@app _ _ _ _ S_ ws rw dW W hc hr vW k=>
  rw[Zzc];rw[<-Oz,OA]at hz;have jl:Zhf W:=ok.2 _ Oi;have jj:ThN N W:=on.2 _ Oi;have dA:rw=.call\/rw=.hop:=hr.elim (λz=>.inl z.1)<|λz=>.inr z.1;have call:∀{q q':Nat}{ns aF:List Str}{ds:List D}{e:T}{cm:Ar},dW=Zam q ns ds->ds.length<=10000->Er C (ent q ns ds d) aF cm->Cd C aF Wr q e q'->C[q']?=J .back->Rw.step (.back V (.fn W::ws++vs))=.loud (.go e cm<|ws++vs)->∃a,Sc C ⟨p,S0++S_++[dW,d],E,pl⟩ (.back V (.fn W::ws++vs)) a:=λ{q q' ns aF ds e cm} ed hd er cd hb hs=>by
   subst ed;rcases hr with⟨rfl,hw⟩|⟨rfl,rfl,rfl,rfl⟩
   . refine⟨_,.loud (.call hc hd<|by lia) .refl hs ?_ .refl⟩;have:=Rc.go (S_:=[]) (ws:=[]) er cd ⟨λ_=>⟨rfl,rfl,rfl⟩,nofun⟩ (.back hb)<|.cons r k hw ⟨_,rfl,hc⟩ x;rw[Yt]at this;exact this
   . refine⟨_,.loud (.hop hc hd) .refl hs ?_ .refl⟩;exact Rc.go (S_:=[]) (ws:=[]) er cd ⟨λ_=>⟨rfl,rfl,rfl⟩,nofun⟩ (.back hb) x
  cases vW with
  |num=>exact⟨_,.stuck (.app hc dA<|by lia) .refl rfl⟩
  |fn c hb er=>have R:=jj.1;unfold Rw.Bd at R;exact call rfl (by rw[er.len];lia) (.cons _ v er) c hb rfl
  |@rcc q q' f y e ds aF cm c hb er=>have R:=jj.1;unfold Rw.Bd at R;exact call rfl (by rw[er.len];lia) (.cons _ v<|.cons _ (.rcc c hb er) er) c hb rfl
 |@work _ _ _ _ S_ ws w dW W hc vW k=>
  rw[Zzc];rw[<-Oz,OA]at hz;have jl:Zhf W:=ok.2 _ Oi;have gz:=ok.1;have st:(¬ ∃a b,dW=Zak a/\d=Zak b)->Rw.step (.back V (.left w W::ws++vs))=.stuck->∃a,Sc C ⟨p,S0++S_++[dW,d],E,pl⟩ (.back V (.left w W::ws++vs)) a:=λhn hs=>⟨_,.stuck (.work hc vW v hn) .refl hs⟩
  cases vW with
  |num=>
   cases v with
   |num=>exact⟨_,.loud (.work hc jl gz<|by lia) .refl rfl (.back r .num k x) .refl⟩
   |fn c hb er=>exact st (λ⟨_,_,_,z⟩=>by cases z) rfl
   |rcc c hb er=>exact st (λ⟨_,_,_,z⟩=>by cases z) rfl
  |fn c hb er=>exact st (λ⟨_,_,z,_⟩=>by cases z) rfl
  |rcc c hb er=>exact st (λ⟨_,_,z,_⟩=>by cases z) rfl
 |@cho _ l _ _ _ p2 p3 _ ws t e hc ct hj ce hl k=>
  cases v with
  |@num z=>
   by_cases q:z=0
   . subst q;have:=Stp.unl (z:=0) (S_:=S0++S_) (E:=E) (pl:=pl) hc;rw[if_pos rfl]at this;exact⟨_,.loud this .refl rfl (.go r ce hl k x) .refl⟩
   . have:=Stp.unl (z:=z) (S_:=S0++S_) (E:=E) (pl:=pl) hc;rw[if_neg q]at this;refine⟨_,.loud this .refl rfl ?_ .refl⟩;simp only[if_neg q];exact .go r ct hl (.jmp hj (Nat.lt_of_succ_lt<|ZbJ ce) k) x
  |fn c hb er=>exact⟨_,.stuck (.unl hc) .refl rfl⟩
  |rcc c hb er=>exact⟨_,.stuck (.unl hc) .refl rfl⟩
def Cx.lens(k:Cx C b sc ar p S_ ws):S_.length<=ws.length:=by
 induction k with
 |fin _=>simp
 |back _=>simp
 |jmp _ _ _ a=>trivial
 |app _ _ _ _ a=>simp_all
 |arg _ _ _ _ a=>exact Nat.le_succ_of_le a
 |work _ _ _ a=>simp_all
 |right _ _ _ a=>exact Nat.le_succ_of_le a
 |cho _ _ _ _ _ _ a=>exact Nat.le_succ_of_le a
theorem Dx.lens(x:Dx C b pl S_ vs):S_.length<=vs.length/\pl.length<=vs.length+if b then 1 else 0:=by
 induction x with
 |nil=>simp
 |@cons b _ _ _ _ _ _ c _ _ r k a d x e=>
  have R:=k.lens;simp;refine⟨by lia,?_⟩;cases b with
  |false=>lia
  |true=>
   have f:=List.length_pos_iff.mpr (a rfl)
   lia
theorem Rc.lens(r:Rc C s Z):s.S_.length<=(wts Z).length+1/\s.pl.length<=(wts Z).length+1:=by
 cases r with
 |@go b _ _ _ _ _ _ _ _ _ _ _ _ r c d k x=>have R:=k.lens;have a:=x.lens;simp[wts];refine⟨by lia,?_⟩;split at a<;>lia
 |@back b _ _ _ _ _ _ _ _ _ _ _ r v k x=>have R:=k.lens;have a:=x.lens;simp[wts,List.length_nil];refine⟨by lia,?_⟩;split at a<;>lia
def sim(r:Rc C s Z)(hz:(wts Z).length<=8000)(hN:N<=5000)(ok:Ziw Z)(on:StN N Z):∃a,Sc C s Z a:=by
 have b:=r.lens;cases r with
 |go r c d k x=>exact Zlx r c d k x (by simp only at b;lia)
 |back r v k x=>exact ZpL r v k x (by simp at b ⊢;lia) (by simp only at b;lia) hN ok on
end
end Cs
namespace Pw
open PySem L2 IV
def Zkd:Sxs:=.w (.drp<|.m "Pen" "take_place" V0 .n) (.ret<|.bin .Add V1 V2)
def Zf6:Fd:=fd_ 3 ["self","front","parts"] Zkd
def ZmG:Sxs:=.w (.s 2<|.f "opened"<|.o V1) (.ret<|.m "Pen" "filled" V0<|.w (.ix V2 K0)<|.ix V2 K1)
def Zh8:Fd:=fd_ 2 ["self","thing","pair"] ZmG
structure Pnw(P:Pg):Prop where
 t:Tm.Trb P
 wd:Tm.Wid P
 gw:P.G (O "WIDEST")=J (.int 120)
 n_Pen_joined:P.tb.lookup (mnm (O "Pen")<|O "joined")=M
 Pen_joined:P.ms.lookup (mnm (O "Pen")<|O "joined")=J Zf6
 n_Pen_told:P.tb.lookup (mnm (O "Pen")<|O "told")=M
 Pen_told:P.ms.lookup (mnm (O "Pen")<|O "told")=J Zh8
end Pw
namespace Pw
open PySem L2 IV Tm
section
variable {P:Pg}{h0 h:Hd}{pk:Nat}
def ZxM(q:ev U e S h=r):Zf (xs2 U (.cons (.ret e) .nil) S h)=r:=by rw[xs2,ZmL,q];cases r<;>rfl
section
variable {u N:Nat}(H:Pnw P)(n:Nat)(hN:1<=N)(bX:N<=45000)
include H hN bX
omit hN bX
theorem Zol(fs ps)(a:Aft h0 h pk (.int 120) u)(hu:u<120)(hz:fs.length+ps.length<=1000):run P (n+2) (mnm (O "Pen")<|O "joined") [.ref pk,.tup fs,.tup ps] h=.ok (.tup<|fs++ps) (h.set pk<|Zaq (.int 120)<|u+1):=(Zz H.n_Pen_joined H.Pen_joined rfl).I ((congrArg _<|nx1 (ZK<|ZB rfl a.1 rfl rfl<|ZlD H.t n (.inr ⟨_,rfl,by lia⟩) a.1) rfl).I<|ZxM<|(Zl rfl rfl).I<|Za0 (by rw[YC];lia))
theorem ZpZ(fs ps)(a:Aft h0 h pk (.int 120) 120):run P (n+2) (mnm (O "Pen")<|O "joined") [.ref pk,.tup fs,.tup ps] h=.exc (O "Wide") h:=(Zz H.n_Pen_joined H.Pen_joined rfl).I (congrArg _<|ZbU<|ZgY<|ZB rfl a.1 rfl rfl<|Zhx H.t H.wd n a.1)
end
end
end Pw
namespace Cr
open PySem L2 IV
def Zha:Tx:=.q (.blt .len<|.o V0) K1
def Zfw:Sx:=.ret (.tupl<|.u (.Ci_ "fn") (.ix V0 K0) V1)
def Zg8:Sxs:=.o Zfw
def Zhd:Sx:=.iff Zha Zg8 .n
def Zhc:Sx:=.ret (.tupl<|.z (.Ci_ "rec") (.ix V0 K1) (.ix V0 K0) V1)
def ZiJ:Sxs:=.w Zhd Zhc
def Zfg:Fd:=fd_ 2 ["names","E"] ZiJ
def ZeE:Sx:=.sa "Decoder" V0 "code" V1
def ZeD:Sx:=.sa "Decoder" V0 "at" (.ix V2 K0)
def ZeC:Sx:=.seta [O "Decoder",O "Unit"] V0 (O "around") (.ix V2 K2)
def ZeB:Sx:=.sa "Decoder" V0 "pile" (.ix V2 K3)
def ZeA:Sx:=.sa "Decoder" V0 "pen" (.mk (O "Pen")<|.o<|.glo<|O "WIDEST")
def Zez:Sx:=.sa "Decoder" V0 "done" (.lstl .n)
def Zey:Sx:=.sa "Decoder" V0 "begun" (.lstl .n)
def Zcp:Sxs:=.c ZeE (.c ZeD<|.y ZeC ZeB ZeA Zez Zey)
def ZaK:Fd:=fd_ 3 ["self","code","state"] Zcp
def Zfx:Sx:=.drp (.m "Pen" "take_place" (.a "Decoder" V0 "pen") .n)
def Zfu:Tx:=.q (.ix V1 K0) (.Ci_ "clo")
def Zd1:Sx:=.drp (.meth .app (.a "Decoder" V0 "begun")<|.o<|.tupl<|.z (.Ci_ "function") (.ix V1 K2) (.a "Decoder" V0 "at")<|.att [O "Decoder",O "Unit"] V0<|O "around")
def Zbk:Sx:=.sa "Decoder" V0 "at" (.ix V1 K1)
def Zal:Sx:=.seta [O "Decoder",O "Unit"] V0 (O "around") (.bin .Add (.blt .tup<|.o<|.comp [O "name"] [M] (.pl<|.ix V1 K2) (.nm 0) M<|.tupl<|.w (.Ci_ "name") V0)<|.ix V1 K3)
def Zd2:Sx:=.drp (.meth .app (.a "Decoder" V0 "done")<|.o V1)
def Zaa:Sxs:=.u Zd1 Zbk Zal
def ZaL:Sxs:=.o Zd2
def Zcl:Sx:=.iff Zfu Zaa ZaL
def Zbu:Sxs:=.w Zfx Zcl
def Zdb:Fd:=fd_ 2 ["self","thing"] Zbu
def Z3:Sx:=.s 3 (.blt .tup<|.o<|.sl (.a "Decoder" V0 "done") (J<|.neg V2) M)
def Z2:Sx:=.sa "Decoder" V0 "done" (.sl (.a "Decoder" V0 "done") M<|J<|.neg V2)
def ZaF:Sx:=.drp (.meth .app (.a "Decoder" V0 "done")<|.o<|.m "Pen" "joined" (.a "Decoder" V0 "pen")<|.w (.tupl<|.o V1) V3)
def ZdC:Sxs:=.u Z3 Z2 ZaF
def Za4:Fd:=fd_ 3 ["self","word","count","parts"] ZdC
def ZcY:Sx:=.ret (.ands<|.w (.cmp .Gt (.blt .len<|.o<|.a "Decoder" V0 "begun") K0)<|.cmp .Eq (.ix (.ix (.a "Decoder" V0 "begun")<|.neg K1) K0)<|.Ci_ "if")
def Zbb:Sxs:=.o ZcY
def Za5:Fd:=fd_ 1 ["self"] Zbb
def ZcZ:Sx:=.ret (.ands<|.w (.m "Decoder" "is_within_if" V0 .n)<|.cmp .Eq (.ix (.ix (.a "Decoder" V0 "begun")<|.neg K1) K1)<|.a "Decoder" V0 "at")
def ZdD:Sxs:=.o ZcZ
def Za6:Fd:=fd_ 1 ["self"] ZdD
def Zbo:Tx:=.nt (.ex<|.m "Decoder" "is_within_if" V0 .n)
def Ze5:Sx:=.sa "Decoder" V0 "at" (.ix V1 K1)
def Zgw:Sxs:=.o Ze5
def ZgI:Sx:=.iff Zbo Zgw .n
def Zba:Sxs:=.o ZgI
def Zeh:Fd:=fd_ 2 ["self","row"] Zba
def ZbZ:Tx:=.ex (.a "Decoder" V0 "begun")
def Zbd:Sx:=.s 1 (.meth .pop (.a "Decoder" V0 "begun") .n)
def Zbc:Sx:=.drp (.meth .app (.a "Decoder" V0 "done")<|.o<|.f "function_of"<|.w (.ix V1 K1)<|.meth .pop (.a "Decoder" V0 "done") .n)
def Zad:Sx:=.sa "Decoder" V0 "at" (.ix V1 K2)
def ZQ:Sx:=.seta [O "Decoder",O "Unit"] V0 (O "around") (.ix V1 K3)
def ZdE:Sx:=.sa "Decoder" V0 "at" (.ix (.ix (.a "Decoder" V0 "pile") K0) K0)
def Zbe:Sx:=.seta [O "Decoder",O "Unit"] V0 (O "around") (.ix (.ix (.a "Decoder" V0 "pile") K0) K1)
def Zae:Sx:=.sa "Decoder" V0 "pile" (.sl (.a "Decoder" V0 "pile") (J K1) M)
def ZeZ:Sxs:=.z Zbd Zbc Zad ZQ
def Ze2:Sxs:=.u ZdE Zbe Zae
def Ze6:Sx:=.iff ZbZ ZeZ Ze2
def ZX:Sxs:=.o Ze6
def Zcy:Fd:=fd_ 1 ["self","function"] ZX
def Zch:Tx:=.x .In (.ix V1 K0) (.glo<|O "CALLS")
def Zd3:Sx:=.drp (.m "Decoder" "put_together" V0<|.w (.Ci_ "call") K2)
def Zd0:Tx:=.q (.ix V1 K0) (.Ci_ "work")
def Zc0:Sx:=.drp (.m "Decoder" "put_together" V0<|.w (.ix V1 K1) K2)
def ZcV:Tx:=.q (.ix V1 K0) (.Ci_ "unless")
def Zb8:Sx:=.drp (.meth .app (.a "Decoder" V0 "begun")<|.o<|.tupl<|.w (.Ci_ "if")<|.ix (.ix (.a "Decoder" V0 "code")<|.bin .Sub (.ix V1 K1) K1) K1)
def Zb5:Tx:=.q (.ix V1 K0) (.Ci_ "jump")
def Zbv:Sx:=.drp (.m "Decoder" "jump" V0<|.o V1)
def Zbp:Tx:=.q (.ix V1 K0) (.Ci_ "back")
def ZaR:Sx:=.drp (.m "Decoder" "go_back" V0 .n)
def ZaS:Sx:=.drp (.m "Decoder" "put_on" V0<|.o<|.f "thing_of"<|.w V1<|.att [O "Decoder",O "Unit"] V0<|O "around")
def Zbm:Sxs:=.o ZaR
def Zbn:Sxs:=.o ZaS
def Zbw:Sx:=.iff Zbp Zbm Zbn
def Zb2:Sxs:=.o Zbv
def Zb4:Sxs:=.o Zbw
def Zb9:Sx:=.iff Zb5 Zb2 Zb4
def ZcO:Sxs:=.o Zb8
def ZcR:Sxs:=.o Zb9
def Zc1:Sx:=.iff ZcV ZcO ZcR
def ZdX:Sxs:=.o Zc0
def ZdY:Sxs:=.o Zc1
def Zd4:Sx:=.iff Zd0 ZdX ZdY
def Zfm:Sxs:=.o Zd3
def Zft:Sxs:=.o Zd4
def Zcm:Sx:=.iff Zch Zfm Zft
def Zax:Sxs:=.o Zcm
def Zdc:Fd:=fd_ 2 ["self","row"] Zax
def Zb0:Tx:=.ex (.m "Decoder" "is_behind_if" V0 .n)
def ZdF:Sx:=.drp (.meth .pop (.a "Decoder" V0 "begun") .n)
def Zbf:Sx:=.drp (.m "Decoder" "put_together" V0<|.w (.Ci_ "if") K3)
def Zbh:Sx:=.auga [O "Decoder"] V0 (O "at") K1
def Zbg:Sx:=.drp (.m "Decoder" "do_row" V0<|.o<|.ix (.a "Decoder" V0 "code")<|.bin .Sub (.a "Decoder" V0 "at") K1)
def Ze0:Sxs:=.w ZdF Zbf
def Ze3:Sxs:=.w Zbh Zbg
def Ze7:Sx:=.iff Zb0 Ze0 Ze3
def ZY:Sxs:=.o Ze7
def Zcz:Fd:=fd_ 1 ["self"] ZY
def ZE:Sx:=.drp (.m "Decoder" "put_on" V0<|.o V1)
def Zbj:Tx:=.ex (.a "Decoder" V0 "begun")
def Zdg:Sx:=.drp (.m "Decoder" "do_next" V0 .n)
def Zbi:Sxs:=.o Zdg
def Zv:Sx:=.whl Zbj Zbi
def Ze4:Sxs:=.w ZE Zv
def ZbX:Fd:=fd_ 2 ["self","thing"] Ze4
def Zac:Tx:=.ors (.c (.ex<|.a "Decoder" V0 "begun")<|.one<|.nq (.ix (.ix (.a "Decoder" V0 "code")<|.a "Decoder" V0 "at") K0)<|.Ci_ "end")
def Zex:Sx:=.drp (.m "Decoder" "do_next" V0 .n)
def Zce:Sxs:=.o Zex
def Zco:Sx:=.whl Zac Zce
def Zcn:Sx:=.ret (.ix (.a "Decoder" V0 "done") K0)
def ZgJ:Sxs:=.w Zco Zcn
def Zdd:Fd:=fd_ 1 ["self"] ZgJ
def ZcX:Sx:=.s 2 (.mk (O "Decoder")<|.w V0 V1)
def ZiB:Ix:=.pl (.ix V1 K1)
def Zhe:Sx:=.drp (.m "Decoder" "put_whole" V2<|.o V3)
def Zah:Sxs:=.o Zhe
def ZcW:Sx:=.forr (.nm 3) ZiB Zah
def ZbE:Sx:=.ret (.m "Decoder" "do_all" V2 .n)
def Zlf:Sxs:=.u ZcX ZcW ZbE
def ZgX:Fd:=fd_ 2 ["code","state","decoder","thing"] Zlf
structure Dec(P:Pg):Prop where
 c:Ce.Cod P
 p:Pw.Pnw P
 gc:P.G (O "CALLS")=J (.tup [.str<|O "call",.str<|O "hop"])
 function_of:P.tb.lookup (O "function_of")=J Zfg
 n_Decoder___init__:P.tb.lookup (mnm (O "Decoder")<|O "__init__")=M
 Decoder___init__:P.ms.lookup (mnm (O "Decoder")<|O "__init__")=J ZaK
 n_Decoder_put_on:P.tb.lookup (mnm (O "Decoder")<|O "put_on")=M
 Decoder_put_on:P.ms.lookup (mnm (O "Decoder")<|O "put_on")=J Zdb
 n_Decoder_put_together:P.tb.lookup (mnm (O "Decoder")<|O "put_together")=M
 Decoder_put_together:P.ms.lookup (mnm (O "Decoder")<|O "put_together")=J Za4
 n_Decoder_is_within_if:P.tb.lookup (mnm (O "Decoder")<|O "is_within_if")=M
 Decoder_is_within_if:P.ms.lookup (mnm (O "Decoder")<|O "is_within_if")=J Za5
 n_Decoder_is_behind_if:P.tb.lookup (mnm (O "Decoder")<|O "is_behind_if")=M
 Decoder_is_behind_if:P.ms.lookup (mnm (O "Decoder")<|O "is_behind_if")=J Za6
 n_Decoder_jump:P.tb.lookup (mnm (O "Decoder")<|O "jump")=M
 Decoder_jump:P.ms.lookup (mnm (O "Decoder")<|O "jump")=J Zeh
 n_Decoder_go_back:P.tb.lookup (mnm (O "Decoder")<|O "go_back")=M
 Decoder_go_back:P.ms.lookup (mnm (O "Decoder")<|O "go_back")=J Zcy
 n_Decoder_do_row:P.tb.lookup (mnm (O "Decoder")<|O "do_row")=M
 Decoder_do_row:P.ms.lookup (mnm (O "Decoder")<|O "do_row")=J Zdc
 n_Decoder_do_next:P.tb.lookup (mnm (O "Decoder")<|O "do_next")=M
 Decoder_do_next:P.ms.lookup (mnm (O "Decoder")<|O "do_next")=J Zcz
 n_Decoder_put_whole:P.tb.lookup (mnm (O "Decoder")<|O "put_whole")=M
 Decoder_put_whole:P.ms.lookup (mnm (O "Decoder")<|O "put_whole")=J ZbX
 n_Decoder_do_all:P.tb.lookup (mnm (O "Decoder")<|O "do_all")=M
 Decoder_do_all:P.ms.lookup (mnm (O "Decoder")<|O "do_all")=J Zdd
 code_read:P.tb.lookup (O "code_read")=J ZgX
end Cr
namespace Cr
open PySem L2 IV
open Tm (Zaq grown)
open Ce (fr Zam Zak keep ZM ZaY)
section
variable {P:Pg}{h0 h:Hd}{C:List Ce.Rw}{k c pk bk dk p u:Nat}{A dn:List D}{pl:List (Nat×List D)}
def ZgF(k p:Nat)(A:List D)(pl:List (Nat×List D))(pk dk bk:Nat):DO:=.ins (O "Decoder") [(O "code",.ref k),(O "at",.int (p:Int)),(O "around",.tup A),(O "pile",.tup<|pl.map fr),(O "pen",.ref pk),(O "done",.ref dk),(O "begun",.ref bk)]
inductive Bg where
 |fn (ns:List Str) (p:Nat) (A:List D)|iff (q:Nat)
def Bg.d:Bg->D
 |.fn ns p A=>.tup [.str<|O "function",.tup<|ns.map .str,.int (p:Int),.tup A]
 |.iff q=>.tup [.str<|O "if",.int (q:Int)]
variable {bg:List Bg}
noncomputable def tp(bg:List Bg):Option Nat:=match bg.getLast? with
 |some (.iff q)=>J q
 |_=>M
structure Dq(C:List Ce.Rw)(k c pk bk:Nat)(h0 h:Hd)(dk p:Nat)(A:List D)(pl:List (Nat×List D))(dn:List D)(bg:List Bg)(u:Nat):Prop where
 o:h[c]?=J (ZgF k p A pl pk dk bk)
 q:h[pk]?=J (Zaq (.int 120) (u:Int))
 d:h[dk]?=J (.lst dn)
 b:h[bk]?=J (.lst<|bg.map Bg.d)
 kc:h[k]?=J (.lst<|C.map Ce.Rw.d)
 ne:dk≠bk
 ok:k<h0.length
 oc:h0.length<=c
 op:h0.length<=pk
 od:h0.length<=dk
 ob:h0.length<=bk
 ol:h0.length<=h.length
 old:∀i,i<h0.length->h[i]?=h0[i]?
def Ds(C:List Ce.Rw)(k c pk bk:Nat)(h0 h:Hd)(p:Nat)(A:List D)(pl:List (Nat×List D))(dn:List D)(bg:List Bg)(u:Nat):Prop:=∃dk,Dq C k c pk bk h0 h dk p A pl dn bg u
def neq{i j:Nat}{a b}(e:h[i]?=J a)(e':h[j]?=J b)(n:a≠b):i≠j:=λz=>by simp_all
section
variable (s:Dq C k c pk bk h0 h dk p A pl dn bg u)
include s
theorem Dq.cp:c≠pk:=neq s.o s.q (by simp[ZgF,Zaq])
theorem Dq.cd:c≠dk:=neq s.o s.d nofun
theorem Dq.cb:c≠bk:=neq s.o s.b nofun
theorem Dq.pd:pk≠dk:=neq s.q s.d nofun
theorem Dq.pb:pk≠bk:=neq s.q s.b nofun
theorem Dq.app(g):Dq C k c pk bk h0 (h++g) dk p A pl dn bg u:=⟨keep s.o,keep s.q,keep s.d,keep s.b,keep s.kc,s.ne,s.ok,s.oc,s.op,s.od,s.ob,by have:=s.ol;simp;lia,λi a=>(Oe (by have:=s.ol;lia)).I<|s.old i a⟩
theorem Dq.set{i}{o}(hi:h0.length<=i):(∀j,j≠i->(h.set i o)[j]?=h[j]?)/\h0.length<=(h.set i o).length/\∀j,j<h0.length->(h.set i o)[j]?=h0[j]? :=⟨λj a=>Oc<|YL a,by simpa using s.ol,λj a=>(Oc<|by lia).I<|s.old j a⟩
theorem Dq.setO(p')(A')(pl'):Dq C k c pk bk h0 (h.set c<|ZgF k p' A' pl' pk dk bk) dk p' A' pl' dn bg u:=by have z:=s.set (o:=ZgF k p' A' pl' pk dk bk) s.oc;exact⟨by rw[Ol<|ZM s.o],(z.1 _<|YL s.cp).I s.q,(z.1 _<|YL s.cd).I s.d,(z.1 _<|YL s.cb).I s.b,(z.1 _ (by have:=s.ok;have:=s.oc;lia)).I s.kc,s.ne,s.ok,s.oc,s.op,s.od,s.ob,z.2.1,z.2.2⟩
theorem Dq.setN{dk'}{aP}(e:h[dk']?=J (.lst aP))(ne:dk'≠bk)(o:h0.length<=dk'):Dq C k c pk bk h0 (h.set c<|ZgF k p A pl pk dk' bk) dk' p A pl aP bg u:=by have z:=s.set (o:=ZgF k p A pl pk dk' bk) s.oc;exact⟨by rw[Ol<|ZM s.o],(z.1 _<|YL s.cp).I s.q,(z.1 _<|YL<|neq s.o e nofun).I e,(z.1 _<|YL s.cb).I s.b,(z.1 _ (by have:=s.ok;have:=s.oc;lia)).I s.kc,ne,s.ok,s.oc,s.op,o,s.ob,z.2.1,z.2.2⟩
theorem Dq.setD(aP):Dq C k c pk bk h0 (h.set dk<|.lst aP) dk p A pl aP bg u:=by have z:=s.set (o:=.lst aP) s.od;exact⟨(z.1 _ s.cd).I s.o,(z.1 _ s.pd).I s.q,by rw[Ol<|ZM s.d],(z.1 _<|YL s.ne).I s.b,(z.1 _ (by have:=s.ok;have:=s.od;lia)).I s.kc,s.ne,s.ok,s.oc,s.op,s.od,s.ob,z.2.1,z.2.2⟩
theorem Dq.setB(bi):Dq C k c pk bk h0 (h.set bk<|.lst<|bi.map Bg.d) dk p A pl dn bi u:=by have z:=s.set (o:=.lst<|bi.map Bg.d) s.ob;exact⟨(z.1 _ s.cb).I s.o,(z.1 _ s.pb).I s.q,(z.1 _ s.ne).I s.d,by rw[Ol<|ZM s.b],(z.1 _ (by have:=s.ok;have:=s.ob;lia)).I s.kc,s.ne,s.ok,s.oc,s.op,s.od,s.ob,z.2.1,z.2.2⟩
theorem Dq.setP(u':Nat):Dq C k c pk bk h0 (h.set pk<|Zaq (.int 120) u') dk p A pl dn bg u':=by have z:=s.set (o:=Zaq (.int 120) u') s.op;exact⟨(z.1 _ s.cp).I s.o,by rw[Ol<|ZM s.q],(z.1 _<|YL s.pd).I s.d,(z.1 _<|YL s.pb).I s.b,(z.1 _ (by have:=s.ok;have:=s.op;lia)).I s.kc,s.ne,s.ok,s.oc,s.op,s.od,s.ob,z.2.1,z.2.2⟩
theorem Dq.gone:∃g,h=h0++g:=grown s.ol s.old
end
section
variable {U:Tb}{S:Ev}{R:Hd}{Cs:List Str}{f:Str}{fs:List (Str×D)}{d:D}{e:Ex}
def g_a(hρ:S[0]?.join=J (.ref c))(hc:h[c]?=J (.ins (O "Decoder") fs))(hC:O "Decoder" ∈ Cs)(hl:fs.lookup f=J d):ev U (.att Cs (.var 0) f) S h=.ok d h:=by rw[Zro,ZjT,hρ];simp[Zgz,Z8,hc,if_pos hC,hl]
def s_a(q:ev U e S h=.ok d R)(hρ:S[0]?.join=J (.ref c))(hc:R[c]?=J (.ins (O "Decoder") fs))(hC:O "Decoder" ∈ Cs)(hf:fs.length<1000):xs1 U (.seta Cs (.var 0) f e) S h=.ok (.nx,S) (R.set c<|.ins (O "Decoder")<|ZhD f d fs):=by rw[Zpd,q,ZA,ZjT,hρ];simp[Zgo,hc,if_pos<|show O "Decoder" ∈ Cs/\fs.length<1000 from⟨hC,hf⟩]
end
def Zab:O "Decoder" ∈ [O "Decoder"]:=by simp
def cls2:O "Decoder" ∈ [O "Decoder",O "Unit"]:=by simp
def Znw(e:h[i]?=J (.lst<|l++[x])):ZaQ GD (.ref i) (.int<|-1) h=.ok x h:=by rw[ZC e,IV.Zdi];rfl
def ZfL(H:Dec P)(n)(s:Dq C k c pk bk h0 h dk p A pl dn bg u):run P (n+1) (mnm (O "Decoder")<|O "is_within_if") [.ref c] h=.ok (.bl (tp bg).isSome) h:=by
 rw[Zz H.n_Decoder_is_within_if H.Decoder_is_within_if<|rfl];have i:ev (P.tbl n) (.blt .len<|.cons (.att [O "Decoder"] (.var 0)<|O "begun") .nil) [J<|.ref c] h=.ok (.int bg.length) h:=by refine(Zib (Zc (g_a rfl s.o Zab rfl) rfl)<|ZgQ s.b).I ?_;simp
 have j:ev (P.tbl n) (.cmp .Gt (.blt .len<|.cons (.att [O "Decoder"] (.var 0)<|O "begun") .nil)<|.ci 0) [J<|.ref c] h=.ok (.bl<|Wu<|(0:Int)<bg.length) h:=(Zu i rfl).I rfl;have a:∀b,evAnd (P.tbl n) (.cons (.cmp .Gt (.blt .len<|.cons (.att [O "Decoder"] (.var 0)<|O "begun") .nil)<|.ci 0)<|.cons (.cmp .Eq (.ix (.ix (.att [O "Decoder"] (.var 0)<|O "begun")<|.neg<|.ci 1)<|.ci 0)<|.Ci_ "if") .nil) [J<|.ref c] h=.ok (.bl b) h->Zf (xs2 (P.tbl n) Zbb [J<|.ref c] h)=.ok (.bl b) h:=λb e=>congrArg Zf<|Zd<|Zn<|Zhk.I e;refine a _ ?_;rw[ZeV,j];rcases List.eq_nil_or_concat bg with rfl|⟨l,x,rfl⟩
 . rfl
 . rw[decide_eq_true<|by simp];have f:=s.b;rw[List.concat_eq_append,List.map_append]at f;have g:ev (P.tbl n) (.ix (.att [O "Decoder"] (.var 0)<|O "begun")<|.neg<|.ci 1) [J<|.ref c] h=.ok x.d h:=(Zj (g_a rfl s.o Zab rfl) rfl).I<|Znw f;cases x with
   |fn m q B_=>refine(Zu ((Zj g rfl).I rfl) rfl).I ?_;simp[tp]
   |iff q=>refine(Zu (x:=.str<|O "if") ((Zj g rfl).I rfl) rfl).I ?_;rw[ZqA,Zqw];simp[tp]
def Zkt(H:Dec P)(n)(s:Dq C k c pk bk h0 h dk p A pl dn bg u):run P (n+2) (mnm (O "Decoder")<|O "is_behind_if") [.ref c] h=.ok (.bl<|Wu<|tp bg=J p) h:=by
 rw[Zz H.n_Decoder_is_behind_if H.Decoder_is_behind_if<|rfl];refine(λb e=>congrArg Zf<|Zd<|Zn<|Zhk.I e) _ ?_;rw[ZeV,ZB rfl s.o rfl rfl<|ZfL H n s];cases q:tp bg with
 |none=>rfl
 |some j=>
  rcases List.eq_nil_or_concat bg with rfl|⟨l,x,rfl⟩
  . cases q
  . have sb:=s.b;rw[List.concat_eq_append,List.map_append]at sb;cases x with
    |fn ns q' B_=>simp[tp]at q
    |iff i=>
     have:i=j:=by simpa[tp]using q
     subst this;have e2:ev (P.tbl<|n+1) (.ix (.att [O "Decoder"] (.var 0)<|O "begun")<|.neg<|.ci 1) [J<|.ref c] h=.ok (Bg.iff i).d h:=(Zj (g_a rfl s.o Zab rfl) rfl).I<|Znw sb;refine(Zu (x:=.int (i:Int)) (y:=.int (p:Int)) ((Zj e2 rfl).I rfl)<|g_a rfl s.o Zab rfl).I ?_;rw[ZqA,Zqx];congr 2;simp only[Option.some.injEq];rw[Bool.eq_iff_iff,if_neg<|by simp,decide_eq_true_iff,decide_eq_true_iff]
     lia
end
section
variable {P:Pg}{h0 h:Hd}{C:List Ce.Rw}{k c pk bk dk p u:Nat}{A dn:List D}{pl:List (Nat×List D)}{bg:List Bg}
def Zrv(hr:r≠[]):cutD (l++r) (J<|-r.length) M=r:=by
 have b:=List.length_pos_iff.mpr hr;have e:HT.sIx (l++r).length 0 (J<|-r.length)=l.length:=by simp[HT.sIx];lia
 have a:HT.sIx (l++r).length _ M=(l++r).length:=rfl;unfold cutD;rw[e,a];simp
def Zrx(hr:r≠[]):cutD (l++r) M (J<|-r.length)=l:=by
 have b:=List.length_pos_iff.mpr hr;have e:HT.sIx (l++r).length (l++r).length (J<|-r.length)=l.length:=by simp[HT.sIx];lia
 have a:HT.sIx (l++r).length 0 M=0:=rfl;unfold cutD;rw[e,a];simp
inductive On(C:List Ce.Rw)(k c pk bk:Nat)(h0:Hd)(p:Nat)(A:List D)(pl:List (Nat×List D))(dn:List D)(bg:List Bg)(u:Nat):qe D->Prop
 |ok {h':Hd} (le:u<=120) (s:Ds C k c pk bk h0 h' p A pl dn bg u):On C k c pk bk h0 p A pl dn bg u (.ok .non h')
 |ex {g:Hd} (lt:120<u):On C k c pk bk h0 p A pl dn bg u (.exc (O "Wide") (h0++g))
def Zgt(q:ev U e S h=r)(o:On C k c pk bk h0 p A pl dn bg u r):On C k c pk bk h0 p A pl dn bg u (Zf<|xs2 U (.cons (.drp e) .nil) S h):=by
 cases o with
 |ok le s=>rw[Za<|ZK q];exact .ok le s
 |ex lt=>rw[ZbU<|ZgY q];exact .ex lt
noncomputable def vp(c:Nat)(w:D)(m:Nat)(o:Option D):Ev:=[J<|.ref c,J w,J<|.int (m:Int),o]
def ZlH(H:Dec P)(n)(s:Dq C k c pk bk h0 h dk p A pl (dn++ps) bg u)(hu:u<=120)(hr:ps≠[])(eQ:ps.length<=10)(hd:dn.length<=1000):On C k c pk bk h0 p A pl (dn++[.tup (.str w::ps)]) bg (u+1) (run P (n+3) (mnm (O "Decoder")<|O "put_together") [.ref c,.str w,.int (ps.length:Int)] h):=by
 rw[Zz H.n_Decoder_put_together H.Decoder_put_together<|by rfl];have s1:=s.app [.lst ps];have s2:=s.app<|[.lst ps]++[.lst dn];rw[<-Oz]at s2;have x1:xs1 (P.tbl<|n+2) Z3 (vp c (.str w) ps.length M) h=.ok (.nx,vp c (.str w) ps.length<|J<|.tup ps) (h++[.lst ps]):=by
  have q:ev (P.tbl<|n+2) (.sl (.att [O "Decoder"] (.var 0)<|O "done") (J<|.neg<|.var 2) M) (vp c (.str w) ps.length M) h=.ok (.ref h.length) (h++[.lst ps]):=by rw[Zrm,g_a (d:=.ref dk) rfl s.o Zab rfl,ZA];show ZfN (.ref dk) (J<|-(ps.length:Int)) M h=_;simp only[ZfN,lstOf,s.d];rw[Zrv hr];rfl
  exact Zm (Zib (Zc q rfl)<|Zue (ys:=ps)<|by simp)
 have x2:∃h2,xs1 (P.tbl<|n+2) Z2 (vp c (.str w) ps.length<|J<|.tup ps) (h++[.lst ps])=.ok (.nx,vp c (.str w) ps.length<|J<|.tup ps) h2/\Dq C k c pk bk h0 h2 (h.length+1) p A pl dn bg u:=by
  have q:ev (P.tbl<|n+2) (.sl (.att [O "Decoder"] (.var 0)<|O "done") M<|J<|.neg<|.var 2) (vp c (.str w) ps.length<|J<|.tup ps) (h++[.lst ps])=.ok (.ref<|h.length+1) (h++[.lst ps]++[.lst dn]):=by rw[Zrm,g_a (d:=.ref dk) rfl s1.o Zab rfl,ZA];show ZfN (.ref dk) M (J<|-(ps.length:Int)) (h++[.lst ps])=_;simp only[ZfN,lstOf,s1.d];rw[Zrx hr];simp[ZeY]
  refine⟨_,s_a q rfl s2.o Zab<|by simp,?_⟩;exact s2.setN (dk':=h.length+1) (by simp) (by have:=ZM s.b;lia) (by have:=s.ol;lia)
 obtain⟨h2,x2,s3⟩:=x2;show On C k c pk bk h0 p A pl (dn++[.tup (.str w::ps)]) bg (u+1) (Zf<|xs2 (P.tbl<|n+2) (.cons Z3<|.cons Z2<|.cons ZaF .nil) (vp c (.str w) ps.length M) h);rw[Za x1,Za x2];have ed:ev (P.tbl<|n+2) (.att [O "Decoder"] (.var 0)<|O "done") (vp c (.str w) ps.length<|J<|.tup ps) h2=.ok (.ref<|h.length+1) h2:=g_a rfl s3.o Zab rfl;have ep:ev (P.tbl<|n+2) (.att [O "Decoder"] (.var 0)<|O "pen") (vp c (.str w) ps.length<|J<|.tup ps) h2=.ok (.ref pk) h2:=g_a rfl s3.o Zab rfl;have es:evs (P.tbl<|n+2) (.cons (.tupl<|.cons (.var 1) .nil)<|.cons (.var 3) .nil) (vp c (.str w) ps.length<|J<|.tup ps) h2=.ok [.tup [.str w],.tup ps] h2:=rfl;have af:Tm.Aft h2 h2 pk (.int 120) (u:Int):=⟨s3.q,Oq _,λ_ _ _=>rfl⟩
 by_cases q:u=120
 . subst q;have ej:=ZB ep s3.q rfl es<|Pw.ZpZ H.p n [.str w] ps af;have em:ev (P.tbl<|n+2) (.meth .app (.att [O "Decoder"] (.var 0)<|O "done")<|.cons (.mcl (O "Pen") (O "joined") (.att [O "Decoder"] (.var 0)<|O "pen")<|.cons (.tupl<|.cons (.var 1) .nil)<|.cons (.var 3) .nil) .nil) (vp c (.str w) ps.length<|J<|.tup ps) h2=.exc (O "Wide") h2:=by rw[ZnE,ed,ZA,ZeT s3.d,if_pos rfl,ZyS ej];rfl
   obtain⟨g,rfl⟩:=s3.gone;exact Zgt em (.ex<|by lia)
 . have ej:=ZB ep s3.q rfl es (Pw.Zol H.p n [.str w] ps af (by lia) (by simp;lia));have s4:=s3.setP<|u+1;rw[show((u:Int)+1)=((u+1:Nat):Int) by lia]at ej;have em:=ZbI (m:=.app) ed s3.d (Zc ej ZO) (ZW s4.d (by rw[YC];lia));exact Zgt em (.ok (by lia) ⟨_,s4.setD _⟩)
def Zoi(H:Dec P)(n)(s:Dq C k c pk bk h0 h dk p A pl dn bg u)(hu:u<120):run P (n+1) (mnm (O "Pen")<|O "take_place") [.ref pk] h=.ok .non (h.set pk<|Zaq (.int 120) (u+1:Nat)):=Tm.ZlD H.p.t n (.inr ⟨_,rfl,by lia⟩) s.q
noncomputable def vt(c:Nat)(d:D):Ev:=[J<|.ref c,J d]
def Zuu(H:Dec P)(n)(s:Dq C k c pk bk h0 h dk p A pl dn bg 120):On C k c pk bk h0 p' A' pl aP bi 121 (run P (n+2) (mnm (O "Decoder")<|O "put_on") [.ref c,d] h):=by rw[Zz H.n_Decoder_put_on H.Decoder_put_on rfl];obtain⟨g,rfl⟩:=s.gone;have x:xs2 (P.tbl<|n+1) Zbu (vt c d) _=.exc _ _:=ZbU<|ZgY<|ZB (g_a rfl s.o Zab rfl) s.q rfl ZO<|Tm.Zhx H.p.t H.p.wd n s.q;show On C k c _ _ _ _ _ pl aP bi 121 (Zf<|xs2 (P.tbl<|n+1) Zbu (vt c d)<|h0++g);rw[x];exact .ex (by simp)
def Zp9(H:Dec P)(n)(s:Dq C k c pk bk h0 h dk p A pl dn bg u)(hu:u<120)(ed:d=.tup (.str w::ds)):∃R,Dq C k c pk bk h0 R dk p A pl dn bg (u+1)/\run P (n+2) (mnm (O "Decoder")<|O "put_on") [.ref c,d] h=Zf (xs2 (P.tbl<|n+1) (if w=O "clo" then Zaa else ZaL) (vt c d) R):=by
 refine⟨_,s.setP<|u+1,?_⟩;rw[Zz H.n_Decoder_put_on H.Decoder_put_on<|rfl];have one:∀(U) (st) (S) (h),xs2 U (.cons st .nil) S h=xs1 U st S h:=λU st S h=>by
  rw[xs2];cases xs1 U st S h with
  |bad=>rfl
  |exc c h=>rfl
  |ok p h=>obtain⟨f,S⟩:=p;cases f<;>rfl
 have e2:∀h',xs2 (P.tbl<|n+1) (.cons Zcl .nil) (vt c d) h'=xs2 (P.tbl<|n+1) (if w=O "clo" then Zaa else ZaL) (vt c d) h':=λh'=>by
  rw[one];by_cases z:w=O "clo"
  . rw[if_pos z];exact Zk (Zh ((λh'=>Zas ((Zj (x:=d) rfl rfl).I (by rw[ed];simp)) rfl) h')<|decide_eq_true z)
  . rw[if_neg z];exact Zg (Zh ((λh'=>Zas ((Zj (x:=d) rfl rfl).I (by rw[ed];simp)) rfl) h')<|decide_eq_false z)
 exact congrArg Zf ((Za<|ZK<|ZB (U:=P.tbl<|n+1) (C:=O "Pen") (m:=O "take_place") (g_a rfl s.o Zab rfl) s.q rfl ZO<|Zoi H n s hu).I<|e2 _)
def Zm2(H:Dec P)(n)(s:Dq C k c pk bk h0 h dk p A pl dn bg u)(hu:u<=120)(ed:d=.tup (.str w::ds))(hw:w≠O "clo")(hd:dn.length<=1000):On C k c pk bk h0 p A pl (dn++[d]) bg (u+1) (run P (n+2) (mnm (O "Decoder")<|O "put_on") [.ref c,d] h):=by
 by_cases q:u=120
 . subst q;exact Zuu H n s
 . obtain⟨R,s1,e⟩:=Zp9 H n s (by lia) ed;rw[e,if_neg hw];exact Zgt (ZbI (g_a rfl s1.o Zab rfl) s1.d (Zc rfl rfl)<|ZW s1.d (by rw[YC];lia)) (.ok (by lia) ⟨_,s1.setD _⟩)
noncomputable def names(ns:List Str):List D:=ns.map λx=>.tup [.str<|O "name",.str x]
theorem ZnM:∀(ns) (ag),ag.length+ns.length<=1000->ZI [] (.nm 0) (tsto U M) (ev U<|.tupl<|.cons (.Ci_ "name")<|.cons (.var 0) .nil) (ns.map .str) [M] ag h=.ok (ag++names ns) h
 |[],ag,_=>by simp[ZI,Wk.stays,names]
 |x::ns,ag,hz=>by rw[Os]at hz;rw[Op,ZL,if_pos ⟨rfl,by rw[YC];lia⟩];have:=ZnM (U:=U) ns (ag++[.tup [.str<|O "name",.str x]]) (by simp;lia);rw[Oz]at this;trivial
def Zm3(H:Dec P)(n)(s:Dq C k c pk bk h0 h dk p A pl dn bg u)(hu:u<=120)(hn:ns.length<=10)(hd:ds.length<=100000)(hb:bg.length<=1000):On C k c pk bk h0 q (names ns++ds) pl dn (bg++[.fn ns p A]) (u+1) (run P (n+2) (mnm (O "Decoder")<|O "put_on") [.ref c,Zam q ns ds] h):=by
 by_cases z:u=120
 . subst z;exact Zuu H n s
 . obtain⟨R,s1,e⟩:=Zp9 H n s (d:=Zam q ns ds) (by lia) rfl;rw[e,if_pos rfl];have e1:evs (P.tbl<|n+1) (.cons (.tupl<|.cons (.Ci_ "function")<|.cons (.ix (.var 1)<|.ci 2)<|.cons (.att [O "Decoder"] (.var 0)<|O "at")<|.cons (.att [O "Decoder",O "Unit"] (.var 0)<|O "around") .nil) .nil) (vt c<|Zam q ns ds) R=.ok [(Bg.fn ns p A).d] R:=Zc (Z6 (xs:=[.str<|O "function",.tup<|ns.map .str,.int (p:Int),.tup A]) (Zc rfl<|Zc rfl<|Zc (g_a rfl s1.o Zab rfl)<|Zc (g_a rfl s1.o cls2 rfl) rfl)<|by simp) rfl;have x1:=ZK (U:=P.tbl<|n+1) (S:=vt c<|Zam q ns ds) (ZbI (m:=.app) (g_a (Cs:=[O "Decoder"]) (f:=O "begun") rfl s1.o Zab rfl) s1.b e1<|ZW s1.b (by simp[YC];lia));have s2:=s1.setB<|bg++[.fn ns p A];rw[List.map_append]at s2;have x2:=s_a (U:=P.tbl<|n+1) (S:=vt c<|Zam q ns ds) (Cs:=[O "Decoder"]) (f:=O "at") (e:=.ix (.var 1)<|.ci 1) (d:=.int (q:Int)) rfl rfl s2.o Zab (by simp);have s3:=s2.setO q A pl;have ec:∀h',ev (P.tbl<|n+1) (.bin .Add (.blt .tup<|.cons (.comp [O "name"] [M] (.pl<|.ix (.var 1)<|.ci 2) (.nm 0) M<|.tupl<|.cons (.Ci_ "name")<|.cons (.var 0) .nil) .nil)<|.ix (.var 1)<|.ci 3) (vt c<|Zam q ns ds) h'=.ok (.tup<|names ns++ds) (h'++[.lst<|names ns]):=λh'=>(Zl (x:=.tup<|names ns) (y:=.tup ds) (Zib (Zc (ZkW (ZjS (xs:=ns.map .str) rfl)<|ZnM ns [] (by simp;lia)) rfl)<|Zue Zay) rfl).I (Za0 (by simp[names,YC];lia))
   have s4:=s3.app [.lst<|names ns];have x3:=s_a (U:=P.tbl<|n+1) (S:=vt c<|Zam q ns ds) (Cs:=[O "Decoder",O "Unit"]) (f:=O "around") (ec _) rfl s4.o cls2 (by simp);have:=(Za (r:=.cons Zbk<|.cons Zal .nil) x1).I<|(Za (r:=.cons Zal .nil) x2).I<|(Za (r:=.nil) x3).I rfl;rw[show xs2 (P.tbl<|n+1) Zaa (vt c<|Zam q ns ds) R=_ from this];exact .ok (by lia) ⟨_,s4.setO q (names ns++ds) pl⟩
noncomputable def fnT(ns:List Str)(e:T):T:=match ns with
 |[x]=>.fn x e
 |x::f::_=>.rcc f x e
 |[]=>e
def Zp0(H:Dec P)(n){ns}(hn:ns.length=1\/ns.length=2)(e)(h):run P (n+1) (O "function_of") [.tup<|ns.map .str,e.d] h=.ok (fnT ns e).d h:=by
 rw[Ze H.function_of<|rfl]
 match ns,hn with
 |[x],_=>trivial
 |[x,f],_=>trivial
def Zop(H:Dec P)(n){ns}(s:Dq C k c pk bk h0 h dk p A pl (dn++[e.d]) (bg++[.fn ns q B_]) u)(hn:ns.length=1\/ns.length=2)(hu:u<=120)(hd:dn.length<=1000):On C k c pk bk h0 q B_ pl (dn++[(fnT ns e).d]) bg u (run P (n+2) (mnm (O "Decoder")<|O "go_back") [.ref c] h):=by rw[Zz H.n_Decoder_go_back H.Decoder_go_back<|by rfl];have i:=s.b;rw[List.map_append]at i;have t:tst (P.tbl<|n+1) ZbZ [J<|.ref c,M] h=.ok Wr h:=Zh (Ze9 ((λS j=>g_a j s.o Zab rfl) _ rfl) i) (by simp);have E:xs1 (P.tbl<|n+1) Zbd [J<|.ref c,M] h=.ok (.nx,[J<|.ref c,J (Bg.fn ns q B_).d]) (h.set bk<|.lst<|bg.map Bg.d):=Zm<|ZbI (m:=.pop) ((λS j=>g_a j s.o Zab rfl) _ rfl) i ZO<|ZbG i;have g:=s.setB bg;have l:∀{h':Hd}{dk':Nat}{aP:List D}{bi:List Bg}{p':Nat}{A':List D} (v:Dq C k c pk bk h0 h' dk' p' A' pl aP bi u),ev (P.tbl<|n+1) (.att [O "Decoder"] (.var 0)<|O "done") [J<|.ref c,J (Bg.fn ns q B_).d] h'=.ok (.ref dk') h':=λv=>g_a rfl v.o Zab rfl;have y:=g.setD dn;have F:=Zc (U:=P.tbl<|n+1) (Zo (Zp0 H n hn e _)<|Zc (a:=.ix (.var 1)<|.ci 1) (S:=[J<|.ref c,J (Bg.fn ns q B_).d]) (x:=.tup<|ns.map .str) rfl<|Zc (ZbI (m:=.pop) (l g) g.d ZO<|ZbG g.d) ZO) ZO;have G:=ZK (ZbI (m:=.app) (l g) g.d F<|ZW y.d (by rw[YC];lia));have z:=y.setD<|dn++[(fnT ns e).d];have K:=s_a (U:=P.tbl<|n+1) (S:=[J<|.ref c,J (Bg.fn ns q B_).d]) (Cs:=[O "Decoder"]) (f:=O "at") (e:=.ix (.var 1)<|.ci 2) (d:=.int (q:Int)) rfl rfl z.o Zab (by simp);have B:=z.setO q A pl;have L:=s_a (U:=P.tbl<|n+1) (S:=[J<|.ref c,J (Bg.fn ns q B_).d]) (Cs:=[O "Decoder",O "Unit"]) (f:=O "around") (e:=.ix (.var 1)<|.ci 3) (d:=.tup B_) rfl rfl B.o cls2 (by simp);have w:=(Za (r:=.cons Zbc<|.cons Zad<|.cons ZQ .nil) E).I<|(Za (r:=.cons Zad<|.cons ZQ .nil) G).I<|(Za (r:=.cons ZQ .nil) K).I<|(Za (r:=.nil) L).I rfl;have N:xs2 (P.tbl<|n+1) ZX [J<|.ref c,M] h=_:=(Za<|(Zk t).I w).I rfl;show On C k c pk bk h0 q B_ pl (dn++[(fnT ns e).d]) bg u (Zf<|xs2 (P.tbl<|n+1) ZX [J<|.ref c,M] h);rw[N];exact .ok hu ⟨_,B.setO q B_ pl⟩
def Zoo(H:Dec P)(n)(s:Dq C k c pk bk h0 h dk p A ((q,B_)::pl) dn [] u)(hu:u<=120):On C k c pk bk h0 q B_ pl dn [] u (run P (n+2) (mnm (O "Decoder")<|O "go_back") [.ref c] h):=by
 rw[Zz H.n_Decoder_go_back H.Decoder_go_back<|rfl];have d:∀{h':Hd}{p':Nat}{A':List D} (a:Dq C k c pk bk h0 h' dk p' A' ((q,B_)::pl) dn [] u),ev (P.tbl<|n+1) (.att [O "Decoder"] (.var 0)<|O "pile") [J<|.ref c,M] h'=.ok (.tup<|((q,B_)::pl).map fr) h':=λa=>g_a rfl a.o Zab rfl;have e:=s.setO q A ((q,B_)::pl);have g:=e.setO q B_ ((q,B_)::pl);have i:∀{h':Hd}{p':Nat}{A':List D} (a:Dq C k c pk bk h0 h' dk p' A' ((q,B_)::pl) dn [] u),ev (P.tbl<|n+1) (.sl (.att [O "Decoder"] (.var 0)<|O "pile") (J<|.ci 1) M) [J<|.ref c,M] h'=.ok (.tup<|pl.map fr) h':=λ{h'}{_}{_} a=>by rw[Zrm,d a,ZA];show qe.ok (D.tup<|cutD (fr (q,B_)::pl.map fr) (J 1) M) h'=_;rw[ZoX]
 have w:=(Za (r:=.cons Zbe<|.cons Zae .nil)<|s_a (Cs:=[O "Decoder"]) (f:=O "at") ((Zj (y:=.int 0) (b:=.ci 0) ((Zj (y:=.int 0) (b:=.ci 0) (d s) rfl).I (show _=qe.ok (fr (q,B_)) h by rw[Op,ZfO,ZrR];rfl)) rfl).I (show _=qe.ok (.int (q:Int)) h by rw[fr,ZfO,ZrR];rfl)) rfl s.o Zab<|by simp).I ((Za (r:=.cons Zae .nil)<|s_a (Cs:=[O "Decoder",O "Unit"]) (f:=O "around") ((Zj (y:=.int 1) (b:=.ci 1) ((Zj (y:=.int 0) (b:=.ci 0) (d e) rfl).I (show _=qe.ok (fr (q,B_)) _ by rw[Op,ZfO,ZrR];rfl)) rfl).I (show _=qe.ok (.tup B_) _ by rw[fr,ZfO,Zzb];rfl)) rfl e.o cls2<|by simp).I<|(Za (r:=.nil)<|s_a (Cs:=[O "Decoder"]) (f:=O "pile") (i g) rfl g.o Zab<|by simp).I rfl);have j:xs2 (P.tbl<|n+1) ZX [J<|.ref c,M] h=_:=(Za<|(Zg<|Ze9 (g_a rfl s.o Zab rfl) s.b).I w).I rfl;show On C k c pk bk h0 q B_ pl dn [] u (Zf<|xs2 (P.tbl<|n+1) ZX [J<|.ref c,M] h);rw[j];exact .ok hu ⟨_,g.setO q B_ pl⟩
def ZlG(H:Dec P)(n)(s:Dq C k c pk bk h0 h dk p A pl dn bg u)(hu:u<=120):On C k c pk bk h0 (if (tp bg).isSome then p else q) A pl dn bg u (run P (n+2) (mnm (O "Decoder")<|O "jump") [.ref c,(Ce.Rw.jmp q).d] h):=by
 rw[Zz H.n_Decoder_jump H.Decoder_jump<|rfl];have t:tst (P.tbl<|n+1) Zbo (vt c (Ce.Rw.jmp q).d) h=.ok (!(tp bg).isSome) h:=by rw[Zbo,ZuX,Zb3<|ZB rfl s.o rfl rfl<|ZfL H n s];rfl
 show On C k c pk bk h0 _ A pl dn bg u (Zf<|xs2 (P.tbl<|n+1) Zba (vt c (Ce.Rw.jmp q).d) h);cases z:(tp bg).isSome with
 |true=>rw[z]at t;rw[show xs2 (P.tbl<|n+1) Zba (vt c (Ce.Rw.jmp q).d) h=.ok (.nx,vt c (Ce.Rw.jmp q).d) h from(Za<|(Zg t).I rfl).I rfl];exact .ok hu ⟨_,s⟩
 |false=>rw[z]at t;rw[show xs2 (P.tbl<|n+1) Zba (vt c (Ce.Rw.jmp q).d) h=_ from(Za<|(Zk t).I<|(Za<|s_a (U:=P.tbl<|n+1) (S:=vt c (Ce.Rw.jmp (q:Int)).d) (Cs:=[O "Decoder"]) (f:=O "at") (e:=.ix (.var 1)<|.ci 1) (d:=.int (q:Int)) rfl rfl s.o Zab<|by simp).I rfl).I rfl];exact .ok hu ⟨_,s.setO q A pl⟩
end
end Cr
namespace Cr
open PySem L2 IV
open Tm (Zaq grown)
open Ce (fr Zam Zak keep ZM ZaY psh wd)
section
variable {P:Pg}{h0 h:Hd}{C:List Ce.Rw}{k c pk bk dk p u:Nat}{A dn:List D}{pl:List (Nat×List D)}{bg:List Bg}
def ZN:xs2 U (.cons s .nil) S h=xs1 U s S h:=by
 rw[xs2];cases xs1 U s _ h with
 |bad=>rfl
 |exc c h=>rfl
 |ok p h=>obtain⟨f,S⟩:=p;cases f<;>rfl
def ZgM(H:Dec P)(n){r:Ce.Rw}(q:xs1 (P.tbl n) Zcm (vt c r.d) h=xs1 (P.tbl n) (.drp e) (vt c r.d) h)(z:ev (P.tbl n) e (vt c r.d) h=o)(on:On C k c pk bk h0 p' A' pl' aP bi u' o):On C k c pk bk h0 p' A' pl' aP bi u' (run P (n+1) (mnm (O "Decoder")<|O "do_row") [.ref c,r.d] h):=by
 rw[Zz H.n_Decoder_do_row H.Decoder_do_row rfl];have w:xs2 (P.tbl n) Zax (vt c r.d) h=xs2 (P.tbl n) (.cons (.drp e) .nil) (vt c r.d) h:=by rw[show Zax=.cons _ _ from rfl,ZN,ZN,q]
 show On C k c _ _ _ _ _ _ _ _ _ (Zf<|xs2 (P.tbl n) Zax (vt c _) h);rw[w];exact Zgt z on
def ZeJ(H:Dec P)(n):tst (P.tbl n) Zch (vt c r.d) h=.ok (Wu<|wd r="call" \/ wd r="hop") h:=by
 have a:ev (P.tbl n) (.glo<|O "CALLS") (vt c r.d) h=.ok (.tup [.str<|O "call",.str<|O "hop"]) h:=by show qe.ofO (P.G _) h=_;rw[H.gc];rfl
 obtain⟨ds,b⟩:=Ce.ZkZ r;refine Zb3 ((Zu (x:=.str<|Str.ofString<|wd r) ((Zj rfl rfl).I<|by simp_all) a).I ?_);simpa using @Zb1 _ h [Str.ofString _,Str.ofString _] (Str.ofString _)
def ZaU(n)(w):tst (P.tbl n) (.ex<|.cmp .Eq (.ix (.var 1)<|.ci 0)<|.cst<|.str<|Str.ofString w) (vt c r.d) h=.ok (Wu<|wd r=w) h:=by obtain⟨ds,a⟩:=Ce.ZkZ r;refine Zh (Zas (x:=Str.ofString<|wd r) ((Zj rfl rfl).I<|by simp_all) rfl) ?_;simp
def Zgq(H:Dec P)(n){r:Ce.Rw}(hr:r=.call\/r=.hop)(s:Dq C k c pk bk h0 h dk p A pl (dn++[a,b]) bg u)(hu:u<=120)(hd:dn.length<=1000):On C k c pk bk h0 p A pl (dn++[.tup [.str<|O "call",a,b]]) bg (u+1) (run P (n+4) (mnm (O "Decoder")<|O "do_row") [.ref c,r.d] h):=by exact ZgM H (n+3) ((Zk<|Zh (ZeJ H<|n+3)<|decide_eq_true (by rcases hr with rfl|rfl;exact .inl rfl;exact .inr rfl)).I ZN) (ZB rfl s.o rfl rfl rfl) (ZlH H n s hu (by simp) (by simp) hd)
def Zgp(H:Dec P)(n){w}(s:Dq C k c pk bk h0 h dk p A pl (dn++[a,b]) bg u)(hu:u<=120)(hd:dn.length<=1000):On C k c pk bk h0 p A pl (dn++[.tup [.str w.s,a,b]]) bg (u+1) (run P (n+4) (mnm (O "Decoder")<|O "do_row") [.ref c,(Ce.Rw.work w).d] h):=ZgM H (n+3) ((Zg<|Zh (ZeJ H<|n+3)<|rfl).I<|ZN.I<|(Zk<|Zh (ZaU (n+3) "work")<|rfl).I ZN) (ZB rfl s.o rfl (Zc rfl rfl) rfl) (ZlH H n s hu (by simp) (by simp) hd)
theorem Zkr (H:Dec P) (n) {q q':Nat} (s:Dq C k c pk bk h0 h dk p A pl dn bg u) (hu:u<=120) (hj:C[q]?=J (.jmp q')) (hb:bg.length<=1000):On C k c pk bk h0 p A pl dn (bg++[.iff q']) u (run P (n+4) (mnm (O "Decoder")<|O "do_row") [.ref c,(Ce.Rw.unl (q+1:Nat)).d] h):=by
 have e2:evs (P.tbl<|n+3) (.cons (.tupl<|.cons (.Ci_ "if")<|.cons (.ix (.ix (.att [O "Decoder"] (.var 0)<|O "code")<|.bin .Sub (.ix (.var 1)<|.ci 1)<|.ci 1)<|.ci 1) .nil) .nil) (vt c (Ce.Rw.unl (q+1:Nat)).d) h=.ok [(Bg.iff q').d] h:=Zc (Z6 (xs:=[.str<|O "if",.int (q':Int)]) (Zc rfl (Zc ((Zj ((Zj (g_a rfl s.o Zab rfl) (by
   refine(Zl (x:=.int ((q+1:Nat):Int)) rfl rfl).I ?_;rw [Zng];congr 2
   lia)).I (ZaY s.kc hj)) rfl).I rfl) rfl)) (by simp)) rfl
 have s2:=s.setB<|bg++[.iff q'];rw [List.map_append] at s2;exact ZgM H (n+3) ((Zg<|Zh (ZeJ H<|n+3)<|by simp [wd]).I<|ZN.I<|(Zg<|Zh (ZaU (n+3) "work")<|by simp [wd]).I<|ZN.I<|(Zk<|Zh (ZaU (n+3) "unless")<|by simp [wd]).I ZN) (ZbI (m:=.app) (g_a rfl s.o Zab rfl) s.b e2<|ZW s.b (by simp [YC];lia)) (.ok hu ⟨_,s2⟩)
def Zhz(H:Dec P)(n){q}(s:Dq C k c pk bk h0 h dk p A pl dn bg u)(hu:u<=120):On C k c pk bk h0 (if (tp bg).isSome then p else q) A pl dn bg u (run P (n+4) (mnm (O "Decoder")<|O "do_row") [.ref c,(Ce.Rw.jmp q).d] h):=ZgM H _ ((Zg<|Zh (ZeJ H _) rfl).I<|ZN.I<|(Zg<|Zh (ZaU _ _) rfl).I<|ZN.I<|(Zg<|Zh (ZaU _ _) rfl).I<|ZN.I<|(Zk<|Zh (ZaU _ _) rfl).I ZN) (ZB rfl s.o rfl (Zc rfl rfl) rfl) (ZlG H (n+1) s hu)
def ZiR(H:Dec P)(n){p'}(s:Dq C k c pk bk h0 h dk p A pl dn bg u)(on:On C k c pk bk h0 p' A' pl' aP bi u (run P (n+3) (mnm (O "Decoder")<|O "go_back") [.ref c] h)):On C k c pk bk h0 p' A' pl' aP bi u (run P (n+4) (mnm (O "Decoder")<|O "do_row") [.ref c,Ce.Rw.back.d] h):=ZgM H _ ((Zg<|Zh (ZeJ H _) rfl).I<|ZN.I<|(Zg<|Zh (ZaU _ _)<|rfl).I<|ZN.I<|(Zg<|Zh (ZaU (n+3) "unless")<|rfl).I<|ZN.I<|(Zg<|Zh (ZaU (n+3) "jump")<|rfl).I<|ZN.I<|(Zk<|Zh (ZaU (n+3) "back")<|rfl).I ZN) (ZB rfl s.o rfl ZO rfl) on
def Zks(H:Dec P)(n)(s:Dq C k c pk bk h0 h dk p A pl dn bg u)(hd:psh A r=J d)(on:On C k c pk bk h0 p' A' pl' aP bi u' (run P (n+3) (mnm (O "Decoder")<|O "put_on") [.ref c,d] h)):On C k c pk bk h0 p' A' pl' aP bi u' (run P (n+4) (mnm (O "Decoder")<|O "do_row") [.ref c,r.d] h):=by
 have hw:¬ (wd r="call" \/ wd r="hop")/\wd r ≠ "work" /\ wd r ≠ "unless" /\ wd r ≠ "jump" /\ wd r ≠ "back" := by cases r<;>first|(cases hd;done)|simp[wd]
 exact ZgM H (n+3) ((Zg<|Zh (ZeJ H<|n+3)<|decide_eq_false hw.1).I<|ZN.I<|(Zg<|Zh (ZaU (n+3) "work")<|decide_eq_false hw.2.1).I<|ZN.I<|(Zg<|Zh (ZaU (n+3) "unless")<|decide_eq_false hw.2.2.1).I<|ZN.I<|(Zg<|Zh (ZaU (n+3) "jump")<|decide_eq_false hw.2.2.2.1).I<|ZN.I<|(Zg<|Zh (ZaU (n+3) "back")<|decide_eq_false hw.2.2.2.2).I ZN) (ZB rfl s.o rfl (Zc (Zo (Ce.Zm1 H.c (n+2) r A hd)<|Zc rfl<|Zc (g_a rfl s.o cls2 rfl) rfl) rfl) rfl) on
theorem ZU (H:Dec P) (n) (s:Ds C k c pk bk h0 h p A pl dn bg u) (hb:tp bg≠J p) (hc:C[p]?=J r) (on:∀ {h'}{dk},Dq C k c pk bk h0 h' dk (p+1) A pl dn bg u->On C k c pk bk h0 p' A' pl' aP bi u' (run P (n+4) (mnm (O "Decoder")<|O "do_row") [.ref c,r.d] h')):On C k c pk bk h0 p' A' pl' aP bi u' (run P (n+5) (mnm (O "Decoder")<|O "do_next") [.ref c] h):=by
 obtain⟨dk,s⟩:=s;rw [Zz H.n_Decoder_do_next H.Decoder_do_next<|rfl];have s1:=s.setO (p+1) A pl;have w:xs2 (P.tbl<|n+4) ZY [J<|.ref c] h=xs2 (P.tbl<|n+4) (.cons Zbg .nil) [J<|.ref c] (h.set c<|ZgF k (p+1) A pl pk dk bk):=ZN.I ((Zg<|(Zb3<|ZB rfl s.o rfl ZO<|Zkt H (n+2) s).I<|by rw [decide_eq_false hb]).I (Za (by
   have so:=s.o;unfold ZgF at so;rw [Zbh,Zpe];simp [Zgz,Z8,so,Wh,Zgo,ZhD,ZgF])))
 show On C k c pk bk h0 p' A' pl' aP bi u' (Zf<|xs2 (P.tbl<|n+4) ZY [J<|.ref c] h);rw [w];exact Zgt (ZB rfl s1.o rfl (Zc ((λs'=>by
   refine(Zj (g_a rfl s'.o Zab rfl)<|(Zl (g_a (d:=.int ((p+1:Nat):Int)) rfl s'.o Zab rfl) rfl).I (show _=qe.ok (D.int (p:Int)) _ by rw [Zng];congr 2;lia)).I<|ZaY s'.kc hc) s1) rfl) rfl) (on s1)
def Znj(H:Dec P)(n)(s:Ds C k c pk bk h0 h p A pl (dn++[x,y,z]) (bg++[.iff p]) u)(hu:u<=120)(hd:dn.length<=1000):On C k c pk bk h0 p A pl (dn++[.tup [.str<|O "if",x,y,z]]) bg (u+1) (run P (n+5) (mnm (O "Decoder")<|O "do_next") [.ref c] h):=by obtain⟨dk,s⟩:=s;rw[Zz H.n_Decoder_do_next H.Decoder_do_next<|by rfl];have t:tst (P.tbl<|n+4) Zb0 [J<|.ref c] h=.ok Wr h:=(Zb3<|ZB rfl s.o rfl ZO<|Zkt H (n+2) s).I (by simp[tp]);have a:=s.b;rw[List.map_append]at a;have g:=ZK (U:=P.tbl<|n+4) (S:=[J<|.ref c])<|ZbI (m:=.pop) (g_a (Cs:=[O "Decoder"]) (f:=O "begun") rfl s.o Zab rfl) a ZO<|ZbG a;have e:=s.setB bg;have w:xs2 (P.tbl<|n+4) ZY [J<|.ref c] h=xs2 (P.tbl<|n+4) (.cons Zbf .nil) [J<|.ref c] (h.set bk<|.lst<|bg.map Bg.d):=ZN.I<|(Zk t).I<|Za g;show On C k c pk bk h0 p A pl (dn++[.tup [.str<|O "if",x,y,z]]) bg (u+1) (Zf<|xs2 (P.tbl<|n+4) ZY [J<|.ref c] h);rw[w];exact Zgt (ZB rfl e.o rfl (Zc rfl<|Zc rfl rfl) rfl) (ZlH H (n+1) (ps:=[x,y,z]) e hu (by simp) (by simp) hd)
end
end Cr
namespace Cr
open PySem L2 IV
open Rw (Th Ar ThN rd ra)
open Cs (Vr Er ZbJ)
open Ce (fr Zam Zak Cd psh)
open Tm (sub get)
section
variable {P:Pg}{h0 h:Hd}{C:List Ce.Rw}{k c pk bk n N:Nat}
structure Lpk(P:Pg)(n:Nat)(C:List Ce.Rw)(k c pk bk:Nat)(h0:Hd)(L:Bool)(W:Nat->Hd->qe (Fl×Ev)):Prop where
 ok:∀{f:Nat}{h h':Hd}{p:Nat}{A:List D}{pl:List (Nat×List D)}{dn:List D}{bg:List Bg}{u:Nat},Ds C k c pk bk h0 h p A pl dn bg u->(bg≠[]\/(L=Wr/\∃r,C[p]?=J r/\r≠.fin))->run P (n+5) (mnm (O "Decoder")<|O "do_next") [.ref c] h=.ok .non h'->W (f+1) h=W f h'
 ex:∀{f:Nat}{h h':Hd}{w:Str}{p:Nat}{A:List D}{pl:List (Nat×List D)}{dn:List D}{bg:List Bg}{u:Nat},Ds C k c pk bk h0 h p A pl dn bg u->(bg≠[]\/(L=Wr/\∃r,C[p]?=J r/\r≠.fin))->run P (n+5) (mnm (O "Decoder")<|O "do_next") [.ref c] h=.exc w h'->W (f+1) h=.exc w h'
inductive Pc(C:List Ce.Rw)(k c pk bk:Nat)(h0:Hd)(W:Nat->Hd->qe (Fl×Ev))(h:Hd)(p:Nat)(A:List D)(pl:List (Nat×List D))(dn:List D)(bg:List Bg)(u B_ X:Nat):Prop
 |ok {h':Hd}{m:Nat} (le:u<=120) (hm:m<=B_) (s:Ds C k c pk bk h0 h' p A pl dn bg u) (e:∀f,W (m+f) h=W f h'):Pc C k c pk bk h0 W h p A pl dn bg u B_ X
 |ex {g:Hd}{m:Nat} (lt:120<u) (hm:m<=X) (e:∀f,W (m+f) h=.exc (O "Wide") (h0++g)):Pc C k c pk bk h0 W h p A pl dn bg u B_ X
section
variable {W:Nat->Hd->qe (Fl×Ev)}{L:Bool}{p p1 p2 u u1 u2 B_ B1 B2 X X1 X2:Nat}{A A1 A2 dn gM jR:List D}{pl gy jh:List (Nat×List D)}{bg gN jU:List Bg}
def Pc.bind(a:Pc C k c pk bk h0 W h p1 A1 gy gM gN u1 B1 X1)(b:∀R,Ds C k c pk bk h0 R p1 A1 gy gM gN u1->u1<=120->Pc C k c pk bk h0 W R p2 A2 jh jR jU u2 B2 X2)(hu:u1<=u2)(hB:B1+B2<=B_)(hX:X1<=X)(hY:u1<=120->B1+X2<=X):Pc C k c pk bk h0 W h p2 A2 jh jR jU u2 B_ X:=by
 cases a with
 |ex lt n e=>exact .ex (by lia) (by lia) e
 |@ok p m le n s e=>
  cases b _ s le with
  |@ok q d i j o l=>exact .ok i (m:=m+d) (by lia) o λf=>by rw[Nat.add_assoc,e,l]
  |@ex g d lt j l=>exact .ex lt (m:=m+d) (by lia) λf=>by rw[Nat.add_assoc,e,l]
def Pc.turn(K:Lpk P n C k c pk bk h0 L W)(s:Ds C k c pk bk h0 h p A pl dn bg u)(hc:bg≠[]\/(L=Wr/\∃r,C[p]?=J r/\r≠.fin))(o:On C k c pk bk h0 p1 A1 gy gM gN u1 (run P (n+5) (mnm (O "Decoder")<|O "do_next") [.ref c] h)):Pc C k c pk bk h0 W h p1 A1 gy gM gN u1 1 1:=by
 generalize a:run P _ _ _ h=r at o;cases o with
 |ok le b=>exact .ok le (Oq _) b λf=>by rw[Nat.add_comm];exact K.ok s hc a
 |ex lt=>exact .ex lt (Oq _) λf=>by rw[Nat.add_comm];exact K.ex s hc a
theorem Pc.le(a:Pc C k c pk bk h0 W h p A pl dn bg u B_ X)(R:B_<=B')(h2:X<=X'):Pc C k c pk bk h0 W h p A pl dn bg u B' X':=by
 cases a with
 |ok le b s e=>exact .ok le (by lia) s e
 |ex lt b e=>exact .ex lt (by lia) e
end
inductive Eu(C:List Ce.Rw)(N:Nat):List D->List Str->List (Str×Option T)->Prop
 |nil:Eu C N [] [] []
 |nm {A:List D}{sc:List Str}{S:List (Str×Option T)} (x:Str) (r:Eu C N A sc S):Eu C N ((T.name x).d::A) (x::sc) ((x,M)::S)
 |val {A:List D}{sc:List Str}{S:List (Str×Option T)}{d:D}{v:Th} (x:Str) (h:Vr C d v) (hn:ThN N v) (r:Eu C N A sc S):Eu C N (d::A) (x::sc) ((x,J (rd v))::S)
theorem Eu.of:∀{ds}{sc}{ar},Er C ds sc ar->Rw.ArN N ar->Eu C N ds sc (ra ar)
 |_,_,_,.nil,_=>.nil
 |_,_,_,.cons x h r,z=>.val x h z.1 (Eu.of r z.2)
theorem Eu.get:∀{A}{sc}{S}{i},Eu C N A sc S->Tx.place x sc=J i->∃d,A[i]?=J d/\((d=(T.name x).d/\get S x=M)\/∃v,Vr C d v/\ThN N v/\get S x=J (rd v))
 |_,_,_,i,.nil,h=>by cases h
 |_,_,_,i,.nm y r,h=>by
  rw[Tx.place]at h;rw[Tm.get];split at h
  . rename_i e;cases h;subst e;exact⟨_,rfl,.inl ⟨rfl,if_pos rfl⟩⟩
  . rename_i ne;cases q:Tx.place x _ with
    |none=>rw[q]at h;cases h
    |some j=>rw[q]at h;cases h;obtain⟨d,e1,e2⟩:=r.get q;exact⟨d,by simpa using e1,by rw[if_neg ne];exact e2⟩
 |_,_,_,i,.val y hv hn r,h=>by
  rw[Tx.place]at h;rw[Tm.get];split at h
  . rename_i e;cases h;exact⟨_,rfl,.inr ⟨_,hv,hn,if_pos e⟩⟩
  . rename_i ne;cases q:Tx.place x _ with
    |none=>rw[q]at h;cases h
    |some j=>rw[q]at h;cases h;obtain⟨d,e1,e2⟩:=r.get q;exact⟨d,by simpa using e1,by rw[if_neg ne];exact e2⟩
def ZhS(h:get r x=get t x):get ((y,o)::r) x=get ((y,o)::t) x:=by rw[Tm.get,Tm.get,h]
theorem ZbA:∀(e) {r t:List _},(∀x,get r x=get t x)->sub r e=sub t e
 |.num _,_,_,_=>rfl
 |.name x,_,_,h=>by rw[sub,sub,h x]
 |.fn x e,r,t,h=>by rw[sub,sub,ZbA e λy=>ZhS<|h y]
 |.rcc f x e,r,t,h=>by rw[sub,sub,ZbA e λy=>ZhS<|ZhS<|h y]
 |.call f a,_,_,h=>by rw[sub,sub,ZbA f h,ZbA a h]
 |.iff p q s,_,_,h=>by rw[sub,sub,ZbA p h,ZbA q h,ZbA s h]
 |.op w f a,_,_,h=>by rw[sub,sub,ZbA f h,ZbA a h]
def ZeK:sub ((x,M)::(f,M)::r) e=sub ((f,M)::(x,M)::r) e:=ZbA e λy=>by rw[Tm.get,Tm.get,Tm.get,Tm.get];split<;>split<;>rfl
end
end Cr
namespace Cr
open PySem L2 IV
open Rw (Th Ar ThN rd ra)
open Cs (Vr Er ZbJ)
open Ce (fr Zam Zak Cd psh)
open Tm (sub get Zb Zi)
section
variable {P:Pg}{h0 h:Hd}{C:List Ce.Rw}{k c pk bk n N:Nat}{W:Nat->Hd->qe (Fl×Ev)}{L:Bool}
def Nb(bg:List Bg)(p p':Nat):Prop:=∀q,tp bg=J q->q<p\/p'<=q
def Nb.at(h:Nb bg p p')(R:p<=q)(h2:q<p'):tp bg≠J q:=λz=>by have:=h q z;lia
def Nb.sub(h:Nb bg p p')(R:p<=q)(h2:q'<=p'):Nb bg q q':=λj z=>by have:=h j z;lia
def Zpw:tp (bg++[.fn ns p A])=M:=by simp[tp]
def Zho:tp (bg++[.iff q])=J q:=by simp[tp]
def ZdH:bg++[x]≠[]:=by simp
section
variable (H:Dec P)(K:Lpk P n C k c pk bk h0 L W)(hN:2*N<=40000)
include H K
theorem Zrt(s:Ds C k c pk bk h0 h q (names ns++ds) pl dn (bg++[.fn ns p A]) (u+1))(hb:C[q']?=J .back)(hn:ns.length=1\/ns.length=2)(hu:u+1<=120)(hd:dn.length<=u)(et:t=fnT ns (sub S e))(zt:t.size=1+(sub S e).size)
 (ih:Pc C k c pk bk h0 W h q' (names ns++ds) pl (dn++[(sub S e).d]) (bg++[.fn ns p A]) (u+1+(sub S e).size) (4*(sub S e).size-3) (4*(121-(u+1)))):Pc C k c pk bk h0 W h p A pl (dn++[t.d]) bg (u+t.size) (4*t.size-4) (4*(121-u)-1):=by
 have sp:=Zi<|sub S e;refine ih.bind (u2:=u+t.size) (B2:=1) (X2:=1) (λR s1 aB=>?_) (by lia) (by lia) (by lia) (λz=>by lia);rw[show u+t.size=u+1+(sub S e).size by lia,et];exact Pc.turn K s1 (.inl ZdH) (ZU H n s1 (by rw[Zpw];nofun) hb λsq=>ZiR H n sq<|Zop H (n+1) sq hn aB<|by lia)
include hN
theorem dec:∀(m) (t) {sc:List Str}{l:Bool}{p p' u:Nat}{A dn:List D}{pl:List (Nat×List D)}{bg:List Bg}{S:List (Str×Option T)}{h:Hd},(sub S t).size<=m->Cd C sc l p t p'->Eu C N A sc S->A.length+2*t.size<=50000->Ds C k c pk bk h0 h p A pl dn bg u->u<=120->dn.length<=u->bg.length<=2*u->(L=Wr\/bg≠[])->Nb bg p p' ->
 Pc C k c pk bk h0 W h p' A pl (dn++[(sub S t).d]) bg (u+(sub S t).size) (4*(sub S t).size-3) (4*(121-u)):=by
 intro m;induction m with
 |zero=>intro t sc l p p' u A dn pl bg S h z;have:=Zi<|sub S t;lia
 |succ m ih=>
  intro t sc l p p' u A dn pl bg S h hz cd V hA s hu hd jD hL nb;have B:∀{q:Nat}{r:Ce.Rw},C[q]?=J r->r≠.fin->(bg≠[]\/(L=Wr/\∃r,C[q]?=J r/\r≠.fin)):=λb Y=>hL.elim (λz=>.inr ⟨z,_,b,Y⟩) .inl;have leaf:∀{r:Ce.Rw}{w:Str}{ds:List D}{d:D},C[p]?=J r->r≠.fin->p'=p+1->psh A r=J d->d=.tup (.str w::ds)->w≠O "clo" -> (sub S t).d=d->(sub S t).size=1->Pc C k c pk bk h0 W h p' A pl (dn++[(sub S t).d]) bg (u+(sub S t).size) (4*(sub S t).size-3) (4*(121-u)):=λ{r w ds d} b Y ep hp ed hw E Z=>by rw[E,Z,ep];refine(Pc.turn K s (B b Y)<|ZU H n s (nb.at (Oq _)<|ZbJ cd) b λsq=>Zks H n sq hp ?_).le (by lia) (by lia);exact Zm2 H (n+1) sq hu ed hw (by lia)
  have cK:∀{r:Ce.Rw}{ns aF:List Str}{q q':Nat}{ds:List D}{e:T}{ρ':List (Str×Option T)},C[p]?=J r->r≠.fin->p'=p+1->psh A r=J (Zam q ns ds)->(ns.length=1\/ns.length=2)->Cd C aF Wr q e q'->C[q']?=J .back->Eu C N (names ns++ds) aF ρ'->(names ns++ds).length+2*e.size<=50000->sub S t=fnT ns (sub ρ' e)->(sub S t).size=1+(sub ρ' e).size->Pc C k c pk bk h0 W h p' A pl (dn++[(sub S t).d]) bg (u+(sub S t).size) (4*(sub S t).size-3) (4*(121-u)):=λ{r ns aF q q' ds e ρ'} b Y ep hp hn F G eq hq E Z=>by
   subst ep;have sp:=Zi<|sub ρ' e;have hl:(names ns).length=ns.length:=by simp[names]
   rw[OA,hl]at hq;have a:Pc C k c pk bk h0 W h q (names ns++ds) pl dn (bg++[.fn ns (p+1) A]) (u+1) 1 1:=Pc.turn K s (B b Y) (ZU H n s (nb.at (Oq _)<|ZbJ cd) b λsq=>Zks H n sq hp<|Zm3 H (n+1) sq hu (by lia) (by lia)<|by lia);refine a.bind (B2:=4*(sub S t).size-4) (X2:=4*(121-u)-1) (λR s1 aB=>?_) (by lia) (by lia) (by lia) (λz=>by lia);exact Zrt H K s1 G hn aB hd E Z (ih e (by lia) F eq (by rw[OA,hl];exact hq) s1 aB (by lia) (by simp;lia) (.inr ZdH) (λj z=>by rw[Zpw]at z;cases z))
  have two:∀{f a:T}{p1 I:Nat}{w:Str},Cd C sc Ws p f p1->Cd C sc Ws p1 a I->p'=I+1->(sub S t).d=.tup [.str w,(sub S f).d,(sub S a).d]->(sub S t).size=1+((sub S f).size+(sub S a).size)->t.size=1+(f.size+a.size)->(∃r,C[I]?=J r/\r≠.fin/\∀{h':Hd}{dk u':Nat}{x y:D},Dq C k c pk bk h0 h' dk (I+1) A pl (dn++[x,y]) bg u'->u'<=120->On C k c pk bk h0 (I+1) A pl (dn++[.tup [.str w,x,y]]) bg (u'+1) (run P (n+4) (mnm (O "Decoder")<|O "do_row") [.ref c,r.d] h'))->Pc C k c pk bk h0 W h p' A pl (dn++[(sub S t).d]) bg (u+(sub S t).size) (4*(sub S t).size-3) (4*(121-u)):=λ{f a p1 I w} Q U ep E Z e3 ⟨r,b,Y,on⟩=>by subst ep;have l1:=ZbJ Q;have l2:=ZbJ U;have sf:=Zi<|sub S f;have sa:=Zi<|sub S a;refine(ih f (by lia) Q V (by lia) s hu hd jD hL<|nb.sub (Oq _)<|by lia).bind (B2:=4*(sub S a).size-2) (X2:=4*(121-(u+(sub S f).size))+1) (λR s1 aB=>?_) (by lia) (by lia) (by lia) (λz=>by lia);refine(ih a (by lia) U V (by lia) s1 aB (by simp;lia) (by lia) hL<|nb.sub (by lia)<|by lia).bind (B2:=1) (X2:=1) (λh2 s2 bS=>?_) (by lia) (by lia) (by lia) (λz=>by lia);rw[Oz]at s2;have o:=ZU H n s2 (nb.at (by lia)<|by lia) b λsq=>on sq bS;rw[E,Z,show u+(1+((sub S f).size+(sub S a).size))=u+(sub S f).size+(sub S a).size+1 by lia];exact Pc.turn K s2 (B b Y) o
  cases cd with
  |num b=>exact leaf b nofun rfl rfl rfl (by decide) rfl rfl
  |@name _ _ _ i x b hp=>
   obtain⟨d,E,Z⟩:=V.get hp;rcases Z with⟨rfl,eg⟩|⟨v,hv,hn,eg⟩
   . exact leaf b nofun rfl E rfl (by decide) (by rw[sub,eg];rfl) (by rw[sub,eg];rfl)
   . have es:sub S (.name x)=rd v:=by rw[sub,eg];rfl
     cases hv with
     |num=>exact leaf b nofun rfl E rfl (by decide) (by rw[es];rfl) (by rw[es];rfl)
     |@fn q q' y e ds aF ar F G r=>have z:=hn.1;unfold Rw.Bd at z;have g:=Zb<|.fn y e;simp only[T.parts,Op,Oy,OI,List.sum_nil]at g;refine cK (ns:=[y]) (ρ':=(y,M)::ra ar) b nofun rfl E (.inl rfl) F G (.nm y<|Eu.of r hn.2) (by simp[names,r.len];lia) (by rw[es,rd];rfl) ?_;rw[es,rd,sub,Zb];simp[T.parts]
     |@rcc q q' f y e ds aF ar F G r=>have z:=hn.1;unfold Rw.Bd at z;have g:=Zb<|.rcc f y e;simp only[T.parts,Op,Oy,OI,List.sum_nil]at g;refine cK (ns:=[y,f]) (ρ':=(y,M)::(f,M)::ra ar) b nofun rfl E (.inr rfl) F G (.nm y<|.nm f<|Eu.of r hn.2) (by simp[names,r.len];lia) (by rw[es,rd,sub,ZeK];rfl) ?_;rw[es,rd,sub,Zb,ZeK];simp[T.parts]
  |@fn _ _ _ q q' y e b F G=>have g:=Zb<|.fn y e;simp only[T.parts,Op,Oy,OI,List.sum_nil]at g;refine cK (ns:=[y]) (ρ':=(y,M)::S) b nofun rfl rfl (.inl rfl) F G (.nm y V) (by simp[names];lia) rfl ?_;rw[sub,Zb];simp[T.parts]
  |@rcc _ _ _ q q' f y e b F G=>have g:=Zb<|.rcc f y e;simp only[T.parts,Op,Oy,OI,List.sum_nil]at g;refine cK (ns:=[y,f]) (ρ':=(y,M)::(f,M)::S) b nofun rfl rfl (.inr rfl) F G (.nm y<|.nm f V) (by simp[names];lia) (by rw[sub,ZeK];rfl) ?_;rw[sub,Zb,ZeK];simp[T.parts]
  |@call _ _ _ p1 I f a Q U b=>have g:=Zb<|.call f a;have X:=Zb<|.call (sub S f)<|sub S a;simp[T.parts]at g X;exact two Q U rfl rfl X g ⟨_,b,by cases l<;>nofun,λsq fJ=>Zgq H n (by cases l;exact .inl rfl;exact .inr rfl) sq fJ<|by lia⟩
  |@op _ _ _ p1 I w f a Q U b=>have g:=Zb<|.op w f a;have X:=Zb<|.op w (sub S f)<|sub S a;simp[T.parts]at g X;exact two Q U rfl rfl X g ⟨_,b,nofun,λsq fJ=>Zgp H n sq fJ<|by lia⟩
  |@iff _ _ _ p1 I p3 x y z Q R U h2 c3=>have g:=Zb<|.iff x y z;have X:=Zb<|.iff (sub S x) (sub S y)<|sub S z;simp[T.parts]at g X;have l1:=ZbJ Q;have l2:=ZbJ U;have l3:=ZbJ c3;have sx:=Zi<|sub S x;have sy:=Zi<|sub S y;have sz:=Zi<|sub S z;rw[show(sub S<|.iff x y z)=.iff (sub S x) (sub S y) (sub S z)from rfl]at hz ⊢;refine(ih x (by lia) Q V (by lia) s hu hd jD hL<|nb.sub (Oq _)<|by lia).bind (B2:=4*((sub S y).size+(sub S z).size)-3) (X2:=4*(121-(u+(sub S x).size))+3) (λmQ s1 aB=>?_) (by lia) (by lia) (by lia) (λq=>by lia);refine(Pc.turn K s1 (B R nofun)<|ZU H n s1 (nb.at (by lia)<|by lia) R λsq=>Zkr H n sq aB h2<|by lia).bind (B2:=4*((sub S y).size+(sub S z).size)-4) (X2:=4*(121-(u+(sub S x).size))+2) (λmP s2 bS=>?_) (by lia) (by lia) (by lia) (λq=>by lia);refine(ih y (by lia) U V (by lia) s2 bS (by simp;lia) (by simp;lia) (.inr ZdH) (λj q=>by rw[Zho]at q;cases q;lia)).bind (B2:=4*(sub S z).size-1) (X2:=4*(121-(u+(sub S x).size+(sub S y).size))+2) (λf7 s3 iA=>?_) (by lia) (by lia) (by lia) (λq=>by lia);have oj:=ZU H n s3 (by rw[Zho];intro q;cases q;lia) h2 λsq=>Zhz H n sq iA;rw[Zho]at oj;refine(Pc.turn K s3 (.inl ZdH) oj).bind (B2:=4*(sub S z).size-2) (X2:=4*(121-(u+(sub S x).size+(sub S y).size))+1) (λmO s4 iz=>?_) (by lia) (by lia) (by lia) (λq=>by lia);refine(ih z (by lia) c3 V (by lia) s4 iz (by simp;lia) (by simp;lia) (.inr ZdH) (λj q=>by rw[Zho]at q;cases q;lia)).bind (B2:=1) (X2:=1) (λmM s5 iy=>?_) (by lia) (by lia) (by lia) (λq=>by lia);rw[Oz,Oz]at s5;have o:=Znj H n s5 iy (by lia);rw[X,show u+(1+((sub S x).size+((sub S y).size+(sub S z).size)))=u+(sub S x).size+(sub S y).size+(sub S z).size+1 by lia];exact Pc.turn K s5 (.inl ZdH) o
end
end
end Cr
namespace Cr
open PySem L2 IV
open Rw (Th Ar Wt ThN WtN rd ra fw rnd)
open Cs (Vr Er Cx Dx Hp Ls ZbJ)
open Ce (fr Zam Zak Cd psh)
open Tm (sub get Zb Zi)
section
variable {P:Pg}{h0 h:Hd}{C:List Ce.Rw}{k c pk bk n N:Nat}{W:Nat->Hd->qe (Fl×Ev)}
noncomputable def vs1:Wt->List Th
 |.fn V=>[V]
 |.left _ V=>[V]
 |_=>[]
def tv(ws:List Wt):List Th:=ws.reverse.flatMap vs1
def Zap(w)(ws):tv (w::ws)=tv ws++vs1 w:=by simp[tv]
def Zlt(a b):tv (a++b)=tv b++tv a:=by simp[tv]
inductive Sv(C:List Ce.Rw):List D->List Th->Prop
 |nil:Sv C [] []
 |cons {S_:List D}{vs:List Th}{d:D}{v:Th} (h:Vr C d v) (s:Sv C S_ vs):Sv C (d::S_) (v::vs)
def Sv.app(a:Sv C S_ vs)(b:Sv C S' vs'):Sv C (S_++S') (vs++vs'):=by
 induction a with
 |nil=>exact b
 |cons h s c=>exact .cons h c
def Cx.sv(x:Cx C b sc ar p S_ ws):Sv C S_ (tv ws):=by
 induction x with
 |fin _=>exact .nil
 |back _=>exact .nil
 |jmp _ _ _ a=>trivial
 |app _ _ v _ a=>rw[Zap];exact a.app (.cons v .nil)
 |arg _ _ _ _ a=>rw[Zap];simpa[vs1]using a
 |work _ v _ a=>rw[Zap];exact a.app (.cons v .nil)
 |right _ _ _ a=>rw[Zap];simpa[vs1]using a
 |cho _ _ _ _ _ _ a=>rw[Zap];simpa[vs1]using a
theorem Dx.sv(x:Dx C b pl S_ vs):Sv C S_ (tv vs):=by
 induction x with
 |nil=>exact .nil
 |cons r a d e x c=>rw[Zlt];exact c.app (Cx.sv a)
def dns(vs:List Th):List D:=vs.map λv=>(rd v).d
def szs(vs:List Th):Nat:=(vs.map λv=>(rd v).size).sum
def ZeW(a b):dns (a++b)=dns a++dns b:=by simp[dns]
def ZaV(a b):szs (a++b)=szs a+szs b:=by simp[szs]
def ZaH(a):(dns a).length<=szs a:=by
 induction a with
 |nil=>trivial
 |cons v a b=>have:=Zi<|rd v;simp[dns,szs]at *;lia
inductive Fo(C:List Ce.Rw)(k c pk bk:Nat)(h0:Hd)(W:Nat->Hd->qe (Fl×Ev))(h:Hd)(t:T)(B_:Nat):Prop
 |ok {h':Hd}{m p:Nat}{A:List D} (le:t.size<=120) (hm:m<=B_) (hc:C[p]?=J .fin) (s:Ds C k c pk bk h0 h' p A [] [t.d] [] t.size) (e:∀f,W (m+f) h=W f h'):Fo C k c pk bk h0 W h t B_
 |ex {g:Hd}{m:Nat} (lt:120<t.size) (hm:m<=B_) (e:∀f,W (m+f) h=.exc (O "Wide") (h0++g)):Fo C k c pk bk h0 W h t B_
def Fo.bind(a:Pc C k c pk bk h0 W h p A pl dn bg u B1 X1)(b:∀R,Ds C k c pk bk h0 R p A pl dn bg u->u<=120->Fo C k c pk bk h0 W R t B2)(hu:u<=t.size)(hX:X1<=B_)(hB:u<=120->B1+B2<=B_):Fo C k c pk bk h0 W h t B_:=by
 cases a with
 |ex lt n e=>exact .ex (by lia) (by lia) e
 |@ok r m le n s e=>
  cases b _ s le with
  |@ok v d w A2 i j o q l=>exact .ok i (m:=m+d) (by lia) o q λf=>by rw[Nat.add_assoc,e,l]
  |@ex g d lt j l=>exact .ex lt (m:=m+d) (by lia) λf=>by rw[Nat.add_assoc,e,l]
noncomputable def mx(G p l u:Nat):Nat:=4*(121-u)+8+3*(G-p)+l*(3*G+3)
def Zg5(e:C[p]?=J r):p<C.length:=(Ob.mp e).1
def Zaj(ws)(t):t.size+szs (tv ws)<=(rnd ws t).size:=by
 induction ws generalizing t with
 |nil=>simp[tv,szs,rnd]
 |cons w ws c=>
  have q:=c<|fw w t;rw[Zap,ZaV,show rnd _ t=rnd _ (fw w t)from rfl];have:t.size+szs (vs1 w)<=(fw w t).size:=by
   cases w with
   |arg A ar=>rw[fw,Zb<|.call _ _];simp[T.parts,vs1,szs];lia
   |fn V=>rw[fw,Zb<|.call _ _];simp[T.parts,vs1,szs];lia
   |iff a b ar=>rw[fw,Zb<|.iff _ _ _];simp[T.parts,vs1,szs];lia
   |right w F ar=>rw[fw,Zb<|.op _ _ _];simp[T.parts,vs1,szs];lia
   |left w V=>rw[fw,Zb<|.op _ _ _];simp[T.parts,vs1,szs];lia
  lia
section
variable (H:Dec P)(K:Lpk P n C k c pk bk h0 Wr W)(hN:2*N<=40000)
include H K hN
theorem ctx(kx:Cx C b sc ar p S_ ws):∀{E}{pl}{vs}{t:T}{h:Hd},Er C E sc ar->(∀w∈ws,WtN N w)->(∀{t:T}{h:Hd}{p':Nat}{A:List D},(b=Wr->C[p']?=J .back)->(b=Ws->C[p']?=J .fin)->Ds C k c pk bk h0 h p' A pl (dns (tv vs)++[t.d]) [] (szs (tv vs)+t.size)->szs (tv vs)+t.size<=120->Fo C k c pk bk h0 W h (rnd vs t) (mx C.length C.length pl.length<|szs (tv vs)+t.size)) ->
 Ds C k c pk bk h0 h p E pl (dns (tv vs)++dns (tv ws)++[t.d]) [] (szs (tv vs)+szs (tv ws)+t.size)->szs (tv vs)+szs (tv ws)+t.size<=120->Fo C k c pk bk h0 W h (rnd vs<|rnd ws t) (mx C.length p pl.length<|szs (tv vs)+szs (tv ws)+t.size):=by
 have Q:∀q,tp ([]:List Bg)≠J q:=nofun
 have mono:∀{h:Hd}{t:T}{B_ B':Nat},Fo C k c pk bk h0 W h t B_->B_<=B'->Fo C k c pk bk h0 W h t B':=λf hb=>by
  cases f with
  |ok le hm g s e=>exact .ok le (by lia) g s e
  |ex lt hm e=>exact .ex lt (by lia) e
 induction kx with
 |fin g=>intro E pl vs t h er m fin s i;rw[show dns (tv ([]:List Wt))=[]from rfl,Yt]at s;rw[show szs (tv ([]:List Wt))=0 from rfl,Nat.add_zero]at s i ⊢;show Fo C k c pk bk h0 W h (rnd vs t) _;exact mono (fin nofun (λ_=>g) s i) (by simp only[mx];lia)
 |back g=>intro E pl vs t h er m fin s i;rw[show dns (tv ([]:List Wt))=[]from rfl,Yt]at s;rw[show szs (tv ([]:List Wt))=0 from rfl,Nat.add_zero]at s i ⊢;show Fo C k c pk bk h0 W h (rnd vs t) _;exact mono (fin (λ_=>g) nofun s i) (by simp only[mx];lia)
 |@jmp b sc ar p q S_ ws g hq kx B=>intro E pl vs t h er m fin s i;have U:=Zg5 g;have o:=ZU H n s (Q _) g λsq=>Zhz H n sq i;exact Fo.bind (Pc.turn K s (.inr ⟨rfl,_,g,nofun⟩) o) (λR u F=>B er m fin u F) (by have:=Zaj vs<|rnd ws t;have:=Zaj ws t;lia) (by simp only[mx];lia) (λz=>by simp only[mx];lia)
 |@app b sc ar p S_ ws r d V g hr v kx B=>
  intro E pl vs t h er m fin s i;have U:=Zg5 g;have zc:=Zb<|.call (rd V) t;simp[T.parts]at zc;have L:dns (tv (.fn V::ws))=dns (tv ws)++[(rd V).d]:=by rw[Zap,ZeW];rfl
  have e2:szs (tv (.fn V::ws))=szs (tv ws)+(rd V).size:=by rw[Zap,ZaV];simp[vs1,szs]
  rw[L]at s;rw[e2]at s i ⊢;rw[<-Oz,Oz _ [(rd V).d]]at s;have l1:=ZaH<|tv vs;have l2:=ZaH<|tv ws;have X:r=.call\/r=.hop:=hr.elim (λz=>.inl z.1)<|λz=>.inr z.1;have o:=ZU H n s (Q _) g λsq=>Zgq H n X sq i (by simp;lia);have nf:r≠.fin:=by rcases X with rfl|rfl<;>nofun
  rw[show szs (tv vs)+(szs (tv ws)+(rd V).size)+t.size+1=szs (tv vs)+szs (tv ws)+(T.call (rd V) t).size by lia]at o;have zr:=Zaj ws<|.call (rd V) t;have Z:=Zaj vs<|rnd ws<|.call (rd V) t;exact Fo.bind (Pc.turn K s (.inr ⟨rfl,_,g,nf⟩) o) (λR u F=>B (t:=.call (rd V) t) er (λw P=>m w<|Oh _ P) fin u F) (by show _<=(rnd vs<|rnd ws<|.call (rd V) t).size;lia) (by simp only[mx];lia) (λz=>by simp only[mx];lia)
 |@work b sc ar p S_ ws w d V g v kx B=>
  intro E pl vs t h er m fin s i;have U:=Zg5 g;have zc:=Zb<|.op w (rd V) t;simp[T.parts]at zc;have L:dns (tv (.left w V::ws))=dns (tv ws)++[(rd V).d]:=by rw[Zap,ZeW];rfl
  have e2:szs (tv (.left w V::ws))=szs (tv ws)+(rd V).size:=by rw[Zap,ZaV];simp[vs1,szs]
  rw[L]at s;rw[e2]at s i ⊢;rw[<-Oz,Oz _ [(rd V).d]]at s;have l1:=ZaH<|tv vs;have l2:=ZaH<|tv ws;have o:=ZU H n s (Q _) g λsq=>Zgp H n sq i (by simp;lia);rw[show szs (tv vs)+(szs (tv ws)+(rd V).size)+t.size+1=szs (tv vs)+szs (tv ws)+(T.op w (rd V) t).size by lia]at o;have zr:=Zaj ws<|.op w (rd V) t;have Z:=Zaj vs<|rnd ws<|.op w (rd V) t;exact Fo.bind (Pc.turn K s (.inr ⟨rfl,_,g,nofun⟩) o) (λR u F=>B (t:=.op w (rd V) t) er (λw P=>m w<|Oh _ P) fin u F) (by show _<=(rnd vs<|rnd ws<|.op w (rd V) t).size;lia) (by simp only[mx];lia) (λz=>by simp only[mx];lia)
 |@arg b sc ar p p1 S_ ws r A cd g hr kx B=>
  intro E pl vs t h er m fin s i;have U:=Zg5 g;have lc:=ZbJ cd;have I:=m _ Oi;have bd:=I.1;unfold Rw.Bd at bd;have sa:=Zi<|sub (ra ar) A;have zc:=Zb<|.call t<|sub (ra ar) A;simp[T.parts]at zc;have L:tv (.arg A ar::ws)=tv ws:=by rw[Zap];simp[vs1]
  rw[L]at s i ⊢;have l1:=ZaH<|tv vs;have l2:=ZaH<|tv ws;have X:r=.call\/r=.hop:=hr.elim (λz=>.inl z.1)<|λz=>.inr z.1;have nf:r≠.fin:=by rcases X with rfl|rfl<;>nofun
  have zr:=Zaj ws<|.call t<|sub (ra ar) A;have Z:=Zaj vs<|rnd ws<|.call t<|sub (ra ar) A;have st:=Zi t;refine Fo.bind (dec H K hN _ A (Oq _) cd (Eu.of er I.2) (by rw[er.len];lia) s i (by simp;lia) (by simp) (.inl rfl) nofun) (B2:=1+mx C.length (p1+1) pl.length (szs (tv vs)+szs (tv ws)+(T.call t<|sub (ra ar) A).size)) (λR u F=>?_) (by show _<=(rnd vs<|rnd ws<|.call t<|sub (ra ar) A).size;lia) (by simp only[mx];lia) (λz=>by simp only[mx];lia);rw[Oz _ [t.d]]at u;have o:=ZU H n u (Q _) g λsq=>Zgq H n X sq F (by simp;lia);rw[show szs (tv vs)+szs (tv ws)+t.size+(sub (ra ar) A).size+1=szs (tv vs)+szs (tv ws)+(T.call t<|sub (ra ar) A).size by lia]at o;exact Fo.bind (Pc.turn K u (.inr ⟨rfl,_,g,nf⟩) o) (λh2 S Y=>B (t:=.call t<|sub (ra ar) A) er (λw P=>m w<|Oh _ P) fin S Y) (by show _<=(rnd vs<|rnd ws<|.call t<|sub (ra ar) A).size;lia) (by lia) (λz=>by lia)
 |@right b sc ar p p1 S_ ws w A cd g kx B=>
  intro E pl vs t h er m fin s i;have U:=Zg5 g;have lc:=ZbJ cd;have I:=m _ Oi;have bd:=I.1;unfold Rw.Bd at bd;have sa:=Zi<|sub (ra ar) A;have zc:=Zb<|.op w t<|sub (ra ar) A;simp[T.parts]at zc;have L:tv (.right w A ar::ws)=tv ws:=by rw[Zap];simp[vs1]
  rw[L]at s i ⊢;have l1:=ZaH<|tv vs;have l2:=ZaH<|tv ws;have zr:=Zaj ws<|.op w t<|sub (ra ar) A;have Z:=Zaj vs<|rnd ws<|.op w t<|sub (ra ar) A;have st:=Zi t;refine Fo.bind (dec H K hN _ A (Oq _) cd (Eu.of er I.2) (by rw[er.len];lia) s i (by simp;lia) (by simp) (.inl rfl) nofun) (B2:=1+mx C.length (p1+1) pl.length (szs (tv vs)+szs (tv ws)+(T.op w t<|sub (ra ar) A).size)) (λR u F=>?_) (by show _<=(rnd vs<|rnd ws<|.op w t<|sub (ra ar) A).size;lia) (by simp only[mx];lia) (λz=>by simp only[mx];lia);rw[Oz _ [t.d]]at u;have o:=ZU H n u (Q _) g λsq=>Zgp H n sq F (by simp;lia);rw[show szs (tv vs)+szs (tv ws)+t.size+(sub (ra ar) A).size+1=szs (tv vs)+szs (tv ws)+(T.op w t<|sub (ra ar) A).size by lia]at o;exact Fo.bind (Pc.turn K u (.inr ⟨rfl,_,g,nofun⟩) o) (λh2 S Y=>B (t:=.op w t<|sub (ra ar) A) er (λw P=>m w<|Oh _ P) fin S Y) (by show _<=(rnd vs<|rnd ws<|.op w t<|sub (ra ar) A).size;lia) (by lia) (λz=>by lia)
 |@cho b l sc ar p p2 p3 S_ ws x y g ct hj ce hl kx B=>
  intro E pl vs t h er m fin s i;have U:=Zg5 g;have lj:=Zg5 hj;have lc:=ZbJ ct;have le:=ZbJ ce;have I:=m _ Oi;have bx:=I.1.1;have l9:=I.1.2;unfold Rw.Bd at bx l9;have sx:=Zi<|sub (ra ar) x;have sy:=Zi<|sub (ra ar) y;have st:=Zi t;have zc:=Zb<|.iff t (sub (ra ar) x)<|sub (ra ar) y;simp[T.parts]at zc;have L:tv (.iff x y ar::ws)=tv ws:=by rw[Zap];simp[vs1]
  rw[L]at s i ⊢;have l1:=ZaH<|tv vs;have l2:=ZaH<|tv ws;generalize hq:T.iff t (sub (ra ar) x) (sub (ra ar) y)=q at *;have zr:=Zaj ws q;have Z:=Zaj vs<|rnd ws q;have zz:(rnd vs<|rnd (.iff x y ar::ws) t)=rnd vs (rnd ws q):=by rw[<-hq];rfl
  rw[zz];have jq:∀{a b':Nat},b'<=p3->Nb ([]++[.iff p3]) a b':=λhb j z=>by rw[Zho]at z;cases z;exact .inr hb
  generalize hM:mx C.length p3 pl.length (szs (tv vs)+szs (tv ws)+q.size)=qd at B;have lK:szs (tv vs)+szs (tv ws)+q.size<=121->4*(1+((sub (ra ar) x).size+(sub (ra ar) y).size))+qd+3<=mx C.length p pl.length (szs (tv vs)+szs (tv ws)+t.size):=λz=>by rw[<-hM];simp only[mx];lia
  have mL:4*(121-(szs (tv vs)+szs (tv ws)+t.size))+8+3<=mx C.length p pl.length (szs (tv vs)+szs (tv ws)+t.size):=by simp only[mx];lia
  generalize mx C.length p pl.length (szs (tv vs)+szs (tv ws)+t.size)=G at *;have a1:=Pc.turn K s (.inr ⟨rfl,_,g,nofun⟩) (ZU H n s (Q _) g λsq=>Zkr H n sq i hj<|by simp);have a2:Pc C k c pk bk h0 W h p3 E pl (dns (tv vs)++dns (tv ws)++[q.d]) [] (szs (tv vs)+szs (tv ws)+q.size) (4*(1+((sub (ra ar) x).size+(sub (ra ar) y).size))+3) (4*(121-(szs (tv vs)+szs (tv ws)+t.size))+8):=by
   refine a1.bind (B2:=4*(1+((sub (ra ar) x).size+(sub (ra ar) y).size))+2) (X2:=4*(121-(szs (tv vs)+szs (tv ws)+t.size))+7) (λR u F=>?_) (by lia) (by lia) (by lia) (λz=>by lia);refine(dec H K hN _ x (Oq _) ct (Eu.of er I.2) (by rw[er.len];lia) u F (by simp;lia) (by simp;lia) (.inl rfl)<|jq<|by lia).bind (B2:=4*(1+(sub (ra ar) y).size)+2) (X2:=4*(121-(szs (tv vs)+szs (tv ws)+t.size+(sub (ra ar) x).size))+7) (λh2 S Y=>?_) (by lia) (by lia) (by lia) (λz=>by lia);have oj:=ZU H n S (by rw[Zho];intro q;cases q;lia) hj λsq=>Zhz H n sq Y;rw[Zho]at oj;refine(Pc.turn K S (.inl ZdH) oj).bind (B2:=4*(1+(sub (ra ar) y).size)+1) (X2:=4*(121-(szs (tv vs)+szs (tv ws)+t.size+(sub (ra ar) x).size))+6) (λh3 s3 iA=>?_) (by lia) (by lia) (by lia) (λz=>by lia);refine(dec H K hN _ y (Oq _) ce (Eu.of er I.2) (by rw[er.len];lia) s3 iA (by simp;lia) (by simp;lia) (.inl rfl)<|jq<|Oq _).bind (B2:=1) (X2:=1) (λh4 s4 iz=>?_) (by lia) (by lia) (by lia) (λz=>by lia);rw[Oz _ [t.d],Oz _ _ [(sub (ra ar) y).d]]at s4;have o:=Znj H n s4 iz (by simp;lia);rw[show szs (tv vs)+szs (tv ws)+t.size+(sub (ra ar) x).size+(sub (ra ar) y).size+1=szs (tv vs)+szs (tv ws)+q.size by lia]at o;have ed:q.d=.tup [.str<|O "if",t.d,(sub (ra ar) x).d,(sub (ra ar) y).d]:=by rw[<-hq];rfl
   rw[ed];exact Pc.turn K s4 (.inl ZdH) o
  exact Fo.bind (B2:=qd) a2 (λh5 s5 iy=>by rw[<-hM];exact B (t:=q) er (λw P=>m w<|Oh _ P) fin s5 iy) (by lia) (by lia) (λz=>by have:=lK (by lia);lia)
end
end
end Cr
namespace Cr
open PySem L2 IV
open Rw (Th Ar Wt ThN WtN StN rd ra fw rnd read Sta)
open Cs (Vr Er Cx Dx Rc ZbJ)
open Ce (fr Zam Zak Cd psh Ma ZM keep ZaY)
open Tm (sub get Zb Zi Zaq grown)
section
variable {P:Pg}{h0 h:Hd}{C:List Ce.Rw}{k c pk bk n N p u:Nat}{A dn:List D}{pl:List (Nat×List D)}
def wW(P:Pg)(n c:Nat)(d:D)(f:Nat)(h:Hd):qe (Fl×Ev):=ZH (tst (P.tbl<|n+5) Zbj) (xs2 (P.tbl<|n+5) Zbi) f (vt c d) h
def wA(P:Pg)(n c:Nat)(f:Nat)(h:Hd):qe (Fl×Ev):=ZH (tst (P.tbl<|n+5) Zac) (xs2 (P.tbl<|n+5) Zce) f [J<|.ref c] h
def ZfD(hρ:S[0]?.join=J (.ref c))(s:Ds C k c pk bk h0 h p A pl dn bg u):tst U (.ex<|.att [O "Decoder"] (.var 0)<|O "begun") S h=.ok (!bg.isEmpty) h:=by obtain⟨dk,s⟩:=s;refine Zh (Ze9 (g_a hρ s.o Zab rfl) s.b) ?_;simp
def Zwb(h:bg≠[]):(!bg.isEmpty)=Wr:=by simp_all
def kW:Lpk P n C k c pk bk h0 Ws (wW P n c d):=by
 constructor
 . intro f h b p A g i j u s hc e;obtain⟨dk,a⟩:=id s;exact Zbz (Zh (ZfD rfl s)<|Zwb<|hc.elim id λz=>by cases z.1) ((Za<|ZK<|ZB rfl a.o rfl ZO e).I rfl)
 . intro f h b w p A g i j u s hc e;obtain⟨dk,a⟩:=id s;exact Zjm (Zh (ZfD rfl s)<|Zwb<|hc.elim id λz=>by cases z.1) (ZbU<|ZgY<|ZB rfl a.o rfl ZO e)
def Zuh(s:Ds C k c pk bk h0 h p A pl dn bg u)(hb:bg=[])(hc:C[p]?=J r):tst (P.tbl<|n+5) Zac [J<|.ref c] h=.ok (!Wu (Ce.wd r="end")) h:=by subst hb;have a:=ZfD (U:=P.tbl<|n+5) (S:=[J _]) rfl s;obtain⟨dk,s⟩:=s;refine ZlT a ?_;obtain⟨ds,d⟩:=Ce.ZkZ r;have b:ev (P.tbl<|n+5) (.ix (.ix (.att _ _<|O "code")<|.att _ _<|O "at")<|.ci 0) [J<|.ref c] h=.ok (.str<|Str.ofString<|Ce.wd r) h:=(Zj ((Zj (g_a rfl s.o Zab rfl)<|g_a rfl s.o Zab rfl).I<|ZaY s.kc hc) rfl).I (by simp_all);refine Zb3<|(Zu b rfl).I ?_;simp
def kA:Lpk P n C k c pk bk h0 Wr (wA P n c):=by
 have tt:∀{h}{p}{A}{pl}{dn}{bg}{u},Ds C k c pk bk h0 h p A pl dn _ u->(bg≠[]\/(Wr=Wr/\∃r,C[p]?=J r/\r≠.fin))->tst (P.tbl<|n+5) Zac [J<|.ref c] h=.ok Wr h:=λ{h p A pl dn bg u} s hc=>by
  by_cases hb:bg=[]
  . obtain⟨_,r,e,nf⟩:=hc.elim (λz=>absurd hb z) id;refine Zh (Zuh s hb e) ?_;cases r<;>first|trivial|simp
  . exact ZsV (Zh (ZfD rfl s)<|Zwb hb)
 constructor
 . intro f h h' p A pl dn bg u s hc e;obtain⟨dk,s'⟩:=id s;exact Zbz (tt s hc) ((Za<|ZK<|ZB rfl s'.o rfl ZO e).I rfl)
 . intro f h h' w p A pl dn bg u s hc e;obtain⟨dk,s'⟩:=id s;exact Zjm (tt s hc) (ZbU<|ZgY<|ZB rfl s'.o rfl ZO e)
def Zsp(H:Dec P)(hN:2*N<=40000)(hv:Vr C d v)(hn:ThN N v)(s:Ds C k c pk bk h0 h p A pl dn [] u)(hu:u<=120)(hd:dn.length<=u):On C k c pk bk h0 p A pl (dn++[(rd v).d]) [] (u+(rd v).size) (run P (n+6) (mnm (O "Decoder")<|O "put_whole") [.ref c,d] h):=by
 have hL:1000000<=P.L:=H.c.big;obtain⟨dk,s⟩:=s;rw[Zz H.n_Decoder_put_whole H.Decoder_put_whole<|by rfl];have b:∀{R B:Hd}{m:Nat},m<=900000->(∀f,wW P n c d (m+f) R=wW P n c d f B)->Ds C k c pk bk h0 B p A pl (dn++[(rd v).d]) [] (u+(rd v).size)->u+(rd v).size<=120->On C k c pk bk h0 p A pl (dn++[(rd v).d]) [] (u+(rd v).size) (Zf<|xs2 (P.tbl<|n+5) (.cons Zv .nil) (vt c d) R):=λ{R B m} V e E le=>by
  obtain⟨f,G⟩:∃f,P.L=m+(f+1):=⟨P.L-m-1,by lia⟩
  have q:xs1 (P.tbl<|n+5) Zv (vt c d) R=.ok (.nx,vt c d) B:=by show wW P n c d P.L R=_;rw[G,e];exact Zdj (ZfD rfl E)
  rw[Za q];exact .ok le E
 have W:∀{p' i:Nat}{A' I:List D}{bi:List Bg},On C k c pk bk h0 p' A' pl I bi i (run P (n+5) (mnm (O "Decoder")<|O "put_on") [.ref c,d] h)->(120<i->120<u+(rd v).size)->(∀R,Ds C k c pk bk h0 R p' A' pl I bi i->i<=120->On C k c pk bk h0 p A pl (dn++[(rd v).d]) [] (u+(rd v).size) (Zf<|xs2 (P.tbl<|n+5) (.cons Zv .nil) (vt c d) R))->On C k c pk bk h0 p A pl (dn++[(rd v).d]) [] (u+(rd v).size) (Zf<|xs2 (P.tbl<|n+5) (.cons ZE<|.cons Zv .nil) (vt c d) h):=λ{p' i A' I bi} o Z hk=>by
  generalize X:run P (n+5) (mnm (O "Decoder")<|O "put_on") [.ref c,d] h=r at o;cases o with
  |@ok R le a=>have x:xs1 (P.tbl<|n+5) ZE (vt c d) h=.ok (.nx,vt c d) R:=ZK<|ZB rfl s.o rfl (Zc rfl rfl) X;rw[Za x];exact hk _ a le
  |@ex g lt=>have x:xs1 (P.tbl<|n+5) ZE (vt c d) h=.exc (O "Wide") (h0++g):=ZgY<|ZB rfl s.o rfl (Zc rfl rfl) X;rw[ZbU x];exact .ex (Z lt)
 have fn:∀{q l:Nat}{ns K:List Str}{ds:List D}{e:T}{S:List (Str×Option T)},d=Zam q ns ds->(ns.length=1\/ns.length=2)->Cd C K Wr q e l->C[l]?=J .back->Eu C N (names ns++ds) K S->(names ns++ds).length+2*e.size<=50000->rd v=fnT ns (sub S e)->(rd v).size=1+(sub S e).size->On C k c pk bk h0 p A pl (dn++[(rd v).d]) [] (u+(rd v).size) (Zf<|xs2 (P.tbl<|n+5) (.cons ZE<|.cons Zv .nil) (vt c d) h):=λ{q l ns K ds e S} ed hl t w eu Y e1 e2=>by
  have fN:(names ns).length=ns.length:=by simp[names]
  have eO:=Y;rw[OA,fN]at eO;refine W (by rw[ed];exact Zm3 H (n+3) s hu (by lia) (by lia)<|by simp) (by lia) λR a F=>?_;have sp:=Zi<|sub S e;have pc:=Zrt H (kW (P:=P) (n:=n) (d:=d)) a w hl F hd e1 e2 (dec H kW hN _ e (Oq _) t eu Y a F (by lia) (by simp;lia) (.inr ZdH) (λj z=>by rw[Zpw]at z;cases z));cases pc with
  |ok le V E Q=>exact b (by lia) Q E le
  |@ex g m lt V Q=>
   obtain⟨f,G⟩:∃f,P.L=m+f:=⟨P.L-m,by lia⟩
   have q:xs1 (P.tbl<|n+5) Zv (vt c d) R=.exc (O "Wide") (h0++g):=by show wW P n c d P.L R=_;rw[G,Q]
   rw[ZbU q];exact .ex lt
 cases hv with
 |@num z=>exact W (Zm2 H (n+3) s hu rfl (by decide)<|by lia) (λz=>z) λR a F=>b (m:=0) (by lia) (λf=>by rw[Nat.zero_add]) a F
 |@fn q l y e ds aF ar t w r=>have z:=hn.1;unfold Rw.Bd at z;have U:=Zb<|.fn y e;simp only[T.parts,Op,Oy,OI,List.sum_nil]at U;refine fn (ns:=[y]) (S:=(y,M)::ra ar) rfl (.inl rfl) t w (.nm y<|Eu.of r hn.2) (by simp[names,r.len];lia) (by rw[rd];rfl) ?_;rw[rd,sub,Zb];simp[T.parts]
 |@rcc q l f y e ds aF ar t w r=>have z:=hn.1;unfold Rw.Bd at z;have U:=Zb<|.rcc f y e;simp only[T.parts,Op,Oy,OI,List.sum_nil]at U;refine fn (ns:=[y,f]) (S:=(y,M)::(f,M)::ra ar) rfl (.inr rfl) t w (.nm y<|.nm f<|Eu.of r hn.2) (by simp[names,r.len];lia) (by rw[rd,sub,ZeK];rfl) ?_;rw[rd,sub,Zb,ZeK];simp[T.parts]
inductive Of'(C:List Ce.Rw)(k c pk bk:Nat)(h0:Hd)(p:Nat)(A:List D)(pl:List (Nat×List D))(dn:List D)(u:Nat)(S:Option D->Ev):qe (Fl×Ev)->Prop
 |ok {h':Hd}{o:Option D} (le:u<=120) (s:Ds C k c pk bk h0 h' p A pl dn [] u):Of' C k c pk bk h0 p A pl dn u S (.ok (.nx,S o) h')
 |ex {g:Hd} (lt:120<u):Of' C k c pk bk h0 p A pl dn u S (.exc (O "Wide") (h0++g))
noncomputable def vc(kk:Nat)(sd:D)(c:Nat)(o:Option D):Ev:=[J<|.ref kk,J sd,J<|.ref c,o]
theorem Znq(H:Dec P)(hN:2*N<=40000):∀{S_}{vs},Sv C S_ vs->(∀v∈vs,ThN N v)->∀{h}{dn}{u}{o},Ds C k c pk bk h0 h p A pl dn [] u->u<=120->dn.length<=u->Of' C k c pk bk h0 p A pl (dn++dns vs) (u+szs vs) (vc kk sd c) (ZG [] (.nm 3) (xs2 (P.tbl<|n+6) Zah) S_ (vc kk sd c o) h)
 |_,_,.nil,_,h,dn,u,o,s,a,b=>by rw[show dns []=[]from rfl,Yt];exact .ok a s
 |_,_,.cons (d:=d) (v:=v) (vs:=vs) j sv,e,h,dn,u,o,s,a,b=>by
  have q:=Zsp H (n:=n) hN j (e v Oi) s a b;have sp:=Zi<|rd v;obtain⟨dk,f⟩:=id s;rw[show dns (v::vs)=[(rd v).d]++dns vs from rfl,show szs (v::vs)=(rd v).size+szs vs by simp[szs],<-Oz,<-Nat.add_assoc];generalize i:run P (n+6) (mnm (O "Decoder")<|O "put_whole") [.ref c,d] h=r at q;cases q with
  |@ok R le l=>have x:xs2 (P.tbl<|n+6) Zah (vc kk sd c<|J d) h=.ok (.nx,vc kk sd c<|J d) R:=(Za<|ZK<|ZB rfl f.o rfl (Zc rfl rfl) i).I rfl;rw[ZhU rfl x];exact Znq H hN sv (λw m=>e w<|Oh _ m) l le (by simp;lia)
  |@ex g lt=>have x:xs2 (P.tbl<|n+6) Zah (vc kk sd c<|J d) h=.exc (O "Wide") (h0++g):=ZbU<|ZgY<|ZB rfl f.o rfl (Zc rfl rfl) i;rw[ZyO rfl x];exact .ex (by lia)
end
section
variable {P:Pg}{h0 h:Hd}{C:List Ce.Rw}{k c pk bk n N p:Nat}{A:List D}
def Zjs(a b)(t):rnd (a++b) t=rnd b (rnd a t):=List.foldl_append
def Zx6(H:Dec P)(hN:2*N<=40000)(x:Dx C b pl S0 vs):(∀w∈vs,WtN N w)->∀{t}{h}{p'}{A},(b=Wr->C[p']?=J .back)->(b=Ws->C[p']?=J .fin)->Ds C k c pk bk h0 h p' A pl (dns (tv vs)++[t.d]) [] (szs (tv vs)+t.size)->szs (tv vs)+t.size<=120->Fo C k c pk bk h0 (wA P n c) h (rnd vs t) (mx C.length C.length pl.length<|szs (tv vs)+t.size):=by
 induction x with
 |nil=>intro e t h p' A hb g s a;have j:szs (tv [])+t.size=t.size:=Nat.zero_add _;rw[j]at s a;exact .ok a (Yy _) (g rfl) s (λf=>by simp)
 |@cons b v ar p E S_ S0 i vs pl r l y B x m=>
  intro e t h p' A hb g s a;rw[Zlt,ZeW,ZaV]at s;rw[Zlt,ZaV]at a ⊢;rw[Zjs];have D:=Zg5<|hb rfl;have o:=ZU H n s nofun (hb rfl) λsq=>ZiR H n sq<|Zoo H (n+1) sq a;have zr:=Zaj i t;have F:=Zaj vs<|rnd i t;refine Fo.bind (Pc.turn kA s (.inr ⟨rfl,_,hb rfl,nofun⟩) o) (λR q u=>ctx H kA hN l r (λw z=>e w<|Ys _ z) (m<|λw z=>e w<|Ov _ z) q u) (by lia) (by simp[mx];lia)<|λz=>?_;simp[mx,Os,Nat.add_mul,Nat.one_mul]
  lia
inductive Rd(h0:Hd)(t:T):qe D->Prop
 |ok {g:Hd} (le:t.size<=120):Rd h0 t (.ok t.d (h0++g))
 |ex {g:Hd} (lt:120<t.size):Rd h0 t (.exc (O "Wide") (h0++g))
theorem Zvv (H:Dec P) (s0:Dq C k c pk bk h0 h dk p0 A0 pl dn0 bg u0) (f:Fo C k c pk bk h0 (wA P n c) h t B_) (hB:B_<=900000):Rd h0 t (run P (n+6) (mnm (O "Decoder")<|O "do_all") [.ref c] h):=by
 have r:=H.c.big;rw [Zz H.n_Decoder_do_all H.Decoder_do_all rfl];show Rd _ t (Zf<|xs2 (P.tbl _) (.cons _ _) [J _] h);cases f with
 |@ok a m p A le i j s e =>
   obtain⟨f,b⟩:∃ f,P.L=m+(f+1):=⟨P.L-m-1,by lia⟩
   have q:xs1 (P.tbl<|n+5) Zco [J<|.ref c] h=.ok (.nx,[J<|.ref c]) a:=by
     show wA P n c P.L h=_;rw [b,e];exact Zdj (Zh (Zuh s rfl j) rfl)
   obtain⟨dk,s⟩:=s;have l:xs1 (P.tbl<|n+5) Zcn [J<|.ref c] a=.ok (.rt t.d,[J<|.ref c]) a:=Zn ((Zj (g_a rfl s.o Zab rfl) rfl).I (by rw [ZC s.d];rfl));rw [Za q,Zd l];obtain⟨g,rfl⟩:=s.gone;exact .ok le
 |@ex g m lt i e =>
   obtain⟨f,b⟩:∃ f,P.L=m+f:=⟨P.L-m,by lia⟩
   rw [ZbU (by
     show wA P n c P.L h=_;rw [b,e])]
   exact .ex lt
def Zon(H:Dec P)(n){k}{s:Ma}(h:Hd):Zg7 (run P<|n+2) (O "Decoder") [.ref k,s.d] h=.ok (.ref h.length) (h++[ZgF k s.p s.E s.pl (h.length+1) (h.length+2)<|h.length+3,Zaq (.int 120) 0,.lst [],.lst []]):=by
 have a:∀fs:List (Str×D),ev (P.tbl<|n+1) (.mk (O "Pen")<|.cons (.glo<|O "WIDEST") .nil) [J<|.ref h.length,J<|.ref k,J s.d] (h++[.ins (O "Decoder") fs])=.ok (.ref<|h.length+1) (h++[.ins (O "Decoder") fs,Zaq (.int 120) 0]):=λfs=>by rw[Ce.Zwd (Zc (show ev (P.tbl<|n+1) (.glo<|O "WIDEST") _ _=.ok (.int 120) _ by rw[Zia,show(P.tbl<|n+1).G _=_ from H.p.gw];rfl) rfl)<|Tm.Zus H.p.t n (.int 120) _];simp
 have st:∀{Cs f e d g g' fs} (C:O "Decoder" ∈ Cs) (q:ev (P.tbl<|n+1) e [J<|.ref h.length,J<|.ref k,J s.d] (h++.ins (O "Decoder") fs::g)=.ok d (h++.ins (O "Decoder") fs::g')) (z:fs.length<1000),xs1 (P.tbl<|n+1) (.seta Cs (.var 0) f e) [J<|.ref h.length,J<|.ref k,J s.d] (h++.ins (O "Decoder") fs::g)=.ok (.nx,[J<|.ref h.length,J<|.ref k,J s.d]) (h++.ins (O "Decoder") (ZhD f d fs)::g'):=λC q z=>(s_a q rfl Zay C z).I (by rw[ZhC]);have w:xs2 (P.tbl<|n+1) Zcp [J<|.ref h.length,J<|.ref k,J s.d] (h++[.ins (O "Decoder") []])=.ok (.nx,[J<|.ref h.length,J<|.ref k,J s.d]) (h++[ZgF k s.p s.E s.pl (h.length+1) (h.length+2)<|h.length+3,Zaq (.int 120) 0,.lst [],.lst []]):=(Za<|st Zab rfl<|by decide).I ((Za<|st (fs:=[_]) Zab rfl<|show 1<1000 by decide).I<|(Za<|st (fs:=[_,_]) cls2 rfl<|show 2<1000 by decide).I<|(Za<|st (fs:=[_,_,_]) Zab rfl<|show 3<1000 by decide).I<|(Za<|st (fs:=[_,_,_,_]) Zab (a _)<|show 4<1000 by decide).I<|(Za<|st (fs:=[_,_,_,_,_]) (d:=.ref<|h.length+2) (g':=[Zaq (.int 120) 0,.lst []]) Zab ((Zfq (xs:=[]) rfl<|by decide).I<|by simp)<|show 5<1000 by decide).I<|(Za<|st (fs:=[_,_,_,_,_,_]) (d:=.ref<|h.length+3) (g':=[Zaq (.int 120) 0,.lst [],.lst []]) Zab ((Zfq (xs:=[]) rfl<|by decide).I<|by simp)<|show 6<1000 by decide).I rfl)
 unfold Zg7;rw[Zz H.n_Decoder___init__ H.Decoder___init__ rfl];exact congrArg (λr=>(Zf r).bind _) w
def Zr4(hw:∀w∈ws,WtN N w):∀v∈tv ws,ThN N v:=λv b=>by
 obtain⟨w,R,a⟩:=List.mem_flatMap.mp b;have q:=hw w<|List.mem_reverse.mp R;cases w with
 |fn V=>rw[vs1,Ox]at a;subst a;exact q
 |left w V=>rw[vs1,Ox]at a;subst a;exact q
 |_=>trivial
def rest(H:Dec P)(hN:2*N<=40000)(r:Rc C s Z)(on:StN N Z):∃vs:List _,Sv C s.S_ vs/\(∀v∈vs,ThN N v)/\szs vs<=(read Z).size/\∀{h},Ds C k c pk bk h0 h s.p s.E s.pl (dns vs) [] (szs vs)->szs vs<=120->Fo C k c pk bk h0 (wA P n c) h (read Z) (484+mx C.length 0 s.pl.length 0):=by
 cases r with
 |@go b l u ar p G E S_ S0 ws vs pl t r cd I a x=>have g:∀w∈ws,WtN N w:=λw z=>on.2.2 w<|Ys _ z;have i:∀w∈vs,WtN N w:=λw z=>on.2.2 w<|Ov _ z;have bd:=on.1;unfold Rw.Bd at bd;have zr:=Zaj ws<|sub (ra ar) t;have y:=Zaj vs<|rnd ws<|sub (ra ar) t;have e:read (.go t ar<|ws++vs)=rnd vs (rnd ws<|sub (ra ar) t):=Zjs _ _ _;refine⟨tv vs++tv ws,(Dx.sv x).app<|Cx.sv a,λv m=>(OD.mp m).elim (Zr4 i v)<|Zr4 g v,by rw[e,ZaV];lia,λ{h} s j=>?_⟩;rw[ZeW]at s;rw[ZaV]at s j;rw[e];have sp:=Zi<|sub (ra ar) t;have l1:=ZaH<|tv vs;have l2:=ZaH<|tv ws;exact Fo.bind (dec H kA hN _ t (Oq _) cd (Eu.of r on.2.1) (by rw[r.len];lia) s j (by simp;lia) (by simp) (.inl rfl) nofun) (λR A B=>ctx H kA hN a r g (Zx6 H hN x i) A B) (by lia) (by simp only[mx];lia) (λz=>by simp only[mx];lia)
 |@back b u ar p E S_ S0 ws vs pl d V r v a x=>
  have g:∀w∈ws,WtN N w:=λw z=>on.2 w<|Ys _ z;have i:∀w∈vs,WtN N w:=λw z=>on.2 w<|Ov _ z;have zr:=Zaj ws<|rd V;have y:=Zaj vs<|rnd ws<|rd V;have e:read (.back V<|ws++vs)=rnd vs (rnd ws<|rd V):=Zjs _ _ _;have o:szs [V]=(rd V).size:=by simp[szs]
  refine⟨tv vs++tv ws++[V],((Dx.sv x).app<|Cx.sv a).app<|.cons v .nil,λw m=>?_,by rw[e,ZaV,ZaV,o];lia,λ{h} s j=>?_⟩
  . rcases OD.mp m with q|q
    . exact(OD.mp q).elim (Zr4 i w) (Zr4 g w)
    . rw[Ox]at q;subst q;exact on.1
  . rw[ZeW,ZeW]at s;rw[ZaV,ZaV,o]at s j;rw[e];have f:=ctx H kA hN a r g (Zx6 (n:=n) H hN x i) (t:=rd V) s j;cases f with
    |ok le D F s e=>exact .ok le (by simp only[mx]at *;lia) F s e
    |ex lt D e=>exact .ex lt (by simp only[mx]at *;lia) e
theorem Zvo (H:Dec P) (n) (hN:2*N<=40000) {s} (r:Rc C s Z) (on:StN N Z) (hG:C.length<=500) (hp:s.pl.length<=500) {k} (h) (hk:h[k]?=J (.lst<|C.map Ce.Rw.d)):Rd h (read Z) (run P (n+7) (O "code_read") [.ref k,s.d] h):=by
 obtain⟨z,sv,u,A,fo⟩:=rest (k:=k) (c:=h.length) (pk:=h.length+1) (bk:=h.length+3) (h0:=h) (n:=n) H hN r on;rw [Ze H.code_read<|by rfl];have v:Dq C k h.length (h.length+1) (h.length+3) h (h++[ZgF k s.p s.E s.pl (h.length+1) (h.length+2)<|h.length+3,Zaq (.int 120) 0,.lst [],.lst []]) (h.length+2) s.p s.E s.pl [] [] 0 :=
   ⟨by simp,by simp,by simp,by simp,keep hk,by lia,ZM hk,by lia,by lia,by lia,by lia,by simp,λi x=>by rw [Oe x]⟩
 have y:xs1 (P.tbl<|n+6) ZcX [J<|.ref k,J s.d,M,M] h=.ok (.nx,vc k s.d h.length M) _:=Zm (by rw [ZyV,Zc rfl<|Zc rfl rfl];exact Zon H (n+4) h);have l:=Znq (n:=n) H hN (kk:=k) (sd:=s.d) sv u (o:=M) ⟨_,v⟩ (by decide) (by simp);rw [OB,Nat.zero_add] at l;generalize (h++[ZgF k s.p s.E s.pl (h.length+1) (h.length+2)<|h.length+3,Zaq (.int 120) 0,.lst [],.lst []])=R at *;show Rd h (read Z) (Zf<|xs2 (P.tbl<|n+6) (.cons ZcX<|.cons ZcW<|.cons ZbE .nil) [J<|.ref k,J s.d,M,M] h);rw [Za y];have m:xs1 (P.tbl<|n+6) ZcW (vc k s.d h.length M) R=ZG [] (.nm 3) (xs2 (P.tbl<|n+6) Zah) s.S_ (vc k s.d h.length M) R:=Zec (w:=⟨[],s.S_⟩)<|ZjS rfl;generalize ZG [] (.nm 3) (xs2 (P.tbl<|n+6) Zah) s.S_ (vc k s.d h.length M) R=B at *;cases l with
 |@ok b o le a =>
   rw [Za m];have f:=fo a le;obtain⟨dk,a⟩:=a;have q:=Zvv H a f (by
     have:s.pl.length*(3*C.length+3)<=500*1503:=Nat.mul_le_mul hp (by lia);simp only [mx]
     lia)
   generalize t:run P (n+6) (mnm (O "Decoder")<|O "do_all") [.ref h.length] b=D at q;cases q with
   |@ok g e =>
     have j:xs1 (P.tbl<|n+6) ZbE (vc k s.d h.length o) b=.ok (.rt (read Z).d,vc k s.d h.length o) (h++g):=Zn<|ZB rfl a.o rfl ZO t;rw [Zd j];exact .ok e
   |@ex g lt =>
     have j:xs1 (P.tbl<|n+6) ZbE (vc k s.d h.length o) b=.exc (O "Wide") (h++g):=ZxL<|ZB rfl a.o rfl ZO t;rw [ZbU j];exact .ex lt
 |@ex g lt =>
   rw [ZbU m];exact .ex (by lia)
end
end Cr
namespace K57L
open PySem L2 IV
def Zj6:Sx:=.s 2 (.cst .non)
def Zj5:Sx:=.trs 2 (O "code_read") (.w V0 V1) (O "Wide")
def Zj4:Sx:=.ret V2
def Zmw:Sxs:=.u Zj6 Zj5 Zj4
def Zh3:Fd:=fd_ 2 ["_law_code","_law_state","_law_told"] Zmw
def Zdv:Tx:=.ex (.cst<|.bl Wr)
def Zel:Tx:=.nq (.f "_law_read"<|.w V0 V1) V2
def Zge:Sx:=.ret (.lstl<|.w (.cst .non) V1)
def ZhK:Sxs:=.o Zge
def Zis:Sx:=.iff Zel ZhK .n
def Zeu:Sx:=.s 3 (.f "code_step"<|.w V0 V1)
def Zek:Tx:=.nq (.ix V3 K0) (.Ci_ "quiet")
def Zgd:Sx:=.ret (.lstl<|.w (.ix V3 K0)<|.ix (.bin .Add V3<|.tupl<|.o V1) K1)
def ZhJ:Sxs:=.o Zgd
def Zir:Sx:=.iff Zek ZhJ .n
def Ziq:Sx:=.s 1 (.ix V3 K1)
def Zdq:Sxs:=.z Zis Zeu Zir Ziq
def Zgf:Sx:=.whl Zdv Zdq
def Zmy:Sxs:=.o Zgf
def Zh5:Fd:=fd_ 3 ["_law_code","_law_state","_law_told","_law_answer"] Zmy
def ZnW:Sx:=.s 1 (.f "_law_program"<|.w V0 K1)
def Zka:Sx:=.set (.two 2 3) (.f "row_of"<|.w V1<|.bin .Mod (.f "_law_mixed"<|.w (.f "_law_cell_at"<|.w V0 K0) K1)<|.ci 61)
def ZnV:Sx:=.s 4 (.f "code_of"<|.o V1)
def ZnU:Sx:=.s 5 (.f "code_begun"<|.o V4)
def ZjM:Ix:=.enu V2
def Zja:Tx:=.nq (.f "_law_read"<|.w V4 V5) V7
def Zj9:Sx:=.ret (.cst<|.bl Ws)
def ZoM:Sxs:=.o Zj9
def Zo6:Sx:=.iff Zja ZoM .n
def Zjg:Sx:=.unl 8 5 (.f "_law_gone"<|.u V4 V5 V7)
def Zi9:Tx:=.ands (.c (.x .Lt (.bin .Add V6 K1)<|.blt .len<|.o V2)<|.one<|.nq V8<|.Ci_ "loud")
def Zj8:Sx:=.ret (.cst<|.bl Ws)
def ZoL:Sxs:=.o Zj8
def Zo5:Sx:=.iff Zi9 ZoL .n
def Zhi:Sxs:=.u Zo6 Zjg Zo5
def ZnT:Sx:=.forr (.two 6 7) ZjM Zhi
def ZnN:Tx:=.ors (.c (.q V3<|.Ci_ "value")<|.one<|.q V3<|.Ci_ "stuck")
def ZmA:Sx:=.ret (.cmp .Eq V8 V3)
def Ztp:Sxs:=.o ZmA
def Zj7:Sx:=.iff ZnN Ztp .n
def ZtW:Tx:=.q V3 (.Ci_ "wide")
def Zmz:Sx:=.ret (.ands<|.w (.cmp .Eq V8<|.Ci_ "loud")<|.cmp .Is (.f "_law_read"<|.w V4 V5)<|.cst .non)
def Zto:Sxs:=.o Zmz
def ZnS:Sx:=.iff ZtW Zto .n
def ZnR:Sx:=.ret (.ands<|.w (.cmp .Eq V3<|.Ci_ "open")<|.cmp .Eq V8<|.Ci_ "loud")
def Zy8:Sxs:=.c ZnW (.c Zka<|.c ZnV<|.y ZnU ZnT Zj7 ZnS ZnR)
def ZkS:Fd:=fd_ 1 ["_law_script","_law_told","_law_terms","_law_word","_law_code","_law_state","_law_k","_law_term","_law_kind"] Zy8
structure Lw(P:Pg):Prop where
 m:Gn.Mkr P
 d:Cr.Dec P
 t:Tm.Trw P
 cell:P.tb.lookup (O "_law_cell_at")=J Gn.ZbC
 law_read:P.tb.lookup (O "_law_read")=J Zh3
 law_gone:P.tb.lookup (O "_law_gone")=J Zh5
 law:P.tb.lookup (O "law")=J ZkS
end K57L
namespace Cs
open PySem IV Gn
open Rw (Th Ar Wt Sta Zhf ArOk ZiK Ziw StN WtN ThN read rnd rd ra wts)
open Ce (Cd Ma Zam Zak ent psh Stp)
section
variable {P:Pg}{C:List Ce.Rw}{N:Nat}{h:Hd}
structure Ci(C:List Ce.Rw)(N:Nat)(s:Ma)(Z:Sta):Prop where
 r:Rc C s Z
 ok:Ziw Z
 on:StN N Z
def Qs.keeps(q:Qs Z σ'):Ziw Z->StN N Z->Ziw σ'/\StN N σ'/\read σ'=read Z:=by
 induction q with
 |refl=>exact λa b=>⟨a,b,rfl⟩
 |@step s g t e _ c=>intro a b;have i:=Rw.Zkk a b<|.inl e;have m:=Rw.ZfG s a;rw[e]at m;obtain⟨R,d,f⟩:=c i.1 i.2;exact⟨R,d,f.I m⟩
inductive Sp(C:List Ce.Rw)(N:Nat)(t:T):Ce.Ans->Prop
 |quiet {s:Ma}{Z:Sta} (d:Ci C N s Z) (e:read Z=t):Sp C N t (.quiet s)
 |loud {s:Ma}{Z:Sta} (d:Ci C N s Z) (nv:Tm.isV t=Ws) (e:Tm.next t=J (read Z)):Sp C N t (.loud s)
 |value (v:Tm.isV t=Wr):Sp C N t .value
 |stuck (nv:Tm.isV t=Ws) (e:Tm.next t=M):Sp C N t .stuck
def Sc.sp(d:Ci C N s Z)(h:Sc C s Z a):Sp C N (read Z) a:=by
 cases h with
 |quiet e r q=>obtain⟨R,f,b⟩:=q.keeps d.ok d.on;exact .quiet ⟨r,R,f⟩ b
 |@loud o σ0 σ1 σ' e k c r q=>obtain⟨R,f,b⟩:=k.keeps d.ok d.on;have i:=Rw.Zkk R f<|.inr c;have m:=Rw.ZfG _ R;rw[c]at m;obtain⟨l,n,p⟩:=q.keeps i.1 i.2;have g:=m.1.1;have j:=m.2;rw[b]at g j;exact .loud ⟨r,l,n⟩ g (by simp_all)
 |@value σ0 e q c=>obtain⟨R,f,b⟩:=q.keeps d.ok d.on;have m:=Rw.ZfG _ R;rw[c]at m;obtain⟨V,_,m⟩:=m;rw[b]at m;exact .value m
 |@stuck σ0 e q c=>obtain⟨R,f,b⟩:=q.keeps d.ok d.on;have m:=Rw.ZfG σ0 R;rw[c]at m;have g:=m.1.1;have j:=m.2;rw[b]at g j;exact .stuck g j
def ZpT(H:Ce.Cod P)(n)(w:Wd){A B_}(va:Vr C A W)(vb:Vr C B_ V)(hn:¬ ∃a b,A=Zak a/\B_=Zak b):run P (n+1) (O "worked") [.str w.s,A,B_] h=.ok .non h:=by
 rw[Ze H.worked rfl];cases va with
 |num=>
  cases vb with
  |num=>exact absurd ⟨_,_,rfl,rfl⟩ hn
  |fn _ _ _=>rfl
  |rcc _ _ _=>rfl
 |fn _ _ _=>rfl
 |rcc _ _ _=>rfl
def ZxQ(H:Ce.Cod P)(n){k}(hk:h[k]?=J (.lst<|C.map Ce.Rw.d))(q:Stk C s):run P (n+4) (O "code_step") [.ref k,s.d] h=.ok Ce.Ans.stuck.d h:=by
 cases q with
 |@app p r z V S_ E pl hc hr hp=>
  have e:=Ce.Zoq H n (h:=h) z S_ V;rcases hr with rfl|rfl
  . exact Ce.Z7 H n _ hk hc rfl (.inl ⟨rfl,rfl⟩) (Ce.ZiQ H n ⟨p,S_++[Zak z,V],E,pl⟩ hp<|e _)
  . exact Ce.Z7 H n _ hk hc rfl (.inl ⟨rfl,rfl⟩) (Ce.Zkq H n ⟨p,S_++[Zak z,V],E,pl⟩<|e _)
 |unl hc=>exact Ce.Z7 H n _ hk hc rfl (.inl ⟨rfl,rfl⟩) (Ce.Zkp H n _ _<|Ce.ZlJ H n _ _ _ _ _ _ _ _)
 |@work p w A B_ S_ E pl V W hc va vb hn=>refine Ce.Z7 H n _ hk hc rfl (.inl ⟨rfl,rfl⟩)<|Ce.ZiP H n _ _ ?_;rw[Ze H.reckoned<|rfl];simp[Ma.d,Ce.Zfp,Ce.Zin,Zx,Ce.ZrQ ,Ce.ZnZ ,ZpT H n w va vb hn]
def Zvd(q:Stp C s ld s'):s'.pl.length<=s.pl.length+1:=by
 cases q with
 |back a=>exact OE (Wg _) (Wg _)
 |call a b c=>simp
 |_=>simp
theorem Sc.run(sc:Sc C s Z a)(H:Ce.Cod P)(n)(hk:h[k]?=J (.lst<|C.map Ce.Rw.d)):run P (n+4) (O "code_step") [.ref k,s.d] h=.ok a.d h:=by
 cases sc with
 |quiet e r q=>exact Ce.Zuq H n hk e
 |loud e q0 hs r q=>exact Ce.Zuq H n hk e
 |value e q hs=>exact Ce.ZlE H _ s hk e
 |stuck e q hs=>exact ZxQ H n hk e
def Ci.begin(t)(c:Gn.Cl [] t):Ci (Ce.code t) t.size ⟨0,[],[],[]⟩ (.go t .nil []):=by
 obtain⟨cd,a⟩:=Ce.ZtU t c;refine⟨Rc.go (b:=false) .nil cd ⟨nofun,nofun⟩ (.fin a) .nil,⟨c,trivial,nofun⟩,?_,trivial,nofun⟩;unfold Rw.Bd;rw[Ar.len]
 lia
def Zpg(Z):(wts Z).length+1<=(read Z).size:=by
 cases Z with
 |go E ar a=>have:=Tm.Zi<|Tm.sub (ra ar) E;exact OE (by simp[wts];lia) (Rw.Zhv _ _)
 |back V a=>have:=Tm.Zi<|rd V;exact OE (by simp[wts];lia) (Rw.Zhv _ _)
end
end Cs
namespace Cs
open PySem IV Gn
open Rw (Sta StN read wts)
open Ce (Cd Ma Stp)
section
variable {C:List Ce.Rw}
noncomputable def left(C:List Ce.Rw)(s:Ma):Nat:=(C.length-s.p)+(s.pl.map λf=>C.length-f.1).sum
def ZrE(c:Cd C sc l p t p'):C[p]?≠J (.jmp q):=by
 induction c with
 |num a=>simp_all
 |name a _=>simp_all
 |fn a _ _ _=>simp_all
 |rcc a _ _ _=>simp_all
 |call _ _ _ b _=>trivial
 |op _ _ _ b _=>trivial
 |iff _ _ _ _ _ b _ _=>trivial
def ZwV(k:Cx C b sc ar p S_ ws)(hc:C[p]?=J (.jmp (q:Nat))):p<q:=by
 cases k with
 |fin h=>simp_all
 |back h=>simp_all
 |jmp h hq _=>rw[h]at hc;lia
 |app h hr _ _=>rw[h]at hc;rcases hr with⟨rfl,_⟩|⟨rfl,_⟩<;>cases hc
 |arg c _ _ _=>exact absurd hc (ZrE c)
 |work h _ _=>simp_all
 |right c _ _=>exact absurd hc (ZrE c)
 |cho h _ _ _ _ _=>simp_all
def Zvk(r:Rc C s Z)(hc:C[s.p]?=J (.jmp (q:Nat))):s.p<q:=by
 cases r with
 |go r c hl k x=>exact absurd hc (ZrE c)
 |back r v k x=>exact ZwV k hc
def Ztn(r:Rc C s Z)(e:Stp C s Ws s'):left C s'<left C s:=by
 have lt:∀{p}{r},C[p]?=J r->p<C.length:=λe=>(Ob.mp e).1;cases e with
 |push a _ _=>have:=lt a;simp[left];lia
 |jmp a=>have:=lt a;have:=Zvk r a;simp[left]at *;lia
 |back a=>have:=lt a;simp[left];lia
theorem ZpE:∀(pl:List (Nat×List D)),(pl.map λf=>C.length-f.1).sum<=pl.length*C.length
 |[]=>Yy _
 |f::pl=>by have:=ZpE pl;rw[Op,OI,Os];lia
end
end Cs
namespace K57L
open PySem L2 IV
open Rw (Sta StN read wts)
open Cs (Ci Sp Sc left)
open Ce (Ma fr ZM keep ZaY)
section
variable {P:Pg}{h:Hd}{C:List Ce.Rw}{N k:Nat}
def ZpP(n)(t:T)(hz:t.size<=120)(h):IV.ZdW n t.d t.d h=.ok (.bl !n) h:=ZoF (_root_.Rw.T.pure_d t) (by rw[_root_.Rw.T.dp_d];have:=Tm.ZcS t;lia)
def Zyq(p:ev U a S h=.ok (.str x) R)(q:ev U b S R=.ok (.str y) h2):tst U (.ex<|.cmp .NotEq a b) S h=.ok (!Wu (x=y)) h2:=Zb3 ((Zu p q).I rfl)
def rdo(t:T):D:=if t.size<=120 then t.d else .non
def Zjw(H:Lw P)(n)(hN:N<=5000)(d:Ci C N s Z)(hG:C.length<=500)(hp:s.pl.length<=500)(hk:h[k]?=J (.lst<|C.map Ce.Rw.d)):∃g,run P (n+8) (O "_law_read") [.ref k,s.d] h=.ok (rdo<|read Z) (h++g):=by
 have q:=Cr.Zvo H.d n (by lia) d.r d.on hG hp h hk;rw[Ze H.law_read rfl];generalize hr:run P _ _ _ h=r at q;cases q with
 |@ok g le=>exact⟨g,by rw[rdo,if_pos le];exact congrArg Zf<|(Za rfl).I<|(Za<|Zu2 rfl hr).I<|Zd rfl⟩
 |@ex g lt=>exact⟨g,by rw[rdo,if_neg<|by lia];exact congrArg Zf<|(Za rfl).I<|(Za<|Zxq rfl hr).I<|Zd rfl⟩
noncomputable def wrd:Ce.Ans->Str
 |.quiet _=>O "quiet"
 |.loud _=>O "loud"
 |.value=>O "value"
 |.stuck=>O "stuck"
noncomputable def nxd(s:D):Ce.Ans->D
 |.quiet a=>a.d
 |.loud a=>a.d
 |_=>s
def Zq7(p:ev U e S h=.ok (Ce.Ans.d a) h):ev U (.ix e<|.ci 0) S h=.ok (.str<|wrd a) h:=by refine(Zj p rfl).I ?_;cases a<;>rfl
def Zwv(p:ev U e S h=.ok (Ce.Ans.d a) h)(q:ev U f S h=.ok s h):ev U (.ix (.bin .Add e<|.tupl<|.cons f .nil)<|.ci 1) S h=.ok (nxd s a) h:=by cases a<;>exact(Zj ((Zl p<|Z6 (Zc (es:=.nil) q rfl)<|show 1<=1000 by simp).I rfl) rfl).I rfl
noncomputable def vg(k:Nat)(s t:D)(o:Option D):Ev:=[J<|.ref k,J s,J t,o]
inductive Gon(C:List Ce.Rw)(N:Nat)(t:T)(sd:D):Ce.Ans->Prop
 |loud {s:Ma}{Z:Sta} (d:Ci C N s Z) (hp:s.pl.length<=500) (nv:Tm.isV t=Ws) (e:Tm.next t=J (read Z)):Gon C N t sd (.loud s)
 |value (v:Tm.isV t=Wr):Gon C N t sd .value
 |stuck (nv:Tm.isV t=Ws) (e:Tm.next t=M):Gon C N t sd .stuck
def Znb(d:Ci C N s Z)(hz:(read Z).size<=120):s.pl.length<=120:=by
 have:=d.r.lens;have:=Cs.Zpg Z
 lia
theorem Zq0(H:Lw P)(n)(hN:N<=5000)(hG:C.length<=500)(t)(hz:t.size<=120):∀(m) (s) (Z) (o) (h),left C s<m->Ci C N s Z->read Z=t->h[k]?=J (.lst<|C.map Ce.Rw.d) ->
 ∃a sd S g,ZH (tst (P.tbl<|n+9) Zdv) (xs2 (P.tbl<|n+9) Zdq) m (vg k s.d t.d o) h=.ok (.rt<|.ref (h++g).length,S) (h++g++[.lst [.str<|wrd a,nxd sd a]])/\Gon C N t sd a
 |0,_,_,_,_,hl,_,_,_=>by cases hl
 |m+1,s,Z,o,h,hl,d,rt,hk=>by
  have hw:=Cs.Zpg Z;obtain⟨g,e1⟩:=Zjw H (n+1) hN d hG (by have:=Znb d<|rt▸hz;lia) hk;rw[rt,rdo,if_pos hz]at e1;obtain⟨a,sc⟩:=Cs.sim d.r (by rw[rt]at hw;lia) hN d.ok d.on;have e2:=sc.run H.d.c (n+5) (h:=h++g)<|keep hk;have sp:=sc.sp d;rw[rt]at sp;have t1:tst (P.tbl<|n+9) Zel (vg k s.d t.d o) h=.ok Ws (h++g):=Zb3 (b:=false)<|(Zu (Zo e1 rfl) rfl).trans<|ZpP Wr _ hz _;have x2:xs1 (P.tbl<|n+9) Zeu (vg k s.d t.d o) (h++g)=.ok (.nx,vg k s.d t.d<|J a.d) (h++g):=Zm<|Zo e2 rfl;have t3:tst (P.tbl<|n+9) Zek (vg k s.d t.d<|J a.d) (h++g)=.ok (!Wu (wrd a=O "quiet")) (h++g):=Zyq (Zq7 rfl) rfl;have fin:wrd a≠O "quiet" -> Gon C N t s.d a->∃a sd S g,ZH (tst (P.tbl<|n+9) Zdv) (xs2 (P.tbl<|n+9) Zdq) (m+1) (vg k s.d t.d o) h=.ok (.rt<|.ref (h++g).length,S) (h++g++[.lst [.str<|wrd a,nxd sd a]])/\Gon C N t sd a:=λnq gn=>⟨a,s.d,_,g,Zhl (R:=h) rfl<|(Za<|(Zg t1).trans rfl).trans<|(Za x2).trans<|Zd<|(Zk<|Zh t3 (by rw[decide_eq_false nq];rfl)).trans<|Zd<|Zn<|Zfq (Zc (Zq7 rfl)<|Zc (Zwv rfl rfl) rfl)<|show 2<=1000 by decide,gn⟩
  cases sp with
  |@quiet s' σ' d' er=>
   have ll:left C s'<left C s:=by
    cases sc with
    |quiet e r q=>exact Cs.Ztn d.r e
   obtain⟨a,sd,S,g2,e,gn⟩:=Zq0 H n hN hG t hz m s' σ' (J (Ce.Ans.quiet s').d) (h++g) (by lia) d' er<|keep hk;refine⟨a,sd,S,g++g2,(Zbz (R:=h) rfl<|(Za<|(Zg t1).trans rfl).trans<|(Za x2).trans<|(Za<|(Zg<|Zh t3 rfl).trans rfl).trans rfl).trans ?_,gn⟩;rw[<-Oz];exact e
  |@loud s' σ' d' nv er=>
   refine fin (show O "loud" ≠ O "quiet" by decide)<|.loud d' ?_ nv er;cases sc with
   |loud e q0 hs r q=>have:=Cs.Zvd e;have:=Znb d<|rt▸hz;lia
  |value v=>exact fin (by decide) (.value v)
  |stuck nv er=>exact fin (by decide) (.stuck nv er)
theorem Zvs (H:Lw P) (n) (hN:N<=5000) (hG:C.length<=500) (d:Ci C N s Z) (hz:(read Z).size<=120) (hk:h[k]?=J (.lst<|C.map Ce.Rw.d)):∃ a sd g,run P (n+10) (O "_law_gone") [.ref k,s.d,(read Z).d] h=.ok (.ref (h++g).length) (h++g++[.lst [.str<|wrd a,nxd sd a]])/\Gon C N (read Z) sd a:=by
 have hL:=H.d.c.big;obtain⟨a,sd,S,g,e,gn⟩:=Zq0 H n hN hG (read Z) hz P.L s Z M h (by
   have:=Cs.ZpE (C:=C) s.pl;have:=Nat.mul_le_mul (Znb d hz) hG;unfold left
   lia) d rfl hk
 refine⟨a,sd,g,?_,gn⟩;rw [Ze H.law_gone<|by rfl];exact congrArg Zf (Zd (r:=.nil)<|show xs1 (P.tbl<|n+9) Zgf (vg k s.d (read Z).d M) h=_ from e)
end
end K57L
namespace K57L
open PySem L2 IV
open Rw (Sta StN read wts)
open Cs (Ci Sp Sc left)
open Ce (Ma fr ZM keep ZaY)
open Tm (row isV next)
section
variable {P:Pg}{h:Hd}{C:List Ce.Rw}{N k:Nat}
inductive Rwc(t:T):Nat->List T×Str->Prop
 |value {m:Nat} (v:isV t=Wr):Rwc t m ([t],O "value")
 |stuck {m:Nat} (nv:isV t=Ws) (e:next t=M):Rwc t m ([t],O "stuck")
 |opn {u:T} (nv:isV t=Ws) (e:next t=J u):Rwc t 0 ([t],O "open")
 |wide {m:Nat}{u:T} (nv:isV t=Ws) (e:next t=J u) (hu:120<u.size):Rwc t (m+1) ([t],O "wide")
 |more {m:Nat}{u:T} (nv:isV t=Ws) (e:next t=J u) (hu:u.size<=120):Rwc t (m+1) (t::(row m u).1,(row m u).2)
def rwc(m)(t):Rwc t m (row m t):=by
 cases v:isV t with
 |true=>cases m<;>(rw[row];simp[v];exact .value v)
 |false=>
  cases e:next t with
  |none=>cases m<;>(rw[row];simp[v,e];exact .stuck v e)
  |some u=>
   cases m with
   |zero=>rw[row];simp[v,e];exact .opn v e
   |succ m=>
    by_cases hu:120<u.size
    . rw[row];simp only[v,e,if_pos hu];exact .wide v e hu
    . rw[row];simp only[v,e,if_neg hu];exact .more v e (by lia)
def Zvi(m)(t):(row m t).1≠[]:=by have q:=rwc m t;generalize row m t=a at q ⊢;cases q<;>nofun
noncomputable def its:Nat->List T->List D
 |_,[]=>[]
 |i,t::r=>.tup [.int (i:Int),t.d]::its (i+1) r
theorem Zq8:∀(ts) (j),(ts.map T.d).mapIdx (λk x=>D.tup [.int (k+j:Nat),x])=its j ts
 |[],_=>rfl
 |t::r,j=>by rw[Op,List.mapIdx_cons,its,<-Zq8 r _,Nat.zero_add];congr 2;funext k x;rw[show k+1+j=k+(j+1) by lia]
def Zq9(ts):Zej (ts.map T.d)=its 0 ts:=Zq8 _ 0
def ZtF(e:h[j]?=J (.lst L)):ZG [(j,L)] g body [] S h=.ok (.nx,S) h:=by rw[ZG,if_pos<|by simp[Wk.stays,e]]
def Zxl(q:ev U e S h=.ok (.ref j) R)(l:R[j]?=J (.lst [a,b])):xs1 U (.unl i i' e) S h=.ok (.nx,(S.set i<|J a).set i'<|J b) R:=by
 show qe.bind _ _=_;rw[q];show Zpq i _ _ _ _=_;have e:lstOf (.ref j) R=J [a,b]:=by simp[lstOf,l]
 unfold Zpq;rw[e]
def Zw5(C:List Ce.Rw)(N:Nat)(w:Str)(a:Ce.Ans):Prop:=(w=O "value" /\ a=.value)\/(w=O "stuck" /\ a=.stuck)\/∃s Z,a=.loud s/\Ci C N s Z/\s.pl.length<=500/\(w=O "open" \/ (w=O "wide" /\ 120<(read Z).size))
def vl(ro tp:D)(rk:Nat)(w:Str)(k:Nat)(sd:D)(o6 o7 o8:Option D):Ev:=[J ro,J tp,J<|.ref rk,J<|.str w,J<|.ref k,J sd,o6,o7,o8]
section
variable {ro tp:D}{w:Str}{rk:Nat}{ts:List T}
def Zpz(H:Lw P)(n)(hN:N<=5000)(hG:C.length<=500)(d:Ci C N s Z)(hz:(read Z).size<=120)(hk:h[k]?=J (.lst<|C.map Ce.Rw.d))(hr:h[rk]?=J (.lst<|ts.map T.d))(i)(o8):∃a sd g,Gon C N (read Z) sd a /\
 ∀c,(Wu (i+1<ts.length)&&!Wu (wrd a=O "loud"))=c->xs2 (P.tbl<|n+10) Zhi (vl ro tp rk w k s.d (J<|.int i) (J (read Z).d) o8) h=if c then .ok (.rt<|.bl Ws,vl ro tp rk w k (nxd sd a) (J<|.int (i:Int)) (J (read Z).d)<|J<|.str<|wrd a) (h++g)else .ok (.nx,vl ro tp rk w k (nxd sd a) (J<|.int (i:Int)) (J (read Z).d)<|J<|.str<|wrd a) (h++g):=by
 obtain⟨g1,e1⟩:=Zjw H (n+2) hN d hG (by have:=Znb d hz;lia) hk;rw[rdo,if_pos hz]at e1;obtain⟨a,sd,g2,e2,gn⟩:=Zvs H n hN hG d hz<|keep (g:=g1) hk;refine⟨a,sd,g1++g2++[.lst [.str<|wrd a,nxd sd a]],gn,λc hc=>?_⟩;rw[<-Oz,<-Oz];have t1:tst (P.tbl<|n+10) Zja (vl ro tp rk w k s.d (J<|.int (i:Int)) (J (read Z).d) o8) h=.ok Ws (h++g1):=Zb3 (b:=false)<|(Zu (Zo e1 rfl) rfl).trans<|ZpP Wr _ hz _;have x2:xs1 (P.tbl<|n+10) Zjg (vl ro tp rk w k s.d (J<|.int (i:Int)) (J (read Z).d) o8) (h++g1)=.ok (.nx,vl ro tp rk w k (nxd sd a) (J<|.int (i:Int)) (J (read Z).d)<|J<|.str<|wrd a) (h++g1++g2++[.lst [.str<|wrd a,nxd sd a]]):=Zxl (Zo e2 rfl) (by simp);have kg:(h++g1++g2++[.lst [.str<|wrd a,nxd sd a]])[rk]?=J (.lst<|ts.map T.d):=keep<|keep<|keep hr;generalize h++g1++g2++[.lst [.str<|wrd a,nxd sd a]]=h3 at *;have el:ev (P.tbl<|n+10) (.blt .len<|.cons (.var 2) .nil) (vl ro tp rk w k (nxd sd a) (J<|.int (i:Int)) (J (read Z).d)<|J<|.str<|wrd a) h3=.ok (.int (ts.length:Int)) h3:=(Zib (Zc rfl rfl)<|ZgQ kg).trans (by rw[Yu]);have t3:tst (P.tbl<|n+10) Zi9 (vl ro tp rk w k (nxd sd a) (J<|.int (i:Int)) (J (read Z).d)<|J<|.str<|wrd a) h3=.ok c h3:=by
  have q:=Ztk (Zl (op:=.Add) (a:=.var 6) (b:=.ci 1) (x:=.int (i:Int)) (y:=.int 1) (U:=P.tbl<|n+10) (S:=vl ro tp rk w k (nxd sd a) (J<|.int (i:Int)) (J (read Z).d)<|J<|.str<|wrd a) (h:=h3) rfl rfl) el;subst hc;by_cases hl:i+1<ts.length
  . rw[decide_eq_true hl];exact ZrV (Zh q<|decide_eq_true<|by lia) (Zyq rfl rfl)
  . rw[decide_eq_false hl];exact ZuM (Zh q<|decide_eq_false<|by lia)
 refine(Za<|(Zg t1).trans rfl).trans<|(Za x2).trans ?_;cases c with
 |true=>exact Zd ((Zk t3).trans<|Zd<|Zn rfl)
 |false=>exact(Za<|(Zg t3).trans rfl).trans rfl
def last(H:Lw P)(n)(hN:N<=5000)(hG:C.length<=500)(hz:(read Z).size<=120)(d:Ci C N s Z)(hk:h[k]?=J (.lst<|C.map Ce.Rw.d))(hr:h[rk]?=J (.lst<|ts.map T.d))(q:Rwc (read Z) m rr)(er:rr.1=[read Z])(hi:i+1=ts.length)(o6 o7 o8):
 ∃a sd cA cz g,ZG [(rk,ts.map T.d)] (.two 6 7) (xs2 (P.tbl<|n+10) Zhi) (its i [read Z]) (vl ro tp rk w k s.d o6 o7 o8) h=.ok (.nx,vl ro tp rk w k (nxd sd a) cA cz<|J<|.str<|wrd a) (h++g)/\Zw5 C N rr.2 a:=by
 obtain⟨a,sd,g,gn,x⟩:=Zpz H n hN hG d hz hk hr i o8;refine⟨a,sd,_,_,g,(Ce.ZjO hr rfl<|x Ws<|by simp_all).trans<|ZtF<|keep hr,?_⟩;cases q with
 |value v=>
  cases gn with
  |value _=>exact .inl ⟨rfl,rfl⟩
  |stuck nv _=>simp_all
  |loud _ _ nv _=>simp_all
 |stuck nv e=>
  cases gn with
  |value v=>simp_all
  |stuck _ _=>exact .inr (.inl ⟨rfl,rfl⟩)
  |loud _ _ _ e'=>simp_all
 |opn nv e=>
  cases gn with
  |value v=>simp_all
  |stuck _ e'=>simp_all
  |loud d' hp _ e'=>exact .inr (.inr ⟨_,_,rfl,d',hp,.inl rfl⟩)
 |wide nv e hu=>
  cases gn with
  |value v=>simp_all
  |stuck _ e'=>simp_all
  |loud d' hp _ e'=>rw[e]at e';cases e';exact .inr (.inr ⟨_,_,rfl,d',hp,.inr ⟨rfl,hu⟩⟩)
 |@more m u nv e hu=>exact absurd (List.cons.inj er).2 (Zvi m u)
def ZyF(H:Lw P)(n)(hN:N<=5000)(hG:C.length<=500):∀(m) (s) (Z) (i) (h) (o6 o7 o8),(read Z).size<=120->Ci C N s Z->h[k]?=J (.lst<|C.map Ce.Rw.d)->h[rk]?=J (.lst<|ts.map T.d)->i+(row m<|read Z).1.length=ts.length ->
 ∃a sd cA cz g,ZG [(rk,ts.map T.d)] (.two 6 7) (xs2 (P.tbl<|n+10) Zhi) (its i (row m<|read Z).1) (vl ro tp rk w k s.d o6 o7 o8) h=.ok (.nx,vl ro tp rk w k (nxd sd a) cA cz<|J<|.str<|wrd a) (h++g)/\Zw5 C N (row m<|read Z).2 a:=by
 intro m;induction m with
 |zero=>intro s Z i h o6 o7 o8 hz d hk hr hi;exact last H n hN hG hz d hk hr (rwc 0<|read Z) rfl hi o6 o7 o8
 |succ m ih=>
  intro s Z i h o6 o7 o8 hz d hk hr hi;have q:=rwc (m+1)<|read Z;generalize hrr:row (m+1) (read Z)=rr at q hi ⊢;cases q with
  |value v=>exact last H n hN hG hz d hk hr (m:=m+1) (.value v) rfl hi o6 o7 o8
  |stuck nv e=>exact last H n hN hG hz d hk hr (m:=m+1) (.stuck nv e) rfl hi o6 o7 o8
  |wide nv e hu=>exact last H n hN hG hz d hk hr (m:=m+1) (.wide nv e hu) rfl hi o6 o7 o8
  |@more _ u nv e hu=>
   obtain⟨a,sd,g,gn,x⟩:=Zpz H n hN hG (ro:=ro) (tp:=tp) (w:=w) (rk:=rk) (ts:=ts) d hz hk hr i o8;cases gn with
   |value v=>rw[nv]at v;cases v
   |stuck _ e'=>rw[e]at e';cases e'
   |@loud s' σ' d' hp _ e'=>rw[e]at e';cases e';obtain⟨a,sd,cA,cz,g2,e2,en⟩:=ih s' σ' (i+1) (h++g) (J<|.int (i:Int)) (J (read Z).d) (J<|.str<|wrd<|.loud s') hu d' (keep hk) (keep hr) (by rw[Os]at hi;lia);refine⟨a,sd,cA,cz,g++g2,?_,en⟩;rw[<-Oz];exact(Ce.ZjO hr rfl<|x Ws<|by simp[wrd]).trans e2
end
section
variable {ro tp sd:D}{rk:Nat}{o6 o7:Option D}
def ZwS(p:ev U a S h=.ok (.str x) h)(q:ev U b S h=.ok (.str y) h):ev U (.cmp .Eq a b) S h=.ok (.bl<|Wu<|x=y) h:=(Zu p q).I rfl
theorem Zxw(H:Lw P)(n)(hN:N<=5000)(hG:C.length<=500)(en:Zw5 C N w a)(hk:h[k]?=J (.lst<|C.map Ce.Rw.d)):∃ g,xs2 (P.tbl<|n+10) (.cons Zj7<|.cons ZnS<|.cons ZnR .nil) (vl ro tp rk w k (nxd sd a) o6 o7<|J<|.str<|wrd a) h=.ok (.rt<|.bl Wr,vl ro tp rk w k (nxd sd a) o6 o7<|J<|.str<|wrd a) (h++g):=by
 have vs:∀ {w}{a},w=wrd a->(w=O "value" \/ w=O "stuck")->xs1 (P.tbl<|n+10) Zj7 (vl ro tp rk w k (nxd sd a) o6 o7<|J<|.str<|wrd a) h=.ok (.rt<|.bl Wr,vl ro tp rk w k (nxd sd a) o6 o7<|J<|.str<|wrd a) h:=λ{w a} e hw=>by
   exact(Zk (by
     rcases hw with rfl|rfl
     . exact ZsV (Zh (Zas rfl rfl)<|by decide)
     . exact ZlT (Zh (Zas rfl rfl)<|by decide) (Zh (Zas rfl rfl)<|by decide))).I (Zd<|Zn<|(ZwS rfl rfl).I<|by simp_all)
 rcases en with⟨rfl,rfl⟩|⟨rfl,rfl⟩|⟨s,Z,rfl,d,hp,hw⟩
 . exact⟨[],by rw [Yt];exact Zd<|vs rfl<|.inl rfl⟩
 . exact⟨[],by rw [Yt];exact Zd<|vs rfl<|.inr rfl⟩
 . have t6:tst (P.tbl<|n+10) ZnN (vl ro tp rk w k (nxd sd<|.loud s) o6 o7<|J<|.str<|wrd<|.loud s) h=.ok Ws h:=by
     rcases hw with rfl|⟨rfl,_⟩<;>exact ZlT (Zh (Zas rfl rfl)<|by decide) (Zh (Zas rfl rfl)<|by decide)
   have el:ev (P.tbl<|n+10) (.cmp .Eq (.var 8)<|.Ci_ "loud") (vl ro tp rk w k (nxd sd<|.loud s) o6 o7<|J<|.str<|wrd<|.loud s) h=.ok (.bl Wr) h:=(ZwS rfl rfl).I (by rw [wrd,decide_eq_true rfl]);rcases hw with rfl|⟨rfl,lt⟩
   . refine⟨[],?_⟩;rw [Yt];refine(Za<|(Zg t6).I rfl).I ((Za<|(Zg<|Zh (Zas rfl rfl)<|by decide).I rfl).I<|Zd<|Zn ?_);rw [Zhk,ZeV,ZwS rfl rfl,decide_eq_true rfl];exact el
   . obtain⟨g,e⟩:=Zjw H (n+2) hN d hG hp hk;rw [rdo,if_neg<|by lia] at e;refine⟨g,(Za<|(Zg t6).I rfl).I<|Zd<|(Zk<|Zh (Zas rfl rfl)<|by decide).I<|Zd<|Zn ?_⟩;rw [Zhk,ZeV,el];exact(Zu (Zo e rfl) rfl).I (by rw [Zv5];simp)
end
def Zvx(hc:P.tb.lookup (O "_law_cell_at")=J Gn.ZbC)(n)(zs:List _){h}:∃v,run P (n+1) (O "_law_cell_at") [.ro<|zs.map .int,.int 0] h=.ok (.int v) h:=by
 rw[Ze hc rfl];cases zs with
 |nil=>exact⟨0,rfl⟩
 |cons z zs=>refine⟨z,?_⟩;simp[Gn.ZbC,Gn.Zfj,Zx,Zb6,ZmI,seqOf,lstOf]
theorem ZkP(F):∀(L) (a),(Ce.flat F a L).length=(L.map List.length).sum
 |[],_=>rfl
 |r::L,a=>by rw[Ce.flat,OA,ZkP F L];simp
def ZrB(t):(Ce.code t).length<=3*t.size+1:=by
 have:=Ce.ZaX t [] Ws 0 1;rw[Ce.code,ZkP,Ce.units];simp
 lia
def ZxS(H:Lw P)(zs:List _)(hz:zs.length<=63):∃h',run P (250+1) (O "law") [.ro<|zs.map .int] []=.ok (.bl Wr) h':=by
 obtain⟨t,R,e1,ct,st,dt,_,_⟩:=Gn.Zoj H.m (N:=249) (by lia) zs 1 [] (by lia);obtain⟨v,e2⟩:=Zvx H.cell 249 (h:=R) zs;obtain⟨qd,hM⟩:∃qd:Nat,Gn.mixed v 1%61=(qd:Int):=⟨(Gn.mixed v 1%61).toNat,by have:=Int.emod_nonneg (Gn.mixed v 1) (b:=61) (by decide);lia⟩
 obtain⟨g1,e4⟩:=Tm.ZgM H.t 242 t qd (by lia) ct (by lia) R;obtain⟨h2,k,e5,hk,_,_,old⟩:=Ce.Zvw H.d.c.toCof 244 t ct (by lia) (R++.lst ((row qd t).1.map T.d)::g1);have hr:h2[R.length]?=J (.lst<|(row qd t).1.map T.d):=by rw[old _<|by simp];simp
 have cl:=ZrB t;have rt:read (Sta.go t .nil [])=t:=Tm.Zcb t<|λx=>rfl;have e6:run P 250 (O "code_begun") [.ref k] h2=.ok (Ma.d ⟨0,[],[],[]⟩) h2:=by rw[Ze H.d.c.code_begun<|by rfl];exact rfl
 generalize D.ro (zs.map .int)=ro at *;obtain⟨a,sd,o6,o7,g,e7,en⟩:=ZyF H 240 (by lia) (by lia) qd _ _ 0 h2 M M M (by rw[rt];lia) (Ci.begin t ct) hk (ro:=ro) (tp:=t.d) (w:=(row qd t).2) (rk:=R.length) (ts:=(row qd t).1) hr (by rw[rt];lia);rw[rt]at e7 en;obtain⟨g',e8⟩:=Zxw H 240 (ro:=ro) (tp:=t.d) (sd:=sd) (rk:=R.length) (o6:=o6) (o7:=o7) (by lia) (by lia) en<|keep (g:=g) hk;have q2:ev (P.tbl 250) (.bin .Mod (.call (O "_law_mixed")<|.cons (.call (O "_law_cell_at")<|.cons (.var 0)<|.cons (.ci 0) .nil)<|.cons (.ci 1) .nil)<|.ci 61) [J ro,J t.d,M,M,M,M,M,M,M] R=.ok (.int (qd:Int)) R:=(Zl (Zo (Gn.Zst H.m 249 v 1 R<|by decide)<|Zc (Zo e2 rfl) rfl) rfl).trans (by rw[Z4,hM];decide);have x1:xs1 (P.tbl 250) ZnW [J ro,M,M,M,M,M,M,M,M] []=.ok (.nx,[J ro,J t.d,M,M,M,M,M,M,M]) R:=Zm<|Zo e1 rfl;have x2:xs1 (P.tbl 250) Zka [J ro,J t.d,M,M,M,M,M,M,M] R=.ok (.nx,[J ro,J t.d,J<|.ref R.length,J<|.str (row qd t).2,M,M,M,M,M]) (R++.lst ((row qd t).1.map T.d)::g1):=by rw[Zka,Zjl,Zo e4<|Zc rfl<|Zc q2 rfl];rfl
 have x3:xs1 (P.tbl 250) ZnV [J ro,J t.d,J<|.ref R.length,J<|.str (row qd t).2,M,M,M,M,M] (R++.lst ((row qd t).1.map T.d)::g1)=.ok (.nx,[J ro,J t.d,J<|.ref R.length,J<|.str (row qd t).2,J<|.ref k,M,M,M,M]) h2:=Zm<|Zo e5 rfl;have x4:xs1 (P.tbl 250) ZnU [J ro,J t.d,J<|.ref R.length,J<|.str (row qd t).2,J<|.ref k,M,M,M,M] h2=.ok (.nx,vl ro t.d R.length (row qd t).2 k (Ma.d ⟨0,[],[],[]⟩) M M M) h2:=Zm<|Zo e6 rfl;have ei:evi (P.tbl 250) ZjM (vl ro t.d R.length (row qd t).2 k (Ma.d ⟨0,[],[],[]⟩) M M M) h2=.ok ⟨[(R.length,(row qd t).1.map T.d)],its 0 (row qd t).1⟩ h2:=by rw[ZjM,ZnD,show ev (P.tbl 250) (.var 2) (vl ro t.d R.length (row qd t).2 k (Ma.d ⟨0,[],[],[]⟩) M M M) h2=.ok (.ref R.length) h2 from rfl,ZA,<-Zq9];simp only[Zhn,hr];rfl
 have x5:xs1 (P.tbl 250) ZnT (vl ro t.d R.length (row qd t).2 k (Ma.d ⟨0,[],[],[]⟩) M M M) h2=.ok (.nx,vl ro t.d R.length (row qd t).2 k (nxd sd a) o6 o7<|J<|.str<|wrd a) (h2++g):=(Zec ei).trans e7;rw[Ze H.law<|by rfl];exact⟨_,congrArg Zf<|(Za x1).trans<|(Za x2).trans<|(Za x3).trans<|(Za x4).trans<|(Za x5).trans e8⟩
end
end K57L
section
set_option maxHeartbeats 4000000
namespace K57
open PySem L2 IV PyProof.Rows
def ZgH:Sxs:=.w (.iff (.q (.a "Pen" V0 "used")<|.a "Pen" V0 "most") (.o<|.rai (O "Wide")<|.Ci_ "more places than an expression that is told may have") .n) (.auga [O "Pen"] V0 (O "used") K1)
def ZgC:Fd:=fd_ 1 ["self"] ZgH
noncomputable def cG:List (Str×D):=[(O "WIDEST",.int 120),(O "VALUES",(.tup [(.str<|O "num"),(.str<|O "fn"),(.str<|O "rec")])),(O "BEYOND",.int 1000000),(O "CALLS",(.tup [(.str<|O "call"),(.str<|O "hop")])),(O "LOUD",(.tup [(.str<|O "call"),(.str<|O "hop"),(.str<|O "unless"),(.str<|O "work")])),(O "LEADING",(.tup [(.str<|O "unless"),(.str<|O "jump")])),(O "FORMS",.kd<|O "FORMS")]
noncomputable def cD:List (Str×List (Key×D)):=[(O "FORMS",[(.inr<|O "fn",(.tup [.int 1,.int 1])),(.inr<|O "rec",(.tup [.int 2,.int 1])),(.inr<|O "call",(.tup [.int 0,.int 2])),(.inr<|O "if",(.tup [.int 0,.int 3])),(.inr<|O "+",(.tup [.int 0,.int 2])),(.inr<|O "-",(.tup [.int 0,.int 2])),(.inr<|O "*",(.tup [.int 0,.int 2])),(.inr<|O "<",(.tup [.int 0,.int 2]))])]
noncomputable def dl:List (Str×Str×Fd×Nat):=[(O "bound_names",O "bound_names",Ce.ZaB,6),(O "parts_of",O "parts_of",Ce.Zdr,7),(O "front_of",O "front_of",Tm.Zh6,8),(O "count_parts",O "count_parts",Tm.Zfh,9),(O "built",O "built",Tm.ZjR,10),(O "places",O "places",Gn.ZfZ,11),(O "is_wide",O "is_wide",Tm.ZgB,12),(O "bound_to",O "bound_to",Tm.Zh7,14),(O "loud_or_stuck",O "loud_or_stuck",Ce.ZdM,15),(O "opened",O "opened",Tm.ZkR,16),(O "meant_by",O "meant_by",Tm.Zds,17),(O "within",O "within",Tm.ZhX,18),(O "is_value",O "is_value",Tm.Zdu,23),(O "put_in",O "put_in",Tm.Zh0,24),(O "parts_first",O "parts_first",Tm.Zai,25),(O "first_open",O "first_open",Tm.Zf3,26),(O "way_down",O "way_down",Tm.ZhY,27),(O "called",O "called",Tm.ZkT,28),(O "chosen",O "chosen",Ce.Zeg,29),(O "worked",O "worked",Ce.Zda,30),(O "become",O "become",Tm.ZkU,31),(O "put_back",O "put_back",Tm.Zh1,32),(O "stepped",O "stepped",Tm.Zi1,33),(O "row_of",O "row_of",Tm.ZkQ,34),(O "code_begun",O "code_begun",Ce.Zf5,38),(O "thing_of",O "thing_of",Ce.ZhZ,39),(O "quiet_state",O "quiet_state",Ce.Zfe,40),(O "entered",O "entered",Ce.Zi3,41),(O "applied",O "applied",Ce.Zi5,42),(O "gone_on",O "gone_on",Ce.Zi2,43),(O "reckoned",O "reckoned",Ce.Zfp,44),(O "loud_state",O "loud_state",Ce.Zf0,45),(O "code_step",O "code_step",Ce.ZgW,46),(O "function_of",O "function_of",Cr.Zfg,47),(O "code_read",O "code_read",Cr.ZgX,49),(O "count_rows",O "count_rows",Ce.Zf4,52),(O "pieces_of",O "pieces_of",Ce.ZgU,53),(O "first_rows",O "first_rows",Ce.Zf2,56),(O "numbered",O "numbered",Ce.Zh2,57),(O "code_of",O "code_of",Ce.Zi4,58),(O "_law_cell_at",O "_law_cell_at",Gn.ZbC,60),(O "_law_mixed",O "_law_mixed",Gn.Zcx,61),(O "_law_next",O "_law_next",Gn.Zh4,62),(O "_law_names",O "_law_names",Gn.Zcw,63),(O "_law_there",O "_law_there",Gn.Zee,64),(O "_law_plain",O "_law_plain",Gn.ZgV,65),(O "_law_function",O "_law_function",Gn.Zef,66),(O "_law_number",O "_law_number",Gn.Zf1,67),(O "_law_any",O "_law_any",Gn.ZeU,68),(O "_law_width",O "_law_width",Gn.Zcv,69),(O "_law_deep",O "_law_deep",Gn.Zdt,70),(O "_law_program",O "_law_program",Gn.Zff,71),(O "_law_read",O "_law_read",K57L.Zh3,72),(O "_law_gone",O "_law_gone",K57L.Zh5,73),(O "law",O "law",K57L.ZkS,74)]
noncomputable def tb:List (Str×Fd):=dl.map λp=>(p.1,p.2.2.1)
noncomputable def mo1:List Ml:=[(O "take_place",O "Pen.take_place",ZgC,19,1),(O "joined",O "Pen.joined",Pw.Zf6,19,2),(O "filled",O "Pen.filled",Tm.Zf7,19,3),(O "told",O "Pen.told",Pw.Zh8,19,4)]
noncomputable def mo2:List Ml:=[(O "put_on",O "Decoder.put_on",Cr.Zdb,48,1),(O "put_together",O "Decoder.put_together",Cr.Za4,48,2),(O "is_within_if",O "Decoder.is_within_if",Cr.Za5,48,3),(O "is_behind_if",O "Decoder.is_behind_if",Cr.Za6,48,4),(O "jump",O "Decoder.jump",Cr.Zeh,48,5),(O "go_back",O "Decoder.go_back",Cr.Zcy,48,6),(O "do_row",O "Decoder.do_row",Cr.Zdc,48,7),(O "do_next",O "Decoder.do_next",Cr.Zcz,48,8),(O "put_whole",O "Decoder.put_whole",Cr.ZbX,48,9),(O "do_all",O "Decoder.do_all",Cr.Zdd,48,10)]
noncomputable def mo3:List Ml:=[(O "add_row",O "Unit.add_row",Ce.Za2,54,1)]
noncomputable def mo4:List Ml:=[(O "wait_for",O "Coder.wait_for",Ce.Zde,55,1),(O "begin_unit",O "Coder.begin_unit",Ce.Zcg,55,2),(O "begin_function",O "Coder.begin_function",Ce.Za7,55,3),(O "do_part",O "Coder.do_part",Ce.ZdN,55,4),(O "do_all",O "Coder.do_all",Ce.Zei,55,5)]
def ms:List (Str×Fd):=[(mnm (O "Pen")<|O "__init__",Tm.Za3),(mnm (O "Decoder")<|O "__init__",Cr.ZaK),(mnm (O "Unit")<|O "__init__",Ce.ZaG),(mnm (O "Coder")<|O "__init__",Ce.Zar)]++mo1.map (λp=>(mnm (O "Pen") p.1,p.2.2.1))++mo2.map (λp=>(mnm (O "Decoder") p.1,p.2.2.1))++mo3.map (λp=>(mnm (O "Unit") p.1,p.2.2.1))++mo4.map (λp=>(mnm (O "Coder") p.1,p.2.2.1))
def pg:Pg:=⟨tb,λx=>cG.lookup x,λx=>cD.lookup x,1000000,ms⟩
noncomputable def kl:Kl:=⟨[O "Pen",O "Decoder",O "Unit",O "Coder"],[O "around",O "at",O "begun",O "code",O "done",O "most",O "pen",O "pile",O "rows",O "units",O "used",O "waiting"],mo1.map (λp=>(O "Pen",p.1))++mo2.map (λp=>(O "Decoder",p.1))++mo3.map (λp=>(O "Unit",p.1))++mo4.map (λp=>(O "Coder",p.1)),[O "Pen",O "Decoder",O "Unit",O "Coder"],[O "Wide"],[],[]⟩
abbrev ZkS:Fd:=K57L.ZkS
noncomputable def top(i:Nat):Stmt:=PySem.Challenge.pw_samestride_k57_whole_code_in_step.main.body.getD i (.Pass ⟨0,0,0,0⟩)
def mt(i j:Nat):Stmt:=inClass (top i) j
noncomputable def fs:List Str:=tb.map (·.1)
local macro_rules|`(tactic| wtm_at "al")=>`(tactic| repeat' first|exact trivial|refine' And.intro ?_ ?_)
local macro_rules|`(tactic| wtm_at "chk")=>`(tactic| exact⟨by constructor<;>decide +kernel,λ_ _ _ _ _ _ us hl=>by
 first
 |(have e:=Zxj (show us.length=0 from hl);subst e;rfl)
 |(obtain⟨a0,e⟩:=Zxi (show us.length=1 from hl);subst e;rfl)
 |(obtain⟨a0,a1,e⟩:=Zxh (show us.length=2 from hl);subst e;rfl)
 |(obtain⟨a0,a1,a2,e⟩:=Zxg (show us.length=3 from hl);subst e;rfl)
 |(obtain⟨a0,a1,a2,a3,e⟩:=Zxf (show us.length=4 from hl);subst e;rfl)
 |(obtain⟨a0,a1,a2,a3,a4,e⟩:=Zxe (show us.length=5 from hl);subst e;rfl)
 |(obtain⟨a0,a1,a2,a3,a4,a5,e⟩:=Zzq (show us.length=6 from hl);subst e;rfl)
 |(obtain⟨a0,a1,a2,a3,a4,a5,a6,e⟩:=us_7 (show us.length=7 from hl);subst e;rfl),by decide +kernel⟩)
def kd:All (λp:Str×Str×Fd×Nat=>Chk kl fs p.2.1 p.2.1 p.2.2.1<|top p.2.2.2) dl:=by
 wtm_at "al"
 all_goals wtm_at "chk"
def km1:All (λp:Ml=>Chk kl fs p.1 p.2.1 p.2.2.1<|mt p.2.2.2.1 p.2.2.2.2) mo1:=by
 wtm_at "al"
 all_goals wtm_at "chk"
def kk1:All (λp:Ml=>pg.look (mnm (O "Pen") p.1)=J p.2.2.1) mo1:=by
 wtm_at "al"
 all_goals kernel_rfl
def ki1:Chk kl fs (O "__init__") (O "Pen.__init__") Tm.Za3 (mt 19 0):=by wtm_at "chk"
def km2:All (λp:Ml=>Chk kl fs p.1 p.2.1 p.2.2.1<|mt p.2.2.2.1 p.2.2.2.2) mo2:=by
 wtm_at "al"
 all_goals wtm_at "chk"
def kk2:All (λp:Ml=>pg.look (mnm (O "Decoder") p.1)=J p.2.2.1) mo2:=by
 wtm_at "al"
 all_goals kernel_rfl
def ki2:Chk kl fs (O "__init__") (O "Decoder.__init__") Cr.ZaK (mt 48 0):=by wtm_at "chk"
def km3:All (λp:Ml=>Chk kl fs p.1 p.2.1 p.2.2.1<|mt p.2.2.2.1 p.2.2.2.2) mo3:=by
 wtm_at "al"
 all_goals wtm_at "chk"
def kk3:All (λp:Ml=>pg.look (mnm (O "Unit") p.1)=J p.2.2.1) mo3:=by
 wtm_at "al"
 all_goals kernel_rfl
def ki3:Chk kl fs (O "__init__") (O "Unit.__init__") Ce.ZaG (mt 54 0):=by wtm_at "chk"
def km4:All (λp:Ml=>Chk kl fs p.1 p.2.1 p.2.2.1<|mt p.2.2.2.1 p.2.2.2.2) mo4:=by
 wtm_at "al"
 all_goals wtm_at "chk"
def kk4:All (λp:Ml=>pg.look (mnm (O "Coder") p.1)=J p.2.2.1) mo4:=by
 wtm_at "al"
 all_goals kernel_rfl
def ki4:Chk kl fs (O "__init__") (O "Coder.__init__") Ce.Zar (mt 55 0):=by wtm_at "chk"
end K57
end
namespace K57
open PySem L2 IV
def Zwm:pg.tb.lookup (O "law")=J ZkS:=by kernel_rfl
def mkr:Gn.Mkr pg:=⟨⟨by kernel_rfl,by kernel_rfl,by kernel_rfl,by kernel_rfl,by kernel_rfl,.same<|by kernel_rfl,.same<|by kernel_rfl,.same<|by kernel_rfl,by kernel_rfl⟩,by kernel_rfl,.same<|by kernel_rfl⟩
def tre:Gn.Tre pg:=by
 constructor
 all_goals (first|kernel_rfl|decide)
def wid:Tm.Wid pg:=⟨.str<|O "more places than an expression that is told may have",by kernel_rfl⟩
def trb:Tm.Trb pg:=by
 constructor
 case toTre=>exact tre
 case tk=>obtain⟨m,e⟩:=wid;exact⟨_,e⟩
 all_goals kernel_rfl
def trm:Tm.Trm pg:=by
 constructor;exact trb
 all_goals kernel_rfl
def trw:Tm.Trw pg:=by
 constructor;exact trm
 all_goals kernel_rfl
def pnw:Pw.Pnw pg:=by
 constructor;exact trb;exact wid
 all_goals kernel_rfl
def cof:Ce.Cof pg:=by
 constructor
 all_goals (first|kernel_rfl|decide)
def cod:Ce.Cod pg:=by
 constructor;exact cof
 all_goals kernel_rfl
def dec:Cr.Dec pg:=by
 constructor;exact cod;exact pnw
 all_goals kernel_rfl
def lw:K57L.Lw pg:=by
 constructor;exact mkr;exact dec;exact trw
 all_goals kernel_rfl
def runs:∀ns:List Int,ns.length<=63->∃h',run pg (250+1) (O "law") [.ro<|ns.map .int] []=.ok (.bl Wr) h':=λns hl=>K57L.ZxS lw ns hl
end K57
section
set_option maxHeartbeats 4000000
namespace K57
open PySem L2 IV PyProof.Rows
def tp2{K:Yl}(h:K.lookup a=J ⟨.type "tuple",od,.seq #[.int x t,.int y u] n,sl⟩):RD ⟨K,mg⟩ H B (.tup [.int x,.int y]) (.ref a):=.tup (Zkl (vs:=[.int x,.int y]) h (by show 2<=Yc;decide)<|.cons ZfK<|.cons ZfK .nil) (.cons (.int _)<|.cons (.int _) .nil)
theorem md{Pr:Yi}{w:Yh}{K:Yl}{h:YG}{mg:Str->Option Yk}(X:K.In h)(G:h.Ns Ye mg)
   (gY:Zc5 K=Wr)
   (dd:All (λp:Str×Str×Fd×Nat=>Zw6 K p.1 p.2.1<|top p.2.2.2) dl)
   (fg:Ym K Ye (O "Pen")=J (J<|.ref ca1)) (gm:Cls K ca1)
   (n1:All (λf=>YJ K (.ref ca1) f=J M) kl.ats)
   (gU:PySem.W.makesIn K ca1=Wr) (gV:Wb K (.ref ca1)=Wr)
   (i1:Zix K ca1 (O "__init__") (O "Pen.__init__") (mt 19 0))
   (u1:All (λp:Ml=>Zix K ca1 p.1 p.2.1<|mt p.2.2.2.1 p.2.2.2.2) mo1)
   (fc:Ym K Ye (O "Decoder")=J (J<|.ref ca2)) (gj:Cls K ca2)
   (n2:All (λf=>YJ K (.ref ca2) f=J M) kl.ats)
   (gS:PySem.W.makesIn K ca2=Wr) (gT:Wb K (.ref ca2)=Wr)
   (i2:Zix K ca2 (O "__init__") (O "Decoder.__init__") (mt 48 0))
   (u2:All (λp:Ml=>Zix K ca2 p.1 p.2.1<|mt p.2.2.2.1 p.2.2.2.2) mo2)
   (fb:Ym K Ye (O "Unit")=J (J<|.ref ca3)) (gi:Cls K ca3)
   (n3:All (λf=>YJ K (.ref ca3) f=J M) kl.ats)
   (gQ:PySem.W.makesIn K ca3=Wr) (gR:Wb K (.ref ca3)=Wr)
   (i3:Zix K ca3 (O "__init__") (O "Unit.__init__") (mt 54 0))
   (u3:All (λp:Ml=>Zix K ca3 p.1 p.2.1<|mt p.2.2.2.1 p.2.2.2.2) mo3)
   (eZ:Ym K Ye (O "Coder")=J (J<|.ref ca4)) (gh:Cls K ca4)
   (n4:All (λf=>YJ K (.ref ca4) f=J M) kl.ats)
   (gO:PySem.W.makesIn K ca4=Wr) (gP:Wb K (.ref ca4)=Wr)
   (i4:Zix K ca4 (O "__init__") (O "Coder.__init__") (mt 55 0))
   (u4:All (λp:Ml=>Zix K ca4 p.1 p.2.1<|mt p.2.2.2.1 p.2.2.2.2) mo4)
   (ij:Ym K Ye (O "Wide")=J (J<|.ref xa1)) (ii:PySem.W.typeIn K (.ref xa1)=J (.type "type")) (ig:PySem.W.isClsIn K xa1=Wr) (ie:YT K (.ref xa1) (.type "BaseException")=J Wr) (ic:PySem.W.excIn K xa1 [.type "ValueError",.type "Exception",.type "BaseException",.type "object"] "ValueError.__new__"=Wr) (ib:YT K (.ref xa1) (.ref xa1)=J Wr)
   (zz:All (λx:Str=>Ym K Ye x=J M) ZnQ)
   (eJ:Ym K Ye (O "WIDEST")=J (J<|.int 120 t101))
   (eA:K.lookup q103=J ⟨.type "tuple",r104,.seq #[.str (O "num") t108,.str (O "fn") t109,.str (O "rec") t110] n105,v106⟩)
   (eI:Ym K Ye (O "VALUES")=J (J<|.ref q103))
   (eG:Ym K Ye (O "BEYOND")=J (J<|.int 1000000 t112))
   (ez:K.lookup q114=J ⟨.type "tuple",r115,.seq #[.str (O "call") t119,.str (O "hop") t120] n116,v117⟩)
   (eF:Ym K Ye (O "CALLS")=J (J<|.ref q114))
   (d9:K.lookup q122=J ⟨.type "tuple",r123,.seq #[.str (O "call") t127,.str (O "hop") t128,.str (O "unless") t129,.str (O "work") t130] n124,v125⟩)
   (eE:Ym K Ye (O "LOUD")=J (J<|.ref q122))
   (d7:K.lookup q132=J ⟨.type "tuple",r133,.seq #[.str (O "unless") t137,.str (O "jump") t138] n134,v135⟩)
   (eB:Ym K Ye (O "LEADING")=J (J<|.ref q132))
   (dZ:K.lookup q147=J ⟨.type "tuple",r148,.seq #[.int 1 t152,.int 1 t153] n149,v150⟩)
   (dY:K.lookup q156=J ⟨.type "tuple",r157,.seq #[.int 2 t161,.int 1 t162] n158,v159⟩)
   (dX:K.lookup q165=J ⟨.type "tuple",r166,.seq #[.int 0 t170,.int 2 t171] n167,v168⟩)
   (dU:K.lookup q174=J ⟨.type "tuple",r175,.seq #[.int 0 t179,.int 3 t180] n176,v177⟩)
   (dR:K.lookup q183=J ⟨.type "tuple",r184,.seq #[.int 0 t188,.int 2 t189] n185,v186⟩)
   (dQ:K.lookup q192=J ⟨.type "tuple",r193,.seq #[.int 0 t197,.int 2 t198] n194,v195⟩)
   (dP:K.lookup q201=J ⟨.type "tuple",r202,.seq #[.int 0 t206,.int 2 t207] n203,v204⟩)
   (dO:K.lookup q210=J ⟨.type "tuple",r211,.seq #[.int 0 t215,.int 2 t216] n212,v213⟩)
   (bY:Ym K Ye (O "FORMS")=J (J<|.ref q140))
   (d0:K.lookup q140=J ⟨.type "dict",M,.dict #[⟨j145,.str (O "fn") t146,.ref q147⟩,⟨j154,.str (O "rec") t155,.ref q156⟩,⟨j163,.str (O "call") t164,.ref q165⟩,⟨j172,.str (O "if") t173,.ref q174⟩,⟨j181,.str (O "+") t182,.ref q183⟩,⟨j190,.str (O "-") t191,.ref q192⟩,⟨j199,.str (O "*") t200,.ref q201⟩,⟨j208,.str (O "<") t209,.ref q210⟩] e141,#[]⟩)
   (dg:j145=hashStr w (O "fn"))
   (df:j154=hashStr w (O "rec"))
   (de:j163=hashStr w (O "call"))
   (db:j172=hashStr w (O "if"))
   (c9:j181=hashStr w (O "+"))
   (c8:j190=hashStr w (O "-"))
   (cZ:j199=hashStr w (O "*"))
   (cY:j208=hashStr w (O "<"))
   (dh:(q140==Yf)=Ws):Md Pr w K mg pg kl:=by
 have cL:∃ a ai,mg (O "FORMS")=J (.ref a)/\DkK Pr w K a ai/\∀ H B,RKs ⟨K,mg⟩ H B (cD.lookup (O "FORMS") |>.getD []) ai:=by
   refine⟨q140,[(YE<|O "fn",.ref q147),(YE<|O "rec",.ref q156),(YE<|O "call",.ref q165),(YE<|O "if",.ref q174),(YE<|O "+",.ref q183),(YE<|O "-",.ref q192),(YE<|O "*",.ref q201),(YE<|O "<",.ref q210)],YO X G bY,⟨_,_,_,[(YE<|O "fn",.ref q147),(YE<|O "rec",.ref q156),(YE<|O "call",.ref q165),(YE<|O "if",.ref q174),(YE<|O "+",.ref q183),(YE<|O "-",.ref q192),(YE<|O "*",.ref q201),(YE<|O "<",.ref q210)],d0,⟨rfl,rfl,rfl⟩,rfl,?_,(.cons (Zy _ t146) rfl<|.cons (Zy _ t155) rfl<|.cons (Zy _ t164) rfl<|.cons (Zy _ t173) rfl<|.cons (Zy _ t182) rfl<|.cons (Zy _ t191) rfl<|.cons (Zy _ t200) rfl<|.cons (Zy _ t209) rfl .nil),(by show ([YE<|O "fn",YE<|O "rec",YE<|O "call",YE<|O "if",YE<|O "+",YE<|O "-",YE<|O "*",YE<|O "<"]:List Key).Nodup;decide +kernel),(.cons ⟨rfl,Zaf⟩<|.cons ⟨rfl,Zaf⟩<|.cons ⟨rfl,Zaf⟩<|.cons ⟨rfl,Zaf⟩<|.cons ⟨rfl,Zaf⟩<|.cons ⟨rfl,Zaf⟩<|.cons ⟨rfl,Zaf⟩<|.cons ⟨rfl,Zaf⟩ .nil),(by show 8<=Yc;decide),dh⟩,λ_ _=>(.cons (tp2 dZ)<|.cons (tp2 dY)<|.cons (tp2 dX)<|.cons (tp2 dU)<|.cons (tp2 dR)<|.cons (tp2 dQ)<|.cons (tp2 dP)<|.cons (tp2 dO) .nil)⟩;exact(by
       intro e he;simp only [List.mem_toArray,O3,List.not_mem_nil,or_false] at he;rcases he with rfl|rfl|rfl|rfl|rfl|rfl|rfl|rfl
       . exact⟨YE<|O "fn",Zy (O "fn") t146,dg⟩
       . exact⟨YE<|O "rec",Zy (O "rec") t155,df⟩
       . exact⟨YE<|O "call",Zy (O "call") t164,de⟩
       . exact⟨YE<|O "if",Zy (O "if") t173,db⟩
       . exact⟨YE<|O "+",Zy (O "+") t182,c9⟩
       . exact⟨YE<|O "-",Zy (O "-") t191,c8⟩
       . exact⟨YE<|O "*",Zy (O "*") t200,cZ⟩
       . exact⟨YE<|O "<",Zy (O "<") t209,cY⟩
     )
 refine⟨gY,λx kvs hx=>?_,λx d hx=>?_,?_,λx fd hx=>?_,?_,?_,?_,?_,?_,?_⟩
 . have hm:(x,kvs)∈cD:=lookup_mem hx;have e:(x,kvs)=(O "FORMS",(cD.lookup (O "FORMS") |>.getD [])):=by
     simp only [cD,O3,List.not_mem_nil,or_false] at hm;exact hm
   cases e;exact cL
 . have hm:(x,d)∈cG:=lookup_mem hx;have all:All (λp:Str×D=>∃ v u,mg p.1=J u/\RelV v u/\∀ H B,RD ⟨K,mg⟩ H B p.2 v) cG:=⟨⟨.int 120,_,YO X G eJ,ZfK,λ_ _=>(.int _)⟩,⟨.ref q103,_,YO X G eI,Zaf,λ_ _=>(.tup (Zkl (vs:=[(.str<|O "num"),(.str<|O "fn"),(.str<|O "rec")]) eA (by show 3<=Yc;decide)<|.cons Zan<|.cons Zan<|.cons Zan .nil)<|.cons (.str _<|by decide +kernel)<|.cons (.str _<|by decide +kernel)<|.cons (.str _<|by decide +kernel) .nil)⟩,⟨.int 1000000,_,YO X G eG,ZfK,λ_ _=>(.int _)⟩,⟨.ref q114,_,YO X G eF,Zaf,λ_ _=>(.tup (Zkl (vs:=[(.str<|O "call"),(.str<|O "hop")]) ez (by show 2<=Yc;decide)<|.cons Zan<|.cons Zan .nil)<|.cons (.str _<|by decide +kernel)<|.cons (.str _<|by decide +kernel) .nil)⟩,⟨.ref q122,_,YO X G eE,Zaf,λ_ _=>(.tup (Zkl (vs:=[(.str<|O "call"),(.str<|O "hop"),(.str<|O "unless"),(.str<|O "work")]) d9 (by show 4<=Yc;decide)<|.cons Zan<|.cons Zan<|.cons Zan<|.cons Zan .nil)<|.cons (.str _<|by decide +kernel)<|.cons (.str _<|by decide +kernel)<|.cons (.str _<|by decide +kernel)<|.cons (.str _<|by decide +kernel) .nil)⟩,⟨.ref q132,_,YO X G eB,Zaf,λ_ _=>(.tup (Zkl (vs:=[(.str<|O "unless"),(.str<|O "jump")]) d7 (by show 2<=Yc;decide)<|.cons Zan<|.cons Zan .nil)<|.cons (.str _<|by decide +kernel)<|.cons (.str _<|by decide +kernel) .nil)⟩,⟨.ref q140,_,YO X G bY,rfl,λ_ _=>.kd<|YO X G bY⟩,trivial⟩;exact all.mem _ hm
 . exact(ZkD X G zz).mem
 . exact(ZnH X G dd kd).mem _ (lookup_mem hx)
 . have all:All (λC=>∃ a,mg C=J (.ref a)/\Cls K a/\∀ f∈kl.ats,Zby K a f) kl.cs:=⟨⟨ca1,YO X G fg,gm,n1.mem⟩,⟨ca2,YO X G fc,gj,n2.mem⟩,⟨ca3,YO X G fb,gi,n3.mem⟩,⟨ca4,YO X G eZ,gh,n4.mem⟩,trivial⟩
   exact all.mem
 . exact(show All _ kl.ms from((((ZfR (P:=pg) X G fg gm u1 km1 kk1).app<|ZfR (P:=pg) X G fc gj u2 km2 kk2).app<|ZfR (P:=pg) X G fb gi u3 km3 kk3).app<|ZfR (P:=pg) X G eZ gh u4 km4 kk4)).mem
 . have all:All (λC:Str=>∃ a f am fd st q,mg C=J (.ref a)/\Mk K a f/\pg.look (mnm C<|O "__init__")=J fd/\BodyOk K kl (pg.tb.map (·.1)) (O "__init__") q fd st f am) kl.is:=⟨ZjI X G fg gU gV i1 ki1<|by kernel_rfl,ZjI X G fc gS gT i2 ki2<|by kernel_rfl,ZjI X G fb gQ gR i3 ki3<|by kernel_rfl,ZjI X G eZ gO gP i4 ki4<|by kernel_rfl,trivial⟩
   exact all.mem
 . have all:All (λC:Str=>∃ a,mg C=J (.ref a)/\XOk K a) kl.xs:=⟨⟨xa1,YO X G ij,⟨⟨ii,L2.isSome_of ig,ie⟩,ic,ib⟩⟩,trivial⟩
   exact all.mem
 . have all:All (λp:Str×Str=>∃ a b,mg p.1=J (.ref a)/\mg p.2=J (.ref b)/\XAs K a b) kl.xa:=trivial;exact all.mem
 . have all:All (λp:Str×Str×Bool=>∃ b v,mg p.1=J (.ref b)/\L2.ClV mg p.2.1 v/\PySem.W.kitOne K (.ref b) v=J p.2.2) kl.xi:=trivial;exact all.mem
end K57
end
section
set_option maxHeartbeats 4000000
open PySem PySem.W PyProof.Rows
local macro_rules|`(tactic| wtm_at "al")=>`(tactic| repeat' first|exact trivial|refine' And.intro ?_ ?_)
local macro_rules|`(tactic| wtm_at "dg")=>`(tactic| (refine' ⟨_,_,?na,L2.Zrh ?l ?c ?k⟩;(case na=>k_is);(case l=>k_is);(case c=>k_is);(case k=>k_is)))
local macro_rules|`(tactic| wtm_at "mg")=>`(tactic| (refine' ⟨_,_,?na,?f,?k,L2.Zrh ?l ?c ?kk⟩;(case na=>k_is);(case f=>k_is);(case l=>k_is);(case c=>k_is);(case k=>k_is);(case kk=>k_is)))
set_option maxRecDepth 100000 in
set_option maxHeartbeats 0 in
theorem PySem.Challenge.cw_samestride_k57_whole_code_in_step_holds : PySem.Challenge.rw_samestride_k57_whole_code_in_step.Holds := by
 refine K57hd ?_
 k_fill
 refine IV.Zxd (l:=PySem.Challenge.rw_samestride_k57_whole_code_in_step) (P:=K57.pg) 250 rfl rfl rfl ⟨rfl,by decide,by decide,rfl⟩ (kl:=K57.kl) (λw h Y=>PySem.W.kIn_of Y) K57.Zwm rfl K57.runs ?MM0
 case MM0=>
  intro w mg h KX G;refine' K57.md KX G ?gY ?dd ?fg ?gm ?n1 ?gU ?gV ?i1 ?u1 ?fc ?gj ?n2 ?gS ?gT ?i2 ?u2 ?fb ?gi ?n3 ?gQ ?gR ?i3 ?u3 ?eZ ?gh ?n4 ?gO ?gP ?i4 ?u4 ?ij ?ii ?ig ?ie ?ic ?ib ?zz ?eJ ?eA ?eI ?eG ?ez ?eF ?d9 ?eE ?d7 ?eB ?dZ ?dY ?dX ?dU ?dR ?dQ ?dP ?dO ?bY ?d0 ?dg ?df ?de ?db ?c9 ?c8 ?cZ ?cY ?dh
  (case gY=>(first|k_is|kernel_rfl|decide +kernel))
  (case fg=>k_is)
  (case gm=>(refine⟨?_,?_,?_,?_⟩<;>k_is))
  (case n1=>(wtm_at "al";all_goals (dsimp only;k_is)))
  (case gU|gV=>k_is)
  (case i1=>wtm_at "mg")
  (case u1=>(wtm_at "al";all_goals wtm_at "mg"))
  (case fc=>k_is)
  (case gj=>(refine⟨?_,?_,?_,?_⟩<;>k_is))
  (case n2=>(wtm_at "al";all_goals (dsimp only;k_is)))
  (case gS|gT=>k_is)
  (case i2=>wtm_at "mg")
  (case u2=>(wtm_at "al";all_goals wtm_at "mg"))
  (case fb=>k_is)
  (case gi=>(refine⟨?_,?_,?_,?_⟩<;>k_is))
  (case n3=>(wtm_at "al";all_goals (dsimp only;k_is)))
  (case gQ|gR=>k_is)
  (case i3=>wtm_at "mg")
  (case u3=>(wtm_at "al";all_goals wtm_at "mg"))
  (case eZ=>k_is)
  (case gh=>(refine⟨?_,?_,?_,?_⟩<;>k_is))
  (case n4=>(wtm_at "al";all_goals (dsimp only;k_is)))
  (case gO|gP=>k_is)
  (case i4=>wtm_at "mg")
  (case u4=>(wtm_at "al";all_goals wtm_at "mg"))
  (case ij|ii=>k_is)
  (case ig|ie=>k_is)
  (case ic=>k_exc)
  (case ib=>k_is)
  (case dd=>(wtm_at "al";all_goals wtm_at "dg"))
  (case zz=>(wtm_at "al";all_goals (dsimp only;k_is)))
  (case eJ|eI=>k_is)
  (case eA|eG=>k_is)
  (case eF|ez=>k_is)
  (case eE|d9=>k_is)
  (case eB|d7=>k_is)
  (case bY|d0=>k_is)
  (case dZ|dY=>k_is)
  (case dX|dU=>k_is)
  (case dR|dQ=>k_is)
  (case dP|dO=>k_is)
  (case dg=>(first|rfl|k_is|fail))
  (case df=>(first|rfl|k_is|fail))
  (case de=>(first|rfl|k_is|fail))
  (case db=>(first|rfl|k_is|fail))
  (case c9=>(first|rfl|k_is|fail))
  (case c8=>(first|rfl|k_is|fail))
  (case cZ=>(first|rfl|k_is|fail))
  (case cY=>(first|rfl|k_is|fail))
  (case dh=>rfl)
end
