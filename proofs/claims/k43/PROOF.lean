import PyProof.Rows.All
import Wide.All
import OpenK.AllK
import Wide.FinOn
import PyProof.EqAt
import PyProof.EqKinds
import PyProof.TupleCall
import Lean
import PySem.Challenge.RW_samestride_k43_whole_graph_in_step
noncomputable section
set_option Elab.async false
set_option linter.all false
set_option maxRecDepth 100000
open PySem renaming wpAny_bind->Ya,Shared->Yb,sizeLine->Yc,wpAny_pure->Yd,mainGlobals->Ye,sysModules->Yf,wpAny_mono->Yg,World->Yh,Program->Yi,Addr->Yj,Value->Yk,wpAny_newObj_type->Yr,starEach->YA,wpAny->YB,sizeLine_eq->YC,Heap->YG,Around->YH,mem_of_lookup->YI,compareOp->YM,wpAny_field->YQ,backTo->YR,wpAny_Call_Name_kw->YV,keywordEach->YY,wpAny_callSpecial?_slot->YZ,wpAny_holding->Wc,wpAny_call_entry->We,wpAny_of_eq->Wi
open PySem.W renaming Frag->Yl,nsIn->Ym,findIn->YJ,mg_of->YO,subIn->YT,keepIn->Wb,instObj->Wf
open PySem.Heap renaming lt_size->Yn,get?_update_other->YN,get?_update_self->YU,get?_push_of_some->Od,get?_push_size->Oj
open PySem.NameKind renaming free->Yo
open PySem.PyData renaming strOk->Yp
open PySem.StrLaws renaming sliceText->Yq
open List renaming mem_append_left->Ys,append_nil->Yt,length_map->Yu,replicate->YK,any_cons->Wa,lookup->Wg,find?_cons->Wm,getElem?_eq_some_iff->Ob,getElem?_set_ne->Oc,getElem?_append_left->Oe,size_toArray->Of,getElem?_eq_getElem->Og,mem_cons_of_mem->Oh,mem_cons_self->Oi,mem_of_getElem?->O1,getElem?_set_self->Ol,getElem?_append_right->Om,getElem?_map->On,map_cons->Op,mem_cons->O2,length_cons->Os,mem_append_right->Ov,mem_singleton->Ox,map_nil->Oy,append_assoc->Oz,length_append->OA,nil_append->OB,all_eq_true->OC,mem_append->OD,lookup_cons->OF,sum_cons->OI,getElem?_cons_zero->OJ,getElem?_cons_succ->O0
open Option renaming map_some->Yv,bind_some->Yz,some->J,none->M,map_eq_some_iff->Oo
open Nat renaming lt_irrefl->Yw,zero_le->Yy,le_refl->Oq,lt_of_lt_of_le->Ot,ne_of_lt->Ou,le_trans->OE,lt_succ_self->OH
open PySem.Value renaming ref->YD
open Sum renaming inr->YE
open Option.some renaming inj->YF
open Ne renaming symm->YL
open PySem.F renaming plain_max_loop->YS
open PySem.Obj renaming data_mapFields->YW
open Function renaming comp_def->YX
open PyProof.Rows renaming slot_tuple_getitem->Wh
open PySem.Builtin.List renaming listTooLong->Wj
open Bool renaming or_eq_true->Wo,true->Ws,false->Wt,and_eq_true->Oa,false_ne_true->Ow,false_eq_true->OG
open Decidable renaming decide->Wu
open PySem.Str renaming ofString->O
set_option genSizeOf false
section
open PySem PySem.W PyProof.Rows
set_option maxHeartbeats 0
structure PySem.W.Fast:Prop where(tw9904688347800751236 tw10166105484301575855 tw6740515823417056457 tw7554336648781979561 tw4772279851786442772 tw11550712077707995178 tw5321827199231454360 tw10901829155817252575 tw17601993431515991633 tw14196502426673988904 tw966247657667625502 tw17189003283656554409 tw12800556460918907949 tw2188493136006392562 tw7175486194633527866 tw99449502601153583 tw9674018880978248120 tw14482083195647586852 tw7605922790524466051 tw17257988256926458648 tw10184788376729223395 tw10195369662021901936 tw2161798312205362880 tw10164261570060387633 tw18025668536714428575 tw10949020113353873131 tw737768082881419225 tw10496802620838426668 tw9820587320978860335 tw15004381555812986913 tw3665376459165397873 tw5946718886551259088 tw16657721582720827765 tw1238286950592533444 tw16304752433148052655 tw15291083885955610476 tw9306226769609545577 tw11570548212126832802 tw2699793641109602358 tw11641774434195149454 tw9361561108338973544 tw18106950829600974178 tw12389563375276787714 tw9154884440009048187 tw9315247421851626397 tw14738858857411286958 tw5161752559514864330 tw5851878755588835875 tw6625199342630637516 tw12727828443320982697 tw10129525407684337290 tw3965528358950279447 tw16993603170150008379 tw5975658920503365038 tw16253949440045297363 tw3887044847417710750 tw15919568596618727378 tw7020303219985961579 tw5322056678427107613 tw17904118889581088113 tw1245407341207373458 tw12310950830942218520 tw4171791223591086181 tw11842706928650653298 tw11326979978755639507 tw10629277038652869030 tw15307645285646287794 tw6878647308544347465 tw6853755491670645446 tw11953187911854523537 tw11192519261264187841 tw8639713512662425891 tw16561965691605362879 tw10995501320117491464 tw7357623374187549539 tw14007926192696500122 tw8513880639906401625 tw4739218721216483203 tw12532798158961309930 tw13725793424818890106 tw16666512268896736750 tw1019233705196480660 tw13583956604993615187 tw2321884212298781810 tw145058812391292698 tw3404681078549021555 tw3491337766490269379 tw10248618171844923891 tw13493193207819698262 tw18214888174663783042 tw8609854733987331610 tw1770086985453597198 tw7215833012700926205 tw10359130024276188850 tw8442272191535816763 tw11510738159639023411 tw18149480662574133730 tw2739873089401881847 tw701044689154182253 tw10038650572867607930 tw17690322107634518171 tw1916916936538843690 tw16511428513535749562 tw14010772778915865515 tw2634349814841558715 tw11537939536288567192 tw7339842064765333978 tw7055188335831931157 tw10568370980224352152 tw15269679554362065542 tw9514680120652449490 tw16358386579427872476 tw13228502367772359839 tw11452109247559154547 tw2594131499517507096 tw6065902386442065955 tw71036396875987304 tw4682051872061107741 tw1713891774661526217 tw10128235448398172912 tw13445229660581168911 tw14192132442147221038 tw2799232733357514429 tw11957662675096298209 tw2235945163022986561 tw18192631758565498293 tw16768111682503959975 tw11846125296680073688 tw13726353170414044491 tw12067050500526582521 tw4888223590023421527 tw3339003863520376917 tw15006747942737592895 tw17354057253825415916 tw14249780365317775737 tw11005426869282219796 tw625767198631983012 tw8030246591915081213 tw6210787143531056931 tw11659759357935964869 tw1522667307433257101 tw8148400395199202019 tw18173206922457324462 tw18285494219765368331 tw14065317662191785884 tw9020177651551802361 tw11253964065661116493 tw15841981844670424157 tw17230484323538675141 tw11034618411135405124 tw15498655702962500554 tw5483952931907569106 tw214179417718369991 tw5796018268369821631 tw14759632450187521060 tw15640787014048687779 tw18319414675944240899 tw6601521630007515305 tw16358314211516978561 tw9688222319945111501 tw14886762683956869095 tw7570708447985534178 tw5890138005919404318 tw2803689480454948715 tw798702908444342495 tw10367829055653383210 tw60596822699740292 tw4777567695933702479 tw13345224649199885786 tw16310187846869374575 tw2863793023710881049 tw12999957421676292566 tw16392281639230450076 tw6882932381555568558 tw15290957012649839726 tw11383351084766371162 tw6878356238095868525 tw17259844588015959359 tw11962077402071995727 tw3941295472048758948 tw17750040992287914778 tw829620504728739976 tw8291359009599730159 tw8061971792066103560 tw16380195598309621676 tw9136650257539472306 tw18116608763237928509 tw6177604667722335439 tw10287397483041499310 tw3369093737097416596 tw786634352213519036 tw1061985034156941736 tw6145867321295252846 tw13541813905857488043 tw444795664729136099 tw10540526073946640522 tw6559731155404781073 tw7651201519944978389 tw10210461600810675228 tw10449367798077945661 tw10101677895030822535 tw7471183377864445899 tw3576358802788042383 tw17472233153543317831 tw13137472679678206768 tw895259437906480445 tw17663466618720143656 tw391962479119166764 tw5886271301603347854 tw12901353366675029175 tw16735330929702106715 tw6597672023360854066 tw18277877457436094731 tw1175653619410087521 tw4257690773526596394 tw11254373809096020470 tw8974056372972332412 tw12542833421960786265 tw14118721935028762484 tw10370416314465048090 tw4731786379941840826 tw12225244361431521844 tw11967236297202803763 tw7266532970635399819 tw16430784552409549824 tw545959935369712174 tw12179201237616065525 tw9639023714097096507 tw3341253508410405995 tw27958407080012530 tw2363848767088883801 tw15161628581471674403 tw17978212964687166786 tw5593890364962198600 tw6308906262805421380 tw3967711883872010594 tw2004157561786783936 tw3147234746869214533 tw5454371499939511854 tw3761279826249624629 tw13180052894357222807 tw3099533338932118368 tw2035028634859486267 tw13136251469736136828 tw17335507821562939325 tw11946289110099426301 tw3897425881774029122 tw4323680745435260610 tw9545294059497264263 tw13898704485648645189 tw3442901316463454560 tw14547241402828873088 tw7987908768116832160 tw2013775276758776001 tw5406095934734034276 tw680321127378978759 tw6041525097596908840 tw18223256837412399465 tw5062556725732702602 tw7180420041954397773 tw2417337553219745485 tw12724480316650024366 tw10807821028200976784 tw1465453614914690706 tw5045261968317137299 tw14839800998250797747 tw17011772096641466741 tw9014538280142282039 tw17784095717647740279 tw530322305376053815 tw2504106584675640793 tw16953184502911522202 tw6343257514236028091 tw22844339631177244 tw5560941798815406622 tw3875074879707760591 tw6946211502373805793 tw4102973959861136611 tw11607914098102365349 tw6538631480252054381 tw1996640943161369497 tw8942448396189615659 tw12196630520005375233 tw10131038505862352339 tw10225220036288549624 tw673413948520804891 tw14628008596645690591 tw8286779427606779590 tw8607720135590560973 tw7731098568770838973 tw11555539902018737372 tw12422421501580920602 tw15674166890232459362 tw12563890654850658479 tw14072448968549351743 tw460291257328211857 tw12235184072562706164 tw18440736815893935028 tw699284992590539931 tw4967065151972999131 tw16273116396283534868 tw8037844866235008910 tw11585789095423307836 tw13748264726777787422 tw12722623729283494207 tw15308562356119258755 tw12662869893883129540 tw656330703899025607 tw14418857535738758024 tw8559602609110950447 tw1366906975427058357 tw2248348633759067192 tw17902049111662455739 tw12487225800456647576:True)
open_top K43hd for PySem.Challenge.rw_samestride_k43_whole_graph_in_step
end
namespace L2
open PySem PySem.Spec PyProof.Rows
noncomputable abbrev NK:=Int×List Str
section
variable {prog:Yi}{w:Yh}{A:YH}{E:Yk->Yb->Prop}{s:Yb}
def Zeb(prog:Yi)(w:Yh)(h:YG)(k:NK)(a:Yj):Prop:=∃o t b m,h.get? a=J o/\o.cls=.type "tuple" /\ o.data=.seq #[.int k.1 t,.ref b] m/\IsTupleKey (PySem.strKind prog w) h k.2 b
def Zeb.typeIs{k}(x:Zeb prog w s.heap k a):s.TypeIs (.ref a) "tuple" := let⟨o,_,_,_,ho,hc,_⟩:=x;⟨o,ho,hc⟩
theorem Zeb.inj{h}{x y}(hx:Zeb prog w h x a)(hy:Zeb prog w h y a):x=y:=by obtain⟨o,t,b,m,ho,_,hd,hi⟩:=hx;obtain⟨o',t',b',m',bW,_,dN,bY⟩:=hy;obtain rfl:o=o':=YF<|ho.symm.trans bW;rw[hd]at dN;injection dN with R _;simp at R;obtain⟨⟨h2,_⟩,rfl⟩:=R;exact Prod.ext h2 (hi.inj bY)
theorem Zeb.keeps{h h'}{k}{a d}{o}{es ep}(x:Zeb prog w h k a)(ho:h.get? d=J o)(hd:o.data=.dict es ep)(hs:Heap.SameBut d h h'):Zeb prog w h' k a:=by
 obtain⟨o',t,b,m,bW,hc,dN,hi⟩:=x;exact⟨o',t,b,m,(hs.2 a (by
  rintro rfl
  simp_all)).trans bW,hc,dN,hi.keeps ho hd hs⟩
noncomputable def Zlo(w:Yh)(k:NK):Int:=reduceHash (Builtin.Tuple.tupleHashOf [hashInt k.1,reduceHash<|Builtin.Tuple.tupleHashOf<|k.2.map<|hashStr w])
def ZsR{k}{a}{Q}(hu:A.units+1<cLine)(hk:Zeb prog w s.heap k a)(h:Q (Zlo w k) {s with toks:=s.toks+(k.2.length+3)}):
 YB (model prog w) A (pyHash<|.ref a) Q E s:=by
 have hT:=hk.typeIs;obtain⟨o,t,b,m,ho,_,hd,hi⟩:=hk
 first|refine Ya (wpAny_cRoomFor_or (.inr<|by lia) ?_)|skip
 refine Ya<|wpAny_specialOf hT PySem.F.slot_tuple_hash.lookup<|Ya<|wpAny_specialOf hT PySem.F.slot_tuple_hash.lookup ?_;refine Ya<|wpAny_callSpecialIfBoundUnlessNone?_slot hT PySem.F.slot_tuple_hash<|We PySem.F.slot_tuple_hash hT PySem.F.entry_tuple_hash ?_<|PySem.F.args_tuple_hash_1 _;show YB _ _ (Builtin.Tuple.tupleItemsOf (.ref a) >>= _) _ _ s;refine Ya<|wpAny_tupleItemsOf ho hd<|Ya ?_;rw[<-Array.forIn_toList];refine wpAny_forIn_list _
  (λag (r) s'=>(ag=[.int k.1 t,.ref b]/\r=#[]/\s'=s)\/(ag=[.ref b]/\r.toList=[hashInt k.1]/\s'={s with toks:=s.toks+1})\/(ag=[]/\r.toList=[hashInt k.1,reduceHash<|Builtin.Tuple.tupleHashOf<|k.2.map<|hashStr w]/\s'={s with toks:=s.toks+1+(k.2.length+1)}))
  _ ?_ ?_ _ _ (.inl ⟨rfl,rfl,rfl⟩)
 . rintro x ag r s' (⟨e,rfl,rfl⟩|⟨e,hr,rfl⟩|⟨e,_⟩)
   . cases e;refine Ya (wpAny_pyHash_int ?_)
     first
      |exact Yd (.inr (.inl ⟨rfl,rfl,rfl⟩))
      |exact Ya (Yd (Yd (.inr (.inl ⟨rfl,rfl,rfl⟩))))
   . cases e;refine Ya (wpAny_pyHash_tuple (knd:=PySem.strKind prog w) (ks:=k.2) ?_ hi ?_)
     . first|exact hu|lia
     . first
        |exact Yd (.inr (.inr ⟨rfl,by simp[hr];rfl,rfl⟩))
        |exact Ya (Yd (Yd (.inr (.inr ⟨rfl,by simp ;rfl,rfl⟩))))
   . cases e
 . rintro r s' (⟨e,_⟩|⟨e,_⟩|⟨_,hr,rfl⟩)
   . cases e
   . cases e
   . show YB _ _ (retInt<|Builtin.Tuple.tupleHashOf r.toList) _ _ _;rw[hr];refine wpAny_ret_mkInt ?_;unfold Zlo at h;generalize Builtin.Tuple.tupleHashOf [hashInt k.1,reduceHash<|Builtin.Tuple.tupleHashOf<|k.2.map<|hashStr w]=z at h;show YB _ _ (if (Wu (-(2)^63<=z)&&Wu (z<2^63))=Ws then _ else _) Q E _;unfold reduceHash at h;have e:s.toks+1+(k.2.length+1)+1=s.toks+(k.2.length+3):=by lia
     by_cases hr:(Wu (-(2)^63<=z)&&Wu (z<2^63))=Ws
     . rw[if_pos hr];rw[if_pos hr]at h;exact Yd (by simpa[e]using h)
     . rw[if_neg hr];rw[if_neg hr]at h;exact Ya (wpAny_rule<|Yd<|by simpa[e]using h)
def ZlP{x y}{a b}{P}(hu:A.units<cLine)(hx:Zeb prog w s.heap x a)(hy:Zeb prog w s.heap y b)(h:P (.done<|.ret<|.bool<|Wu<|x=y) s):
 YB (model prog w) A (Builtin.«tuple.__eq__» ⟨[.ref a,.ref b],[]⟩) P E s:=by
 have mZ:=hy.typeIs;obtain⟨oa,ta,ba,na,ml,_,mS,mJ⟩:=hx;obtain⟨ob,tb,bb,nb,mj,_,bj,mI⟩:=hy;show YB _ _ (isInstance (.ref b) (.type "tuple") >>= _) _ _ s;refine Ya (wpAny_isInstance mZ isSubtype_tuple_tuple (Ya (wpAny_tupleItemsOf ml mS (Ya (wpAny_tupleItemsOf mj bj (Ya (wpAny_forIn_list _
  (λag r s'=>r.1=M/\s'=s/\(ag=[(Value.int x.1 ta,Value.int y.1 tb),(.ref ba,.ref bb)]\/(ag=[(.ref ba,.ref bb)]/\x.1=y.1)\/(ag=[]/\x=y)))
  _ ?_ ?_ _ _ ⟨rfl,rfl,.inl rfl⟩)))))))
 . rintro ⟨u,v⟩ ag r s' ⟨hr,rfl,e|⟨e,e1⟩|⟨e,_⟩⟩
   . cases e;refine Ya<|wpAny_eqBool_int ?_;by_cases hk:x.1=y.1
     . rw[show(x.1==y.1)=Ws by simpa using hk];simp only;exact Yd ⟨rfl,rfl,by first|exact .inr (.inl ⟨trivial,hk⟩)|simp ⟩
     . rw[show(x.1==y.1)=Wt by simpa using hk];simp only;rw[decide_eq_false λe=>hk<|by rw[e]]at h;exact Ya (Yd<|Yd<|Yd h)
   . cases e;refine Ya<|wpAny_eqBool_tuple (knd:=PySem.strKind prog w) hu mJ mI ?_;by_cases hk:x.2=y.2
     . rw[decide_eq_true hk];simp only;exact Yd ⟨rfl,rfl,by first|exact .inr (.inr ⟨trivial,Prod.ext e1 hk⟩)|simp ⟩
     . rw[decide_eq_false hk];simp only;rw[decide_eq_false λe=>hk<|by rw[e]]at h;exact Ya (Yd<|Yd<|Yd h)
   . cases e
 . rintro ⟨r1,r2⟩ s' ⟨hr,rfl,e|⟨e,_⟩|⟨_,e⟩⟩
   . cases e
   . cases e
   . simp only at hr;subst hr;refine Yd ?_;rw[decide_eq_true e]at h;exact h
def Zyz{x y}{a b}{Q}(hu:A.units+1<cLine)(hx:Zeb prog w s.heap x a)(hy:Zeb prog w s.heap y b)(h:Q (Wu<|x=y) s):
 YB (model prog w) A (eqBool (.ref a)<|.ref b) Q E s:=by
 unfold eqBool
 try with_reducible refine Wc ?_
 by_cases cr:(YD a==YD b)=Ws
 . rw[if_pos cr];have e:=by injection eq_of_beq cr
   subst e;obtain rfl:=hx.inj hy;exact Ya (wpAny_rule<|Yd<|by simpa using h)
 . rw[if_neg cr];exact Ya (wpAny_richCompare_same_room (op:=.Eq) hx.typeIs hy.typeIs PySem.F.slot_tuple_eq
    (We PySem.F.slot_tuple_eq hx.typeIs PySem.F.entry_tuple_eq (ZlP (by first|exact hu|lia) hx hy ⟨_,rfl,(λe=>nomatch e),wpAny_truthy_bool h⟩)<|PySem.F.args_tuple_eq_2 _ _)<|by lia)
def Zpo{n}{ks}{a}{Q}(hk:IsTupleKey (PySem.strKind prog w) s.heap ks a)(h:Q Ws s):YB (model prog w) A (eqIsQuiet (n+1)<|.ref a) Q E s:=by
 have hT:=hk.typeIs;obtain⟨o,items,n,ho,_,hd,hi⟩:=hk;unfold eqIsQuiet;refine Ya<|wpAny_specialOf hT PySem.F.slot_tuple_eq.lookup<|Ya<|wpAny_isInstance hT isSubtype_tuple_tuple<|Ya<|wpAny_seqItems ho hd<|Ya ?_;rw[<-Array.forIn_toList];refine wpAny_forIn_list _ (λag r s'=>r.1=M/\s'=s/\∀v∈ag,carriedByValue v=Ws) _ ?_ ?_ _ _ ⟨rfl,rfl,hi.byValue⟩
 . rintro v ag r s' ⟨hr,rfl,aY⟩;rw[eqIsQuiet_byValue _<|aY v Oi];exact Yd ⟨rfl,rfl,λu lW=>aY u<|Oh _ lW⟩
 . rintro ⟨r1,r2⟩ s' ⟨hr,rfl,_⟩;subst hr;exact Yd h
def Zpn{k}{a}{Q}(hk:Zeb prog w s.heap k a)(h:Q Ws s):YB (model prog w) A (eqIsQuiet 8<|.ref a) Q E s:=by
 have hT:=hk.typeIs;obtain⟨o,t,b,n,ho,_,hd,hi⟩:=hk;unfold eqIsQuiet;refine Ya<|wpAny_specialOf hT PySem.F.slot_tuple_eq.lookup<|Ya<|wpAny_isInstance hT isSubtype_tuple_tuple<|Ya<|wpAny_seqItems ho hd<|Ya ?_;rw[<-Array.forIn_toList];refine wpAny_forIn_list _ (λag r s'=>r.1=M/\s'=s/\(ag=[Value.int k.1 t,.ref b]\/ag=[.ref b]\/ag=[])) _ ?_ ?_ _ _ ⟨rfl,rfl,.inl rfl⟩
 . rintro v ag r s' ⟨hr,rfl,e|e|e⟩
   . cases e;exact Yd ⟨rfl,rfl,by simp⟩
   . cases e;refine Ya<|Zpo hi ?_;simp only;exact Yd ⟨rfl,rfl,by first|exact .inr (.inr trivial)|simp⟩
   trivial
 . rintro ⟨r1,r2⟩ s' ⟨hr,rfl,_⟩;simp only at hr;subst hr;exact Yd h
end
def Zln(prog:Yi)(w:Yh):HeapKind prog w NK where
 is:=Zeb prog w
 hash:=Zlo w
 draws:=λk=>k.2.length+3
 room:=λA=>A.units+1<cLine
 inj:=λhx hy=>hx.inj hy
 keeps:=λx ho hd hs=>x.keeps ho hd hs
 pyHash:=λhu hk h=>ZsR hu hk h
 eqBool:=λhu hx hy h=>Zyz hu hx hy h
 quiet:=λhk h=>Zpn hk h
noncomputable abbrev Key:=Sum Int Str
noncomputable def Zg4:Key->Yk->Bool
 |.inl k,v=>Value.isInt k v
 |.inr x,v=>Value.isStrOf x v
noncomputable def ZzQ(w:Yh):Key->Int
 |.inl k=>hashInt k
 |.inr x=>hashStr w x
def ZL:∀{k}{v},Zg4 k v=Ws->(∃i t,k=Sum.inl i/\v=Value.int i t)\/(∃x t,k=YE x/\v=Value.str x t)
 |.inl i,v,h=>by obtain⟨t,e⟩:=Value.isInt_shape h;exact .inl ⟨i,t,rfl,e⟩
 |.inr x,v,h=>by obtain⟨t,e⟩:=Value.isStrOf_shape h;exact .inr ⟨x,t,rfl,e⟩
def Zog(i)(t):Zg4 (.inl i) (.int i t)=Ws:=by simp[Zg4,Value.isInt]
def Zv(x)(t):Zg4 (.inr x) (.str x t)=Ws:=by simp[Zg4,Value.isStrOf]
def ZvG(a b):Wu ((Sum.inl a:Key)=Sum.inl b)=(a==b):=by
 by_cases e:a=b
 . subst e;simp
 simp_all
def ZvD(a b):Wu ((YE a:Key)=YE b)=Wu (a=b):=by simp
def ZvF(a)(b):Wu ((Sum.inl a:Key)=YE b)=Wt:=decide_eq_false (λq=>nomatch q)
def ZvE(a)(b):Wu ((YE a:Key)=Sum.inl b)=Wt:=decide_eq_false (λq=>nomatch q)
def ZP(prog:Yi)(w:Yh):PySem.KeyKind prog w Key where
 is:=Zg4
 hash:=ZzQ w
 inj:=λv a b ha hb=>by
  rcases ZL ha with⟨i,t,rfl,rfl⟩|⟨x,t,rfl,rfl⟩
  . rcases ZL hb with⟨j,u,rfl,e⟩|⟨y,u,rfl,e⟩
    . injection e with e1 _;rw[e1]
    . exact nomatch e
  . rcases ZL hb with⟨j,u,rfl,e⟩|⟨y,u,rfl,e⟩
    . exact nomatch e
    . injection e with e1 _;rw[e1]
 byValue:=λk v h=>by rcases ZL h with⟨i,t,rfl,rfl⟩|⟨x,t,rfl,rfl⟩<;>rfl
 pyHash:=λhv h=>by
  rcases ZL hv with⟨i,t,rfl,rfl⟩|⟨x,t,rfl,rfl⟩
  . exact wpAny_pyHash_int h
  . exact wpAny_pyHash_str h
 eqBool:=λhu hv h=>by
  rcases ZL hu with⟨i,t,rfl,rfl⟩|⟨x,t,rfl,rfl⟩
  . rcases ZL hv with⟨j,u,rfl,rfl⟩|⟨y,u,rfl,rfl⟩
    . rw[ZvG]at h;exact wpAny_eqBool_int h
    . rw[ZvF]at h;exact SeqAt.EqAt.int_str i t y u _ _ _ _ h
  . rcases ZL hv with⟨j,u,rfl,rfl⟩|⟨y,u,rfl,rfl⟩
    . rw[ZvE]at h;exact SeqAt.EqAt.str_int x t j u _ _ _ _ h
    . rw[ZvD]at h;exact wpAny_eqBool_str h
 «strs»:=λk x t v h=>by
  rcases ZL h with⟨i,u,rfl,e⟩|⟨y,u,rfl,e⟩
  . exact nomatch e
  . injection e with e1 _;subst e1;cases v<;>rfl
def Zj5(prog)(w)(i)(t):(ZP prog w).is (.inl i) (.int i t)=Ws:=Zog i t
def Zj4(prog)(w)(x)(t):(ZP prog w).is (.inr x) (.str x t)=Ws:=Zv x t
inductive V where
 |non|bl (b:Bool)|int (i:Int)|str (x:Str)|byt (b:Array UInt8)|flt (b:UInt64)|ref (a:Yj)|ty (n:String)
 deriving DecidableEq
def RelV:V->Yk->Prop
 |.non,u=>u=Value.none
 |.bl b,u=>u=Value.bool b
 |.int i,u=>∃t,u=Value.int i t
 |.str x,u=>∃t,u=Value.str x t
 |.byt b,u=>∃t,u=Value.bytes b t
 |.flt b,u=>∃t,u=Value.float b t
 |.ref a,u=>u=YD a
 |.ty n,u=>u=Value.type n
abbrev Zn:List V->List Yk->Prop:=Paired RelV
theorem Zn.length(r:Zn xs us):xs.length=us.length:=Paired.length r
theorem Zn.get:∀{xs}{us}{i:Nat}{x},Zn xs us->xs[i]?=J x->∃u,us[i]?=J u/\RelV x u
 |_,_,_,_,.nil,e=>by trivial
 |_,_,0,_,.cons r _,e=>by simp at e;subst e;exact⟨_,rfl,r⟩
 |_,_,i+1,x,.cons _ t,e=>by obtain⟨u,R,h2⟩:=Zn.get t (by trivial);exact⟨u,by trivial,h2⟩
theorem Zn.set(r:RelV x u):∀{xs}{us} (i),Zn xs us->Zn (xs.set i x) (us.set i u)
 |_,_,_,.nil=>.nil
 |_,_,0,.cons _ t=>.cons r t
 |_,_,i+1,.cons q t=>.cons q (Zn.set r i t)
theorem Zn.append:∀{xs ys}{us ws},Zn xs us->Zn ys ws->Zn (xs++ys) (us++ws)
 |_,_,_,_,.nil,s=>s
 |_,_,_,_,.cons r t,s=>.cons r (Zn.append t s)
theorem Zn.take:∀{xs}{us} (n),Zn xs us->Zn (xs.take n) (us.take n)
 |_,_,0,_=>.nil
 |_,_,_+1,.nil=>.nil
 |_,_,n+1,.cons r t=>.cons r (Zn.take n t)
theorem Zn.drop:∀{xs}{us} (n),Zn xs us->Zn (xs.drop n) (us.drop n)
 |_,_,0,r=>r
 |_,_,_+1,.nil=>.nil
 |_,_,n+1,.cons _ t=>Zn.drop n t
def ZeM:Option V->Option Yk->Prop
 |some v,J u=>RelV v u
 |none,M=>True
 |_,_=>False
def KV:List (κ×V)->List (κ×Yk)->Prop:=Paired λ(p:κ×V) (q:κ×Yk)=>p.1=q.1/\RelV p.2 q.2
noncomputable def kV:Key->V
 |.inl i=>.int i
 |.inr x=>.str x
inductive HO where
 |lst (xs:List V)
 |tup (xs:List V)
 |dK (kvs:List (Key×V))|dT (kvs:List (NK×Yj×Yk))
 |set (S_:Int->Bool) (n:Nat)
 |ins (C dx:Yj) (fs:List (Str×V))
 |own (x:Yj)
 |xd (fs:List (Str×V))
 |met (f x:Yj)
 |rng (lo hi:Int)
 |frz (o:Obj) (u:HO)
 |tbl (ps:Array Yk)
 |ext (φ:YG->Prop)
abbrev Hp:=Yj->Option HO
noncomputable def upd(H:Hp)(a:Yj)(o:HO):Hp:=λb=>if b=a then J o else H b
def Zh:upd H a o a=J o:=by unfold upd;simp
def Zl(h:b≠a):upd H a o b=H b:=by unfold upd;rw[if_neg h]
def ZQ{H:Hp}(h:H a=J o)(h':H b=M):a≠b:=by intro e;simp_all
section
variable (P:Yi)(w:Yh)
def ZbT(h:YG)(a:Yj)(items:Array Yk):Prop:=∃o,h.get? a=J o/\o.cls=.type "tuple" /\ o.dict=M/\∃n,o.data=.seq items n
theorem ZbT.tup(x:ZbT h a items):IsTup h a items:=let⟨o,ho,hc,_,r⟩:=x;⟨o,ho,hc,r⟩
theorem ZbT.fresh(h:YG)(items):ZbT (h.push {cls:=.type "tuple",data:=.seq items}) h.objs.size items:=⟨_,Oj _ rfl,rfl,rfl,_,rfl⟩
def Zag(H:Hp)(h:YG)(a:Yj):HO->Prop
 |.lst xs=>xs.length<=Yc/\∃(its:List Yk) (n:Nat),Zn xs its/\h.get? a=J {cls:=.type "list",data:=.seq its.toArray n}
 |.tup xs=>xs.length<=Yc/\∃its:List Yk,Zn xs its/\ZbT h a its.toArray
 |.dK kvs=>kvs.length<=Yc/\(a==Yf)=Wt/\∃vs,KV kvs vs/\h.DictOf (ZP P w) a vs
 |.dT kvs=>kvs.length<=Yc/\(a==Yf)=Wt/\∃o es ep,h.get? a=J o/\o.ExactDict/\o.data=.dict es ep/\es.toList=kvs.map (entryOfKey<|Zln P w)/\(kvs.map (·.1)).Nodup
 |.set S_ n=>h.SetOf (intKind P w) a S_ n
 |.ins C dx fs=>H dx=J (.own a)/\fs.length<=1000/\dx≠a/\h.get? a=J (Wf C dx) /\
  ∃mA,h.Ns1 dx mA/\(∀f,ZeM (fs.lookup f)<|mA f)/\PySem.Within mA (fs.map (·.1))
 |.own _=>∃o,h.get? a=J o
 |.xd fs=>∃mA,h.Ns1 a mA/\∀f,ZeM (fs.lookup f) (mA f)
 |.rng lo hi=>∃t u v,h.get? a=J {cls:=.type "range",data:=.fields #[.int lo t,.int hi u,.int 1 v]}
 |.frz o u=>h.get? a=J o/\Zag H h a u
 |.tbl ps=>h.get? a=J {cls:=.none,data:=.fields ps}
 |.met f x=>h.get? a=J (PySem.W.methodObj (.ref f)<|.ref x)
 |.ext φ=>φ h/\(∃o,h.get? a=J o)/\∀R h2:YG,φ R->(∀o,R.get? a=J o->h2.get? a=J o)->φ h2
def HOk(H:Hp)(h:YG):Prop:=∀a o,H a=J o->Zag P w H h a o
end
section
variable {P:Yi}{w:Yh}{H H':Hp}{h h':YG}{a:Yj}{o:HO}
theorem Zag.lt(x:Zag P w H h a o):a<h.objs.size:=by
 cases o with
 |lst xs=>obtain⟨_,_,_,_,e⟩:=x;exact Yn e
 |tup xs=>obtain⟨_,_,_,p⟩:=x;exact p.tup.lt
 |dK kvs=>obtain⟨_,_,_,_,o,_,_,e,_⟩:=x;exact Yn e
 |dT kvs=>obtain⟨_,_,o,_,_,e,_⟩:=x;exact Yn e
 |set S_ n=>obtain⟨o,_,_,_,e,_⟩:=x;exact Yn e
 |ins C dx fs=>exact Yn x.2.2.2.1
 |own y=>obtain⟨_,e⟩:=x;exact Yn e
 |xd fs=>obtain⟨_,⟨_,_,_,e,_⟩,_⟩:=x;exact Yn e
 |rng lo hi=>obtain⟨_,_,_,e⟩:=x;exact Yn e
 |frz ob u=>exact Yn x.1
 |tbl ps=>exact Yn (x)
 |met f y=>exact Yn (x)
 |ext φ=>obtain⟨_,⟨_,e⟩,_⟩:=x;exact Yn e
theorem Paired.mapP:∀{l₁:List α}{l₂:List β},Paired F l₁ l₂->(∀a b,F a b->G a b)->Paired G l₁ l₂
 |_,_,.nil,_=>.nil
 |_,_,.cons r t,f=>.cons (f _ _ r) (Paired.mapP t f)
def Zag.stay(x:Zag P w H h a o)(k:∀b u,(b=a\/H b=J (.own a))->h.get? b=J u->h'.get? b=J u)
 (ho:∀b,H b=J (.own a)->H' b=J (.own a)) (ht:∀b xs,H b=J (.tup xs)->H' b=J (.tup xs)):Zag P w H' h' a o:=by
 induction o with
 |lst xs=>obtain⟨z,its,n,r,e⟩:=x;exact⟨z,its,n,r,k _ _ (.inl rfl) e⟩
 |tup xs=>obtain⟨z,its,r,ob,e,c⟩:=x;exact⟨z,its,r,ob,k _ _ (.inl rfl) e,c⟩
 |dK kvs=>obtain⟨z,y,vs,r,ob,es,ep,e,c⟩:=x;exact⟨z,y,vs,r,ob,es,ep,k _ _ (.inl rfl) e,c⟩
 |dT kvs=>obtain⟨z,y,ob,es,ep,e,c⟩:=x;exact⟨z,y,ob,es,ep,k _ _ (.inl rfl) e,c⟩
 |set S_ n=>obtain⟨ob,es,ep,t,e,c⟩:=x;exact⟨ob,es,ep,t,k _ _ (.inl rfl) e,c⟩
 |ins C dx fs=>obtain⟨d,z,ne,e,mA,⟨od,es,ep,e2,c⟩,r⟩:=x;exact⟨ho _ d,z,ne,k _ _ (.inl rfl) e,mA,⟨od,es,ep,k _ _ (.inr d) e2,c⟩,r⟩
 |own y=>obtain⟨ob,e⟩:=x;exact⟨ob,k _ _ (.inl rfl) e⟩
 |xd fs=>obtain⟨mA,⟨od,es,ep,e,c⟩,r⟩:=x;exact⟨mA,⟨od,es,ep,k _ _ (.inl rfl) e,c⟩,r⟩
 |rng lo hi=>obtain⟨t,u,v,e⟩:=x;exact⟨t,u,v,k _ _ (.inl rfl) e⟩
 |frz ob u ih=>exact⟨k _ _ (.inl rfl) x.1,ih x.2⟩
 |tbl ps=>exact k a _ (.inl rfl) x
 |met f y=>exact k a _ (.inl rfl) x
 |ext φ=>obtain⟨p,⟨o,e⟩,st⟩:=x;exact⟨st _ _ p λo q=>k _ _ (.inl rfl) q,⟨o,k _ _ (.inl rfl) e⟩,st⟩
theorem HOk.lt(x:HOk P w H h)(e:H a=J o):a<h.objs.size:=(x a o e).lt
def HOk.fresh(x:HOk P w H h)(e:h.objs.size<=a):H a=M:=by
 cases q:H a with
 |none=>rfl
 |some u=>exact absurd (Ot (x.lt q) e) (Yw _)
def HOk.kept(x:HOk P w H h)(k:∀b u,h.get? b=J u->h'.get? b=J u):HOk P w H h':=λa o e=>(x a o e).stay (λb u _ q=>k b u q) (λ_ q=>q) λ_ _ q=>q
def HOk.laid(x:HOk P w H h)(k:∀b u,h.get? b=J u->h'.get? b=J u)(hp:h.objs.size<=a)(new:Zag P w (upd H a o) h' a o):HOk P w (upd H a o) h':=λb u e=>by
 by_cases hb:b=a
 . subst hb;rw[Zh]at e;simp_all
 . rw[Zl hb]at e;exact(x b u e).stay (λc v _ q=>k c v q) (λc q=>(Zl<|ZQ q<|x.fresh hp).trans q) λc xs q=>(Zl<|ZQ q<|x.fresh hp).trans q
end
def Rd(H:Hp)(a:Yj)(u:HO):Prop:=H a=J u\/∃o,H a=J (.frz o u)
def Rd.ok{P}{w}{H}{h}{a}{u}(r:Rd H a u)(x:HOk P w H h):Zag P w H h a u:=by
 rcases r with r|⟨o,r⟩
 . exact x a u r
 . obtain⟨_,q⟩:=x a _ r;exact q
def Mut:Option HO->Prop
 |some (.lst _)=>True
 |some (.dK _)=>True
 |some (.dT _)=>True
 |some (.set _ _)=>True
 |some (.ins _ _ _)=>True
 |some (.ext _)=>True
 |_=>False
section
variable {P:Yi}{w:Yh}{H:Hp}{h h':YG}{x e:Yj}{o':HO}
def HOk.write(ok:HOk P w H h)(mu:Mut (H x))(he:e=x\/H e=J (.own x))(k:∀b u,b≠e->h.get? b=J u->h'.get? b=J u)(fQ:∃u,h'.get? e=J u)
 (new:Zag P w (upd H x o') h' x o'):HOk P w (upd H x o') h':=λb u q=>by
 by_cases hb:b=x
 . subst hb;rw[Zh]at q;simp_all
 . rw[Zl hb]at q;by_cases hbe:b=e
   . have q':H b=J (.own x):=by simp_all
     rw[q]at q';cases q';obtain⟨v,hv⟩:=fQ;exact⟨v,by simp_all⟩
   . refine(ok b u q).stay (λc v hc r=>k c v ?_ r) (λc r=>(Zl<|(λc y r z=>by subst z;rw[r]at mu;exact mu) c b r).trans r) λc xs r=>(Zl<|(λc xs r z=>by subst z;rw[r]at mu;exact mu) c xs r).trans r;rcases hc with rfl|hc
     . exact hbe
     . rintro rfl;rcases he with z|z
       . exact(λc y r z=>by subst z;rw[r]at mu;exact mu) c b hc z
       . rw[hc]at z;cases z;exact hb rfl
end
structure Un(fs ex:List Yj)(H H':Hp)(h h':YG):Prop where
 keep:∀b o,h.get? b=J o->H b=M->b ∉ fs->b ∉ ex->h'.get? b=J o
 slot:∀b o,h.get? b=J o->H b=M->b∈fs->b ∉ ex->∃sl,h'.get? b=J {o with slots:=sl}
 free:∀b o,h.get? b=J o->H b=M->b ∉ ex->H' b=M
 there:∀b o,h.get? b=J o->b ∉ ex->∃o',h'.get? b=J o'
 tups:∀b xs,H b=J (.tup xs)->H' b=J (.tup xs)
 frzs:∀b o u,H b=J (.frz o u)->H' b=J (.frz o u)
 tbls:∀b ps,H b=J (.tbl ps)->∃more,H' b=J (.tbl<|ps++more)
section
variable {fs ex:List Yj}{H H1 H2:Hp}{h R h2 h':YG}{a x e:Yj}{o:HO}
def Un.any(u:Un fs ex H H1 h R)(q:h.get? b=J ob)(n:H b=M)(hx:b ∉ ex):∃sl,R.get? b=J {ob with slots:=sl}:=by
 by_cases hb:b∈fs
 . exact u.slot b ob q n hb hx
 . exact⟨ob.slots,u.keep b ob q n hb hx⟩
def Un.trans(a:Un fs ex H H1 h R)(b:Un fs ex H1 H2 R h2):Un fs ex H H2 h h2 where
 keep:=λc ob q n hc hx=>b.keep c ob (a.keep c ob q n hc hx) (a.free c ob q n hx) hc hx
 slot:=λc ob q n hc hx=>by obtain⟨sl,e1⟩:=a.slot c ob q n hc hx;obtain⟨b8,e2⟩:=b.slot c _ e1 (a.free c ob q n hx) hc hx;exact⟨b8,e2⟩
 free:=λc ob q n hx=>by obtain⟨o',e1⟩:=a.there c ob q hx;exact b.free c o' e1 (a.free c ob q n hx) hx
 there:=λc ob q hx=>by obtain⟨o',e1⟩:=a.there c ob q hx;exact b.there c o' e1 hx
 tups:=λc xs q=>b.tups c xs (a.tups c xs q)
 frzs:=λc ob xs q=>b.frzs c ob xs (a.frzs c ob xs q)
 tbls:=λc ps q=>by obtain⟨m1,e1⟩:=a.tbls c ps q;obtain⟨m2,e2⟩:=b.tbls c _ e1;exact⟨m1++m2,by simp_all⟩
def Un.kept(k:∀b u,h.get? b=J u->h'.get? b=J u):Un fs ex H H h h':=⟨λb ob q _ _ _=>k b ob q,λb ob q _ _ _=>⟨ob.slots,k b ob q⟩,λ_ _ _ n _=>n,λb ob q _=>⟨ob,k b ob q⟩,λ_ _ q=>q,λ_ _ _ q=>q,λ_ ps q=>⟨#[],by trivial⟩⟩
def Un.refl:Un fs ex H H h h:=Un.kept λ_ _ q=>q
def Un.laid(k:∀b u,h.get? b=J u->h'.get? b=J u)(hp:h.objs.size<=a)(hn:H a=M):Un fs ex H (upd H a o) h h' where
 keep:=λb u q _ _ _=>k b u q
 slot:=λb u q _ _ _=>⟨u.slots,k b u q⟩
 free:=λb u q n _=>(Zl<|Ou<|Ot (Yn q) hp).trans n
 there:=λb u q _=>⟨u,k b u q⟩
 tups:=λb xs q=>(Zl<|ZQ q hn).trans q
 frzs:=λb u xs q=>(Zl<|ZQ q hn).trans q
 tbls:=λb ps q=>⟨#[],by rw[Zl<|ZQ q hn,q];simp⟩
def Un.write(mu:Mut (H x))(he:e=x\/H e=J (.own x))(k:∀b u,b≠e->h.get? b=J u->h'.get? b=J u)(fQ:∃u,h'.get? e=J u):Un fs ex H (upd H x o) h h':=by
 have hx:∀b,H b=M->b≠x:=λb n z=>by subst z;rw[n]at mu;exact mu
 have hm:∀b u,H b=J u->¬ Mut (J u)->b≠x:=λb u q nm z=>by simp_all
 refine⟨λb u q n _ _=>k b u (λb n z=>by
  simp_all b n) q,λb u q n _ _=>⟨u.slots,k b u (λb n z=>by
  simp_all b n) q⟩,λb u q n _=>(Zl<|hx b n).trans n,λb u q _=>?_,
  λb xs q=>(Zl<|hm b _ q λz=>z).trans q,λb u xs q=>(Zl<|hm b _ q λz=>z).trans q,λb ps q=>⟨#[],by rw[Zl<|hm b _ q λz=>z,q];simp⟩⟩
 by_cases hbe:b=e
 . simp_all
 . exact⟨u,k b u hbe q⟩
end
def trk(h:YG)(H:Hp):List Yj:=(List.range h.objs.size).filter λa=>(H a).isSome
def Zoj(h:YG)(H:Hp):YG:=PySem.W.hideAll h (trk h H)
def Zoi(h)(H):(Zoj h H).objs.size=h.objs.size:=PySem.W.hideAll_size _ _
def Zke(e:h.get? b=J o)(n:H b=M):(Zoj h H).get? b=J o:=
 PySem.W.hideAll_get _ e λhm=>by
  have q:=(List.mem_filter.mp hm).2
  simp_all
def Zsr(e:(Zoj h H).get? b=J o):h.get? b=J o/\H b=M:=by
 have e':=PySem.W.of_hideAll (trk h H) e;refine⟨e',?_⟩;cases q:H b with
 |none=>rfl
 |some x=>
  have z:(Zoj h H).get? b=M:=PySem.W.hideAll_none (trk h H) (List.mem_filter.mpr ⟨List.mem_range.mpr<|Yn e',by simp[q]⟩)
  simp_all
structure Mod(K:Yl)(mg:Str->Option Yk)(base:YG):Prop where
 kin:K.In base
 glob:base.Ns Ye mg
 blt:∃mb,base.Ns builtinsNs mb/\∀x:Str,x ≠ "__name__" -> mb x=bootBuiltins x
 nolimit:base.NoLimit
structure Cx where
 prog:Yi
 w:Yh
 K:Yl
 mg:Str->Option Yk
 base:YG
 A:YH
 N:List Str
 s₀:Yb
 H₀:Hp
 env:Env
 outer:List Env
 stack:List Env
 ex:List Yj
 fn:Str->Bool
 calm:Bool
 pn:List (Yj×Obj)
 xe:Yk->Yb->Prop
noncomputable def frs(l:List Env):List Yj:=l.filterMap (·.frame)
abbrev Cx.fs(X:Cx):List Yj:=frs X.outer
def Vis(sc:Scope)(x:Str):Prop:=sc.names.lookup x=J .local\/sc.names.lookup x=J .cell\/sc.names.lookup x=J .free
def Loc(sc:Scope)(x:Str):Prop:=sc.names.lookup x=J .local\/sc.names.lookup x=J .cell
def Look(env:Env)(h:YG)(m:Str->Option Yk)(x:Str)(u:Yk):Prop:=(env.kindOf x=J .local/\m x=J u)\/((env.kindOf x=J .cell\/env.kindOf x=J .free)/\∃c,env.cells.lookup x=J c/\h.IsCell c (J u))
structure Cx.Ok(X:Cx):Prop where
 mod:Mod X.K X.mg X.base
 kind:X.env.scope.kind=.function
 glob:X.env.globals=Ye
 blt:X.env.builtins=builtinsNs
 above:X.s₀.heap.objs.size<=X.env.locals
 inj:∀x y c,X.env.cells.lookup x=J c->X.env.cells.lookup y=J c->x=y
 has:∀x,(X.env.kindOf x=J .cell\/X.env.kindOf x=J .free)->∃c,X.env.cells.lookup x=J c
 cab:∀x c,X.fn x=Ws->X.env.cells.lookup x=J c->X.s₀.heap.objs.size<=c
 hd:X.calm=Ws->X.A.handled=M
 frames:X.A.frames=J X.stack
 stk:X.stack=X.outer\/(X.stack=X.env::X.outer/\X.env.frame=J X.env.locals)
 exf:∀b∈X.ex,b≠X.env.locals/\∀x c,X.env.cells.lookup x=J c->c≠b
 bs:∀b o,X.base.get? b=J o->X.s₀.heap.get? b=J o/\X.H₀ b=M
 bsz:X.base.objs.size<=X.s₀.heap.objs.size
 noex:∀b o,X.base.get? b=J o->b ∉ X.ex
 exfs:∀b∈X.ex,b ∉ X.fs
 funs:X.s₀.heap.FunFrames X.base X.outer
 frf:∀b∈X.fs,X.H₀ b=M
structure Inv(X:Cx)(ac:List (Yj×Obj))(Z:List (Option V))(H:Hp)(s:Yb):Prop where
 ok:X.Ok
 os:s.os=X.s₀.os
 bare:AllBare s.gens
 base:Un X.fs X.ex X.H₀ H X.s₀.heap s.heap
 loc:∃m,s.heap.Ns X.env.locals m/\∀(i:Nat) (x:Str) (v:V),X.N[i]?=J x->Z[i]?=J (J v)->Vis X.env.scope x->∃u,RelV v u/\Look X.env s.heap m x u
 cell:∀x c,X.env.cells.lookup x=J c->∃v,s.heap.IsCell c v
 free:H X.env.locals=M
 freeC:∀x c,X.env.cells.lookup x=J c->H c=M
 pin:∀p∈X.pn++ac,s.heap.get? p.1=J p.2/\H p.1=M/\p.1≠X.env.locals/\p.1 ∉ X.fs/\∀v,p.2.data≠.cell v
 hok:HOk X.prog X.w H s.heap
 len:Z.length=X.N.length
section
variable {X:Cx}{ac:List (Yj×Obj)}{Z:List (Option V)}{H H':Hp}{s:Yb}{h':YG}
def Cx.Ok.nofr(ok:X.Ok)(e:X.base.get? b=J o):b ∉ X.fs:=λhb=>by
 have:=(ok.funs.mem hb).1
 simp_all
theorem Inv.bs(I:Inv X ac Z H s):∀b o,X.base.get? b=J o->s.heap.get? b=J o/\H b=M:=λb o e=>⟨I.base.keep b o (I.ok.bs b o e).1 (I.ok.bs b o e).2 (I.ok.nofr e)<|I.ok.noex b o e,I.base.free b o (I.ok.bs b o e).1 (I.ok.bs b o e).2<|I.ok.noex b o e⟩
def Inv.bk(I:Inv X ac Z H s):∀b o,X.base.get? b=J o->s.heap.get? b=J o:=λb o e=>(I.bs b o e).1
theorem Inv.mod(I:Inv X ac Z H s):Mod X.K X.mg X.base:=I.ok.mod
def Inv.kIn(I:Inv X ac Z H s):X.K.In s.heap:=I.ok.mod.kin.keeps I.bk
theorem Inv.lt(I:Inv X ac Z H s):X.env.locals<s.heap.objs.size:=let⟨_,hn,_⟩:=I.loc;hn.lt
def Inv.sz(I:Inv X ac Z H s):X.s₀.heap.objs.size<=s.heap.objs.size:=OE I.ok.above (Nat.le_of_lt I.lt)
def Inv.nofs(I:Inv X ac Z H s)(h:s.heap.objs.size<=a):a ∉ X.fs:=λhb=>by obtain⟨_,o,ho,_⟩:=I.ok.funs.mem hb;exact absurd (Ot (Yn ho)<|OE I.sz h) (Yw _)
def Inv.cne(I:Inv X ac Z H s):∀x c,X.env.cells.lookup x=J c->c≠X.env.locals:=λx c e z=>by
 obtain⟨v,o,ho,hd⟩:=I.cell x c e;obtain⟨m,⟨o',es,ep,bW,dN,_⟩,_⟩:=I.loc
 simp_all
theorem Inv.funs(I:Inv X ac Z H s):s.heap.FunFrames X.base X.outer:=by
 have all:∀(l),(∀b∈frs l,b∈X.fs)->X.s₀.heap.FunFrames X.base l->s.heap.FunFrames X.base l:=by
  intro l;induction l with
  |nil=>intro _ _;trivial
  |cons env r ih=>intro hs hl;obtain⟨hk,⟨L,o,hf,hn,ho,hd⟩,hr⟩:=hl;have hL:=hs L (by unfold frs;simp_all);obtain⟨sl,e⟩:=I.base.slot L o ho (I.ok.frf L hL) hL λz=>I.ok.exfs L z hL;exact⟨hk,⟨L,_,hf,hn,e,hd⟩,ih (λb hb=>hs b (by unfold frs;rw[List.filterMap_cons,hf];exact Oh _ hb)) hr⟩
 exact all X.outer (λ_ hb=>hb) I.ok.funs
theorem Inv.stack(I:Inv X ac Z H s):s.heap.FunFrames X.base X.stack:=by
 rcases I.ok.stk with e|⟨e,hf⟩
 . rw[e];exact I.funs
 . rw[e];obtain⟨m,hn,_⟩:=I.loc;exact .cons (by rw[I.ok.kind];decide) hf hn (Heap.get?_none_of_le<|OE I.ok.bsz I.ok.above) I.funs
def Inv.stkSub(I:Inv X ac Z H s):∀b∈frs X.stack,b∈X.env.locals::X.fs:=λb hb=>by
 rcases I.ok.stk with e|⟨e,hf⟩
 . simp_all
 . rw[e]at hb;unfold frs at hb;rw[List.filterMap_cons,hf]at hb;trivial
def Inv.stkFree(I:Inv X ac Z H s):∀b∈frs X.stack,H b=M:=λb hb=>by
 rcases O2.mp (I.stkSub b hb)with e|hb
 . rw[e];exact I.free
 . obtain⟨_,o,ho,_⟩:=I.ok.funs.mem hb;exact I.base.free b o ho (I.ok.frf b hb) λz=>I.ok.exfs b z hb
def Inv.step{g'}{t'}{d'}{ch:List Yj}(I:Inv X ac Z H s)
 (bZ:∀b∈ch,(b∈X.ex\/X.s₀.heap.objs.size<=b)/\b≠X.env.locals/\(∀x c,X.env.cells.lookup x=J c->c≠b)/\∀p∈X.pn++ac,p.1≠b)
 (keep:∀b o,b≠X.env.locals->b ∉ X.fs->b ∉ ch->s.heap.get? b=J o->H b=M->h'.get? b=J o)
 (slot:∀b o,b≠X.env.locals->b∈X.fs->b ∉ ch->s.heap.get? b=J o->H b=M->∃sl,h'.get? b=J {o with slots:=sl}) (free:∀b o,b ∉ ch->s.heap.get? b=J o->H b=M->H' b=M)
 (there:∀b o,b ∉ ch->s.heap.get? b=J o->∃o',h'.get? b=J o')
 (tups:∀b xs,H b=J (.tup xs)->H' b=J (.tup xs)) (frzs:∀b o u,H b=J (.frz o u)->H' b=J (.frz o u)) (tbls:∀b ps,H b=J (.tbl ps)->∃more,H' b=J (.tbl<|ps++more))
 (ns:∀m,s.heap.Ns X.env.locals m->h'.Ns X.env.locals m) (hok:HOk X.prog X.w H' h') (hg:AllBare g') :
 Inv X ac Z H' {s with heap:=h',gens:=g',drawn:=d',toks:=t'}:=by
 have eL:∀b o,X.s₀.heap.get? b=J o->b≠X.env.locals:=λb o e=>Ou<|Ot (Yn e) I.ok.above;have gG:∀b o,X.s₀.heap.get? b=J o->b ∉ X.ex->b ∉ ch:=λb o e hx hb=>by
  rcases(bZ b hb).1 with z|z
  . exact hx z
  . exact absurd (Ot (Yn e) z) (Yw _)
 have cN:∀x c,X.env.cells.lookup x=J c->∀v,s.heap.IsCell c v->h'.IsCell c v:=λx c e v ⟨o,ho,hd⟩=>by
  have fE:c ∉ ch:=λz=>(bZ c z).2.2.1 x c e rfl;by_cases hc:c∈X.fs
  . obtain⟨sl,q⟩:=slot c o (I.cne x c e) hc fE ho<|I.freeC x c e;exact⟨_,q,hd⟩
  . exact⟨o,keep c o (I.cne x c e) hc fE ho<|I.freeC x c e,hd⟩
 refine⟨I.ok,I.os,hg,⟨λb o e n hb hx=>?_,λb o e n hb hx=>?_,λb o e n hx=>?_,λb o e hx=>?_,λb xs e=>tups b xs<|I.base.tups b xs e,λb o xs e=>frzs b o xs<|I.base.frzs b o xs e,λb ps e=>?_⟩,?_,λx c e=>?_,?_,λx c e=>?_,λp hp=>?_,hok,I.len⟩
 . exact keep b o (eL b o e) hb (gG b o e hx) (I.base.keep b o e n hb hx) (I.base.free b o e n hx)
 . obtain⟨sl,e1⟩:=I.base.slot b o e n hb hx;obtain⟨b8,e2⟩:=slot b _ (eL b o e) hb (gG b o e hx) e1<|I.base.free b o e n hx;exact⟨b8,e2⟩
 . obtain⟨o',e1⟩:=I.base.there b o e hx;exact free b o' (gG b o e hx) e1 (I.base.free b o e n hx)
 . obtain⟨o',e1⟩:=I.base.there b o e hx;exact there b o' (gG b o e hx) e1
 . obtain⟨m1,e1⟩:=I.base.tbls b ps e;obtain⟨m2,e2⟩:=tbls b _ e1;exact⟨m1++m2,by rw[e2,Array.append_assoc]⟩
 . obtain⟨m,hn,hl⟩:=I.loc;refine⟨m,ns m hn,λi x v e1 e2 e3=>?_⟩;obtain⟨u,r,l⟩:=hl i x v e1 e2 e3;refine⟨u,r,?_⟩;rcases l with l|⟨k,c,e,z⟩
   . exact .inl l
   . exact .inr ⟨k,c,e,cN x c e _ z⟩
 . obtain⟨v,z⟩:=I.cell x c e;exact⟨v,cN x c e v z⟩
 . obtain⟨m,⟨o,_,_,ho,_⟩,_⟩:=I.loc;exact free _ o (λz=>(bZ _ z).2.1 rfl) ho I.free
 . obtain⟨v,o,ho,hd⟩:=I.cell x c e;exact free c o (λz=>(bZ c z).2.2.1 x c e rfl) ho (I.freeC x c e)
 . obtain⟨e,n,ne,nf,d⟩:=I.pin p hp;have fE:p.1 ∉ ch:=λz=>(bZ p.1 z).2.2.2 p hp rfl;exact⟨keep p.1 p.2 ne nf fE e n,free p.1 p.2 fE e n,ne,nf,d⟩
theorem Inv.un{t'}(I:Inv X ac Z H s)(u:Un X.fs [] H H' s.heap h')(hok:HOk X.prog X.w H' h'):Inv X ac Z H' {s with heap:=h',toks:=t'}:=by
 obtain⟨m,⟨o,es,ep,ho,r⟩,_⟩:=id I.loc;obtain⟨sl,hL⟩:=u.any ho I.free (by simp);exact I.step (ch:=[]) (λ_ z=>nomatch z) (λb o _ hb _ e n=>u.keep b o e n hb<|by simp) (λb o _ hb _ e n=>u.slot b o e n hb<|by simp) (λb o _ e n=>u.free b o e n<|by simp) (λb o _ e=>u.there b o e<|by simp) u.tups u.frzs u.tbls (λm' hm=>by
   obtain⟨o',gU,jJ,bW,r'⟩:=hm;rw [ho] at bW;cases bW;exact⟨_,gU,jJ,hL,r'⟩) hok I.bare
theorem Inv.call{g'}{t'}{d'}{ch}(I:Inv X ac Z H s)(u:Un (frs X.stack) ch H H' s.heap h')(hok:HOk X.prog X.w H' h')(hg:AllBare g')
   (bZ:∀ b∈ch,(b∈X.ex\/X.s₀.heap.objs.size<=b)/\b≠X.env.locals/\(∀ x c,X.env.cells.lookup x=J c->c≠b)/\∀ p∈X.pn++ac,p.1≠b) :
   Inv X ac Z H' {s with heap:=h',gens:=g',drawn:=d',toks:=t'}:=by
 obtain⟨m,⟨o,es,ep,ho,r⟩,_⟩:=id I.loc;obtain⟨sl,hL⟩:=u.any ho I.free λz=>(bZ _ z).2.1 rfl;exact I.step bZ (λb o hL hb hc e n=>u.keep b o e n (λz=>(O2.mp<|I.stkSub b z).elim hL hb) hc) (λb o _ _ hc e n=>u.any e n hc) (λb o hc e n=>u.free b o e n hc) (λb o hc e=>u.there b o e hc) u.tups u.frzs u.tbls (λm' hm=>by
   obtain⟨o',gU,jJ,bW,r'⟩:=hm;rw [ho] at bW;cases bW;exact⟨_,gU,jJ,hL,r'⟩) hok hg
def Inv.turned{t'}{it}(I:Inv X ac Z H s)(k:∀b o,b≠it->s.heap.get? b=J o->h'.get? b=J o)(hn:H it=M)(hL:it≠X.env.locals)
 (R:it∈X.ex\/X.s₀.heap.objs.size<=it) (h2:∀x c,X.env.cells.lookup x=J c->c≠it) (h3:∀p∈X.pn++ac,p.1≠it):Inv X ac Z H {s with heap:=h',toks:=t'}:=by
 have cB:∀b u,H b=J u->b≠it:=λb u e z=>by simp_all
 refine I.step (ch:=[it]) (λb hb=>?_) (λb o _ _ hc e _=>k b o (λz=>hc<|by simp[z]) e) (λb o _ _ hc e _=>⟨o.slots,k b o (λz=>hc<|by simp[z]) e⟩) (λ_ _ _ _ n=>n)
  (λb o hc e=>⟨o,k b o (λz=>hc<|by simp[z]) e⟩) (λ_ _ e=>e) (λ_ _ _ e=>e) (λb ps e=>⟨#[],by trivial⟩) (λm hm=>?_) (λb u e=>?_) I.bare
 . cases by simpa using hb
   trivial
 . obtain⟨o,es,ep,ho,r⟩:=hm;exact⟨o,es,ep,k _ o (YL hL) ho,r⟩
 . refine(I.hok b u e).stay (λc v hc q=>k c v ?_ q) (λ_ q=>q) λ_ _ q=>q;rcases hc with z|z
   . rw[z];exact cB b u e
   . exact cB c _ z
def Inv.tok(I:Inv X ac Z H s)(t):Inv X ac Z H {s with toks:=t}:=I.un Un.refl I.hok
theorem Inv.kept{t'}(I:Inv X ac Z H s)(k:∀b u,s.heap.get? b=J u->h'.get? b=J u):Inv X ac Z H {s with heap:=h',toks:=t'}:=I.un (Un.kept k) (I.hok.kept k)
theorem Inv.laid{a:Yj}{o}{t'}(I:Inv X ac Z H s)(k:∀b u,s.heap.get? b=J u->h'.get? b=J u)(hp:s.heap.objs.size<=a)(new:Zag X.prog X.w (upd H a o) h' a o):
 Inv X ac Z (upd H a o) {s with heap:=h',toks:=t'}:=I.un (Un.laid k hp<|I.hok.fresh hp) (I.hok.laid k hp new)
theorem Inv.write(I:Inv X ac Z H s)(mu:Mut (H x))(he:e=x\/H e=J (.own x))(k:∀b u,b≠e->s.heap.get? b=J u->h'.get? b=J u)(fQ:∃u,h'.get? e=J u)
 (new:Zag X.prog X.w (upd H x o) h' x o):Inv X ac Z (upd H x o) {s with heap:=h',toks:=t'}:=I.un (Un.write mu he k fQ) (I.hok.write mu he k fQ new)
def Inv.weak(I:Inv X ac Z H s)(hl:σ'.length=Z.length)(w:∀(i:Nat) v,σ'[i]?=J (J v)->Z[i]?=J (J v)):Inv X ac σ' H s:=⟨I.ok,I.os,I.bare,I.base,let⟨m,hn,hl'⟩:=I.loc;⟨m,hn,λi x v e1 e2 e3=>hl' i x v e1 (w i v e2) e3⟩,I.cell,I.free,I.freeC,I.pin,I.hok,hl.trans I.len⟩
def Inv.pins_of(I:Inv X ac Z H s)(h:∀p∈fq,s.heap.get? p.1=J p.2/\H p.1=M/\p.1≠X.env.locals/\p.1 ∉ X.fs/\∀v,p.2.data≠.cell v):Inv X fq Z H s:=⟨I.ok,I.os,I.bare,I.base,I.loc,I.cell,I.free,I.freeC,λp hp=>(OD.mp hp).elim (λz=>I.pin p<|Ys _ z)<|h p,I.hok,I.len⟩
def ZgW{N:List Str}(hN:N.Nodup){i j:Nat}{x}(a:N[i]?=J x)(b:N[j]?=J x):i=j:=by obtain⟨R,e1⟩:=Ob.mp a;obtain⟨h2,e2⟩:=Ob.mp b;exact(List.getElem_inj hN).mp (e1.trans e2.symm)
def Zif{qb:Model}{A:YH}{Q:Unit->Yb->Prop}(I:Inv X ac Z H s)(hN:X.N.Nodup)(hi:X.N[i]?=J x)(hx:Loc X.env.scope x)(r:RelV v u)
 (h:∀s',Inv X ac (Z.set i<|J v) H s'->(∃a,Heap.SameBut a s.heap s'.heap/\(a=X.env.locals\/X.env.cells.lookup x=J a))->Q () s') (hf:X.fn x=Ws\/X.env.scope.names.lookup x=J .local:=by first|exact .inl rfl|exact .inr rfl|assumption):YB qb A (storeName X.env x u) Q E s:=by
 obtain⟨m,hn,hl⟩:=id I.loc;have hiσ:i<Z.length:=I.len▸(Ob.mp hi).1;have bB:∀{a:Yj}{h':YG},(∃o,s.heap.get? a=J o/\H a=M)->Heap.SameBut a s.heap h'->HOk X.prog X.w H h':=λ{a h'} ha hs b ob e=>by
  obtain⟨_,_,bS⟩:=ha;refine(I.hok b ob e).stay (λc w' hc q=>(hs.2 c ?_).trans q) (λ_ q=>q) λ_ _ q=>q;rintro rfl;rcases hc with rfl|hc
  . rw[bS]at e;cases e
  . rw[bS]at hc;cases hc
 rcases hx with hk|hk
 . refine wpAny_storeName_local hk hn (λh' jp hs=>?_) (by rw[I.ok.kind];rfl);obtain⟨oL,_,_,mn,_⟩:=id hn;refine h _ ⟨I.ok,I.os,I.bare,⟨λb o e n hb hx=>?_,λb o e n hb hx=>?_,I.base.free,λb o e hx=>?_,I.base.tups,I.base.frzs,I.base.tbls⟩,⟨_,jp,λj y v' e1 e2 e3=>?_⟩,λy c e=>?_,I.free,I.freeC,λp hp=>?_,bB ⟨oL,mn,I.free⟩ hs,by simpa using I.len⟩ ⟨_,hs,.inl rfl⟩
   . exact(hs.2 b<|Ou<|Ot (Yn e) I.ok.above).trans (I.base.keep b o e n hb hx)
   . obtain⟨sl,e1⟩:=I.base.slot b o e n hb hx;exact⟨sl,(hs.2 b<|Ou<|Ot (Yn e) I.ok.above).trans e1⟩
   . obtain⟨o',e1⟩:=I.base.there b o e hx;exact⟨o',(hs.2 b<|Ou<|Ot (Yn e) I.ok.above).trans e1⟩
   . by_cases hj:j=i
     . subst hj;rw[hi]at e1;cases e1;rw[Ol hiσ]at e2;cases e2;exact⟨u,r,.inl ⟨hk,by simp⟩⟩
     . rw[Oc<|YL hj]at e2;obtain⟨u',r',q⟩:=hl j y v' e1 e2 e3;refine⟨u',r',?_⟩;rcases q with⟨k,e⟩|⟨k,c,e,z⟩
       . refine .inl ⟨k,?_⟩;have:y≠x:=λe=>hj<|ZgW hN e1<|e▸hi;simp[this,e]
       . exact .inr ⟨k,c,e,z.sameBut hs<|I.cne y c e⟩
   . obtain⟨w',z⟩:=I.cell y c e;exact⟨w',z.sameBut hs<|I.cne y c e⟩
   . obtain⟨e,n,ne,nf,d⟩:=I.pin p hp;exact⟨(hs.2 p.1 ne).trans e,n,ne,nf,d⟩
 . have jy:X.fn x=Ws:=by
    rcases hf with z|z
    . exact z
    . rw[z]at hk;cases hk
   obtain⟨c,hc⟩:=I.ok.has x<|.inl hk;obtain⟨w',z⟩:=I.cell x c hc;refine wpAny_storeName_cell I.ok.kind hk hc z<|λh' dO hs=>?_;obtain⟨oc,gL,jm⟩:=id z;refine h {s with heap:=h'} ⟨I.ok,I.os,I.bare,⟨λb o e n hb hx=>?_,λb o e n hb hx=>?_,I.base.free,λb o e hx=>?_,I.base.tups,I.base.frzs,I.base.tbls⟩,⟨m,hn.sameBut hs<|YL<|I.cne x c hc,λj y v' e1 e2 e3=>?_⟩,λy c' e=>?_,I.free,I.freeC,λp hp=>?_,bB ⟨oc,gL,I.freeC x c hc⟩ hs,by simpa using I.len⟩ ⟨c,hs,.inr hc⟩
   . exact(hs.2 b<|Ou<|Ot (Yn e)<|I.ok.cab x c jy hc).trans (I.base.keep b o e n hb hx)
   . obtain⟨sl,e1⟩:=I.base.slot b o e n hb hx;exact⟨sl,(hs.2 b<|Ou<|Ot (Yn e)<|I.ok.cab x c jy hc).trans e1⟩
   . obtain⟨o',e1⟩:=I.base.there b o e hx;exact⟨o',(hs.2 b<|Ou<|Ot (Yn e)<|I.ok.cab x c jy hc).trans e1⟩
   . by_cases hj:j=i
     . subst hj;rw[hi]at e1;cases e1;rw[Ol hiσ]at e2;cases e2;exact⟨u,r,.inr ⟨.inl hk,c,hc,dO⟩⟩
     . rw[Oc<|YL hj]at e2;obtain⟨u',r',q⟩:=hl j y v' e1 e2 e3;refine⟨u',r',?_⟩;rcases q with q|⟨k,c',e,z'⟩
       . exact .inl q
       . refine .inr ⟨k,c',e,z'.sameBut hs ?_⟩;rintro rfl;exact hj (ZgW hN e1<|I.ok.inj _ _ _ e hc▸hi)
   . by_cases hcc:c'=c
     . subst hcc;exact⟨_,dO⟩
     . obtain⟨w2,z2⟩:=I.cell y c' e;exact⟨w2,z2.sameBut hs hcc⟩
   . obtain⟨e,n,ne,nf,d⟩:=I.pin p hp;refine⟨(hs.2 p.1 ?_).trans e,n,ne,nf,d⟩;intro q;rw[q,gL]at e;exact d w' (YF e▸jm)
def ZeS(I:Inv X ac Z H s)(hN:X.N.Nodup)(hi:X.N[i]?=J x)(hx:Loc X.env.scope x)(r:RelV v u)
 (h:∀s',Inv X ac (Z.set i<|J v) H s'->Q () s') (hf:X.fn x=Ws\/X.env.scope.names.lookup x=J .local:=by first|exact .inl rfl|exact .inr rfl|assumption):YB qb A (storeName X.env x u) Q E s:=
 Zif I hN hi hx r (λs' I' _=>h s' I') hf
def Inv.call'(I:Inv X ac Z H s)(ho:s'.os=s.os)(u:Un (frs X.stack) ch H H' s.heap s'.heap)(hok:HOk X.prog X.w H' s'.heap)(hg:AllBare s'.gens)
 (bZ:∀b∈ch,(b∈X.ex\/X.s₀.heap.objs.size<=b)/\b≠X.env.locals/\(∀x c,X.env.cells.lookup x=J c->c≠b)/\∀p∈X.pn++ac,p.1≠b):Inv X ac Z H' s':=by
 obtain⟨h',g',d',t',o'⟩:=s';subst ho;exact I.call u hok hg bZ
end
abbrev XK:=Yk->Option Yj->Hp->Prop
noncomputable abbrev St:=List (Option V)
abbrev VK:=V->Hp->Prop
abbrev TE:=St->Hp->VK->Prop
abbrev TT:=St->Hp->(Bool->Hp->Prop)->Prop
abbrev TA:=St->Hp->(List V->Hp->Prop)->Prop
structure Ends where
 nx:St->Hp->Prop
 rt:VK
 bk:St->Hp->Prop:=λ_ _=>False
 ct:St->Hp->Prop:=λ_ _=>False
abbrev TS:=Ends->St->Hp->Prop
def EP(X:Cx)(ac:List (Yj×Obj))(Z:St)(Q:VK)(u:Yk)(s':Yb):Prop:=∃v H',Inv X ac Z H' s'/\RelV v u/\Q v H'
def TP(X:Cx)(ac:List (Yj×Obj))(Z:St)(Q:Bool->Hp->Prop)(b:Bool)(s':Yb):Prop:=∃H',Inv X ac Z H' s'/\Q b H'
def AP(X:Cx)(ac:List (Yj×Obj))(Z:St)(Q:List V->Hp->Prop)(us:List Yk)(s':Yb):Prop:=∃vs H',Inv X ac Z H' s'/\Zn vs us/\Q vs H'
def SP(X:Cx)(ac:List (Yj×Obj))(D:Ends)(f:Flow)(s':Yb):Prop:=
 match f with
 |.next=>∃σ' H',Inv X ac σ' H' s'/\D.nx σ' H'
 |.brk=>∃σ' H',Inv X ac σ' H' s'/\D.bk σ' H'
 |.cont=>∃σ' H',Inv X ac σ' H' s'/\D.ct σ' H'
 |.ret u=>∃v σ' H',Inv X ac σ' H' s'/\RelV v u/\D.rt v H'
def PE(X:Cx)(e:Expr)(t:TE):Prop:=∀(ac:List (Yj×Obj)) (s:Yb) (Z:St) (H:Hp) (Q:VK),Inv X ac Z H s->t Z H Q->YB (model X.prog X.w) X.A (eval e X.env) (EP X ac Z Q) X.xe s
def PT(X:Cx)(e:Expr)(t:TT):Prop:=∀(ac:List (Yj×Obj)) (s:Yb) (Z:St) (H:Hp) (Q:Bool->Hp->Prop),Inv X ac Z H s->t Z H Q->YB (model X.prog X.w) X.A (isTrue e X.env<|eval e X.env) (TP X ac Z Q) X.xe s
def PW(X:Cx)(e:Expr)(t:TT):Prop:=∀(aL:Sem Yk) (ac:List (Yj×Obj)) (s:Yb) (Z:St) (H:Hp) (Q:Bool->Hp->Prop),Inv X ac Z H s->t Z H Q->YB (model X.prog X.w) X.A (isTrue e X.env aL) (TP X ac Z Q) X.xe s
def PW.pt(h:PW X e t):PT X e t:=h _
def PA(X:Cx)(es:List Expr)(t:TA):Prop:=∀(pos:Pos) (ac:List (Yj×Obj)) (s:Yb) (Z:St) (H:Hp) (Q:List V->Hp->Prop),Inv X ac Z H s->t Z H Q->YB (model X.prog X.w) X.A (spliced<|YR pos<|YA es X.env) (AP X ac Z Q) X.xe s
def PS(X:Cx)(st:Stmt)(t:TS):Prop:=∀(ac:List (Yj×Obj)) (s:Yb) (Z:St) (H:Hp) (D:Ends),Inv X ac Z H s->t D Z H->YB (model X.prog X.w) X.A (exec st X.env) (SP X ac D) X.xe s
def PSs(X:Cx)(st:List Stmt)(t:TS):Prop:=∀(ac:List (Yj×Obj)) (s:Yb) (Z:St) (H:Hp) (D:Ends),Inv X ac Z H s->t D Z H->YB (model X.prog X.w) X.A (execs st X.env) (SP X ac D) X.xe s
def thn(h:YB qb A t Q E s)(hQ:∀a s,Q a s->Q' a s):YB qb A t Q' E s:=Yg h hQ λ_ _ x=>x
section
variable {X:Cx}
noncomputable def Zzc(i:Nat):TE:=λZ H Q=>∃v,Z[i]?=J (J v)/\Q v H
noncomputable def tC(v:V):TE:=λ_ H Q=>Q v H
def Zlf(hN:X.N[i]?=J x)(hv:Vis X.env.scope x)(hd:(x == "__debug__")=Wt:=by decide)(b7:(x == "__classdict__")=Wt:=by decide):PE X (.Name x pos) (Zzc i):=by
 intro ac s Z H Q I h;obtain⟨v,e,h⟩:=h;obtain⟨m,hn,hl⟩:=I.loc;obtain⟨u,r,l⟩:=hl i x v hN e hv;have fin:EP X ac Z Q u s:=⟨v,H,I,r,h⟩
 rcases l with⟨hk,hm⟩|⟨hk,c,hc,aQ⟩
 . exact wpAny_Name (wpAny_loadName_local I.ok.kind hk hn hm fin) hd
 . rcases hk with hk|hk
   . exact wpAny_Name (wpAny_loadName_cell I.ok.kind hk hc aQ fin) hd
   . exact wpAny_Name (wpAny_loadName_free I.ok.kind hk hc aQ fin b7) hd
def ZpH{i j pos}:PE X (.Constant (.int i) j pos) (tC<|.int i):=λ_ _ _ H _ I h=>wpAny_Constant_int ⟨.int i,H,I.tok _,⟨_,rfl⟩,h⟩
def ZxH{b j pos}:PE X (.Constant (.bool b) j pos) (tC<|.bl b):=λ_ _ _ H _ I h=>Constant_bool ⟨.bl b,H,I,rfl,h⟩
def Zu2{j pos}:PE X (.Constant .none j pos) (tC .non):=λ_ _ _ H _ I h=>Constant_none ⟨.non,H,I,rfl,h⟩
def Zu1{x j pos}:PE X (.Constant (.str x) j pos) (tC<|.str x):=λ_ _ _ H _ I h=>Calls.Constant_str ⟨.str x,H,I.tok _,⟨_,rfl⟩,h⟩
def Gl(X:Cx)(x:Str):Prop:=X.env.kindOf x=J .globalImplicit
def ZcK(I:Inv X ac Z H s)(hg:Gl X x)(hm:X.mg x=J u)(h:Q u s)
 (hd:(x == "__debug__")=Wt:=by decide):YB (model X.prog X.w) X.A (eval (.Name x pos) X.env) Q E s:=
 Calls.Name_function_global I.ok.kind hg (Calls.loadGlobal_global (I.ok.glob▸I.mod.glob.keeps I.bk) hm h) hd
def Zcm(I:Inv X ac Z H s)(hg:Gl X x)(hm:X.mg x=M)(hv:bootBuiltins x=J u)(h:Q u s)
 (hn:x ≠ "__name__" := by decide) (hd:(x == "__debug__")=Wt:=by decide):YB (model X.prog X.w) X.A (eval (.Name x pos) X.env) Q E s:=by
 obtain⟨mb,R,h2⟩:=I.mod.blt;exact Calls.Name_function_global I.ok.kind hg (Calls.loadGlobal_builtin (I.ok.glob▸I.mod.glob.keeps I.bk) hm (I.ok.blt▸R.keeps I.bk) ((h2 x hn).trans hv) h) hd
def Zgm(hg:Gl X x)(hm:X.mg x=J u)(r:RelV v u)(hd:(x == "__debug__")=Wt:=by decide):PE X (.Name x pos) (tC v):=λ_ _ _ H _ I h=>ZcK I hg hm ⟨v,H,I,r,h⟩ hd
def Zr8(hg:Gl X x)(hm:X.mg x=M)(hv:bootBuiltins x=J u)(r:RelV v u)(hn:x ≠ "__name__" := by decide)(hd:(x == "__debug__")=Wt:=by decide):PE X (.Name x pos) (tC v):=λ_ _ _ H _ I h=>Zcm I hg hm hv ⟨v,H,I,r,h⟩ hn hd
variable {a b:Expr}{ta tb:TE}{pos:Pos}
variable {tA gn:TT}{ag:List Expr}
noncomputable def Zzp(t u:TT):TT:=λZ H Q=>t Z H λc H1=>if c=Ws then u Z H1 Q else Q Wt H1
noncomputable def tOr(t u:TT):TT:=λZ H Q=>t Z H λc H1=>if c=Ws then Q Ws H1 else u Z H1 Q
noncomputable def Zzh(t:TT):TT:=λZ H Q=>t Z H λc H1=>Q (!c) H1
def ZrQ(ha:PT X a tA):PW X (.BoolOp .And [a] pos) tA:=by
 intro wh ac s Z H Q I h;refine isTrue_and<|thn (ha ac s Z H Q I h) λc s1 e=>?_;cases c with
 |true=>exact isTrue_and_nil e
 |false=>exact e
def ZuQ(ha:PT X a tA):PW X (.BoolOp .Or [a] pos) tA:=by
 intro wh ac s Z H Q I h;refine isTrue_or<|thn (ha ac s Z H Q I h) λc s1 e=>?_;cases c with
 |false=>exact isTrue_or_nil e
 |true=>exact e
def ZuR(ha:PT X a tA)(hb:PW X (.BoolOp .And (b::ag) pos) gn):PW X (.BoolOp .And (a::b::ag) pos) (Zzp tA gn):=by
 intro wh ac s Z H Q I h;refine isTrue_and<|thn (ha ac s Z H _ I h) λc s1 ⟨H1,I1,q1⟩=>?_;cases c with
 |true=>exact hb wh ac s1 Z H1 Q I1 q1
 |false=>trivial
def ZxA(ha:PT X a tA)(hb:PW X (.BoolOp .Or (b::ag) pos) gn):PW X (.BoolOp .Or (a::b::ag) pos) (tOr tA gn):=by
 intro wh ac s Z H Q I h;refine isTrue_or<|thn (ha ac s Z H _ I h) λc s1 ⟨H1,I1,q1⟩=>?_;cases c with
 |true=>trivial
 |false=>exact hb wh ac s1 Z H1 Q I1 q1
def ZuT(ha:PT X a tA):PT X (.UnaryOp .Not a pos) (Zzh tA):=by intro ac s Z H Q I h;exact isTrue_not (ha ac s Z H (λc H1=>Q (!c) H1) I h)
def Zxb(ta tb:TE):TE:=λZ H Q=>ta Z H λx H1=>∃c,x=.bl c/\if c=Ws then tb Z H1 Q else Q (.bl Wt) H1
def Zzg(ta tb:TE):TE:=λZ H Q=>ta Z H λx H1=>∃c,x=.bl c/\if c=Ws then Q (.bl Ws) H1 else tb Z H1 Q
noncomputable def Zw5(ta:TE):TE:=λZ H Q=>ta Z H λx H1=>∃c,x=.bl c/\Q (.bl<|!c) H1
def Zlg{op}(h:PE X a t):PE X (.BoolOp op [a] pos) t:=λac s Z H Q I hw=>BoolOp_one (h ac s Z H Q I hw)
def ZpL(ha:PE X a ta)(hb:PE X (.BoolOp .And (b::ag) pos) tb):PE X (.BoolOp .And (a::b::ag) pos) (Zxb ta tb):=by
 intro ac s Z H Q I h;refine BoolOp_and<|thn (ha ac s Z H _ I h) λv s1 ⟨x,H1,I1,r1,q1⟩=>?_;obtain⟨c,rfl,q1⟩:=q1;cases r1;refine wpAny_truthy_bool ?_;cases c with
 |true=>exact hb ac s1 Z H1 Q I1 q1
 |false=>exact⟨.bl Wt,H1,I1,rfl,q1⟩
def ZxE(ha:PE X a ta)(hb:PE X (.BoolOp .Or (b::ag) pos) tb):PE X (.BoolOp .Or (a::b::ag) pos) (Zzg ta tb):=by
 intro ac s Z H Q I h;refine BoolOp_or<|thn (ha ac s Z H _ I h) λv s1 ⟨x,H1,I1,r1,q1⟩=>?_;obtain⟨c,rfl,q1⟩:=q1;cases r1;refine wpAny_truthy_bool ?_;cases c with
 |false=>exact hb ac s1 Z H1 Q I1 q1
 |true=>exact⟨.bl Ws,H1,I1,rfl,q1⟩
def ZpE(ha:PE X a ta):PE X (.UnaryOp .Not a pos) (Zw5 ta):=by intro ac s Z H Q I h;refine UnaryOp_<|thn (ha ac s Z H _ I h) λv s1 ⟨x,H1,I1,r1,q1⟩=>?_;obtain⟨c,rfl,q1⟩:=q1;cases r1;exact not_of (wpAny_truthy_bool ⟨.bl<|!c,H1,I1,rfl,q1⟩)
def tIf(t:TT)(ta tb:TE):TE:=λZ H Q=>t Z H λc H1=>if c=Ws then ta Z H1 Q else tb Z H1 Q
def ZpI(hc:PT X c tA)(ha:PE X a ta)(hb:PE X b tb):PE X (.IfExp c a b pos) (tIf tA ta tb):=by
 intro ac s Z H Q I h;refine wpAny_IfExp<|thn (hc ac s Z H _ I h) λd s1 ⟨H1,I1,q1⟩=>?_;cases d with
 |true=>exact ha ac s1 Z H1 Q I1 q1
 |false=>exact hb ac s1 Z H1 Q I1 q1
end
def SqL(K:Yl)(H:Hp)(a:Yj)(xs:List V):Prop:=
 Rd H a (.lst xs) \/
  ∃(o:Obj) (its:Array Yk) (n:Nat),K.lookup a=J o/\o.cls=.type "list" /\ o.dict=M/\o.data=.seq its n/\its.size<=Yc/\Zn xs its.toList
def SqT(K:Yl)(H:Hp)(a:Yj)(xs:List V):Prop:=
 Rd H a (.tup xs) \/
  ∃(o:Obj) (its:Array Yk) (n:Nat),K.lookup a=J o/\o.cls=.type "tuple" /\ o.data=.seq its n/\its.size<=Yc/\Zn xs its.toList
noncomputable def Zz5:Yk->Option V
 |.none=>J .non
 |.bool b=>J (.bl b)
 |.int i _=>J (.int i)
 |.str x _=>J (.str x)
 |.bytes b _=>J (.byt b)
 |.float b _=>J (.flt b)
 |.ref a=>J (.ref a)
 |.type n=>J (.ty n)
 |_=>M
def RelV.abs(r:RelV x u):Zz5 u=J x:=by
 cases x with
 |non=>cases r;rfl
 |bl _=>cases r;rfl
 |int _=>obtain⟨t,rfl⟩:=r;rfl
 |str _=>obtain⟨t,rfl⟩:=r;rfl
 |byt _=>obtain⟨t,rfl⟩:=r;rfl
 |flt _=>obtain⟨t,rfl⟩:=r;rfl
 |ref _=>cases r;rfl
 |ty _=>cases r;rfl
def RelV.inj(r:RelV x u)(q:RelV y u):x=y:=YF (r.abs.symm.trans q.abs)
theorem Zn.inj:∀{xs ys}{us},Zn xs us->Zn ys us->xs=ys
 |_,_,_,.nil,.nil=>rfl
 |_,_,_,.cons r t,.cons r' t'=>by rw[r.inj r',Zn.inj t t']
section
variable {X:Cx}{ac:List (Yj×Obj)}{Z:St}{H:Hp}{s:Yb}{a:Yj}{xs ys:List V}
def SqL.of{K}(h:H a=J (.lst xs)):SqL K H a xs:=.inl (.inl h)
def SqT.of{K}(h:H a=J (.tup xs)):SqT K H a xs:=.inl (.inl h)
def Inv.list(I:Inv X ac Z H s)(h:SqL X.K H a xs):∃its:List Yk,Zn xs its/\PlainL s.heap a its.toArray/\xs.length<=Yc:=by
 rcases h with h|⟨o,its,n,hk,hc,hd,hs,hz,r⟩
 . obtain⟨z,its,n,r,e⟩:=h.ok I.hok;exact⟨its,r,⟨_,n,e,rfl,rfl,rfl⟩,z⟩
 . refine⟨its.toList,r,⟨o,n,I.kIn a o hk,hc,hd,by trivial⟩,?_⟩;have e:=r.length
   simp_all
def Inv.tuple(I:Inv X ac Z H s)(h:SqT X.K H a xs):∃its:List Yk,Zn xs its/\IsTup s.heap a its.toArray/\xs.length<=Yc:=by
 rcases h with h|⟨o,its,n,hk,hc,hs,hz,r⟩
 . obtain⟨z,its,r,p⟩:=h.ok I.hok;exact⟨its,r,p.tup,z⟩
 . refine⟨its.toList,r,⟨o,I.kIn a o hk,hc,n,by trivial⟩,?_⟩;have e:=r.length
   simp_all
def Inv.list_inj(I:Inv X ac Z H s)(h:SqL X.K H a xs)(h':SqL X.K H a ys):xs=ys:=by
 obtain⟨its,r,⟨o,n,e,_,_,d⟩,_⟩:=I.list h;obtain⟨bg,r',⟨o',n',e',_,_,d'⟩,_⟩:=I.list h';rw[e]at e';cases e';rw[d]at d';injection d' with d1 _;have:=by simpa using congrArg Array.toList d1
 subst this;exact r.inj r'
def Inv.tuple_inj(I:Inv X ac Z H s)(h:SqT X.K H a xs)(h':SqT X.K H a ys):xs=ys:=by
 obtain⟨its,r,⟨o,e,_,n,d⟩,_⟩:=I.tuple h;obtain⟨bg,r',⟨o',e',_,n',d'⟩,_⟩:=I.tuple h';rw[e]at e';cases e';rw[d]at d';injection d' with d1 _;have:=by simpa using congrArg Array.toList d1
 subst this;exact r.inj r'
end
noncomputable abbrev Cx.wish(X:Cx)(E:Yk->Yb->Prop):Cx:={X with xe:=E}
abbrev Cx.nox(X:Cx):Cx:=X.wish λ_ _=>False
theorem Cx.Ok.wish{X:Cx}(ok:X.Ok)(E):(X.wish E).Ok:=⟨ok.mod,ok.kind,ok.glob,ok.blt,ok.above,ok.inj,ok.has,ok.cab,ok.hd,ok.frames,ok.stk,ok.exf,ok.bs,ok.bsz,ok.noex,ok.exfs,ok.funs,ok.frf⟩
def Cx.Ok.unwish{X:Cx}{E}(ok:(X.wish E).Ok):X.Ok:=⟨ok.mod,ok.kind,ok.glob,ok.blt,ok.above,ok.inj,ok.has,ok.cab,ok.hd,ok.frames,ok.stk,ok.exf,ok.bs,ok.bsz,ok.noex,ok.exfs,ok.funs,ok.frf⟩
section
variable {X:Cx}{ac:List (Yj×Obj)}{Z:St}{H:Hp}{s:Yb}{E:Yk->Yb->Prop}
theorem Inv.wish(I:Inv X ac Z H s)(E):Inv (X.wish E) ac Z H s:=⟨I.ok.wish E,I.os,I.bare,I.base,I.loc,I.cell,I.free,I.freeC,I.pin,I.hok,I.len⟩
theorem Inv.unwish(I:Inv (X.wish E) ac Z H s):Inv X ac Z H s:=⟨I.ok.unwish,I.os,I.bare,I.base,I.loc,I.cell,I.free,I.freeC,I.pin,I.hok,I.len⟩
end
section
variable {X:Cx}{st:Stmt}{ag:List Stmt}{t u:TS}{e:Expr}{te:TE}{pos:Pos}
noncomputable def ZtH:TS:=λD Z H=>D.nx Z H
noncomputable def Zze(t u:TS):TS:=λD Z H=>t {D with nx:=u D} Z H
def ZrS:PSs X [] ZtH:=λ_ _ Z H _ I h=>wpAny_execs_nil ⟨Z,H,I,h⟩
def Zpt(R:PS X st t)(h2:PSs X ag u):PSs X (st::ag) (Zze t u):=by
 intro ac s Z H D I h;refine wpAny_execs_cons<|thn (R ac s Z H {D with nx:=u D} I h) λf s1 q=>?_;cases f with
 |next=>obtain⟨σ',H',I',q⟩:=q;exact h2 ac s1 σ' H' D I' q
 |ret v=>exact q
 |brk=>exact q
 |cont=>exact q
def ZmK(R:PS X st t):PSs X [st] t:=by
 intro ac s Z H D I h;refine wpAny_execs_cons<|thn (R ac s Z H D I h) λf s1 q=>?_;cases f with
 |next=>exact wpAny_execs_nil q
 |ret v=>exact q
 |brk=>exact q
 |cont=>exact q
noncomputable def ZuB:TS:=λD Z H=>D.bk Z H
noncomputable def Zw9:TS:=λD Z H=>D.ct Z H
def ZrT:PS X (.Pass pos) ZtH:=λ_ _ Z H _ I h=>wpAny_Pass ⟨Z,H,I,h⟩
def Zpx:PS X (.Break pos) ZuB:=λ_ _ Z H _ I h=>wpAny_Break ⟨Z,H,I,h⟩
def ZjX:PS X (.Continue pos) Zw9:=λ_ _ Z H _ I h=>wpAny_Continue ⟨Z,H,I,h⟩
def Inv.quiet(I:Inv X ac Z H s):interactive X.env=Wt:=by simp[interactive,I.ok.kind]
noncomputable def Zw7(te:TE):TS:=λD Z H=>te Z H λ_ H1=>D.nx Z H1
def ZrU(he:PE X e te)(hs:swapsWith e M pos.line X.env=pure Wt:=by rfl):PS X (.Expr e pos) (Zw7 te):=by intro ac s Z H D I h;exact wpAny_Expr_any (thn (he ac s Z H _ I h) λv s1 ⟨x,H1,I1,r1,q1⟩=>⟨Z,H1,I1,q1⟩) I.quiet hs
noncomputable def Zzf(te:TE):TS:=λD Z H=>te Z H D.rt
def Zpv(he:PE X e te):PS X (.Return (J e) pos) (Zzf te):=by intro ac s Z H D I h;exact wpAny_Return_some (thn (he ac s Z H _ I h) λv s1 ⟨x,H1,I1,r1,q1⟩=>⟨x,Z,H1,I1,r1,q1⟩)
noncomputable def Zzj(c:TT)(t u:TS):TS:=λD Z H=>c Z H λb H1=>if b=Ws then t D Z H1 else u D Z H1
def ZxB(hc:PT X c tc)(ha:PSs X a t)(hb:PSs X b u):PS X (.If c a b pos) (Zzj tc t u):=by
 intro ac s Z H D I h;refine wpAny_If<|thn (hc ac s Z H _ I h) λd s1 ⟨H1,I1,q1⟩=>?_;cases d with
 |true=>exact ha ac s1 Z H1 D I1 q1
 |false=>exact hb ac s1 Z H1 D I1 q1
end
abbrev TG:=V->St->Hp->(St->Hp->Prop)->Prop
abbrev TGs:=List V->St->Hp->(St->Hp->Prop)->Prop
def PG(X:Cx)(target:Expr)(t:TG):Prop:=
 ∀(ac:List (Yj×Obj)) (s:Yb) (Z:St) (H:Hp) (v:V) (u:Yk) (Q:St->Hp->Prop),Inv X ac Z H s->RelV v u->t v Z H Q ->
  YB (model X.prog X.w) X.A (assign target X.env u) (λ_ s'=>∃σ' H',Inv X ac σ' H' s'/\Q σ' H') X.xe s
def PGs(X:Cx)(ts:List Expr)(t:TGs):Prop:=
 ∀(ac:List (Yj×Obj)) (s:Yb) (Z:St) (H:Hp) (vs:List V) (us:List Yk) (Q:St->Hp->Prop),Inv X ac Z H s->Zn vs us->t vs Z H Q ->
  YB (model X.prog X.w) X.A (assignInOrder ((assignEach ts X.env).map (·.2)) us) (λ_ s'=>∃σ' H',Inv X ac σ' H' s'/\Q σ' H') X.xe s
abbrev ZoF:=V->V->V->Hp->(Hp->Prop)->Prop
def ZoH(X:Cx)(t:ZoF):Prop:=
 ∀(ac:List (Yj×Obj)) (s:Yb) (Z:St) (H:Hp) (o i v:V) (ov iv u:Yk) (Q:Hp->Prop),Inv X ac Z H s->RelV o ov->RelV i iv->RelV v u->t o i v H Q ->
  YB (model X.prog X.w) X.A (setItem ov iv u) (λ_ s'=>∃H',Inv X ac Z H' s'/\Q H') X.xe s
abbrev TIp:=V->V->Hp->VK->Prop
def PIp(X:Cx)(op:Operator)(t:TIp):Prop:=
 ∀(ac:List (Yj×Obj)) (s:Yb) (Z:St) (H:Hp) (x y:V) (v u:Yk) (Q:VK),Inv X ac Z H s->RelV x v->RelV y u->t x y H Q ->
  YB (model X.prog X.w) X.A (inplaceOp op v u) (EP X ac Z Q) X.xe s
section
variable {X:Cx}{pos:Pos}
noncomputable def Zc0(i:Nat):TG:=λv Z H Q=>Q (Z.set i<|J v) H
def ZmN(hN:X.N.Nodup)(hi:X.N[i]?=J x)(hx:Loc X.env.scope x)(hf:X.fn x=Ws\/X.env.scope.names.lookup x=J .local:=by first|exact .inl rfl|exact .inr rfl|assumption):PG X (.Name x pos) (Zc0 i):=by intro ac s Z H v u Q I r h;exact wpAny_assign_Name (ZeS I hN hi hx r (λs' I'=>⟨_,H,I',h⟩) hf)
noncomputable def ZsV:TGs:=λvs Z H Q=>vs=[]/\Q Z H
noncomputable def Zkg(t:TG)(u:TGs):TGs:=λvs Z H Q=>∃v r,vs=v::r/\t v Z H λσ' H'=>u r σ' H' Q
def ZmL:PGs X [] ZsV:=by intro ac s Z H vs us Q I r h;exact assignInOrder_nil ⟨Z,H,I,h.2⟩
def ZgR(R:PG X e t)(h2:PGs X es u)
 (hs:(assignEach (e::es) X.env).map (·.2)=assign e X.env::(assignEach es X.env).map (·.2):=by rfl):PGs X (e::es) (Zkg t u):=by
 intro ac s Z H vs us Q I r h;obtain⟨v,vr,e1,h⟩:=h;subst e1;cases r with
 |cons r rr=>rw[hs];exact assignInOrder_cons (thn (R ac s Z H _ _ _ I r h) λ_ s1 ⟨σ1,H1,I1,q1⟩=>h2 ac s1 σ1 H1 _ _ Q I1 rr q1)
noncomputable def ZsU(K:Yl)(n:Nat)(t:TGs):TG:=λv Z H Q=>∃a xs,v=.ref a/\SqT K H a xs/\xs.length=n/\t xs Z H Q
def ZpA(hc:X.calm=Ws)(h:PGs X es t)
 (hn:(assignEach es X.env).length=n:=by rfl) (hst:(assignEach es X.env).findIdx? (·.1)=M:=by rfl):PG X (.Tuple es k pos) (ZsU X.K n t):=by
 intro ac s Z H v u Q I r hw;obtain⟨a,xs,e1,hq,hl,hw⟩:=hw;subst e1;cases r;obtain⟨its,rv,ht,hz⟩:=I.tuple hq;exact assign_Tuple_tuple (I.ok.hd hc) ht (by simp[hn,<-hl,rv.length]) hst λh' hx=>h ac _ Z H xs _ Q (I.kept (t':=s.toks) λb o e=>hx b o (Ou<|Yn e) e) (by trivial) hw
noncomputable def ZzT(to ti:TE)(t:ZoF):TG:=λv Z H Q=>to Z H λo H1=>ti Z H1 λi H2=>t o i v H2 λH3=>Q Z H3
def ZpB(ho:PE X o to)(hi:PE X i ti)(hs:ZoH X t)
 (ha:∀v,assign (.Subscript o i pos) X.env v=(do
  let ov <- holding [v] (eval o X.env);let iv <- holding [v,ov] (eval i X.env)
  standAt pos
  holding [v,ov,iv] (setItem ov iv v)
  release [v,ov,iv] []):=by intro _;rfl):PG X (.Subscript o i pos) (ZzT to ti t):=by
 intro ac s Z H v u Q I r h;rw[ha];exact Ya (Wc<|thn (ho ac s Z H _ I h) λov s1 ⟨x,H1,I1,r1,q1⟩=>Ya<|Wc<|thn (hi ac s1 Z H1 _ I1 q1) λiv s2 ⟨y,H2,I2,r2,q2⟩=>Ya<|wpAny_standAt<|Ya<|Wc<|thn (hs ac s2 Z H2 x y v ov iv u _ I2 r1 r2 r q2) λ_ s3 ⟨H3,I3,q3⟩=>wpAny_release ⟨Z,H3,I3,q3⟩)
noncomputable def ZnK(te:TE)(g:TG):TS:=λD Z H=>te Z H λx H1=>g x Z H1 D.nx
def Zlb(he:PE X e te)(hg:PG X tg g)(hs:swapsWithSole [tg] e pos.line X.env=pure Wt:=by rfl)(hw:swappedStores [tg] e X.env=pure M:=by rfl)
 (R:(assignEach [tg] X.env).map (·.2)=[assign tg X.env]:=by rfl):PS X (.Assign [tg] e pos) (ZnK te g):=by
 intro ac s Z H D I h;refine wpAny_Assign_stores (thn (he ac s Z H _ I h) λv s1 ⟨x,H1,I1,r1,q1⟩=>?_) hs hw;rw[R];exact thn (hg ac s1 Z H1 x v _ I1 r1 q1) λ_ s2 q=>q
def Zla(hN:X.N.Nodup)(hi:X.N[i]?=J x)(hx:Loc X.env.scope x)(he:PE X e te)(hs:swapsWith e (J<|.Name x pos') pos.line X.env=pure Wt:=by rfl)(hf:X.fn x=Ws\/X.env.scope.names.lookup x=J .local:=by first|exact .inl rfl|exact .inr rfl|assumption):
 PS X (.Assign [.Name x pos'] e pos) (ZnK te<|Zc0 i):=by
 intro ac s Z H D I h;exact wpAny_Assign_Name (thn (he ac s Z H _ I h) λv s1 ⟨y,H1,I1,r1,q1⟩=>ZeS I1 hN hi hx r1 (λs2 I2=>⟨_,H1,I2,q1⟩) hf) hs
noncomputable def Zzo(i:Nat)(te:TE)(ti:TIp):TS:=λD Z H=>∃x,Z[i]?=J (J x)/\te Z H λy H1=>ti x y H1 λz H2=>D.nx (Z.set i<|J z) H2
def ZuW(hN:X.N.Nodup)(hi:X.N[i]?=J x)(hx:Loc X.env.scope x)(he:PE X e te)(ho:PIp X op ti)(hf:X.fn x=Ws\/X.env.scope.names.lookup x=J .local:=by first|exact .inl rfl|exact .inr rfl|assumption):
 PS X (.AugAssign (.Name x pos') op e pos) (Zzo i te ti):=by
 intro ac s Z H D I h;obtain⟨v,e1,h⟩:=h;obtain⟨m,hn,hl⟩:=I.loc;obtain⟨u,r,l⟩:=hl i x v hi e1 (by rcases hx with k|k;exact .inl k;exact .inr<|.inl k);refine wpAny_AugAssign_Name ?_;have go:YB (model X.prog X.w) X.A (eval e X.env) (λw s₂=>YB (model X.prog X.w) X.A (inplaceOp op u w) (λr s₃=>YB (model X.prog X.w) X.A (storeName X.env x r) (λ_=>SP X ac D .next) X.xe s₃) X.xe s₂) X.xe s:=thn (he ac s Z H _ I h) λw s1 ⟨y,H1,I1,r1,q1⟩=>thn (ho ac s1 Z H1 v y u w _ I1 r r1 q1) λz s2 ⟨zv,H2,I2,r2,q2⟩=>ZeS I2 hN hi hx r2 (λs3 I3=>⟨_,H2,I3,q2⟩) hf;rcases l with⟨hk,hm⟩|⟨hk,c,hc,aQ⟩
 . exact wpAny_loadName_local I.ok.kind hk hn hm go
 . rcases hk with hk|hk
   . exact wpAny_loadName_cell I.ok.kind hk hc aQ go
   . rcases hx with k|k
     . have:X.env.scope.names.lookup x=J .free:=hk;rw[k]at this;cases this
     . have:X.env.scope.names.lookup x=J .free:=hk;rw[k]at this;cases this
noncomputable def ipI(f:Int->Int->Int):TIp:=λx y H Q=>∃i j,x=.int i/\y=.int j/\Q (.int<|f i j) H
def ZvM:PIp X .Add (ipI λi j=>i+j):=by intro ac s Z H x y v u Q I r1 r2 h;obtain⟨i,j,e1,e2,q⟩:=h;subst e1;subst e2;obtain⟨t,rfl⟩:=r1;obtain⟨t',rfl⟩:=r2;exact iadd_int ⟨.int _,H,I.tok _,⟨_,rfl⟩,q⟩
def ZoZ(c:TT)(tb:TS):TS:=λD Z H=>∃W:Nat->St->Hp->Prop,(∃m,W m Z H)/\∀m Z H,W m Z H ->
 c Z H λb H1=>if b=Ws then ∃N:St->Hp->Prop,(∀σ' H',N σ' H'->∃m',m'<m/\W m' σ' H')/\tb {D with nx:=N,ct:=N,bk:=D.nx} Z H1 else D.nx Z H1
def Zpu(hp:PassesOwn (model X.prog X.w) X.A X.env X.xe)(hc:PT X c tc)(hb:PSs X body tb):PS X (.While c body [] pos) (ZoZ tc tb):=by
 intro ac s Z H D I h;obtain⟨W,⟨m0,w0⟩,turn⟩:=h;refine wpAny_While<|codeAny_whileLoop (λn s'=>∃σ' H',Inv X ac σ' H' s'/\W n σ' H') ?_ m0 ⟨Z,H,I,w0⟩;rintro n s1 ⟨σ1,H1,I1,w1⟩;refine wpAny_passesOwn hp<|thn (hc ac s1 σ1 H1 _ I1<|turn n σ1 H1 w1) λb s2 ⟨H2,I2,q2⟩=>?_;cases b with
 |true=>
  obtain⟨N,hN,q2⟩:=q2;refine wpAny_passesOwn hp<|thn (hb ac s2 σ1 H2 _ I2 q2) λf s3 q3=>?_;cases f with
  |next=>obtain⟨σ3,H3,I3,n3⟩:=q3;obtain⟨m',hm,w3⟩:=hN σ3 H3 n3;exact⟨m',hm,σ3,H3,I3,w3⟩
  |cont=>obtain⟨σ3,H3,I3,n3⟩:=q3;obtain⟨m',hm,w3⟩:=hN σ3 H3 n3;exact⟨m',hm,σ3,H3,I3,w3⟩
  |brk=>trivial
  |ret v=>trivial
 |false=>exact wpAny_execs_nil ⟨σ1,H2,I2,q2⟩
end
structure It where
 go:Nat->Hp->Prop
 yld:Nat->Hp->V->Hp->Prop
 stop:Nat->Hp->Prop
def ZdO(X:Cx)(ac:List (Yj×Obj))(H:Hp)(b:Yj):Prop:=H b=M/\b≠X.env.locals/\b ∉ X.fs/\(b∈X.ex\/X.s₀.heap.objs.size<=b)/\(∀x c,X.env.cells.lookup x=J c->c≠b)/\∀p∈X.pn++ac,p.1≠b
def Inv.fpOk(I:Inv X ac Z H s)(hb:s.heap.objs.size<=b)(hn:H' b=M):ZdO X ac H' b:=by
 refine⟨hn,Nat.ne_of_gt<|Ot I.lt hb,I.nofs hb,.inr<|OE I.sz hb,λx c e z=>?_,λp hp z=>?_⟩
 . obtain⟨v,q⟩:=I.cell x c e;exact absurd (Ot q.lt<|by simp_all) (Yw _)
 . exact absurd (Ot (Yn (I.pin p hp).1)<|by simp_all) (Yw _)
structure Turn(P:Yi)(w:Yh)(K:Yl)(tg:Expr)(qa:It)(fp:List Yj)(it:Yj)(tn:Nat->YG->Prop):Prop where
 mem:it∈fp
 obj:∀i h,tn i h->∀b∈fp,∃o,h.get? b=J o/\∀v,o.data≠.cell v
 keep:∀i h h',tn i h->(∀b∈fp,∀o,h.get? b=J o->h'.get? b=J o)->tn i h'
 item:∀(X:Cx),X.prog=P->X.w=w->X.K=K->X.calm=Ws->∀(i:Nat) (ac:List (Yj×Obj)) (s:Yb) (Z:St) (H:Hp) (E:Yk->Yb->Prop),Inv X ac Z H s->(∀b∈fp,ZdO X ac H b)->tn i s.heap->qa.go i H ->
  YB (model P w) X.A (pyNext<|.ref it) (λr s1=>∃u,r=J u /\
   YB (model P w) X.A (letOwnedTupleGo tg (.ref it) u) (λ_ s2=>∃x H',Inv X ac Z H' s2/\RelV x u/\qa.yld i H x H'/\tn (i+1) s2.heap/\∀b∈fp,H' b=M) E s1) E s
 done:∀(X:Cx),X.prog=P->X.w=w->X.K=K->X.calm=Ws->∀(i:Nat) (ac:List (Yj×Obj)) (s:Yb) (Z:St) (H:Hp) (E:Yk->Yb->Prop),Inv X ac Z H s->(∀b∈fp,ZdO X ac H b)->tn i s.heap->qa.stop i H ->
  YB (model P w) X.A (pyNext<|.ref it) (λr s1=>r=M/\Inv X ac Z H s1) E s
 self:∀(A:YH) (i:Nat) (s:Yb) (Q:Yk->Yb->Prop) (E:Yk->Yb->Prop),tn i s.heap->Q (.ref it) s->YB (model P w) A (pyIter<|.ref it) Q E s
abbrev TI:=St->Hp->(It->Hp->Prop)->Prop
def PIE(X:Cx)(ac:List (Yj×Obj))(Z:St)(tg:Expr)(qd:It->Hp->Prop)(i4:Yk)(s2:Yb):Prop:=∃(it:Yj) (fp:List Yj) (tn:Nat->YG->Prop) (qa:It) (H':Hp),i4=.ref it/\Inv X ac Z H' s2/\Turn X.prog X.w X.K tg qa fp it tn/\tn 0 s2.heap/\(∀b∈fp,ZdO X ac H' b)/\qd qa H'
def PI(X:Cx)(tg iter:Expr)(wi:TI):Prop:=
 ∀(ac:List (Yj×Obj)) (s:Yb) (Z:St) (H:Hp) (qd:It->Hp->Prop),Inv X ac Z H s->wi Z H qd ->
  YB (model X.prog X.w) X.A (eval iter X.env) (λv s1=>YB (model X.prog X.w) X.A (pyIter v) (PIE X ac Z tg qd) X.xe s1) X.xe s
theorem Zis(ho:s.heap.get? it=J o)(hc:o.cls=.type n)(hd:o.data=.fields vs)
   (hn:["enumerate", "zip", "dict_itemiterator", "dict_reverseitemiterator", "odict_iterator", "itertools.zip_longest", "itertools.pairwise"].contains n=Wt) (hQ:Q () s):YB qb A (letOwnedTupleGo tg (.ref it) u) Q E s:=by
 cases tg<;>first
   |exact Yd hQ
   | (cases u<;>first
       |exact Yd hQ
       | (refine Ya (wpAny_load ho ?_)
          rw [hc,hd];show YB qb A (if (["enumerate", "zip", "dict_itemiterator", "dict_reverseitemiterator", "odict_iterator", "itertools.zip_longest", "itertools.pairwise"].contains n&&vs[0]?==J (rawInt _))=Ws then _ else _) Q E s;rw [if_neg (by intro h;rw [hn,Bool.false_and] at h;cases h)];exact Yd hQ))
noncomputable def Itl(K:Yl)(a:Yj):It:=⟨λi H=>∃xs x,SqL K H a xs/\xs[i]?=J x,λi H x H'=>H'=H/\∀xs,SqL K H a xs->xs[i]?=J x,λi H=>∃xs,SqL K H a xs/\xs.length<=i⟩
noncomputable def Itt(K:Yl)(a:Yj):It:=⟨λi H=>∃xs x,SqT K H a xs/\xs[i]?=J x,λi H x H'=>H'=H/\∀xs,SqT K H a xs->xs[i]?=J x,λi H=>∃xs,SqT K H a xs/\xs.length<=i⟩
noncomputable def Itr(lo:Int)(n:Nat):It:=⟨λi _=>i<n,λi H x H'=>H'=H/\x=.int (lo+i),λi _=>n<=i⟩
def ZnF{P}{w}{K}{tg}(a it):Turn P w K tg (Itl K a) [it] it (λi h=>h.IsListIter it a i) where
 mem:=by simp
 obj:=λi h st b hb=>by
  have e:=by simpa using hb
  subst e;obtain⟨o,e,c,d⟩:=st
  simp_all
 keep:=λi h h' st k=>st.at λo e=>k it (by simp) o e
 item:=by intro X hP hw hK hc i ac s Z H E I hf st hg;subst hP hw hK;obtain⟨xs,x,hq,hx⟩:=hg;obtain⟨its,rv,p,hz⟩:=I.list hq;obtain⟨u,hu,ru⟩:=rv.get hx;obtain⟨f0,f1,f2,f3,f4,f5⟩:=hf it (by simp);refine wpAny_pyNext_list_item st p.isList (x:=u) (by simpa using hu) λh' bh sb=>?_;obtain⟨o,e,c,d⟩:=id bh;exact⟨u,rfl,Zis (s:={s with heap:=h'}) e c d (by decide) ⟨x,H,I.turned (t':=s.toks) (λb o hb e=>(sb.2 b hb).trans e) f0 f1 f3 f4 f5,ru,⟨rfl,λys hy=>I.list_inj hy hq▸hx⟩,bh,λb hb=>(hf b hb).1⟩⟩
 done:=by intro X hP hw hK hc i ac s Z H E I hf st hg;subst hP hw hK;obtain⟨xs,hq,hx⟩:=hg;obtain⟨its,rv,p,hz⟩:=I.list hq;obtain⟨f0,f1,f2,f3,f4,f5⟩:=hf it (by simp);have hl:=rv.length;exact wpAny_pyNext_list_end (I.ok.hd hc) st p.isList (by simp;lia) λh' eb=>⟨rfl,I.turned (t':=s.toks) (λb o hb e=>eb b o hb e) f0 f1 f3 f4 f5⟩
 self:=λ_ _ _ _ _ st h=>wpAny_pyIter_listiter st h
def ZkZ{P}{w}{K}{tg}(a it):Turn P w K tg (Itt K a) [it] it (λi h=>h.IsTupleIter it a i) where
 mem:=by simp
 obj:=λi h st b hb=>by
  have e:=by simpa using hb
  subst e;obtain⟨o,e,c,d⟩:=st
  simp_all
 keep:=λi h h' st k=>st.at λo e=>k it (by simp) o e
 item:=by intro X hP hw hK hc i ac s Z H E I hf st hg;subst hP hw hK;obtain⟨xs,x,hq,hx⟩:=hg;obtain⟨its,rv,p,hz⟩:=I.tuple hq;obtain⟨u,hu,ru⟩:=rv.get hx;obtain⟨f0,f1,f2,f3,f4,f5⟩:=hf it (by simp);refine wpAny_pyNext_tuple_item st (show s.heap.IsTuple a its.toArray from p) (x:=u) (by simpa using hu) λh' bh sb=>?_;obtain⟨o,e,c,d⟩:=id bh;exact⟨u,rfl,Zis (s:={s with heap:=h'}) e c d (by decide) ⟨x,H,I.turned (t':=s.toks) (λb o hb e=>(sb.2 b hb).trans e) f0 f1 f3 f4 f5,ru,⟨rfl,λys hy=>I.tuple_inj hy hq▸hx⟩,bh,λb hb=>(hf b hb).1⟩⟩
 done:=by intro X hP hw hK hc i ac s Z H E I hf st hg;subst hP hw hK;obtain⟨xs,hq,hx⟩:=hg;obtain⟨its,rv,p,hz⟩:=I.tuple hq;obtain⟨f0,f1,f2,f3,f4,f5⟩:=hf it (by simp);have hl:=rv.length;exact wpAny_pyNext_tuple_end (I.ok.hd hc) st (show s.heap.IsTuple a its.toArray from p) (by simp;lia) λh' eb=>⟨rfl,I.turned (t':=s.toks) (λb o hb e=>eb b o hb e) f0 f1 f3 f4 f5⟩
 self:=λ_ _ _ _ _ st h=>wpAny_pyIter_tupleiter st h
def Zk0{P}{w}{K}{tg}(it)(lo)(n):Turn P w K tg (Itr lo n) [it] it (λi h=>IsRangeIter h it (lo+i*1) (n-i) 1) where
 mem:=by simp
 obj:=λi h st b hb=>by simp_all
 keep:=λi h h' st k=>k it (by simp) _ st
 item:=by intro X hP hw hK hc i ac s Z H E I hf st hg;subst hP hw hK;obtain⟨f0,f1,f2,f3,f4,f5⟩:=hf it (by simp);refine(Walks.range (prog:=X.prog) (w:=X.w) (I.ok.hd hc) it lo 1 n).item i s _ _ hg st λv h' tk hv bh kk=>?_;obtain⟨t,rfl⟩:=hv;refine⟨_,rfl,Zis (s:={s with heap:=h',toks:=tk}) (n := "range_iterator") bh rfl rfl (by decide) ⟨.int<|lo+i,H,I.turned (λb o hb e=>kk b o (by simpa using hb) e) f0 f1 f3 f4 f5,⟨t,?_⟩,⟨rfl,rfl⟩,bh,λb hb=>(hf b hb).1⟩⟩;simp
 done:=by intro X hP hw hK hc i ac s Z H E I hf st hg;subst hP hw hK;obtain⟨f0,f1,f2,f3,f4,f5⟩:=hf it (by simp);exact wpAny_pyNext_range_end (I.ok.hd hc) st (by have:n<=i:=hg;lia) λh' eb=>⟨rfl,I.turned (t':=s.toks) (λb o hb e=>eb b o hb e) f0 f1 f3 f4 f5⟩
 self:=λ_ _ _ _ _ st h=>wpAny_pyIter_rangeiter st h
section
variable {X:Cx}{tg:Expr}
def Zpa{ac}{Z:St}{H}{s}{qd}{E}{lo hi}{t u v}{tk}(I:Inv X ac Z H s)(R:-(2^62)<=lo)(h2:lo<2^62)(h3:-(2^62)<=hi)(h4:hi<2^62)
 (q:qd (Itr lo (hi-lo).toNat) H):YB (model X.prog X.w) X.A (pyIter<|.ref s.heap.objs.size) (PIE X ac Z tg qd) E {s with heap:=s.heap.push {cls:=.type "range",data:=.fields #[.int lo t,.int hi u,.int 1 v]},toks:=tk}:=by
 refine wpAny_pyIter_range (IsRange.new ..) (small_one R h2 h3 h4) ?_;have I1:Inv X ac Z H {s with heap:=s.heap.push {cls:=.type "range",data:=.fields #[.int lo t,.int hi u,.int 1 v]},toks:=tk}:=I.kept λb o e=>Od _ e;refine⟨(s.heap.push {cls:=.type "range",data:=.fields #[.int lo t,.int hi u,.int 1 v]}).objs.size,[(s.heap.push {cls:=.type "range",data:=.fields #[.int lo t,.int hi u,.int 1 v]}).objs.size],_,_,H,rfl,
  I1.kept λb o e=>Od _ e,Zk0 _ lo (hi-lo).toNat,?_,λb hb=>?_,q⟩
 . have e1:lo+(0:Nat)*1=lo:=by simp
   have e2:((hi-lo).toNat)-(0:Nat)=Builtin.Range.rangeSize lo hi 1:=by rw[rangeSize_one];split<;>lia
   rw[e1,e2];exact Oj _ rfl
 . have e:b=(s.heap.push {cls:=.type "range",data:=.fields #[.int lo t,.int hi u,.int 1 v]}).objs.size:=by simpa using hb
   subst e;exact I1.fpOk (Oq _) (I1.hok.fresh<|Oq _)
def Zyn(ta:TA):TI:=λZ H qd=>ta Z H λvs H1=>∃j:Int,vs=[.int j]/\-(2^62)<=j/\j<2^62/\qd (Itr 0 j.toNat) H1
def ZnZ{a}{ta}{p pos}(hg:Gl X "range")(hm:X.mg "range"=M)(ha:PA X [a] ta)(hs:YA [a] X.env=[(Wt,eval a X.env)]:=by rfl):PI X tg (.Call (.Name "range" p) [a] [] pos) (Zyn ta):=by
 intro ac s Z H qd I h;refine Call_<|Zcm I hg hm boot_range<|PyProof.Rows.callWith_type1 (thn (ha pos ac s Z H _ I h) λus s1 ⟨vs,H1,I1,r1,q1⟩=>?_) hs rfl;obtain⟨j,e,q1,q2,q⟩:=q1;subst e;cases r1 with
 |cons r rr=>cases rr;obtain⟨t,rfl⟩:=r;exact call_range_1 (Zpa I1 (by lia) (by lia) q1 q2<|by simp_all)
def Zzk(wi:TI)(g:TG)(tb:TS):TS:=λD Z H=>wi Z H λqa H1=>∃W:Nat->Nat->St->Hp->Prop,(∃m,W 0 m Z H1)/\∀i m Z H,W i m Z H ->
 (qa.stop i H/\D.nx Z H)\/(qa.go i H/\∃N:St->Hp->Prop,(∀σ' H',N σ' H'->∃m',m'<m/\W (i+1) m' σ' H')/\∀x H',qa.yld i H x H'->g x Z H' λσ2 H2=>tb {D with nx:=N,ct:=N,bk:=D.nx} σ2 H2)
noncomputable def ZgQ(fp:List Yj)(h:YG):List (Yj×Obj):=fp.filterMap λb=>(h.get? b).map λo=>(b,o)
def ZcJ(hb:b∈fp)(e:h.get? b=J o):(b,o)∈ZgQ fp h:=List.mem_filterMap.mpr ⟨b,hb,by simp_all⟩
def Zn7(hp:p∈ZgQ fp h):p.1∈fp/\h.get? p.1=J p.2:=by
 obtain⟨b,hb,e⟩:=List.mem_filterMap.mp hp;cases q:h.get? b with
 |none=>simp_all
 |some o=>rw[q]at e;have e':=YF e;subst e';trivial
def Inv.pinned(I:Inv X ac Z H s)(hf:∀b∈fp,ZdO X ac H b)(ho:∀b∈fp,∃o,s.heap.get? b=J o/\∀v,o.data≠.cell v):Inv X (ac++ZgQ fp s.heap) Z H s:=
 I.pins_of λp hp=>(OD.mp hp).elim (λz=>I.pin p<|Ov _ z) λz=>by
  obtain⟨hb,e⟩:=Zn7 z;obtain⟨f0,f1,f2,_⟩:=hf p.1 hb;obtain⟨o,e',d⟩:=ho p.1 hb
  simp_all
def Inv.unpinned(I:Inv X (ac++pl) Z H s):Inv X ac Z H s:=I.pins_of λp hp=>I.pin p (Ov _<|Ys _ hp)
def ZuU(hp:PassesOwn (model X.prog X.w) X.A X.env X.xe)(hc:X.calm=Ws)(hi:PI X tg iter wi)(hg:PG X tg g)(hb:PSs X body tb)
 (hs:∀x,foldedSetIterable iter X.env x=pure x:=by intro _;rfl):PS X (.For tg iter body [] pos) (Zzk wi g tb):=by
 intro ac s Z H D I h;refine wpAny_For (thn (hi ac s Z H _ I h) λv s1 R=>thn R λi4 s2 h2=>?_) hs;obtain⟨it,fp,tn,qa,H2,e,I2,T,bU,f2,W,⟨m0,w0⟩,turn⟩:=h2;subst e;have bw:∀{H':Hp},(∀b∈fp,H' b=M)->∀b∈fp,ZdO X ac H' b:=λhn b hb=>⟨hn b hb,(f2 b hb).2⟩
 refine codeAny_forLoop_any (λn s'=>∃i σ' H',Inv X ac σ' H' s'/\tn i s'.heap/\(∀b∈fp,H' b=M)/\W i n σ' H') ?_ m0 ⟨0,Z,H2,I2,bU,λb hb=>(f2 b hb).1,w0⟩;rintro n s3 ⟨i,σ3,H3,I3,st3,fr3,w3⟩;rcases turn i n σ3 H3 w3 with⟨stop,qn⟩|⟨go,N,hN,step⟩
 . refine wpAny_passesOwn hp (thn (T.done X rfl rfl rfl hc i ac s3 σ3 H3 X.xe I3 (bw fr3) st3 stop) λr s4 ⟨hr,I4⟩=>?_);subst hr;exact wpAny_execs_nil ⟨σ3,H3,I4,qn⟩
 . refine wpAny_passesOwn hp (thn (T.item X rfl rfl rfl hc i ac s3 σ3 H3 X.xe I3 (bw fr3) st3 go) λr s4 ⟨u,hr,h4⟩=>?_);subst hr;refine wpAny_passesOwn hp<|thn h4 λ_ s5 ⟨x,H5,I5,r5,y5,eI,gQ⟩=>wpAny_passesOwn hp<|thn (hg _ s5 σ3 H5 x u _ (I5.pinned (bw gQ)<|T.obj _ _ eI) r5<|step x H5 y5) λ_ s6 ⟨σ6,H6,I6,q6⟩=>wpAny_passesOwn hp<|thn (hb _ s6 σ6 H6 _ I6 q6) λf s7 q7=>?_;have again:∀{σ7:St}{H7:Hp},Inv X (ac++ZgQ fp s5.heap) σ7 H7 s7->N σ7 H7->∃m,m<n/\∃i σ' H',Inv X ac σ' H' s7/\tn i s7.heap/\(∀b∈fp,H' b=M)/\W i m σ' H':=λ{σ7 H7} I7 n7=>by obtain⟨m',hm,w7⟩:=hN σ7 H7 n7;refine⟨m',hm,i+1,σ7,H7,I7.unpinned,T.keep _ _ _ eI λb hb o e=>(I7.pin (b,o)<|Ov _<|Ov _<|ZcJ hb e).1,λb hb=>?_,w7⟩;obtain⟨o,e,d⟩:=T.obj _ _ eI b hb;exact(I7.pin (b,o)<|Ov _<|Ov _<|ZcJ hb e).2.1
   cases f with
   |next=>obtain⟨σ7,H7,I7,n7⟩:=q7;exact again I7 n7
   |cont=>obtain⟨σ7,H7,I7,n7⟩:=q7;exact again I7 n7
   |brk=>obtain⟨σ7,H7,I7,q7⟩:=q7;exact⟨σ7,H7,I7.unpinned,q7⟩
   |ret v=>obtain⟨x7,σ7,H7,I7,r7,q7⟩:=q7;exact⟨x7,σ7,H7,I7.unpinned,r7,q7⟩
end
abbrev R2:=V->V->Hp->VK->Prop
def OpR(X:Cx)(f:Yk->Yk->Sem Yk)(r:R2):Prop:=
 ∀(ac:List (Yj×Obj)) (s:Yb) (Z:St) (H:Hp) (x y:V) (v u:Yk) (Q:VK),Inv X ac Z H s->RelV x v->RelV y u->r x y H Q ->
  YB (model X.prog X.w) X.A (f v u) (EP X ac Z Q) X.xe s
def UnR(X:Cx)(f:Yk->Sem Yk)(r:V->Hp->VK->Prop):Prop:=
 ∀(ac:List (Yj×Obj)) (s:Yb) (Z:St) (H:Hp) (x:V) (v:Yk) (Q:VK),Inv X ac Z H s->RelV x v->r x H Q ->
  YB (model X.prog X.w) X.A (f v) (EP X ac Z Q) X.xe s
def Z4(X:Cx)(f:Yk)(r:List V->Hp->VK->Prop):Prop:=
 ∀(ac:List (Yj×Obj)) (s:Yb) (Z:St) (H:Hp) (xs:List V) (us:List Yk) (Q:VK),Inv X ac Z H s->Zn xs us->r xs H Q ->
  YB (model X.prog X.w) X.A (call f us) (EP X ac Z Q) X.xe s
def Zz6(X:Cx)(r:V->Hp->(Bool->Hp->Prop)->Prop):Prop:=
 ∀(ac:List (Yj×Obj)) (s:Yb) (Z:St) (H:Hp) (x:V) (v:Yk) (Q:Bool->Hp->Prop),Inv X ac Z H s->RelV x v->r x H Q ->
  YB (model X.prog X.w) X.A (truthy v) (TP X ac Z Q) X.xe s
def tOp(r:R2)(ta tb:TE):TE:=λZ H Q=>ta Z H λx H1=>tb Z H1 λy H2=>r x y H2 Q
noncomputable def tUn(r:V->Hp->VK->Prop)(ta:TE):TE:=λZ H Q=>ta Z H λx H1=>r x H1 Q
noncomputable def rI(C:Int->Int->Prop)(g:Int->Int->V):R2:=λx y H Q=>∃i j,x=.int i/\y=.int j/\C i j/\Q (g i j) H
noncomputable def rI0(g:Int->Int->V):R2:=λx y H Q=>∃i j,x=.int i/\y=.int j/\Q (g i j) H
def rU(g:Int->V):V->Hp->VK->Prop:=λx H Q=>∃i,x=.int i/\Q (g i) H
section
variable {X:Cx}{a b:Expr}{ta tb:TE}{pos:Pos}
def Zwj(ha:PE X a ta)(hb:PE X b tb){ac}{s}{Z:St}{H}{qd:V->V->Hp->Prop}(I:Inv X ac Z H s)
 (h:ta Z H λx H1=>tb Z H1 λy H2=>qd x y H2) {Q}{f:Yk->Yk->Sem Yk}
 (hf:∀v u s2 x y H2,Inv X ac Z H2 s2->RelV x v->RelV y u->qd x y H2->YB (model X.prog X.w) X.A (f v u) Q X.xe s2) :
 YB (model X.prog X.w) X.A (eval a X.env) (λv s₁=>YB (model X.prog X.w) X.A (eval b X.env) (λu s₂=>YB (model X.prog X.w) X.A (f v u) Q X.xe s₂) X.xe s₁) X.xe s:=thn (ha ac s Z H _ I h) λv s1 ⟨x,H1,I1,r1,q1⟩=>thn (hb ac s1 Z H1 _ I1 q1) λu s2 ⟨y,H2,I2,r2,q2⟩=>hf v u s2 x y H2 I2 r1 r2 q2
def ZxF{op}{r}(ho:OpR X (binaryOp op) r)(ha:PE X a ta)(hb:PE X b tb):PE X (.BinOp a op b pos) (tOp r ta tb):=by intro ac s Z H Q I h;exact wpAny_BinOp (Zwj ha hb I h λv u s2 x y H2 I2 rx ry q=>ho ac s2 Z H2 x y v u Q I2 rx ry q)
def ZxD{op}{r}(ho:UnR X (unaryOp op) r)(ha:PE X a ta):PE X (.UnaryOp op a pos) (tUn r ta):=by intro ac s Z H Q I h;exact UnaryOp_ (thn (ha ac s Z H _ I h) λv s1 ⟨x,H1,I1,r1,q1⟩=>ho ac s1 Z H1 x v Q I1 r1 q1)
def opI{f}{C}{g:Int->Int->Int}
 (rule:∀(i j) (t u) (s) (Q) (E),C i j->Q (.int (g i j) s.toks) {s with toks:=s.toks+1}->YB (model X.prog X.w) X.A (f (.int i t)<|.int j u) Q E s) :
 OpR X f (rI C λi j=>.int<|g i j):=by
 intro ac s Z H x y v u Q I rx ry h;obtain⟨i,j,rfl,rfl,hc,q⟩:=h;obtain⟨t,rfl⟩:=rx;obtain⟨t',rfl⟩:=ry;exact rule i j t t' s _ _ hc ⟨.int<|g i j,H,I.tok _,⟨_,rfl⟩,q⟩
def ZxS{g:Int->Int->Int}
 (rule:∀(i j) (t u) (s) (Q) (E),Q (.int (g i j) s.toks) {s with toks:=s.toks+1}->YB (model X.prog X.w) X.A (f (.int i t)<|.int j u) Q E s) :
 OpR X f (rI0 λi j=>.int<|g i j):=by
 intro ac s Z H x y v u Q I rx ry h;obtain⟨i,j,rfl,rfl,q⟩:=h;obtain⟨t,rfl⟩:=rx;obtain⟨t',rfl⟩:=ry;exact rule i j t t' s _ _ ⟨.int<|g i j,H,I.tok _,⟨_,rfl⟩,q⟩
def Zsp{g:Int->Int->Bool}
 (rule:∀(i j) (t u) (s) (Q) (E),Q (.bool<|g i j) s->YB (model X.prog X.w) X.A (f (.int i t)<|.int j u) Q E s) :
 OpR X f (rI0 λi j=>.bl<|g i j):=by
 intro ac s Z H x y v u Q I rx ry h;obtain⟨i,j,rfl,rfl,q⟩:=h;obtain⟨t,rfl⟩:=rx;obtain⟨t',rfl⟩:=ry;exact rule i j t t' s _ _ ⟨.bl<|g i j,H,I,rfl,q⟩
def Zz8(i j:Int):Prop:=0<j/\j<1073741824
def Zz7(i j:Int):Prop:=0<=j/\j<=1000000/\i.natAbs<2^64
def Zve:OpR X (binaryOp .Add) (rI0 λi j=>.int<|i+j):=ZxS λ_ _ _ _ _ _ _ q=>add_int q
def Zu7:OpR X (binaryOp .Sub) (rI0 λi j=>.int<|i-j):=ZxS λ_ _ _ _ _ _ _ q=>sub_int q
def Zse:OpR X (binaryOp .FloorDiv) (rI Zz8 λi j=>.int<|i/j):=opI λi j _ _ _ _ _ hc q=>by have R:=hc.1;have h2:=hc.2;exact floordiv_int (by lia) (by rw[Int.fdiv_eq_ediv_of_nonneg i<|by lia];exact q) (.inl<|PyProof.noPylong_small<|by lia)
def Zu9:OpR X (binaryOp .Mod) (rI (λ_ j=>0<j) λi j=>.int<|i%j):=opI λi j _ _ _ _ _ hc q=>mod_int' (by lia) (by rw[Int.fmod_eq_emod_of_nonneg i<|by lia];exact q)
def Zu8:OpR X (binaryOp .Pow) (rI Zz7 λi j=>.int<|i^j.toNat):=opI λ_ _ _ _ _ _ _ hc q=>pow_int_small hc.1 hc.2.1 hc.2.2 q
def unI{g:Int->Int}
 (rule:∀(i) (t) (s) (Q) (E),Q (.int (g i) s.toks) {s with toks:=s.toks+1}->YB (model X.prog X.w) X.A (f<|.int i t) Q E s) :
 UnR X f (rU λi=>.int<|g i):=by
 intro ac s Z H x v Q I rx h;obtain⟨i,rfl,q⟩:=h;obtain⟨t,rfl⟩:=rx;exact rule i t s _ _ ⟨.int<|g i,H,I.tok _,⟨_,rfl⟩,q⟩
def Zum:UnR X (unaryOp .USub) (rU λi=>.int<|-i):=unI λ_ _ _ _ _ q=>neg_int q
def Zi8(I:Inv X ac Z H s)(q:Q (.bl k) H)(e:k=k'):EP X ac Z Q (.bool k') s:=by subst e;exact⟨.bl k,H,I,rfl,q⟩
def ZxL:OpR X (YM .Lt) (rI0 λi j=>.bl<|Wu<|i<j):=Zsp λ_ _ _ _ _ _ _ q=>lt_int q
def ZxM:OpR X (YM .LtE) (rI0 λi j=>.bl<|Wu<|i<=j):=Zsp λ_ _ _ _ _ _ _ q=>le_int q
def ZxN:OpR X (YM .Gt) (rI0 λi j=>.bl<|Wu<|j<i):=Zsp λ_ _ _ _ _ _ _ q=>gt_int q
def ZxO:OpR X (YM .GtE) (rI0 λi j=>.bl<|Wu<|j<=i):=Zsp λ_ _ _ _ _ _ _ q=>ge_int q
def Zva:OpR X (YM .Is) (λx y H Q=>y=.non/\Q (.bl<|Wu<|x=.non) H):=by
 intro ac s Z H x y v u Q I rx ry h;obtain⟨rfl,q⟩:=h;cases ry;refine is_none_gen<|Zi8 I q ?_;cases x<;>first
  |trivial
  |(obtain⟨t,rfl⟩:=rx;rfl)
def Zsc:OpR X (YM .IsNot) (λx y H Q=>y=.non/\Q (.bl<|!Wu (x=.non)) H):=by
 intro ac s Z H x y v u Q I rx ry h;obtain⟨rfl,q⟩:=h;cases ry;refine isnot_none_gen<|Zi8 I q ?_;cases x<;>first
  |trivial
  |(obtain⟨t,rfl⟩:=rx;rfl)
def ZiT{op}{r}(ho:OpR X (YM op) r)(ha:PE X a ta)(hb:PE X b tb)(hm:behindInMarks op b=Wt):PE X (.Compare a [op] [b] pos) (tOp r ta tb):=by intro ac s Z H Q I h;exact wpAny_Compare1 (Zwj ha hb I h λv u s2 x y H2 I2 rx ry q=>ho ac s2 Z H2 x y v u Q I2 rx ry q) hm
noncomputable def Zw3(t:TE):TT:=λZ H Q=>t Z H λx H'=>∃k,x=.bl k/\Q k H'
def ZiR{op}{r}(ho:OpR X (YM op) r)(ha:PE X a ta)(hb:PE X b tb)(hm:behindInMarks op b=Wt):PT X (.Compare a [op] [b] pos) (Zw3<|tOp r ta tb):=by
 intro ac s Z H Q I h;refine wpAny_isTrue_Compare1 (thn (ha ac s Z H _ I h) λv s1 ⟨x,H1,I1,r1,q1⟩=>thn (hb ac s1 Z H1 _ I1 q1) λu s2 ⟨y,H2,I2,r2,q2⟩=>thn (ho ac s2 Z H2 x y v u _ I2 r1 r2 q2) λc s3 ⟨z,H3,I3,r3,k,e,q3⟩=>?_) hm
 subst e;cases r3;exact wpAny_truthy_bool ⟨H3,I3,q3⟩
def Zwv(K:Yl)(x:V)(H:Hp)(k:Bool):Prop:=
 match x with
 |.non=>k=Wt
 |.bl b=>k=b
 |.int i=>k=(i != 0)
 |.str y=>y.length<=Yc/\k=((y.length:Int) != 0)
 |.byt y=>y.size<=Yc/\k=((y.size:Int) != 0)
 |.ref p=>(∃xs,SqL K H p xs/\k=!xs.isEmpty)\/(∃xs,SqT K H p xs/\k=!xs.isEmpty)\/∃kvs,H p=J (.dK kvs)/\k=!kvs.isEmpty
 |_=>False
def ZlH(r:KV kvs vs):(!vs.isEmpty)=!kvs.isEmpty:=by cases r<;>rfl
def Zg5(r:Zn xs its):(!its.toArray.isEmpty)=!xs.isEmpty:=by cases r<;>simp
def Zcl:Yc<2^63:=by trivial
def Zuq:Zz6 X (λx H Q=>∃k,Zwv X.K x H k/\Q k H):=by
 intro ac s Z H x v Q I rx h;obtain⟨k,e,q⟩:=h;have hs:=YC;cases x with
 |non=>cases rx;subst e;exact truthy_none ⟨H,I,q⟩
 |bl b=>cases rx;subst e;exact wpAny_truthy_bool ⟨H,I,q⟩
 |int i=>obtain⟨t,rfl⟩:=rx;subst e;exact PySem.P.truthy_int ⟨H,I,q⟩
 |str y=>obtain⟨t,rfl⟩:=rx;obtain⟨hy,e'⟩:y.length<=Yc/\k=((y.length:Int) != 0):=e;subst e';exact PySem.P.truthy_str (by lia) ⟨H,I.tok _,q⟩
 |byt y=>obtain⟨t,rfl⟩:=rx;obtain⟨hy,e'⟩:y.size<=Yc/\k=((y.size:Int) != 0):=e;subst e';exact PySem.W.truthy_bytes (by lia) ⟨H,I.tok _,q⟩
 |ref p=>
  cases rx;have e':(∃xs,SqL X.K H p xs/\k=!xs.isEmpty)\/(∃xs,SqT X.K H p xs/\k=!xs.isEmpty)\/∃kvs,H p=J (.dK kvs)/\k=!kvs.isEmpty:=e;rcases e' with⟨xs,hx,e'⟩|⟨xs,hx,e'⟩|⟨kvs,hx,e'⟩
  . subst e';obtain⟨its,r,pl,hz⟩:=I.list hx;have av:=r.length;exact wpAny_truthy_list pl.isList (by simp only[Of];lia) ⟨H,I.tok _,by rw[Zg5 r];exact q⟩
  . subst e';obtain⟨its,r,pl,hz⟩:=I.tuple hx;have av:=r.length;exact truthy_tuple pl (by simp only[Of];lia) ⟨H,I.tok _,by rw[Zg5 r];exact q⟩
  . subst e';obtain⟨hz,hS,vs,r,m⟩:kvs.length<=Yc/\(p==Yf)=Wt/\∃vs,KV kvs vs/\s.heap.DictOf (ZP X.prog X.w) p vs:=I.hok p _ hx;have av:kvs.length=vs.length:=Paired.length r;exact wpAny_truthy_dict hS m (by lia) ⟨H,I.tok _,by rw[ZlH r];exact q⟩
 |_=>exact(show False from e).elim
def Zps(ha:PE X a ta)(he:∀aL,isTrue a X.env aL=(do let v <- aL;standAt a.pos;holding [v]<|truthy v)):
 PT X a (λZ H Q=>ta Z H λx H'=>∃k,Zwv X.K x H' k/\Q k H'):=by
 intro ac s Z H Q I h;exact isTrue_plain (thn (ha ac s Z H _ I h) λv s1 ⟨x,H1,I1,r1,q1⟩=>Zuq ac s1 Z H1 x v Q I1 r1 q1) (he _)
def Zli:OpR X (binaryOp .Add) (λx y H Q=>∃i j,x=.str i/\y=.str j/\i.length+j.length<=Yc/\Q (.str<|i++j) H):=by intro ac s Z H x y v u Q I rx ry h;obtain⟨i,j,rfl,rfl,hz,q⟩:=h;obtain⟨t,rfl⟩:=rx;obtain⟨t',rfl⟩:=ry;exact add_str (λt' tk=>⟨.str<|i++j,H,I.tok _,⟨_,rfl⟩,q⟩) hz
def vals1{x}{us}(r:Zn [x] us):∃u,us=[u]/\RelV x u:=by
 cases r with
 |cons r1 r2=>cases r2;exact⟨_,rfl,r1⟩
def vals2{x y}{us}(r:Zn [x,y] us):∃u w',us=[u,w']/\RelV x u/\RelV y w':=by
 cases r with
 |cons r1 r2=>
  cases r2 with
  |cons r3 r4=>cases r4;exact⟨_,_,rfl,r1,r3⟩
def Ziy:Z4 X (.type "int") (λxs H Q=>(∃i,xs=[.int i]/\Q (.int i) H)\/∃k,xs=[.bl k]/\Q (.int<|if k then 1 else 0) H):=by
 intro ac s Z H xs us Q I r h;rcases h with⟨i,rfl,q⟩|⟨k,rfl,q⟩
 . obtain⟨u,rfl,t,rfl⟩:=vals1 r;exact call_int_int ⟨.int i,H,I,⟨_,rfl⟩,q⟩
 . obtain⟨u,rfl,r1⟩:=vals1 r;cases r1;exact call_int_bool ⟨.int<|if k then 1 else 0,H,I.tok _,⟨_,rfl⟩,q⟩
end
structure ObjM(h:YG)(x dx C:Yj)(mA:Str->Option Yk):Prop where
 obj:h.get? x=J (Wf C dx)
 ns:h.Ns1 dx mA
 ne:dx≠x
def Zoc{h:YG}(n:h.Ns1 dx mA):∃od,h.get? dx=J od/\∀name,PySem.W.lookIn name od=J (mA name):=by
 obtain⟨o,es,ep,ho,hd,hk,_,hm⟩:=n;refine⟨o,ho,λname=>?_⟩;have e:=hm name;unfold nsFind findBy at e;rw[<-Array.find?_toList]at e;unfold PySem.W.lookIn;rw[hd];dsimp;split
 . simp_all
 . have a:es.toList.any (·.refKey)=Wt:=by rw[List.any_eq_false];intro y hy;obtain⟨z,t,bx⟩:=hk y<|Array.mem_toList_iff.mp hy;simp[DictEntry.refKey,bx]
   simp_all
def ObjM.look(I:ObjM h x dx C mA):∃od,PySem.W.InstAt h x (Wf C dx) C (J od)/\∀name,PySem.W.lookIn name od=J (mA name):=
 let⟨od,ho,hl⟩:=Zoc I.ns
 ⟨od,⟨I.obj,rfl,rfl,ho⟩,hl⟩
section
variable {prog:Yi}{w:Yh}{A:YH}{E:Yk->Yb->Prop}{s:Yb}{K:Yl}{x dx C f:Yj}{mA:Str->Option Yk}{name:Str}{v:Yk}
def ZsT(X:K.In s.heap)(I:ObjM s.heap x dx C mA)(hg:PySem.W.plainGet K C name=Ws)(hh:PySem.W.hasDictIn K C=Ws)
 (ha:YJ K (.ref C) name=J M) (hv:mA name=J v) (cf:PySem.W.handedIn v=Ws) (h:Q v {s with toks:=s.toks+1}) :
 YB (model prog w) A (getAttr (.ref x) name expr) Q E s:=by
 obtain⟨od,qa,hl⟩:=I.look;exact PySem.W.get_value X qa (PySem.W.plainGet_of hg).1 (PySem.W.findObj_own hh ha rfl<|by simp_all) cf h
def Zqs(X:K.In s.heap)(I:ObjM s.heap x dx C mA)(hg:PySem.W.plainGet K C name=Ws)
 (hf:YJ K (.ref C) name=J (J<|.ref f)) (ht:PySem.W.isFn K (.ref f)=Ws) (hv:mA name=M) (h:Q (.ref f,[.ref x]) s) :
 YB (model prog w) A (getMethod (.ref x) name pl) Q E s:=by
 obtain⟨od,qa,hl⟩:=I.look;exact PySem.W.method_fn X qa (PySem.W.plainGet_of hg).1 (PySem.W.plainGet_of hg).2 hf (beq_iff_eq.mp ht) (by show(PySem.W.lookIn name od).map (·.isSome)=J Wt;simp_all) h
def Zry(X:K.In s.heap)(I:ObjM s.heap x dx C mA)
 (hs:YJ K (.ref C) "__setattr__"=J (J<|.builtin "object.__setattr__")) (hp:PySem.W.plainOver K C=Ws) (ht:PySem.W.takerIn K C name=J M) (hh:PySem.W.hasDictIn K C=Ws)
 (hw:PySem.Within mA ns) (aR:ns.length<=Yc)
 (h:∀h',ObjM h' x dx C (λy=>if y=name then J v else mA y)->Heap.SameBut dx s.heap h'->Q () {s with heap:=h',toks:=s.toks+2}) :
 YB (model prog w) A (setAttr (.ref x) name v) Q E s:=by
 obtain⟨od,qa,hl⟩:=I.look;refine PySem.W.set_plain X qa hs<|PySem.W.osa_open X qa hp ht λb=>?_;obtain⟨cd,hc,dN⟩:=PySem.W.any_some hh;refine Ya<|Yd<|Ya<|Ya<|wpAny_loadPart I.obj<|Ya<|PySem.W.Looks.here (PySem.W.looks_clsIn X hc) ?_;rw[dN];refine Yd<|Ya<|Yd<|Ya<|wpAny_nsSet1 I.ns λh' eN gK=>?_;obtain⟨oD,oy,oz,mr,mT,mU⟩:=eN.count<|PySem.Within.cons name v hw;exact Ya (wpAny_lookBehind mr (mT▸pastItsLine_dict (OE mU<|by simp_all))<|Yd<|h _ ⟨(gK.2 _<|YL I.ne).trans I.obj,eN,I.ne⟩ gK)
def Zp8(X:K.In s.heap)(hm:PySem.W.makesIn K C=Ws)
 (hi:YJ K (.ref C) "__init__"=J (J<|.ref f)) (hf:PySem.W.typeIn K (.ref f)=J (.type "function"))
 (h:codeAny (model prog w) (A.under<|.builtin "type.__call__" ⟨.ref C::vs,kw⟩) (.call (.ref f) ⟨.ref (s.heap.objs.size+1)::vs,kw⟩) (PySem.W.InitBack (s.heap.objs.size+1) qd)
  {s with heap:=(s.heap.push PySem.W.emptyDict).push<|Wf C s.heap.objs.size}) :
 codeAny (model prog w) A (.call (.ref C) ⟨vs,kw⟩) qd s:=PySem.W.make_core (PySem.W.makes_of X hm) (PySem.W.looks_findIn X hi) (λself=>PySem.W.bind_fn X self hf) (.inl rfl) h
end
noncomputable def Zct(f:Str)(v:V):List (Str×V)->List (Str×V)
 |[]=>[(f,v)]
 |(g,x)::r=>if g=f then(g,v)::r else(g,x)::Zct f v r
theorem ZfT(f g)(v):∀fs ,(Zct f v fs).lookup g=if g=f then J v else fs.lookup g
 |[]=>by
  show Wg g [(f,v)]=_;by_cases h:g=f
  . simp_all
  simp_all
 |(k,x)::r=>by
  have ih:=ZfT f g v r;rw[show Zct f v ((k,x)::r)=(if k=f then(k,v)::r else(k,x)::Zct f v r)from rfl];by_cases hk:k=f
  . rw[if_pos hk];by_cases h:g=k
    . simp_all
    . simp[Wg,beq_eq_false_iff_ne.mpr h,if_neg (λe:g=f=>h<|e.trans hk.symm)]
  . rw[if_neg hk];by_cases h:g=k
    . simp_all
    . simp[Wg,beq_eq_false_iff_ne.mpr h];trivial
theorem Zfy(f)(v):∀fs:List (Str×V),f∈(Zct f v fs).map (·.1)/\∀g,g∈fs.map (·.1)->g∈(Zct f v fs).map (·.1)
 |[]=>⟨by simp[Zct],λg h=>by simp_all⟩
 |(k,x)::r=>by
  obtain⟨i1,i2⟩:=Zfy f v r;rw[show Zct f v ((k,x)::r)=(if k=f then(k,v)::r else(k,x)::Zct f v r)from rfl];by_cases hk:k=f
  . rw[if_pos hk];subst hk;simp
  . rw[if_neg hk];refine⟨?_,λg h=>?_⟩
    . exact Oh _ i1
    . rcases O2.mp h with e|e
      . exact O2.mpr (.inl e)
      . exact Oh _ (i2 g e)
theorem ZfU(f)(v):∀fs ,(Zct f v fs).length<=fs.length+1
 |[]=>by simp[Zct]
 |(k,x)::r=>by
  have ih:=ZfU f v r;rw[show Zct f v ((k,x)::r)=(if k=f then(k,v)::r else(k,x)::Zct f v r)from rfl];by_cases hk:k=f
  . simp_all
  simp_all
def ZeM.some_of(r:ZeM (J v) o):∃u,o=J u/\RelV v u:=by
 cases o with
 |none=>trivial
 |some u=>exact⟨u,rfl,r⟩
def ZeM.none_of(r:ZeM M o):o=M:=by
 cases o with
 |none=>rfl
 |some u=>trivial
def Zok(r:RelV v u):PySem.W.handedIn u=Ws:=by
 cases v with
 |non=>cases (r);rfl
 |bl b=>cases (r);rfl
 |int i=>obtain⟨t,e⟩:=(r);cases e;rfl
 |str x=>obtain⟨t,e⟩:=(r);cases e;rfl
 |byt b=>obtain⟨t,e⟩:=(r);cases e;rfl
 |flt b=>obtain⟨t,e⟩:=(r);cases e;rfl
 |ref a=>cases (r);rfl
 |ty n=>cases (r);rfl
section
variable {P:Yi}{w:Yh}{H:Hp}{h:YG}{a C dx:Yj}{fs:List (Str×V)}
def Zi5(hok:HOk P w H h)(e:H a=J (.ins C dx fs)):∃mA,ObjM h a dx C mA/\(∀f,ZeM (fs.lookup f)<|mA f)/\PySem.Within mA (fs.map (·.1))/\fs.length<=1000/\H dx=J (.own a):=by
 obtain⟨d,z,ne,ob,mA,n,r,q⟩:=(hok a _ e)
 exact⟨mA,⟨ob,n,ne⟩,r,q,z,d⟩
end
structure Cls(K:Yl)(C:Yj):Prop where
 pg:PySem.W.plainGet K C Str.empty=Ws
 hd:PySem.W.hasDictIn K C=Ws
 po:PySem.W.plainOver K C=Ws
 sa:YJ K (.ref C) "__setattr__"=J (J<|.builtin "object.__setattr__")
def Cls.get{K}(c:Cls K C)(f):PySem.W.plainGet K C f=Ws:=c.pg
def ZaZ(K:Yl)(C:Yj)(f:Str):Prop:=YJ K (.ref C) f=J M
def ZaZ.taker{K}(n:ZaZ K C f):PySem.W.takerIn K C f=J M:=by unfold PySem.W.takerIn;rw[n];rfl
structure Meth(K:Yl)(C:Yj)(m:Str)(f:Yj):Prop where
 at_:YJ K (.ref C) m=J (J<|.ref f)
 fn:PySem.W.isFn K (.ref f)=Ws
 kp:Wb K (.ref f)=Ws
section
variable {X:Cx}{ac:List (Yj×Obj)}{Z:St}{H:Hp}{s:Yb}{a C dx:Yj}{fs:List (Str×V)}{f:Str}{v:V}{A:YH}{E:Yk->Yb->Prop}
def Zhb(I:Inv X ac Z H s)(e:H a=J (.ins C dx fs))(c:Cls X.K C)(n:ZaZ X.K C f)(l:fs.lookup f=J v)
 (h:∀u s',Inv X ac Z H s'->RelV v u->Q u s'):YB (model X.prog X.w) A (getAttr (.ref a) f b) Q E s:=by
 obtain⟨mA,O_,r,_,_,_⟩:=Zi5 I.hok e;obtain⟨u,hu,ru⟩:=ZeM.some_of<|l▸r f;exact ZsT I.kIn O_ (c.get f) c.hd n hu (Zok ru) (h u _ (I.tok _) ru)
def Zha(I:Inv X ac Z H s)(e:H a=J (.ins C dx fs))(c:Cls X.K C)(k:Meth X.K C m g)(l:fs.lookup m=M)
 (h:Q (.ref g,[.ref a]) s):YB (model X.prog X.w) A (getMethod (.ref a) m pl) Q E s:=by
 obtain⟨mA,O_,r,_,_,_⟩:=Zi5 I.hok e;exact Zqs I.kIn O_ (c.get m) k.at_ k.fn (ZeM.none_of<|l▸r m) h
def ZgG(I:Inv X ac Z H s)(e:H a=J (.ins C dx fs))(c:Cls X.K C)(n:ZaZ X.K C f)(hl:fs.length<1000)(ry:RelV y u)
 (h:∀s',Inv X ac Z (upd H a<|.ins C dx<|Zct f y fs) s'->Q () s'):YB (model X.prog X.w) A (setAttr (.ref a) f u) Q E s:=by
 obtain⟨mA,O_,r,wi,_,ho⟩:=Zi5 I.hok e;refine Zry I.kIn O_ c.sa c.po n.taker c.hd wi (by rw[Yu,YC];lia) λh' O' sb=>h _ (I.write (by rw[e];trivial) (.inr ho) (λb q hb z=>(sb.2 b hb).trans z) (let⟨o,_,_,e',_⟩:=O'.ns;⟨o,e'⟩) ⟨by rw[Zl O_.ne];trivial,?_,O_.ne,O'.obj,_,O'.ns,λg=>?_,λg hg=>?_⟩)
 . have:=ZfU f y fs;lia
 . rw[ZfT];by_cases q:g=f
   . rw[if_pos q,if_pos q];trivial
   simp_all
 . by_cases q:g=f
   . rw[q];exact(Zfy f y fs).1
   . refine(Zfy f y fs).2 g<|wi g λz=>hg ?_;show(if g=f then J u else mA g)=M;rw[if_neg q];exact z
theorem Inv.made(I:Inv X ac Z H s):Inv X ac Z (upd (upd H s.heap.objs.size<|.own<|s.heap.objs.size+1) (s.heap.objs.size+1)<|.ins C s.heap.objs.size [])
   {s with heap:=(s.heap.push PySem.W.emptyDict).push<|Wf C s.heap.objs.size}:=by
 refine(I.laid (o:=.own<|s.heap.objs.size+1) (t':=s.toks) (λb u q=>Od _ q) (Oq _) ⟨_,Oj s.heap rfl⟩).laid (λb u q=>Od _ q) (Nat.le_of_eq<|Heap.size_push _ _) ⟨by rw [Zl<|Ou<|OH _,Zh],Yy _,(Ou<|OH _),by
   have:=Oj (s.heap.push PySem.W.emptyDict) (o:=Wf C s.heap.objs.size) rfl
   rwa [Heap.size_push] at this,λ_=>M,(Heap.Ns1.of_empty ⟨PySem.W.emptyDict,#[],_,Oj s.heap rfl,rfl,(λe he=>absurd he<|by simp),λ_=>rfl⟩).at λo q=>Od _ q,λ_=>True.intro,λy hy=>absurd rfl hy⟩
def Ztu(hb:attributeBase e f env (eval e env)=eval e env)
 (h:YB (model prog w) A (eval e env) (λo s₁=>YB (model prog w) A (getAttr o f Ws) Q E s₁) E s):YB (model prog w) A (eval (.Attribute e f pos) env) Q E s:=
 Attribute_any_ h (by rw[arm_eval_Attribute,hb])
end
def Zzl(K:Yl)(ta:TE)(f:Str):TE:=λZ H Q=>ta Z H λx H1=>∃a C dx fs v,x=.ref a/\H1 a=J (.ins C dx fs)/\Cls K C/\ZaZ K C f/\fs.lookup f=J v/\Q v H1
def Zzt(K:Yl)(ta tv:TE)(f:Str):TS:=λD Z H=>tv Z H λy H1=>ta Z H1 λx H2=>∃a C dx fs,x=.ref a/\H2 a=J (.ins C dx fs)/\Cls K C/\ZaZ K C f/\fs.length<1000 /\
 D.nx Z (upd H2 a<|.ins C dx<|Zct f y fs)
def ZyS(X:Cx)(op:Operator)(rd:V->V->Hp->VK->Prop):Prop:=∀(ac:List (Yj×Obj)) (s:Yb) (Z:St) (H:Hp) (x y:V) (u v:Yk) (Q:VK),Inv X ac Z H s->RelV x u->RelV y v->rd x y H Q->YB (model X.prog X.w) X.A (inplaceOp op u v) (EP X ac Z Q) X.xe s
def ZrA(K:Yl)(ta tv:TE)(rd:V->V->Hp->VK->Prop)(f:Str):TS:=λD Z H=>ta Z H λx H1=>∃a C dx fs v,x=.ref a/\H1 a=J (.ins C dx fs)/\Cls K C/\ZaZ K C f/\fs.lookup f=J v /\
 tv Z H1 λy H2=>rd v y H2 λz H3=>∃cM br,H3 a=J (.ins C cM br)/\br.length<1000/\D.nx Z (upd H3 a<|.ins C cM<|Zct f z br)
section
variable {X:Cx}{o e value:Expr}{f:Str}{pos pos' hZ:Pos}{ta tv:TE}
def Zu4(he:PE X e ta)(hb:attributeBase e f X.env (eval e X.env)=eval e X.env):PE X (.Attribute e f pos) (Zzl X.K ta f):=by intro ac s Z H Q I h;refine Ztu hb<|thn (he ac s Z H _ I h) λu s1 ⟨x,H1,I1,rx,a,C,dx,fs,v,ex,ea,c,n,l,q⟩=>?_;subst ex;obtain rfl:u=YD a:=rx;exact Zhb I1 ea c n l λu' s2 I2 ru=>⟨v,H1,I2,ru,q⟩
def ZuV(ha:PE X o ta)(hv:PE X value tv)(hs:swapsWith value (J<|.Attribute o f pos') pos.line X.env=pure Wt):PS X (.Assign [.Attribute o f pos'] value pos) (Zzt X.K ta tv f):=by intro ac s Z H D I h;refine plainObj_wpAny_Assign_Attribute (thn (hv ac s Z H _ I h) λu s1 ⟨y,H1,I1,ry,q⟩=>thn (ha ac s1 Z H1 _ I1 q) λov s2 ⟨x,H2,I2,rx,a,C,dx,fs,ex,ea,c,n,l,q2⟩=>?_) hs;subst ex;obtain rfl:ov=YD a:=rx;exact ZgG I2 ea c n l ry λs3 I3=>⟨Z,_,I3,q2⟩
def ZnV(ha:PE X o ta)(hv:PE X value tv)(mh:ZyS X op rd):PS X (.AugAssign (.Attribute o f hZ) op value pos) (ZrA X.K ta tv rd f):=by intro ac s Z H D I h;refine wpAny_AugAssign_AttributeAny<|thn (ha ac s Z H _ I h) λov s1 ⟨x,H1,I1,rx,a,C,dx,fs,v,ex,ea,c,n,l,q⟩=>?_;subst ex;obtain rfl:ov=YD a:=rx;exact Zhb I1 ea c n l λu s2 I2 ru=>thn (hv ac s2 Z H1 _ I2 q) λw3 s3 ⟨y,H2,I3,ry,q3⟩=>thn (mh ac s3 Z H2 v y u w3 _ I3 ru ry q3) λw4 s4 ⟨z,H3,I4,rz,cM,br,nu,l',q4⟩=>ZgG I4 nu c n l' rz λs5 I5=>⟨Z,_,I5,q4⟩
def Zxz:V->V->Hp->VK->Prop:=λx y H Q=>∃i j,x=.int i/\y=.int j/\Q (.int<|i+j) H
def ZvN:ZyS X .Add Zxz:=by
 rintro ac s Z H x y u v Q I rx ry ⟨i,j,rfl,rfl,q⟩;obtain⟨t,rfl⟩:=(rx)
 obtain⟨t',rfl⟩:=(ry)
 exact PyProof.Rows.iadd_int ⟨.int<|i+j,H,I.tok _,⟨_,rfl⟩,q⟩
end
structure Room(k:Nat)(A:YH):Prop where
 hd:A.handled=M
 dp:A.depth+k+5<recursionLimit
 un:A.units+4*k+1300<cLine
 gd:A.guards=J []
def Room.mono(r:Room k A)(h:j<=k):Room j A:=⟨r.hd,by have:=r.dp;lia,by have:=r.un;lia,r.gd⟩
theorem Room.deeper(r:Room (k+1) A)(env):Room k (A.deeper env):=⟨r.hd,by have:=r.dp;show A.depth+1+k+5<_;lia,by have:=r.un;show A.units+3+4*k+1300<_;lia,r.gd⟩
def Zlv{A:YH}:(A.under<|.builtin "type.__call__" ⟨.ref C::us,kw⟩).depth=A.depth+1:=rfl
def Zlu{A:YH}:(A.under<|.builtin "type.__call__" ⟨.ref C::us,kw⟩).units=A.units+1:=rfl
def Room.make(r:Room (k+1) A)(C)(us)(kw):Room k (A.under<|.builtin "type.__call__" ⟨.ref C::us,kw⟩):=⟨r.hd,by have:=r.dp;rw[Zlv];lia,by have:=r.un;rw[Zlu];lia,by first|exact r.gd|simpa[Around.under,Code.weight,Code.isCreation,Code.isGuard,Code.isCaller,Code.frames,Code.isFrame,guardIds]using r.gd⟩
theorem Room.depth(r:Room k A):A.depth<recursionLimit:=by have:=r.dp;lia
noncomputable def ZnJ:TA:=λ_ H Q=>Q [] H
noncomputable def Zmw(ta:TE)(tr:TA):TA:=λZ H Q=>ta Z H λx H1=>tr Z H1 λxs H2=>Q (x::xs) H2
section
variable {X:Cx}{e:Expr}{es:List Expr}{te:TE}{t:TA}{pos:Pos}
def Zci:PA X [] ZnJ:=λ_ _ _ _ H Q I h=>Calls.spliced_nil ⟨[],H,I,.nil,h⟩
def Z7(ha:PE X e te)(hr:PA X es t)(hs:YA (e::es) X.env=(Wt,eval e X.env)::YA es X.env:=by rfl):PA X (e::es) (Zmw te t):=by intro pos ac s Z H Q I h;rw[hs];exact Calls.spliced_cons (thn (ha ac s Z H _ I h) λu s1 ⟨x,H1,I1,r1,q1⟩=>thn (hr pos ac s1 Z H1 _ I1 q1) λus s2 ⟨xs,H2,I2,r2,q2⟩=>⟨x::xs,H2,I2,.cons r1 r2,q2⟩)
def Zzd(t:TA):TE:=λZ H Q=>t Z H λxs H1=>xs.length<=Yc/\∀p,H1 p=M->Q (.ref p) (upd H1 p<|.tup xs)
def Zzi(t:TA):TE:=λZ H Q=>t Z H λxs H1=>xs.length<=Yc/\∀p,H1 p=M->Q (.ref p) (upd H1 p<|.lst xs)
def ZpC{x1}(h:PA X es t):PE X (.Tuple es x1 pos) (Zzd t):=by intro ac s Z H Q I hq;exact wpAny_Tuple_spliced (thn (h pos ac s Z H _ I hq) λus s1 ⟨xs,H1,I1,r,z,q⟩=>⟨r.length▸z,⟨.ref s1.heap.objs.size,upd H1 s1.heap.objs.size<|.tup xs,I1.laid (λb u e=>Od _ e) (Oq _) ⟨z,us,r,⟨_,Oj _ rfl,rfl,rfl,_,rfl⟩⟩,rfl,q _<|I1.hok.fresh<|Oq _⟩⟩)
def Zu3(h:PA X es t):PE X (.List es pos) (Zzi t):=by intro ac s Z H Q I hq;exact wpAny_List_spliced (thn (h pos ac s Z H _ I hq) λus s1 ⟨xs,H1,I1,r,z,q⟩=>⟨r.length▸z,⟨.ref s1.heap.objs.size,upd H1 s1.heap.objs.size<|.lst xs,I1.laid (λb u e=>Od _ e) (Oq _) ⟨z,us,0,r,Oj _ rfl⟩,rfl,q _<|I1.hok.fresh<|Oq _⟩⟩)
end
abbrev Sp:=List V->Hp->VK->XK->Prop
abbrev CXT:=List Env->Hp->Yb->XK->Yk->Yb->Prop
structure Env0(P:Yi)(w:Yh)(K:Yl)(mg:Str->Option Yk)(base:YG)(A:YH)(outer:List Env)(s:Yb)(H:Hp):Prop where
 frames:A.frames=J outer
 mod:Mod K mg base
 bs:∀b o,base.get? b=J o->s.heap.get? b=J o/\H b=M
 bsz:base.objs.size<=s.heap.objs.size
 funs:s.heap.FunFrames base outer
 frf:∀b∈frs outer,H b=M
 hok:HOk P w H s.heap
 bare:AllBare s.gens
def CE(outer:List Env)(P:Yi)(w:Yh)(H:Hp)(s:Yb)(Q:VK)(u:Yk)(s':Yb):Prop:=∃v H',s'.os=s.os/\AllBare s'.gens/\Un (frs outer) [] H H' s.heap s'.heap/\HOk P w H' s'.heap/\RelV v u/\Q v H'
def CR(CX:CXT)(outer:List Env)(P:Yi)(w:Yh)(H:Hp)(s:Yb)(Q:VK)(E:XK)(r:Result)(s':Yb):Prop:=
 match r with
 |.ok (.ret u)=>CE outer P w H s Q u s'
 |.ok _=>False
 |.error e=>CX outer H s E e s'
structure FnOk(P:Yi)(w:Yh)(K:Yl)(mg:Str->Option Yk)(base:YG)(CX:CXT)(k:Nat)(f:Yj)(fd:FuncData)(ps:List Str)(sp:Sp):Prop where
 len:∀vs H Q E,sp vs H Q E->vs.length=ps.length
 run:∀(A:YH) (outer:List Env) (s:Yb) (H:Hp) (args:Args) (us:List Yk) (vs:List V) (Q:VK) (E:XK),Room k A->Env0 P w K mg base A outer s H->BindsTo s fd args (ps.zip us)->Zn vs us->sp vs H Q E ->
  codeAny (model P w) A (.call (.ref f) args) (CR CX outer P w H s Q E) s
def FnOk.imp{P}{w}{K}{mg}{base}{CX}{k}{f}{fd}{ps}{sp sp'}(F:FnOk P w K mg base CX k f fd ps sp)
 (h:∀vs H Q E,sp' vs H Q E->sp vs H Q E):FnOk P w K mg base CX k f fd ps sp':=
 ⟨λvs H Q E q=>F.len vs H Q E<|h _ _ _ _ q,λA outer s H args us vs Q E hr he hb hv hs=>F.run A outer s H args us vs Q E hr he hb hv<|h _ _ _ _ hs⟩
def Env0.make{P}{w}{K}{mg}{base}{A}{outer}{s}{H}(e:Env0 P w K mg base A outer s H)(C)(us)(kw):
 Env0 P w K mg base (A.under<|.builtin "type.__call__" ⟨.ref C::us,kw⟩) outer s H:=⟨by first|exact e.frames|simp,e.mod,e.bs,e.bsz,e.funs,e.frf,e.hok,e.bare⟩
section
variable {X:Cx}{ac:List (Yj×Obj)}{Z:St}{H:Hp}{s s':Yb}
def Inv.env0(I:Inv X ac Z H s):Env0 X.prog X.w X.K X.mg X.base X.A X.stack s H:=⟨I.ok.frames,I.ok.mod,I.bs,OE I.ok.bsz I.sz,I.stack,I.stkFree,I.hok,I.bare⟩
def Inv.after(I:Inv X ac Z H s)(h:CE X.stack X.prog X.w H s Q u s'):EP X ac Z Q u s':=by obtain⟨v,H',os,bare,un,hok,r,q⟩:=h;obtain⟨hh,g,d,t,k9⟩:=s';obtain rfl:k9=s.os:=os;exact⟨v,H',I.call un hok bare<|λb z=>absurd z<|by simp,r,q⟩
end
noncomputable def Zxa(sp:Sp)(aV:List V)(E:XK)(t:TA):TE:=λZ H Q=>t Z H λvs H1=>sp (vs++aV) H1 Q E
def ZtI(C:Yj)(m:Str)(sp:Sp)(aV:List V)(E:XK)(ta:TE)(t:TA):TE:=λZ H Q=>ta Z H λx H1=>∃a dx fs,x=.ref a/\H1 a=J (.ins C dx fs)/\fs.lookup m=M /\
 t Z H1 λvs H2=>sp (x::(vs++aV)) H2 Q E
def ZtJ(C:Yj)(sp:Sp)(aV:List V)(E:XK)(t:TA):TE:=λZ H Q=>t Z H λvs H1=>∀x dx,H1 x=M->H1 dx=M->dx≠x ->
 sp (.ref x::(vs++aV)) (upd (upd H1 dx<|.own x) x<|.ins C dx []) (λv H2=>v=.non/\Q (.ref x) H2) E
def Binds(K:Yl)(fd:FuncData)(ps:List Str)(ds:List Yk):Prop:=∀(s:Yb) (us:List Yk),K.In s.heap->(us++ds).length=ps.length->BindsTo s fd ⟨us,[]⟩ (ps.zip<|us++ds)
def Binds.all{K}(h:∀us ,us.length=ps.length->bindArgs fd ⟨us,[]⟩=pure (ps.zip us)):Binds K fd ps []:=λs us _ hl=>by rw[Yt]at hl ⊢;exact .of_eq (h us hl)
def ZbR(CX:CXT)(X:Cx)(E:XK):Prop:=∀(ac:List (Yj×Obj)) (Z:St) (H:Hp) (s:Yb) (e:Yk) (s':Yb),Inv X ac Z H s->CX X.stack H s E e s'->X.xe e s'
section
variable {X:Cx}{CX:CXT}{k:Nat}{f C:Yj}{fd:FuncData}{ps:List Str}{sp:Sp}{aV:List V}{ds:List Yk}{E:XK}{x m:Str}{p pos aB:Pos}{e o:Expr}{es:List Expr}{ta:TE}{t:TA}
def Zk6(F:FnOk X.prog X.w X.K X.mg X.base CX k f fd ps sp)(hr:Room k X.A)(hb:Binds X.K fd ps ds)(hd:Zn aV ds)(hx:ZbR CX X E)
 (I:Inv X ac Z H s) (r:Zn vs us) (h:sp (vs++aV) H Q E):YB (model X.prog X.w) X.A (call (.ref f) us) (EP X ac Z Q) X.xe s:=by
 refine wpAny_call<|codeAny_mono (F.run X.A X.stack s H ⟨us,[]⟩ (us++ds) (vs++aV) Q E hr I.env0 (hb s us I.kIn<|((r.append hd).length).symm.trans<|F.len _ _ _ _ h) (r.append hd) h) λr s' hq=>?_;cases r with
 |error e=>exact hx ac Z H s e s' I hq
 |ok fl=>
  cases fl with
  |ret u=>exact I.after hq
  |next=>trivial
  |brk=>trivial
  |cont=>trivial
def Zr7(F:FnOk X.prog X.w X.K X.mg X.base CX k f fd ps sp)(hr:Room k X.A)(hg:Gl X x)(hm:X.mg x=J (.ref f))(hk:Wb X.K (.ref f)=Ws)(hb:Binds X.K fd ps ds)(hd:Zn aV ds)(hx:ZbR CX X E)
 (ha:PA X (e::es) t) (bj:(x==("__debug__" : Str))=Wt:=by decide) (he:YA (e::es) X.env=(Wt,eval e X.env)::YA es X.env:=by rfl) (aG:(YR pos<|YA es X.env).any (·.1)=Wt:=by rfl) :
 PE X (.Call (.Name x p) (e::es) [] pos) (Zxa sp aV E t):=by
 intro ac s Z H Q I h;exact YV (ZcK I hg hm (PySem.W.callWith_K I.ok.mod.kin hk (thn (ha pos ac s Z H _ I h) λus s1 ⟨vs,H1,I1,r,q⟩=>⟨I1.kIn,Zk6 F hr hb hd hx I1 r q⟩) he aG) bj)
def Zr2(he:PE X o ta)(c:Cls X.K C)(hm:Meth X.K C m f)(F:FnOk X.prog X.w X.K X.mg X.base CX k f fd ps sp)(hr:Room k X.A)(hb:Binds X.K fd ps ds)(hd:Zn aV ds)(hx:ZbR CX X E)(ha:PA X (e::es) t)
 (hst:YA (e::es) X.env=(Wt,eval e X.env)::YA es X.env:=by rfl) (aG:(YR pos<|YA es X.env).any (·.1)=Wt:=by rfl)
 (ht:eval (.Call (.Attribute o m aB) (e::es) [] pos) X.env=(do
  let ov <- eval o X.env
  standAt aB.atName
  let (f,first) <- holding [ov] (getMethod ov m pl)
  callWith pos f first (YR pos<|YA (e::es) X.env) (backToKw pos<|YY [] X.env)):=by rfl) :
 PE X (.Call (.Attribute o m aB) (e::es) [] pos) (ZtI C m sp aV E ta t):=by
 intro ac s Z H Q I h;refine PySem.W.methodCall_KW (thn (he ac s Z H _ I h) λu s1 ⟨x,H1,I1,rx,a,dx,fs,ex,ea,l,q⟩=>?_) ht;subst ex;obtain rfl:u=YD a:=rx;exact Zha I1 ea c hm l (PySem.W.callWith_K I.ok.mod.kin hm.kp (thn (ha pos ac s1 Z H1 _ I1 q) λus s2 ⟨vs,H2,I2,r,q2⟩=>⟨I2.kIn,Zk6 (vs:=.ref a::vs) F hr hb hd hx I2 (.cons rfl r) q2⟩) hst aG)
def ZpF(he:PE X o ta)(c:Cls X.K C)(hm:Meth X.K C m f)(F:FnOk X.prog X.w X.K X.mg X.base CX k f fd ps sp)(hr:Room k X.A)(hb:Binds X.K fd ps ds)(hd:Zn aV ds)(hx:ZbR CX X E)
 (ht:eval (.Call (.Attribute o m aB) [] [] pos) X.env=(do
  let ov <- eval o X.env
  standAt aB.atName
  let (f,first) <- holding [ov] (getMethod ov m pl)
  callWith pos f first (YR pos<|YA [] X.env) (backToKw pos<|YY [] X.env)):=by rfl) :
 PE X (.Call (.Attribute o m aB) [] [] pos) (ZtI C m sp aV E ta ZnJ):=by
 intro ac s Z H Q I h;refine PySem.W.methodCall_KW (thn (he ac s Z H _ I h) λu s1 ⟨x,H1,I1,rx,a,dx,fs,ex,ea,l,q⟩=>?_) ht;subst ex;obtain rfl:u=YD a:=rx;exact Zha I1 ea c hm l (PySem.W.callWith_K0 I1.kIn hm.kp<|Zk6 (vs:=[.ref a]) F hr hb hd hx I1 (.cons rfl .nil) q)
structure Mk(K:Yl)(C f:Yj):Prop where
 makes:PySem.W.makesIn K C=Ws
 init:YJ K (.ref C) "__init__"=J (J<|.ref f)
 fn:PySem.W.isFn K (.ref f)=Ws
 kp:Wb K (.ref C)=Ws
theorem ZjO(qb:Mk X.K C f)(F:FnOk X.prog X.w X.K X.mg X.base CX k f fd ps sp)(hr:Room (k+1) X.A)(hb:Binds X.K fd ps ds)(hd:Zn aV ds)
   (hx:ZbR CX X E) (I:Inv X ac Z H s) (r:Zn vs us)
   (h:∀ x dx,H x=M->H dx=M->dx≠x->sp (.ref x::(vs++aV)) (upd (upd H dx<|.own x) x<|.ins C dx []) (λv H2=>v=.non/\Q (.ref x) H2) E) :
   YB (model X.prog X.w) X.A (call (.ref C) us) (EP X ac Z Q) X.xe s:=by
 have hq:=h (s.heap.objs.size+1) s.heap.objs.size (I.hok.fresh<|Nat.le_succ _) (I.hok.fresh<|Oq _)<|Ou<|OH _;have I2:=Inv.made (C:=C) I;have r2:Zn (V.ref (s.heap.objs.size+1)::(vs++aV)) (YD (s.heap.objs.size+1)::(us++ds)):=.cons rfl<|r.append hd;refine wpAny_call (Zp8 (f:=f) I.kIn qb.makes qb.init (beq_iff_eq.mp qb.fn) (codeAny_mono (F.run _ X.stack _ _ ⟨YD (s.heap.objs.size+1)::us,[]⟩ (YD (s.heap.objs.size+1)::(us++ds)) _ _ E (hr.make C us [])
   (I2.env0.make C us []) (hb _ (YD (s.heap.objs.size+1)::us) I2.kIn (by
   have e:=r2.length;rw [F.len _ _ _ _ hq] at e;exact e.symm)) r2 hq) λr s' hq'=>?_))
 cases r with
 |error e=>exact hx ac Z _ _ e s' I2 hq'
 |ok fl =>
   cases fl with
   |ret u =>
     obtain⟨v,H',I3,rv,ev,q3⟩:=I2.after hq';subst ev;exact⟨rv,⟨V.ref<|s.heap.objs.size+1,H',I3,rfl,q3⟩⟩
   |next=>exact False.elim hq'
   |brk=>exact False.elim hq'
   |cont=>exact False.elim hq'
def Zr4(qb:Mk X.K C f)(F:FnOk X.prog X.w X.K X.mg X.base CX k f fd ps sp)(hr:Room (k+1) X.A)(hg:Gl X x)(hm:X.mg x=J (.ref C))(hb:Binds X.K fd ps ds)(hd:Zn aV ds)(hx:ZbR CX X E)
 (ha:PA X (e::es) t) (bj:(x==("__debug__" : Str))=Wt:=by decide) (he:YA (e::es) X.env=(Wt,eval e X.env)::YA es X.env:=by rfl) (aG:(YR pos<|YA es X.env).any (·.1)=Wt:=by rfl) :
 PE X (.Call (.Name x p) (e::es) [] pos) (ZtJ C sp aV E t):=by
 intro ac s Z H Q I h;exact YV (ZcK I hg hm (PySem.W.callWith_K I.ok.mod.kin qb.kp (thn (ha pos ac s Z H _ I h) λus s1 ⟨vs,H1,I1,r,q⟩=>⟨I1.kIn,ZjO qb F hr hb hd hx I1 r q⟩) he aG) bj)
def ZpG(qb:Mk X.K C f)(F:FnOk X.prog X.w X.K X.mg X.base CX k f fd ps sp)(hr:Room (k+1) X.A)(hg:Gl X x)(hm:X.mg x=J (.ref C))(hb:Binds X.K fd ps ds)(hd:Zn aV ds)(hx:ZbR CX X E)
 (bj:(x == "__debug__")=Wt:=by decide):PE X (.Call (.Name x p) [] [] pos) (ZtJ C sp aV E ZnJ):=by
 intro ac s Z H Q I h;exact YV (ZcK I hg hm (PySem.W.callWith_K0 I.kIn qb.kp<|ZjO qb F hr hb hd hx I .nil h) bj)
end
structure FnScope(N P:List Str)(sc:Scope):Prop where
 kind:sc.kind=.function
 co:sc.isCoroutine=Wt
 gen:sc.isGenerator=Wt
 nd:N.Nodup
 pre:N.take P.length=P
 par:∀x∈P,sc.names.lookup x=J .local\/sc.names.lookup x=J .cell
 nofree:∀y∈sc.names,y.2≠.free
theorem ZiC{kindOf}:∀{binds}{m},(∀v,(x,v) ∉ binds)->bindL kindOf binds m x=m x
 |[],_,_=>rfl
 |(n,v)::r,m,h=>by
  unfold bindL;rw[ZiC λw hw=>h w<|Oh _ hw];split
  . have:x≠n:=by rintro rfl;exact h v Oi
    simp_all
  simp
theorem ZiE{kindOf}:∀{binds}{m},(∀v,(x,v) ∉ binds)->bindC kindOf binds m x=m x
 |[],_,_=>rfl
 |(n,v)::r,m,h=>by
  unfold bindC;rw[ZiE λw hw=>h w<|Oh _ hw];split
  . rfl
  . have:x≠n:=by rintro rfl;exact h v Oi
    simp_all
theorem ZiD{kindOf}:∀{P:List Str}{vs}{i:Nat}{m},P.Nodup->P[i]?=J x->vs[i]?=J v->kindOf x=J .local ->
 bindL kindOf (P.zip vs) m x=J v
 |[],_,_,_,_,h,_,_=>by trivial
 |_::_,[],_,_,_,_,h,_=>by trivial
 |p::P,w::vs,0,m,nd,R,h2,hk=>by simp at R h2;subst R;subst h2;show bindL kindOf ((p,w)::P.zip vs) m p=_;unfold bindL;rw[ZiC λv hv=>(List.nodup_cons.mp nd).1 (List.of_mem_zip hv).1,if_pos hk];simp
 |p::P,w::vs,i+1,m,nd,R,h2,hk=>by unfold bindL;exact ZiD (List.nodup_cons.mp nd).2 (by trivial) (by trivial) hk
theorem ZiF{kindOf}:∀{P:List Str}{vs}{i:Nat}{m},P.Nodup->P[i]?=J x->vs[i]?=J v->kindOf x≠J .local ->
 bindC kindOf (P.zip vs) m x=J v
 |[],_,_,_,_,h,_,_=>by trivial
 |_::_,[],_,_,_,_,h,_=>by trivial
 |p::P,w::vs,0,m,nd,R,h2,hk=>by simp at R h2;subst R;subst h2;show bindC kindOf ((p,w)::P.zip vs) m p=_;unfold bindC;rw[ZiE λv hv=>(List.nodup_cons.mp nd).1 (List.of_mem_zip hv).1,if_neg hk];simp
 |p::P,w::vs,i+1,m,nd,R,h2,hk=>by unfold bindC;exact ZiF (List.nodup_cons.mp nd).2 (by trivial) (by trivial) hk
noncomputable def start(N:List Str)(vs:List V):St:=vs.map J++YK (N.length-vs.length) M
def Zop(CX:CXT)(P:Yi)(w:Yh)(K:Yl)(mg:Str->Option Yk)(base:YG)(N:List Str)(am:Str)(scope:Scope)(f:Yj)(cd:Yk)(A:YH)(outer:List Env)(s:Yb)(H:Hp)(E:XK):Cx where
 prog:=P
 w:=w
 K:=K
 mg:=mg
 base:=base
 A:=A.deeper (envOfC am scope s.heap.objs.size f cd)
 N:=N
 s₀:=s
 H₀:=H
 env:=envOfC am scope s.heap.objs.size f cd
 outer:=outer
 stack:=envOfC am scope s.heap.objs.size f cd::outer
 ex:=[]
 calm:=Ws
 fn:=λ_=>Ws
 pn:=[]
 xe:=λe s'=>YB (model P w) (A.deeper<|envOfC am scope s.heap.objs.size f cd) (leaving (envOfC am scope s.heap.objs.size f cd) e) (λ_ ip=>CX outer H s E e ip) (λe' ip=>CX outer H s E e' ip) s'
def Zkx{sc:Scope}(h:sc.names.lookup x=J .cell):∃c,(cellsFrom n sc.names []).lookup x=J c:=Option.isSome_iff_exists.mp (PySem.W.cellsFrom_some sc.names n []<|.inl h)
theorem Zoh{CX}{P}{w}{K}{mg:Str->Option Yk}{base}{N ps:List Str}{am}{scope}{f}{cd}{A:YH}{outer:List Env}{s s1}{H}{E}{us:List Yk}{vs:List V}
   (S_:FnScope N ps scope) (hd:A.handled=M) (e0:Env0 P w K mg base A outer s H) (hl:vs.length=ps.length) (r:Zn vs us)
   (x:InCallC s s.heap.objs.size (bindL (envOfC am scope s.heap.objs.size f cd).kindOf (ps.zip us) λ_=>M) (cellsFrom (s.heap.objs.size+1) scope.names []) (bindC (envOfC am scope s.heap.objs.size f cd).kindOf (ps.zip us) λ_=>M) s1) :
   Inv (Zop CX P w K mg base N am scope f cd A outer s H E) [] (start N vs) H s1:=by
 have aG:ps.length<=N.length:=by have:=congrArg List.length S_.pre;rw [List.length_take] at this;lia
 obtain⟨R,tk,rfl,hk⟩:=x.done;have fD:∀ b:Yj,b ∉ (Zop CX P w K mg base N am scope f cd A outer s H E).ex:=λb z=>absurd (show b∈([]) from z) (by simp);refine⟨⟨e0.mod,S_.kind,rfl,rfl,Oq _,λy z c R h2=>?_,λy hy=>?_,λy c _ h=>?_,λ_=>hd,Around.frames_deeper e0.frames,.inr ⟨rfl,rfl⟩,λb z=>absurd z<|fD b,e0.bs,e0.bsz,λb _ _=>fD b,λb z=>absurd z<|fD b,e0.funs,e0.frf⟩,
   rfl,e0.bare,Un.kept hk,⟨_,x.toInCall.ns,λi y v R h2 h3=>?_⟩,λy c h=>⟨_,x.cell y c h⟩,e0.hok.fresh<|Oq _,λy c h=>?_,λp hp=>absurd (show p∈([]) from hp)<|by simp,e0.hok.kept hk,?_⟩
 . exact name_of_addr x.apart (YI R) (YI h2)
 . have hy:scope.names.lookup y=J .cell\/scope.names.lookup y=J .free:=hy;rcases hy with hy|hy
   . exact Zkx hy
   . exact absurd rfl (S_.nofree _<|YI hy)
 . exact Nat.le_of_lt (x.above y c<|YI h)
 . have hi:i<vs.length:=by
     unfold start at h2;by_cases hi:i<vs.length
     . exact hi
     . rw [Om<|by simpa using hi,List.getElem?_replicate] at h2;split at h2<;>cases h2
   obtain⟨u,hu,rv⟩:=r.get (by
     unfold start at h2;rw [Oe<|by simpa using hi,On] at h2;cases e:vs[i]? with
     |none=>rw [e] at h2;cases h2
     |some a=>rw [e] at h2;cases h2;rfl)
   have hp:ps[i]?=J y:=by
     rw [<-S_.pre,List.getElem?_take_of_lt<|by lia];exact R
   have jY:ps.Nodup:=S_.pre▸S_.nd.sublist (List.take_sublist _ _);refine⟨u,rv,?_⟩;rcases S_.par y (O1 hp) with k|k
   . exact .inl ⟨k,ZiD jY hp hu k⟩
   . obtain⟨c,e⟩:=Zkx (n:=s.heap.objs.size+1) k;refine .inr ⟨.inl k,c,e,?_⟩;have q:=x.cell y c e;rw [ZiF jY hp hu (by show scope.names.lookup y≠_;rw [k];decide)] at q;exact q
 . exact e0.hok.fresh (Nat.le_of_lt<|x.above y c<|YI h)
 . unfold start;show _=N.length;rw [OA,Yu,List.length_replicate]
   lia
theorem Zyu{CX}{P}{w}{K:Yl}{mg:Str->Option Yk}{base}{k}{f}{name am}{params}{body:List Stmt}{scope}{dV kV aJ pm aH ct oc}{an od:Option Yj}
   {bP:Array (Option Yk)}{N ps:List Str}{sp:Sp} (lk:K.lookup f=J ⟨oc,od,.func<|PySem.W.fnOf name am params body scope dV kV aJ pm an aH ct,bP⟩) (b7:PySem.W.codeIn K aH am=Ws) (S_:FnScope N ps scope)
   (len:∀ vs H Q E,sp vs H Q E->vs.length=ps.length)
   (fU:∀ (A:YH) (outer:List Env) (s) (H) (vs:List V) (Q) (E),Room k (A.deeper<|envOfC am scope s.heap.objs.size f aH)->sp vs H Q E ->
     ∃ t,PSs (Zop CX P w K mg base N am scope f aH A outer s H E) body t/\t {nx:=λ_ H'=>Q .non H',rt:=Q} (start N vs) H) :
   FnOk P w K mg base CX (k+1) f (PySem.W.fnOf name am params body scope dV kV aJ pm an aH ct) ps sp:=by
 refine⟨len,λA outer s H args us vs Q E hr e0 hb r bK=>?_⟩;have KX:=e0.mod.kin.keeps λb o e=>(e0.bs b o e).1;refine codeAny_call_function hr.depth (KX _ _ lk) rfl S_.co S_.gen rfl (PySem.W.codeRec_of KX b7) (hb _ _ _ _ (wpAny_newFunctionEnv_cells S_.kind (λ⟨n,v⟩ hy=>by
   rcases S_.par n (List.of_mem_zip hy).1 with q|q
   . exact .inl q
   . exact .inr ⟨q,PySem.W.cellsFrom_some _ _ _<|.inl q⟩) λenv he s1 x=>?_))
 subst he;refine⟨(e0.mod.nolimit.keeps λb o e=>(e0.bs b o e).1).keeps x.toInCall.keep,codeAny_func ?_⟩;obtain⟨t,ht,hq⟩:=fU A outer s H vs Q E (hr.deeper _) bK;refine Yg (ht [] s1 (start N vs) H _ (Zoh S_ hr.hd e0 (len _ _ _ _ bK) r x) hq) (λfl s' hs=>?_) λe s' hs=>hs;have fin:∀ {σ'}{H'}{v}{u},Inv (Zop CX P w K mg base N am scope f aH A outer s H E) [] σ' H' s'->RelV v u->Q v H'->CE outer P w H s Q u s' :=
   λ{σ' H' v u} qa rv q=>⟨v,H',qa.os,qa.bare,qa.base,qa.hok,rv,q⟩
 cases fl with
 |ret u =>
   obtain⟨v,σ',H',qa,rv,q⟩:=hs;exact fin qa rv q
 |next =>
   obtain⟨σ',H',qa,q⟩:=hs;exact fin (v:=V.non) (u:=Value.none) qa rfl q
 |brk =>
   obtain⟨_,_,_,q⟩:=hs;exact False.elim q
 |cont =>
   obtain⟨_,_,_,q⟩:=hs;exact False.elim q
section
variable {X:Cx}{x:Str}{p pos:Pos}{e:Expr}{es:List Expr}{t:TA}{id T:String}{r:List V->Hp->VK->Prop}
noncomputable def tCB(r:List V->Hp->VK->Prop)(t:TA):TE:=λZ H Q=>t Z H λvs H1=>r vs H1 Q
def Za2(hc:Z4 X (.builtin id) r)(hg:Gl X x)(hm:X.mg x=M)(hv:bootBuiltins x=J (.builtin id))(ha:PA X (e::es) t)(hn:x ≠ "__name__" := by decide)(bj:(x==("__debug__" : Str))=Wt:=by decide)
 (he:YA (e::es) X.env=(Wt,eval e X.env)::YA es X.env:=by rfl) (aG:(YR pos<|YA es X.env).any (·.1)=Wt:=by rfl):PE X (.Call (.Name x p) (e::es) [] pos) (tCB r t):=by
 intro ac s Z H Q I h;exact YV (Zcm I hg hm hv (PyProof.Rows.callWith_builtin1 (thn (ha pos ac s Z H _ I h) λus s1 ⟨vs,H1,I1,r1,q1⟩=>hc ac s1 Z H1 vs us Q I1 r1 q1) he aG) hn bj)
def ZdY(hc:Z4 X (.type T) r)(hg:Gl X x)(hm:X.mg x=M)(hv:bootBuiltins x=J (.type T))(ha:PA X (e::es) t)(hn:x ≠ "__name__" := by decide)(bj:(x==("__debug__" : Str))=Wt:=by decide)
 (he:YA (e::es) X.env=(Wt,eval e X.env)::YA es X.env:=by rfl) (aG:(YR pos<|YA es X.env).any (·.1)=Wt:=by rfl):PE X (.Call (.Name x p) (e::es) [] pos) (tCB r t):=by
 intro ac s Z H Q I h;exact YV (Zcm I hg hm hv (PyProof.Rows.callWith_type1 (thn (ha pos ac s Z H _ I h) λus s1 ⟨vs,H1,I1,r1,q1⟩=>hc ac s1 Z H1 vs us Q I1 r1 q1) he aG) hn bj)
end
end L2
namespace HT
open PySem PyProof.Rows
section
variable {prog:Yi}{w:Yh}{A:YH}{E:Yk->Yb->Prop}{s:Yb}
def Ztc(ht:IsTup s.heap t vs.toArray)(hb:IsTup s.heap b ws.toArray)(hv:vs≠[])
 (R:ws=[]->Q (.ref t) s) (h2:ws≠[]->Q (.ref s.heap.objs.size) {s with heap:=s.heap.push {cls:=.type "tuple",data:=.seq (vs++ws).toArray}})
 (aR:vs.length+ws.length<=Yc):YB (model prog w) A (binaryOp .Add (.ref t)<|.ref b) Q E s:=by
 obtain⟨⟨cls,dd,data,sl⟩,ho,hc,n,hd⟩:=id ht;obtain⟨⟨jM,gX,data2,gu⟩,dI,jE,n2,jB⟩:=id hb;subst hc hd jE jB;have e:vs.toArray++ws.toArray=(vs++ws).toArray:=by simp
 by_cases hw:ws=[]
 . exact concat_meets ⟨_,ho,rfl⟩ ⟨_,dI,rfl⟩ noFill_tuple_add seq_tuple_add PySem.F.slot_tuple_add PySem.F.entry_tuple_add (PySem.F.args_tuple_add_2 _ _)
    (tuple_addW1 t b vs.toArray ws.toArray n n2 dd gX sl gu (by simpa using hv)<|by simp_all) ⟨ho,dI,R hw⟩
 . refine concat_meets ⟨_,ho,rfl⟩ ⟨_,dI,rfl⟩ noFill_tuple_add seq_tuple_add PySem.F.slot_tuple_add PySem.F.entry_tuple_add (PySem.F.args_tuple_add_2 _ _)
    (tuple_addW2 t b vs.toArray ws.toArray n n2 dd gX sl gu (by simpa using hv) (by simp_all)<|by trivial) ⟨ho,dI,?_⟩
   rw[e];exact h2 hw
noncomputable def sIx(n d:Nat):Option Int->Nat
 |none=>d
 |some v=>if v<0 then(v+(n:Int)).toNat else min v.toNat n
def Znn(v)(n d:Nat):(if v<0 then max (v+(n:Int)) 0 else min v n)=sIx n d (J v):=by
 show(if v<0 then max (v+n) 0 else min v n)=(if v<0 then(v+n).toNat else min v.toNat n)
 by_cases hv:v<0
 . simp_all
 . simp[if_neg hv];lia
def Zmh(lo hi)(n:Nat):Builtin.Slice.sliceAdjust lo hi 1 n=((sIx n 0 lo:Int),(sIx n n hi:Int)):=by
 refine Prod.ext ?_ ?_
 . cases lo with
   |none=>rfl
   |some v=>exact Znn v n 0
 . cases hi with
   |none=>rfl
   |some v=>exact Znn v n n
def Zle(i j:Nat):Builtin.Slice.slicePlaces i j 1=j-i:=by unfold Builtin.Slice.slicePlaces;simp;split<;>lia
def ZgE(p:IsPart v o)(h:Q o s):YB (model prog w) A (Builtin.Slice.slicePartIndex v) Q E s:=by
 cases p with
 |none=>exact slicePart_none h
 |int i t=>exact slicePart_int h
def Zcs{sl}{vl vu}{lo hi}{n}{Q:Int×Int×Nat->Yb->Prop}(hs:s.heap.IsSliceOf sl vl vu .none)(pl:IsPart vl lo)(pu:IsPart vu hi)
 (h:Q (sIx n 0 lo,1,sIx n n hi-sIx n 0 lo) s):YB (model prog w) A (Builtin.Slice.sliceApplied (.ref sl)<|pure n) Q E s:=by
 obtain⟨os,dE,gN,fR⟩:=id hs;refine Ya<|Ya<|YQ dE fR (x:=vl) rfl<|Ya<|YQ dE fR (x:=vu) rfl<|Ya<|YQ dE fR rfl<|Yd<|Ya<|slicePart_none<|Ya<|ZgE pl<|Ya<|ZgE pu<|Ya<|Yd ?_;show YB _ _ (match Builtin.Slice.sliceAdjust lo hi 1 n with|(lo,hi)=>pure (lo,(1:Int),Builtin.Slice.slicePlaces lo hi 1)) _ _ s;rw[Zmh lo hi n];show YB _ _ (pure ((sIx n 0 lo:Int),1,Builtin.Slice.slicePlaces (sIx n 0 lo) (sIx n n hi) 1)) _ _ s;rw[Zle];exact Yd h
def Zpz(xs:Array Yk)(i k:Nat):((List.range k).filterMap λ(m:Nat)=>xs[(i+(m:Int)*1).toNat]?).toArray=((xs.toList.drop i).take k).toArray:=by
 have e:(λ(m:Nat)=>xs[(i+(m:Int)*1).toNat]?)=λm=>xs[i+m]? := by
  funext m;have:(i+(m:Int)*1).toNat=i+m:=by lia
  rw[this]
 rw[e];have:=pick_run xs i k;have e2:((λx=>xs[x]?) ∘ λx=>i+x)=λm=>xs[i+m]? := rfl
 simp_all
theorem Ze6{t sl}{items}{vl vu}{lo hi}{Q}(ht:IsTup s.heap t items)(hs:s.heap.IsSliceOf sl vl vu .none)(pl:IsPart vl lo)(pu:IsPart vu hi)
   (hw:¬ (sIx items.size 0 lo=0/\sIx items.size items.size hi=items.size))
   (h:Q (.ref s.heap.objs.size) {s with heap:=s.heap.push {cls:=.type "tuple",data:=.seq ((items.toList.drop<|sIx items.size 0 lo).take<|sIx items.size items.size hi-sIx items.size 0 lo).toArray}})
   (aR:items.size<=Yc):YB (model prog w) A (getItem (.ref t)<|.ref sl) Q E s:=by
 have bD:sizeOk (.seq ((items.toList.drop<|sIx items.size 0 lo).take<|sIx items.size items.size hi-sIx items.size 0 lo).toArray):=by
   show ((items.toList.drop<|sIx items.size 0 lo).take<|sIx items.size items.size hi-sIx items.size 0 lo).toArray.size<=Yc;rw [Of,List.length_take,List.length_drop,Array.length_toList]
   lia
 obtain⟨os,dE,gN,fR⟩:=id hs;unfold getItem
 try with_reducible refine Wc ?_
 refine Ya (wpAny_sequenceKey ht.typeIs (by decide) (Ya (YZ (name:=O "__getitem__") ht.typeIs Wh
   (We Wh ht.typeIs entry_tuple_getitem ?_<|args_tuple_getitem _ _))))
 show YB _ _ (Builtin.Tuple.tupleItemsOf (.ref t) >>= _) _ _ s;refine Ya<|tupleItemsOf_ ht<|Ya<|wpAny_typeOf ⟨os,dE,gN⟩ ?_;rw [if_pos<|by decide];refine Ya<|Zcs hs pl pu ?_;show YB _ _ (if (((sIx items.size 0 lo):Int)==0&&(1)==1&&(sIx items.size items.size hi-sIx items.size 0 lo)==items.size)=Ws then _ else _) _ _ s;rw [if_neg (by
   intro q;rw [Oa,Oa] at q;have q1:((sIx items.size 0 lo):Int)=0:=eq_of_beq q.1.1;have q2:sIx items.size items.size hi-sIx items.size 0 lo=items.size:=eq_of_beq q.2;exact hw ⟨by lia,by lia⟩),Zpz]
 first
   |exact Ya (m:=Builtin.Tuple.tupleExact _) (Yr (Yd ⟨_,rfl,Yd h⟩) bD)
   |exact Ya (m:=Builtin.Tuple.tupleExact _) (Yr (Ya (Yd (Yd ⟨_,rfl,Yd h⟩))) bD)
   |exact Ya (Ya (m:=Builtin.Tuple.tupleExact _) (Yr (Yd (Yd ⟨_,rfl,Yd h⟩)) bD))
   |exact Ya (Ya (m:=Builtin.Tuple.tupleExact _) (Yr (Yd ⟨_,rfl,Yd h⟩) bD))
end
end HT
namespace L2
open PySem PySem.Spec PyProof.Rows
abbrev TO:=St->Hp->(Option Int->Hp->Prop)->Prop
def PO(X:Cx)(e:Option Expr)(t:TO):Prop:=
 ∀(ac:List (Yj×Obj)) (s:Yb) (Z:St) (H:Hp) (Q:Option Int->Hp->Prop),Inv X ac Z H s->t Z H Q ->
  YB (model X.prog X.w) X.A (evalPart e X.env) (λu s'=>∃o H',Inv X ac Z H' s'/\IsPart u o/\Q o H') X.xe s
noncomputable def Zrv:TO:=λ_ H Q=>Q M H
noncomputable def Zw4(t:TE):TO:=λZ H Q=>t Z H λx H1=>∃i,x=.int i/\Q (J i) H1
section
variable {X:Cx}{e:Expr}{te:TE}{lo hi:Option Expr}{tl th:TO}{pos p2:Pos}
def ZrX:PO X M Zrv:=by intro ac s Z H Q I h;exact Yd ⟨M,H,I,.none,h⟩
def ZrW(h:PE X e te):PO X (J e) (Zw4 te):=by intro ac s Z H Q I hw;refine thn (h ac s Z H _ I hw) λu s1 ⟨x,H1,I1,r1,q1⟩=>?_;obtain⟨i,rfl,q⟩:=q1;obtain⟨t,rfl⟩:=r1;exact⟨J i,H1,I1,.int i t,q⟩
def SlR(X:Cx)(r:V->Option Int->Option Int->Hp->VK->Prop):Prop:=
 ∀(ac:List (Yj×Obj)) (s:Yb) (Z:St) (H:Hp) (x:V) (v vl vu:Yk) (lo hi:Option Int) (sl:Yj) (Q:VK),Inv X ac Z H s->RelV x v->s.heap.IsSliceOf sl vl vu .none->IsPart vl lo->IsPart vu hi->r x lo hi H Q ->
  ∃T id,typeLookup (.type T) "__getitem__"=pure (J<|.builtin id)/\s.TypeIs v T/\YB (model X.prog X.w) X.A (getItem v<|.ref sl) (EP X ac Z Q) X.xe s
noncomputable def tSl(r:V->Option Int->Option Int->Hp->VK->Prop)(te:TE)(tl th:TO):TE:=λZ H Q=>te Z H λx H1=>tl Z H1 λl H2=>th Z H2 λu H3=>r x l u H3 Q
def ZpD(hr:SlR X r)(he:PE X e te)(hl:PO X lo tl)(hu:PO X hi th):PE X (.Subscript e (.Slice lo hi M p2) pos) (tSl r te tl th):=by intro ac s Z H Q I h;refine Subscript_<|thn (he ac s Z H _ I h) λv s1 ⟨x,H1,I1,r1,q1⟩=>wpAny_Slice<|thn (hl ac s1 Z H1 _ I1 q1) λvl s2 ⟨l,H2,I2,pl,q2⟩=>thn (hu ac s2 Z H2 _ I2 q2) λvu s3 ⟨u,H3,I3,pu,q3⟩=>Yd ?_;obtain⟨T,id,hT,ht,hg⟩:=hr ac {s3 with heap:=s3.heap.push {cls:=.type "slice",data:=.fields #[vl,vu,.none]}} Z H3 x v vl vu l u s3.heap.objs.size Q (I3.kept λb ob q=>Od _ q) r1 (Heap.IsSliceOf.new ..) pl pu q3;exact tail_any ht hT hg (rfl)
def Zor(xs:List V)(lo hi:Option Int):List V:=(xs.drop<|HT.sIx xs.length 0 lo).take (HT.sIx xs.length xs.length hi-HT.sIx xs.length 0 lo)
def Zf1(xs)(lo hi):(Zor xs lo hi).length<=xs.length:=by
 unfold Zor;rw[List.length_take,List.length_drop]
 lia
def ZzA(K:Yl):V->Option Int->Option Int->Hp->VK->Prop:=λx lo hi H Q=>∃a xs,x=.ref a/\SqT K H a xs /\
 ¬ (HT.sIx xs.length 0 lo=0/\HT.sIx xs.length xs.length hi=xs.length)/\∀p,H p=M->Q (.ref p) (upd H p<|.tup<|Zor xs lo hi)
def ZuD:SlR X (ZzA X.K):=by intro ac s Z H x v vl vu lo hi sl Q I rx hs pl pu h;obtain⟨a,xs,rfl,hx,hw,q⟩:=h;cases rx;obtain⟨its,r,ht,hz⟩:=I.tuple hx;have av:its.toArray.size=xs.length:=r.length.symm;refine⟨"tuple",_,PyProof.Rows.slot_tuple_getitem.lookup,ht.typeIs,HT.Ze6 ht hs pl pu (by rw[av];trivial) ?_ (by rw[av];trivial)⟩;rw[av];refine⟨.ref s.heap.objs.size,_,I.laid (λb ob q=>Od _ q) (Oq _) ?_,rfl,q _<|I.hok.fresh<|Oq _⟩;exact⟨OE (Zf1 xs lo hi) hz,_,(r.drop<|HT.sIx xs.length 0 lo).take<|HT.sIx xs.length xs.length hi-HT.sIx xs.length 0 lo,ZbT.fresh _ _⟩
def Zxx(K:Yl):R2:=λx y H Q=>∃a b xs ys,x=.ref a/\y=.ref b/\SqT K H a xs/\SqT K H b ys/\xs≠[]/\xs.length+ys.length<=Yc /\
 (ys=[]->Q (.ref a) H)/\(ys≠[]->∀p,H p=M->Q (.ref p) (upd H p<|.tup<|xs++ys))
def Zn.nil_iff(r:Zn xs us):us=[]↔xs=[]:=by
 cases r with
 |nil=>simp
 |cons _ _=>simp
def Zsf:OpR X (binaryOp .Add) (Zxx X.K):=by intro ac s Z H x y v u Q I rx ry h;obtain⟨a,b,xs,ys,rfl,rfl,ha,hb,hx,hz,q1,q2⟩:=h;cases rx;cases ry;obtain⟨its,r1,p1,_⟩:=I.tuple ha;obtain⟨aF,r2,p2,_⟩:=I.tuple hb;refine HT.Ztc p1 p2 (λz=>hx<|r1.nil_iff.mp z) (λz=>⟨.ref a,H,I,rfl,q1<|r2.nil_iff.mp z⟩) (λz=>⟨.ref s.heap.objs.size,_,I.laid (λb ob q=>Od _ q) (Oq _) ?_,rfl,q2 (λw=>z<|r2.nil_iff.mpr w) _<|I.hok.fresh<|Oq _⟩) (by rw[<-r1.length,<-r2.length];trivial);exact⟨by simp_all,_,r1.append r2,ZbT.fresh _ _⟩
end
noncomputable def ixN(n:Nat)(i:Int):Option Nat:=if 0<=i then(if i<n then J i.toNat else M)else if -(n:Int)<=i then J (i+n).toNat else M
def atI(xs:List α)(i:Int):Option α:=(ixN xs.length i).bind λj=>xs[j]?
def Zm9(h:ixN n i=J j):seqIndex? i n=J j/\j<n/\-n<=i/\i<n:=by
 unfold ixN at h;by_cases h0:0<=i
 . rw[if_pos h0]at h;by_cases R:i<n
   . rw[if_pos R]at h;exact⟨by rw[seqIndex_of h0 R,YF h],by lia,by lia,R⟩
   simp_all
 . rw[if_neg h0]at h;by_cases R:-n<=i
   . rw[if_pos R]at h;exact⟨by rw[seqIndex_neg (by lia) R,YF h],by lia,R,by lia⟩
   simp_all
def Zjx(h:atI xs i=J v):∃j,seqIndex? i xs.length=J j/\xs[j]?=J v/\j<xs.length/\-(xs.length:Int)<=i/\i<xs.length:=by
 unfold atI at h;cases e:ixN xs.length i with
 |none=>simp_all
 |some j=>rw[e]at h;obtain⟨R,h2,h3,h4⟩:=Zm9 e;exact⟨j,R,h,h2,h3,h4⟩
def ZjA(b:Expr):Prop:=∀o i,subscripted b Wt o i=operate [o,i] (getItem o i)
def IxR(X:Cx)(r:R2):Prop:=
 ∀(value slice:Expr) (ac:List (Yj×Obj)) (s:Yb) (Z:St) (H:Hp) (x y:V) (v u:Yk) (Q:VK),Inv X ac Z H s->RelV x v->RelV y u->r x y H Q ->
  subscripted slice Wt v u=operate [v,u] (getItem v u)->YB (model X.prog X.w) X.A (subscriptTail value slice v u) (EP X ac Z Q) X.xe s
def MtR(X:Cx)(id:String)(r:V->List V->Hp->VK->Prop):Prop:=
 ∀(ac:List (Yj×Obj)) (s:Yb) (Z:St) (H:Hp) (x:V) (xs:List V) (v:Yk) (us:List Yk) (Q:VK),Inv X ac Z H s->RelV x v->Zn xs us->r x xs H Q ->
  YB (model X.prog X.w) X.A (call (.builtin id) (v::us)) (EP X ac Z Q) X.xe s
section
variable {X:Cx}{a b:Expr}{ta tb:TE}{pos:Pos}
def ZtT{r}(hr:IxR X r)(ha:PE X a ta)(hb:PE X b tb)(hs:ZjA b):PE X (.Subscript a b pos) (tOp r ta tb):=by intro ac s Z H Q I h;exact Subscript_ (Zwj ha hb I h λv u s2 x y H2 I2 rx ry q=>hr a b ac s2 Z H2 x y v u Q I2 rx ry q<|hs _ _)
def ZzH(K:Yl):R2:=λx y H Q=>∃p xs i v,x=.ref p/\y=.int i/\SqL K H p xs/\atI xs i=J v/\Q v H
def ZzE(K:Yl):R2:=λx y H Q=>∃p xs i v,x=.ref p/\y=.int i/\SqT K H p xs/\atI xs i=J v/\Q v H
def ZzF:R2:=λx y H Q=>∃z i c,x=.str z/\y=.int i/\z.length<=Yc/\atI z.cps.toList i=J c/\Q (.str ⟨#[c]⟩) H
def ZsK:IxR X (ZzH X.K):=by
 intro value slice ac s Z H x y v u Q I rx ry h hs;obtain⟨p,xs,i,z,rfl,rfl,hq,he,q⟩:=h;cases rx;obtain⟨t,rfl⟩:=ry;obtain⟨its,r,pl,hz⟩:=I.list hq;obtain⟨j,R,h2,h3,h4,h5⟩:=Zjx he;obtain⟨w,ew,bf⟩:=r.get h2;have hl:=r.length;have hn:=Zcl;by_cases h0:0<=i
 . have hj:=by rw[seqIndex_of h0 h5]at R;exact YF R
   exact item_listR pl.isList h0 (by lia) (by rw[hj];simpa using ew) ⟨z,H,I,bf,q⟩ hs
 . have hj:(i+(its.toArray.size)).toNat=j:=by rw[seqIndex_neg (by lia) h4]at R;rw[Of,<-hl];exact YF R
   exact subscriptTail_builtinR (x:=w) pl.isList.typeIs slot_list_getitem.lookup
    (wpAny_getItem_list_neg (Q:=λr s'=>r=w/\EP X ac Z Q r s') pl.isList (by lia) (by rw[Of]<;>lia) (by lia) (by rw[hj];simpa using ew) ⟨rfl,⟨z,H,I,bf,q⟩⟩) hs
def ZvH:IxR X (ZzE X.K):=by
 intro value slice ac s Z H x y v u Q I rx ry h hs;obtain⟨p,xs,i,z,rfl,rfl,hq,he,q⟩:=h;cases rx;obtain⟨t,rfl⟩:=ry;obtain⟨its,r,pl,hz⟩:=I.tuple hq;obtain⟨j,R,h2,h3,h4,h5⟩:=Zjx he;obtain⟨w,ew,bf⟩:=r.get h2;have hn:=Zcl;exact subscriptTail_builtinR pl.typeIs slot_tuple_getitem.lookup
  (getItem_tuple pl (by lia) (by lia) (by rw[Of,<-r.length];trivial) (by simpa using ew) ⟨rfl,⟨z,H,I,bf,q⟩⟩) hs
theorem ZvI:IxR X ZzF:=by
 intro value slice ac s Z H x y v u Q I rx ry h hs;obtain⟨z,i,c,rfl,rfl,hz,he,q⟩:=h;obtain⟨t,rfl⟩:=rx;obtain⟨t',rfl⟩:=ry;obtain⟨j,R,h2,h3,h4,h5⟩:=Zjx he;have hl:z.cps.toList.length=z.length:=rfl;rw [hl] at R h4 h5;have hn:=Zcl;exact tail_any (typeIs_str s z t) slot_str_getitem.lookup (getItem_str (by
   rw [decide_eq_false<|by lia,decide_eq_false<|by lia,Bool.or_false]) (by rw [R];simpa using h2) ⟨.str ⟨#[c]⟩,H,I.tok _,⟨_,rfl⟩,q⟩) hs
def Zlt(its:List Yk)(n j)(u):Obj.mapSeq (·.setIfInBounds j u) {cls:=.type "list",data:=.seq its.toArray n}={cls:=.type "list",data:=.seq (its.set j u).toArray n}:=by simp[Obj.mapSeq]
theorem Inv.lst(I:Inv X ac Z H s)(h:H p=J (.lst xs)):
 ∃(its:List Yk) (n:Nat),Zn xs its/\s.heap.get? p=J {cls:=.type "list",data:=.seq its.toArray n}/\xs.length<=Yc:=by
 obtain⟨z,its,n,r,e⟩:=I.hok p _ h;exact⟨its,n,r,e,z⟩
theorem Inv.lstUpd{ac}{Z:St}{H}{s}{p}{xs ys}{its bg:List Yk}{n n'}{f}(I:Inv X ac Z H s)(h:H p=J (.lst xs))
   (ho:s.heap.get? p=J {cls:=.type "list",data:=.seq its.toArray n}) (hf:f {cls:=.type "list",data:=.seq its.toArray n}={cls:=.type "list",data:=.seq bg.toArray n'}) (r:Zn ys bg) (hz:ys.length<=Yc) (t) :
   Inv X ac Z (upd H p<|.lst ys) {s with heap:=s.heap.update p f,toks:=t}:=I.write (by rw [h];trivial) (.inl rfl) (λb u hb q=>(YN _ _<|YL hb).trans q) ⟨_,by
   rw [YU f ho (by rw [hf]<;>rfl),hf]⟩ ⟨hz,bg,n',r,by
   rw [YU f ho (by rw [hf]<;>rfl),hf]⟩
def Zxt:V->V->V->Hp->(Hp->Prop)->Prop:=λo i v H Q=>∃p xs k j,o=.ref p/\i=.int k/\H p=J (.lst xs)/\ixN xs.length k=J j/\Q (upd H p<|.lst<|xs.set j v)
theorem set_list:ZoH X Zxt:=by
 intro ac s Z H o i v ov iv u Q I ro ri rv h;obtain⟨p,xs,k,j,rfl,rfl,hp,hj,q⟩:=h;cases ro;obtain⟨t,rfl⟩:=ri;obtain⟨its,n,r,ho,hz⟩:=I.lst hp;obtain⟨R,h2,h3,h4⟩:=Zm9 hj;have hn:=Zcl;have I' :=
   I.lstUpd hp ho (Zlt its n j u) (r.set rv j) (by simp_all) s.toks
 by_cases h0:0<=k
 . exact PySem.W.ki_setAt ho h0 (by lia) (by rw [Of,<-r.length];exact h4) (by
     rw [seqIndex_of h0 h4] at R;exact YF R▸⟨_,I',q⟩)
 . exact PySem.W.ki_setBack ho (by lia) (by rw [Of,<-r.length];exact h3) (by lia) (by
     rw [seqIndex_neg (by lia) h3] at R;rw [Of,<-r.length];exact YF R▸⟨_,I',q⟩)
def ZiN(lo hi)(n):(sliceBounds lo hi M n).1=(HT.sIx n 0 lo)/\(sliceBounds lo hi M n).2.1=(HT.sIx n n hi)/\(sliceBounds lo hi M n).2.2=1:=by
 refine⟨?_,?_,rfl⟩
 . cases lo with
   |none=>trivial
   |some i=>
    simp[sliceBounds,HT.sIx,if_true];by_cases h:i<0
    . simp only[h,if_true]<;>lia
    . simp only[h,if_false]<;>lia
 . cases hi with
   |none=>trivial
   |some i=>
    simp[sliceBounds,HT.sIx,if_true];by_cases h:i<0
    . simp only[h,if_true]<;>lia
    . simp only[h,if_false]<;>lia
def ZhV(its:List Yk)(lo hi):slicePick its.toArray lo hi M=((its.drop<|HT.sIx its.length 0 lo).take<|HT.sIx its.length its.length hi-HT.sIx its.length 0 lo).toArray:=by obtain⟨R,h2,h3⟩:=ZiN lo hi its.toArray.size;unfold slicePick;rw[R,h2,h3];simp only[sliceRange_one,pick_run]<;>rfl
def ZzC(K:Yl):V->Option Int->Option Int->Hp->VK->Prop:=λx lo hi H Q=>∃a xs,x=.ref a/\SqL K H a xs/\∀p,H p=M->Q (.ref p) (upd H p<|.lst<|Zor xs lo hi)
def Zrx:SlR X (ZzC X.K):=by intro ac s Z H x v vl vu lo hi sl Q I rx hs pl pu h;obtain⟨a,xs,rfl,hx,q⟩:=h;cases rx;obtain⟨its,r,ht,hz⟩:=I.list hx;have av:=r.length;refine⟨"list",_,slot_list_getitem.lookup,ht.isList.typeIs,wpAny_getItem_list_slice ht.isList hs pl pu .none (by simp) ?_<|by simp_all⟩;rw[ZhV,<-av];refine⟨.ref s.heap.objs.size,_,I.laid (λb ob q=>Od _ q) (Oq _) ?_,rfl,q _<|I.hok.fresh<|Oq _⟩;exact⟨OE (Zf1 xs lo hi) hz,_,0,(r.drop<|HT.sIx xs.length 0 lo).take<|HT.sIx xs.length xs.length hi-HT.sIx xs.length 0 lo,Oj _ rfl⟩
noncomputable def Zel:V->Bool
 |.non=>Ws
 |.bl _=>Ws
 |.int _=>Ws
 |.str _=>Ws
 |_=>Wt
noncomputable def eqV:V->V->Bool
 |.non,.non=>Ws
 |.bl a,.bl b=>a==b
 |.bl a,.int b=>(if a then 1 else 0)==b
 |.int a,.bl b=>a==(if b then 1 else 0)
 |.int a,.int b=>a==b
 |.str a,.str b=>a==b
 |_,_=>Wt
def Zwa(ry:RelV y u)(rx:RelV x v)(fy:Zel y=Ws)(fx:Zel x=Ws):SeqAt.EqAt A s u v (eqV y x):=by
 cases y with
 |non=>
  cases ry;cases x with
  |non=>cases rx;exact SeqAt.EqAt.same _
  |bl b=>cases rx;exact SeqAt.EqAt.none_bool b
  |int b=>obtain⟨t,rfl⟩:=rx;exact SeqAt.EqAt.none_int b t
  |str b=>obtain⟨t,rfl⟩:=rx;exact SeqAt.EqAt.none_str b t
  |_=>exact absurd (show Wt=Ws from fx) Ow
 |bl a=>
  cases ry;cases x with
  |non=>cases rx;exact SeqAt.EqAt.bool_none a
  |bl b=>cases rx;exact SeqAt.EqAt.bool_bool a b
  |int b=>obtain⟨t,rfl⟩:=rx;exact SeqAt.EqAt.bool_int a b t
  |str b=>obtain⟨t,rfl⟩:=rx;exact SeqAt.EqAt.bool_str a b t
  |_=>exact absurd (show Wt=Ws from fx) Ow
 |int a=>
  obtain⟨t',rfl⟩:=ry;cases x with
  |non=>cases rx;exact SeqAt.EqAt.int_none a t'
  |bl b=>cases rx;exact SeqAt.EqAt.int_bool a t' b
  |int b=>obtain⟨t,rfl⟩:=rx;exact SeqAt.EqAt.int_int a t' b t
  |str b=>obtain⟨t,rfl⟩:=rx;exact SeqAt.EqAt.int_str a t' b t
  |_=>exact absurd (show Wt=Ws from fx) Ow
 |str a=>
  obtain⟨t',rfl⟩:=ry;cases x with
  |non=>cases rx;exact SeqAt.EqAt.str_none a t'
  |bl b=>cases rx;exact SeqAt.EqAt.str_bool a t' b
  |int b=>obtain⟨t,rfl⟩:=rx;exact SeqAt.EqAt.str_int a t' b t
  |str b=>obtain⟨t,rfl⟩:=rx;exact SeqAt.EqAt.str_str a t' b t
  |_=>exact absurd (show Wt=Ws from fx) Ow
 |_=>exact absurd (show Wt=Ws from fy) Ow
def eqU(x:V)(u:Yk):Bool:=match u with
 |.none=>eqV .non x
 |.bool b=>eqV (.bl b) x
 |.int i _=>eqV (.int i) x
 |.str z _=>eqV (.str z) x
 |_=>Wt
def ZqG(r:RelV y u)(f:Zel y=Ws):eqU x u=eqV y x:=by
 cases y with
 |non=>cases r;rfl
 |bl b=>cases r;rfl
 |int i=>obtain⟨t,rfl⟩:=r;rfl
 |str z=>obtain⟨t,rfl⟩:=r;rfl
 |_=>trivial
theorem Zfq:∀{xs}{us},Zn xs us->xs.all Zel=Ws->us.any (eqU x)=xs.any λy=>eqV y x
 |_,_,.nil,_=>rfl
 |y::xs,u::us,.cons r t,f=>by rw[List.all_cons,Oa]at f;rw[Wa,Wa,ZqG r f.1,Zfq t f.2]
theorem Zdh(rx:RelV x v)(fx:Zel x=Ws):∀{xs}{us},Zn xs us->xs.all Zel=Ws->∀u∈us,SeqAt.EqAt A s u v (eqU x u)
 |_,_,.nil,_=>λu hu=>by trivial
 |y::xs,u::us,.cons r t,f=>λu' hu=>by
  rw[List.all_cons,Oa]at f;rcases O2.mp hu with rfl|hu
  . rw[ZqG r f.1];exact Zwa r rx f.1 fx
  . exact Zdh rx fx t f.2 u' hu
def inV(x:V)(xs:List V):Bool:=xs.any λy=>eqV y x
def rIn(K:Yl)(neg:Bool):R2:=λx y H Q=>∃p xs,y=.ref p/\(SqL K H p xs\/SqT K H p xs)/\Zel x=Ws/\xs.all Zel=Ws/\Q (.bl<|if neg then !inV x xs else inV x xs) H
def Zn5:OpR X (YM .In) (rIn X.K Wt):=by
 intro ac s Z H x y v u Q I rx ry h;obtain⟨p,xs,rfl,hq,fx,fs,q⟩:=h;cases ry;rcases hq with hq|hq
 . obtain⟨its,r,pl,hz⟩:=I.list hq;refine SeqAt.in_listAt (eqU x) pl.isList (λw hw=>Zdh rx fx r fs w<|by simp_all) ⟨.bl _,H,I,rfl,?_⟩;rw[show its.toArray.any (eqU x)=its.any (eqU x) by simp,Zfq r fs];exact q
 . obtain⟨its,r,pl,hz⟩:=I.tuple hq;refine SeqAt.in_tupleAt (eqU x) pl (λw hw=>Zdh rx fx r fs w<|by simp_all) ⟨.bl _,H,I,rfl,?_⟩;rw[show its.toArray.any (eqU x)=its.any (eqU x) by simp,Zfq r fs];exact q
def ZiU:OpR X (YM .NotIn) (rIn X.K Ws):=by
 intro ac s Z H x y v u Q I rx ry h;obtain⟨p,xs,rfl,hq,fx,fs,q⟩:=h;cases ry;rcases hq with hq|hq
 . obtain⟨its,r,pl,hz⟩:=I.list hq;refine SeqAt.notIn_listAt (eqU x) pl.isList (λw hw=>Zdh rx fx r fs w<|by simp_all) ⟨.bl _,H,I,rfl,?_⟩;rw[show its.toArray.any (eqU x)=its.any (eqU x) by simp,Zfq r fs];exact q
 . obtain⟨its,r,pl,hz⟩:=I.tuple hq;refine SeqAt.notIn_tupleAt (eqU x) pl (λw hw=>Zdh rx fx r fs w<|by simp_all) ⟨.bl _,H,I,rfl,?_⟩;rw[show its.toArray.any (eqU x)=its.any (eqU x) by simp,Zfq r fs];exact q
def Zjl:Z4 X (.builtin "len") (λxs H Q=>∃p ys,xs=[.ref p]/\(SqL X.K H p ys\/SqT X.K H p ys)/\Q (.int ys.length) H):=by
 intro ac s Z H xs us Q I r h;obtain⟨p,ys,rfl,hq,q⟩:=h;obtain⟨u,rfl,rx⟩:=vals1 r;cases rx;have hn:=Zcl;rcases hq with hq|hq
 . obtain⟨its,r',pl,hz⟩:=I.list hq;have av:=r'.length;exact Calls.call_len_list pl.isList (by simp only[Of]<;>lia) ⟨.int ys.length,H,I.tok _,⟨s.toks+1,by rw[Of,av]⟩,q⟩
 . obtain⟨its,r',pl,hz⟩:=I.tuple hq;have av:=r'.length;exact len_tuple pl (by simp only[Of]<;>lia) ⟨.int ys.length,H,I.tok _,⟨s.toks+1,by rw[Of,av]⟩,q⟩
def Zjk:Z4 X (.builtin "len") (λxs H Q=>∃z,xs=[.str z]/\z.length<=Yc/\Q (.int z.length) H):=by intro ac s Z H xs us Q I r h;obtain⟨z,rfl,hz,q⟩:=h;obtain⟨u,rfl,t,rfl⟩:=vals1 r;have hn:=Zcl;exact len_str (by lia) ⟨.int z.length,H,I.tok _,⟨_,rfl⟩,q⟩
def Zjj:Z4 X (.type "list") (λxs H Q=>∃p ys,xs=[.ref p]/\(SqL X.K H p ys\/SqT X.K H p ys)/\∀l,H l=M->Q (.ref l) (upd H l<|.lst ys)):=by
 intro ac s Z H xs us Q I r h;obtain⟨p,ys,rfl,hq,q⟩:=h;obtain⟨u,rfl,rx⟩:=vals1 r;cases rx;have fin:∀(its),Zn ys its->ys.length<=Yc->∀(h') (c'),(∀b o',s.heap.get? b=J o'->h'.get? b=J o') ->
  h'.get? s.heap.objs.size=J {cls:=.type "list",dict:=M,data:=.seq its.toArray c',slots:=#[]}->EP X ac Z Q (.ref s.heap.objs.size) {s with heap:=h'}:=λits r' hz h' c' kp e=>
  ⟨.ref s.heap.objs.size,_,I.laid kp (Oq _)<|show Zag X.prog X.w _ h' _ (.lst ys)from⟨hz,its,c',r',e⟩,rfl,q _<|I.hok.fresh<|Oq _⟩
 rcases hq with hq|hq
 . obtain⟨its,r',pl,hz⟩:=I.list hq;have av:=r'.length;obtain⟨o,ho,hc,n,hd⟩:=pl.isList;exact call_list_seq p (.inl rfl) ho hc hd (λh' c' kp e=>fin its r' hz h' c' kp e) (by simp_all)
 . obtain⟨its,r',pl,hz⟩:=I.tuple hq;have av:=r'.length;obtain⟨o,ho,hc,n,hd⟩:=pl;exact call_list_seq p (.inr rfl) ho hc hd (λh' c' kp e=>fin its r' hz h' c' kp e) (by simp_all)
def Zeq:Z4 X (.type "tuple") (λxs H Q=>∃p ys,xs=[.ref p]/\((SqL X.K H p ys/\∀l,H l=M->Q (.ref l) (upd H l<|.tup ys))\/(SqT X.K H p ys/\Q (.ref p) H))):=by
 intro ac s Z H xs us Q I r h;obtain⟨p,ys,rfl,h⟩:=h;obtain⟨u,rfl,rx⟩:=vals1 r;cases rx;rcases h with⟨hq,q⟩|⟨hq,q⟩
 . obtain⟨its,r',pl,hz⟩:=I.list hq;have av:=r'.length;refine call_tuple_list pl.isList (λh' kp=>?_) (by simp_all);have I1:=I.kept (t':=s.toks) kp;exact⟨.ref h'.objs.size,_,I1.laid (t':=s.toks) (λb o e=>Od _ e) (Oq _)<|show Zag X.prog X.w _ _ _ (.tup ys)from⟨hz,its,r',ZbT.fresh _ _⟩,rfl,q _<|I1.hok.fresh<|Oq _⟩
 . obtain⟨its,r',pl,hz⟩:=I.tuple hq;exact call_tuple_same pl ⟨.ref p,H,I,rfl,q⟩
def tyV(K:Yl)(T:String)(x:V)(H:Hp):Prop:=match x with
 |.str _=>T="str"
 |.int _=>T="int"
 |.ref p=>(T="list" /\ ∃xs,SqL K H p xs)\/(T="tuple" /\ ∃o,K.lookup p=J o/\o.cls=.type "tuple" /\ o.dict=M) \/
  (T="dict" /\ ((∃kvs,H p=J (.dK kvs))\/∃kvs,H p=J (.dT kvs)))\/(T="set" /\ ∃S_ n,H p=J (.set S_ n))
 |_=>False
def ZoS(I:Inv X ac Z H s)(r:RelV x v)(ty:tyV X.K T x H):
 s.TypeIs v T/\∀a,v=.ref a->∃ob,s.heap.get? a=J ob/\ob.dict=M:=by
 cases x with
 |str z=>obtain⟨t,rfl⟩:=r;cases (ty);exact⟨typeIs_str s z t,λ_ e=>nomatch e⟩
 |int i=>obtain⟨t,rfl⟩:=r;cases (ty);exact⟨typeIs_int s i t,λ_ e=>nomatch e⟩
 |ref p=>
  cases r;rcases ty with⟨rfl,xs,hq⟩|⟨rfl,o,hk,hc,hd⟩|⟨rfl,hk⟩|⟨rfl,S_,n,hk⟩
  . obtain⟨its,_,pl,_⟩:=I.list hq;refine⟨pl.isList.typeIs,λa e=>?_⟩;cases e;obtain⟨o,n,e,c,hd,_⟩:=pl;exact⟨o,e,hd⟩
  . refine⟨⟨o,I.kIn p o hk,hc⟩,λa e=>?_⟩;cases e;exact⟨o,I.kIn _ o hk,hd⟩
  . have z:∃o,s.heap.get? p=J o/\o.ExactDict:=by
     rcases hk with⟨kvs,hk⟩|⟨kvs,hk⟩
     . obtain⟨_,_,_,_,o,_,_,e,ex,_⟩:=I.hok p _ hk;exact⟨o,e,ex⟩
     . obtain⟨_,_,o,_,_,e,ex,_⟩:=I.hok p _ hk;exact⟨o,e,ex⟩
    obtain⟨o,e,ex⟩:=z;refine⟨⟨o,e,ex.1⟩,λa e2=>?_⟩;cases e2;exact⟨o,e,ex.2.1⟩
  . obtain⟨o,_,_,_,e,ex,_⟩:=I.hok p _ hk;refine⟨⟨o,e,ex.1⟩,λa e2=>?_⟩;cases e2;exact⟨o,e,ex.2.1⟩
 |_=>exact False.elim ty
noncomputable def Zzn(K:Yl)(T:String)(r:V->List V->Hp->VK->Prop)(to:TE):TE:=λZ H Q=>to Z H λx H1=>tyV K T x H1/\r x [] H1 Q
noncomputable def tBM(K:Yl)(T:String)(r:V->List V->Hp->VK->Prop)(to:TE)(t:TA):TE:=λZ H Q=>to Z H λx H1=>tyV K T x H1/\t Z H1 λxs H2=>r x xs H2 Q
variable {o e:Expr}{es:List Expr}{to:TE}{t:TA}{name:Str}{aB ay:Pos}{T id:String}{r:V->List V->Hp->VK->Prop}
def Zu6(pa:PlainAttrs T)(slot:Slot T name id)(ja:typeOf (.builtin id)=pure (.type "method_descriptor"))(hm:MtR X id r)(ho:PE X o to)
 (bp:attributeBase o name X.env (eval o X.env)=eval o X.env:=by rfl) (bi:(aB.endLine==ay.line)=Ws:=by rfl):PE X (.Call (.Attribute o name aB) [] [] ay) (Zzn X.K T r to):=by
 intro ac s Z H Q I h;refine wpAny_Call_method0_late bp bi<|thn (ho ac s Z H _ I h) λv s1 ⟨x,H1,I1,r1,ty,q1⟩=>?_;obtain⟨R,h2⟩:=ZoS I1 r1 ty;exact⟨T,id,pa,slot,ja,R,h2,Calls.callWith_builtin rfl<|PySem.evalArgs_none<|hm ac s1 Z H1 x [] v [] Q I1 r1 .nil q1⟩
def ZxG(pa:PlainAttrs T)(slot:Slot T name id)(ja:typeOf (.builtin id)=pure (.type "method_descriptor"))(hm:MtR X id r)(ho:PE X o to)(ha:PA X (e::es) t)
 (bp:attributeBase o name X.env (eval o X.env)=eval o X.env:=by rfl)
 (jz:((YR ay<|YA (e::es) X.env).all (λx=>!x.1)&&(backToKw ay<|YY [] X.env).all (λx=>x.1.isSome)
  && Wu ((e::es).length+([]:List Keyword).length+(if ([]:List Keyword).isEmpty then 0 else 1)<30))=Ws:=by rfl)
 (bi:(aB.endLine==ay.line)=Ws:=by rfl) (hs:YA (e::es) X.env=(Wt,eval e X.env)::YA es X.env:=by rfl) (jj:(YR ay<|YA es X.env).any (·.1)=Wt:=by rfl) :
 PE X (.Call (.Attribute o name aB) (e::es) [] ay) (tBM X.K T r to t):=by
 intro ac s Z H Q I h;refine wpAny_Call_method_late bp jz bi rfl<|thn (ho ac s Z H _ I h) λv s1 ⟨x,H1,I1,r1,ty,q1⟩=>?_;obtain⟨R,h2⟩:=ZoS I1 r1 ty;refine⟨T,id,pa,slot,ja,R,h2,?_⟩;have hA:=ha ay ac s1 Z H1 _ I1 q1;rw[hs]at hA ⊢;exact Calls.callWith_builtin (by trivial) (Calls.evalArgs_plain<|thn hA λus s2 ⟨vs,H2,I2,r2,q2⟩=>hm ac s2 Z H2 x vs v us Q I2 r1 r2 q2)
end
def MtM(X:Cx)(id:String)(r:V->List V->Hp->VK->Prop):Prop:=
 ∀(ac:List (Yj×Obj)) (s:Yb) (Z:St) (H:Hp) (x:V) (xs:List V) (v:Yk) (us:List Yk) (Q:VK),Inv X ac Z H s->RelV x v->Zn xs us->r x xs H Q ->
  YB (model X.prog X.w) X.A (call (.builtin id) (v::us)) (EP X ac Z Q) X.xe s
def Zn.one:∀{x}{us},Zn [x] us->∃u,us=[u]/\RelV x u
 |_,_,.cons r .nil=>⟨_,rfl,r⟩
def Zn.zero:∀{us},Zn [] us->us=[]
 |_,.nil=>rfl
theorem Zn.dropLast(h:Zn xs us):Zn xs.dropLast us.dropLast:=by
 induction h with
 |nil=>exact .nil
 |cons r t ih=>
  cases t with
  |nil=>trivial
  |cons q t'=>exact .cons r ih
theorem Zn.reverse(h:Zn xs us):Zn xs.reverse us.reverse:=by
 induction h with
 |nil=>exact .nil
 |cons r t ih=>rw[List.reverse_cons,List.reverse_cons];exact Zn.append ih (.cons r .nil)
section
variable {X:Cx}{ac:List (Yj×Obj)}{Z:St}{H:Hp}{s:Yb}{l:Yj}{xs ys:List V}
def Inv.lset{its bg:List Yk}{n}{f}{t'}(I:Inv X ac Z H s)(hH:H l=J (.lst xs))
 (e:s.heap.get? l=J {cls:=.type "list",data:=.seq its.toArray n}) (hf:f its.toArray=bg.toArray) (hv:Zn ys bg) (hz:ys.length<=Yc) :
 Inv X ac Z (upd H l<|.lst ys) {s with heap:=s.heap.update l<|Obj.mapSeq f,toks:=t'}:=by
 have q:=PySem.IsL.update e f;rw[hf]at q;exact I.write (by rw[hH];trivial) (.inl rfl) (λb' u hb hu=>(YN s.heap (Obj.mapSeq f)<|YL hb).trans hu) ⟨_,q⟩ ⟨hz,bg,_,hv,q⟩
def Inv.lnew(I:Inv X ac Z H s)(hv:Zn ys its)(hz:ys.length<=Yc):
 Inv X ac Z (upd H s.heap.objs.size<|.lst ys) {s with heap:=s.heap.push {cls:=.type "list",data:=.seq its.toArray},toks:=t'}:=
 I.laid (λ_ _ q=>Od _ q) (Oq _) ⟨hz,its,0,hv,Oj _ rfl⟩
theorem Inv.fresh(I:Inv X ac Z H s):H s.heap.objs.size=M:=I.hok.fresh (Oq _)
def Inv.lstM(I:Inv X ac Z H s)(hH:H l=J (.lst xs)):xs.length<=Yc/\∃(its:List Yk) (n:Nat),Zn xs its/\xs.length=its.length/\s.heap.get? l=J {cls:=.type "list",data:=.seq its.toArray n}:=by obtain⟨z,its,n,r,e⟩:=I.hok l _ hH;exact⟨z,its,n,r,r.length,e⟩
def Zj2{n}(h:n<=Yc):Wj n=Wt:=decide_eq_false (by lia)
end
section
variable {X:Cx}
def ZrP:V->List V->Hp->VK->Prop:=λx vs H Q=>∃l xs y,x=.ref l/\vs=[y]/\H l=J (.lst xs)/\xs.length<Yc/\Q .non (upd H l<|.lst<|xs++[y])
def Zin:MtM X "list.append" ZrP:=by
 intro ac s Z H x vs v us Q I rx rv h;obtain⟨l,xs,y,rfl,rfl,hH,hz,q⟩:=h;cases rx;obtain⟨u,rfl,ru⟩:=rv.one;obtain⟨z,its,n,r,hl,e⟩:=I.lstM hH;refine call_meets F.slot_list_append ⟨_,e,rfl⟩ F.entry_list_append (F.args_list_append_2 _ _) (PySem.list_append l its.toArray n u<|by simp_all) ⟨e,⟨.non,_,I.lset hH e (by simp) (r.append<|.cons ru .nil) ?_,rfl,q⟩⟩;rw[OA,List.length_singleton]
 lia
def ZrO:V->List V->Hp->VK->Prop:=λx vs H Q=>∃l b xs zs,x=.ref l/\vs=[.ref b]/\H l=J (.lst xs)/\H b=J (.lst zs)/\xs.length+zs.length<=Yc/\Q .non (upd H l<|.lst<|xs++zs)
theorem Zn9:MtM X "list.extend" ZrO:=by
 intro ac s Z H x vs v us Q I rx rv h;obtain⟨l,b,xs,zs,rfl,rfl,hH,hB,hz,q⟩:=h;cases rx;obtain⟨u,rfl,ru⟩:=rv.one;cases ru;obtain⟨z,its,n,r,hl,e⟩:=I.lstM hH;obtain⟨z2,aF,n2,r2,bX,e2⟩:=I.lstM hB;have aR:its.toArray.size+aF.toArray.size<=Yc:=by simp_all
 refine call_meets F.slot_list_extend ⟨_,e,rfl⟩ F.entry_list_extend (F.args_list_extend_2 _ _)
   (AutoSeq1.list_extend_list_list_0 l its.toArray n b aF.toArray n2 (by
   rw [Zj2 aR];simp) (by simp_all) (by lia)) ⟨e,e2,⟨.non,_,I.lset hH e (by simp) (r.append r2) ?_,rfl,q⟩⟩
 simp_all
def ZzD:V->List V->Hp->VK->Prop:=λx vs H Q=>∃l xs y,x=.ref l/\vs=[]/\H l=J (.lst xs)/\xs[xs.length-1]?=J y/\Q y (upd H l<|.lst xs.dropLast)
theorem Zvq:MtM X "list.pop" ZzD:=by
 intro ac s Z H x vs v us Q I rx rv h;obtain⟨l,xs,y,rfl,rfl,hH,hy,q⟩:=h;cases rx;have fK:=rv.zero;subst fK;obtain⟨z,its,n,r,hl,e⟩:=I.lstM hH;obtain⟨u,hu,ru⟩:=r.get hy;refine call_meets F.slot_list_pop ⟨_,e,rfl⟩ F.entry_list_pop (F.args_list_pop_1 _) (MeetsSeq.list_pop_last l its.toArray n u (by
   show its.toArray[its.length-1]?=J u
   simp_all) (by simp_all)) ⟨e,⟨y,_,I.lset hH e ?_ r.dropLast ?_,ru,q⟩⟩
 . simp
 . rw [List.length_dropLast]
   lia
def Zpl:V->List V->Hp->VK->Prop:=λx vs H Q=>∃l xs,x=.ref l/\vs=[]/\H l=J (.lst xs)/\Q .non (upd H l<|.lst xs.reverse)
def Zlq:MtM X "list.reverse" Zpl:=by
 intro ac s Z H x vs v us Q I rx rv h;obtain⟨l,xs,rfl,rfl,hH,q⟩:=h;cases rx;have fK:=rv.zero;subst fK;obtain⟨z,its,n,r,hl,e⟩:=I.lstM hH;refine call_meets F.slot_list_reverse ⟨_,e,rfl⟩ F.entry_list_reverse (F.args_list_reverse_1 _) (AutoSeq1.list_reverse_list_0 l its.toArray n<|by simp_all) ⟨e,⟨.non,_,I.lset hH e (by simp) r.reverse ?_,rfl,q⟩⟩
 simp_all
def ZuP:V->List V->Hp->VK->Prop:=λx vs H Q=>∃l xs,x=.ref l/\vs=[]/\H l=J (.lst xs)/\Q .non (upd H l<|.lst [])
def Zp3:MtM X "list.clear" ZuP:=by intro ac s Z H x vs v us Q I rx rv h;obtain⟨l,xs,rfl,rfl,hH,q⟩:=h;cases rx;have fK:=rv.zero;subst fK;obtain⟨z,its,n,r,hl,e⟩:=I.lstM hH;exact call_meets F.slot_list_clear ⟨_,e,rfl⟩ F.entry_list_clear (F.args_list_clear_1 _) (AutoSeq1.list_clear_list_0 l its.toArray n<|by simp_all) ⟨e,⟨.non,_,I.lset hH e rfl .nil<|Yy _,rfl,q⟩⟩
def ZzJ:R2:=λx y H Q=>∃l b xs zs,x=.ref l/\y=.ref b/\H l=J (.lst xs)/\H b=J (.lst zs)/\xs.length+zs.length<=Yc/\∀p,H p=M->Q (.ref p) (upd H p<|.lst<|xs++zs)
def Zvd:OpR X (binaryOp .Add) ZzJ:=by
 intro ac s Z H x y v u Q I rx ry h;obtain⟨l,b,xs,zs,rfl,rfl,hH,hB,hz,q⟩:=h;cases rx;cases ry;obtain⟨z,its,n,r,hl,e⟩:=I.lstM hH;obtain⟨z2,aF,n2,r2,bX,e2⟩:=I.lstM hB;refine PySem.P.add_list e e2 ?_ (by simp_all);have ea:its.toArray++aF.toArray=(its++aF).toArray:=by simp
 rw[ea];exact⟨.ref _,_,I.lnew (r.append r2)<|by simp_all,rfl,q _ I.fresh⟩
end
end L2
namespace Att
open PySem PySem.W PySem.Calls PyProof.Rows
def Zgc:∀(ns) (vs),WellAll P h vs (ns.map WData.int)->IntsAre vs ns:=by
 intro ns;induction ns with
 |nil=>intro vs w;cases w;exact .nil
 |cons n ns ih=>
  intro vs w;cases w with
  |cons a b=>cases a;exact .cons _ _ (ih _ b)
theorem ZnQ{l:OpenLaw}{n}(hn:l.most=J n){P}{h}{args}{be}
   (cj:l.row.toRowW.claim.pre args=Ws) (i8:WellAll P h be args) :
   ∃ a vs ns,be=[YD a]/\args=[WData.list<|ns.map WData.int]/\h.get? a=J {cls:=.type "list",data:=.seq vs.toArray}/\IntsAre vs ns/\ns.length<=n:=by
 obtain⟨d,r,rfl,R,h2⟩:=hasAllW_cons (pre_splitW cj).1;obtain rfl:=hasAllW_nil h2;obtain⟨xs,rfl,h3⟩:=hasW_list R;obtain⟨ns,rfl⟩:=items_int h3;cases i8 with
 |cons w1 w2 =>
   cases w2;cases w1 with
   |list ho aY=>exact⟨_,_,ns,rfl,rfl,ho,Zgc ns _ aY,by
   have h5:=condW_of (by
     have h4:=(holds_andW (pre_splitW cj).2).1;rw [hn] at h4;exact h4) (w_not<|w_lt w_lit<|w_len_list<|w_arg rfl)
   simp_all⟩
def ZnW(l:OpenLaw)(args):l.row.toRowW.claim.post args (.bool Ws) args=Ws:=
 postW_of
  (rfl)
  (w_eq_bool (w_res rfl) w_lit) rfl
def ZkT{l:OpenLaw}{n}{q}{a7}{XP}{YP}{d}
 (hn:l.most=J n) (fT:d.params.defaults=[])
 (call:∀(w) (s₀ s₁) (mg mb) (fa) (o) (pm cd aJ) (a) (vs) (ns),
  Ground q a7 [] XP w s₀ mg mb s₁.heap->YP w s₁.heap ->
  s₁.heap.get? fa=J o->o.data=.func (docDef d.name d.params d.body d.scope pm cd aJ)->s₁.heap.CodeRec cd d.name->mg d.name=J (.ref fa) ->
  s₁.heap.get? a=J {cls:=.type "list",data:=.seq vs.toArray}->IntsAre vs ns->ns.length<=n->s₁.gens=#[] ->
  codeAny (model l.prog w) callerA (.call (.ref fa) ⟨[.ref a],[]⟩) (λr s'=>r=.ok (.ret<|.bool Ws)/\OldK s₁.heap s'.heap/\s'.os=s₁.os/\AllBare s'.gens) s₁) :
 WalkO q a7 XP YP l.row.toRowW d [] (λf vs=>PySem.call f vs):=by
 intro w s₀ s₁ mg mb G Y fa o pm cd aJ dV kV ho hd b7 hD eO hg args be as cj mF nX i8 kg;obtain rfl:dV=.none:=Dflts.none hD fT;obtain rfl:kV=.none:=Dflts.noKw hD;obtain⟨a,vs,ns,rfl,rfl,dH,bQ,av⟩:=ZnQ hn cj i8;refine enter_call<|codeAny_mono (call w s₀ s₁ mg mb fa o pm cd aJ a vs ns G Y ho (fd_plain hd) b7 eO dH bQ av hg) λr s' hq=>?_;obtain⟨rfl,h2,h3,h4⟩:=hq;exact⟨.inl ⟨.bool Ws,.bool Ws,[],rfl,λ_=>rfl,.bool Ws,ZnW l _,λ_=>⟨List.Pairwise.nil,λ_ hm=>(nomatch hm)⟩⟩,h2,h3,h4⟩
end Att
namespace L2
open PySem PySem.Spec PyProof.Rows
theorem Zfr:∀{vs}{ns},IntsAre vs ns->Zn (ns.map V.int) vs
 |_,_,.nil=>.nil
 |_,_,.cons n t h=>.cons ⟨t,rfl⟩ (Zfr h)
def Ztx(H:Hp):Prop:=∀b,H b=M\/∃o xs,H b=J (.frz o<|.lst xs)
theorem Zqf{P}{w}{K:Yl}{mg mb:Str->Option Yk}{CX}{k}{fa a}{fd}{x}{sp}{s₁:Yb}{vs:List Yk}{ns:List Int}
   (KX:K.In s₁.heap) (cH:s₁.heap.Ns Ye mg) (hb:s₁.heap.Ns builtinsNs mb) (mV:∀ x:Str,x ≠ "__name__" -> mb x=bootBuiltins x) (jq:s₁.heap.NoLimit) (hg:s₁.gens=#[])
   (ha:s₁.heap.get? a=J {cls:=.type "list",data:=.seq vs.toArray}) (hi:IntsAre vs ns) (hl:ns.length<=Yc) (hr:Room k callerA)
   (F:∀ base:YG,K.In base->base.Ns Ye mg->FnOk P w K mg base CX k fa fd [x] sp) (fV:∀ (s) (u),BindsTo s fd ⟨[u],[]⟩ [(x,u)])
   (bK:∀ H:Hp,Ztx H->SqL K H a (ns.map V.int)->sp [.ref a] H (λv _=>v=.bl Ws) λ_ _ _=>False)
   (jH:∀ H e s',CX [] H s₁ (λ_ _ _=>False) e s'->False) :
   codeAny (model P w) callerA (.call (.ref fa) ⟨[.ref a],[]⟩) (λr s'=>r=.ok (.ret<|.bool Ws)/\OldK s₁.heap s'.heap/\s'.os=s₁.os/\AllBare s'.gens) s₁:=by
 have gc:∀ H ,Ztx H->SqL K H a (ns.map V.int)->HOk P w H s₁.heap->(∀ b,H b≠M->b=a)->(H a≠M->K.lookup a=M) ->
     codeAny (model P w) callerA (.call (.ref fa) ⟨[.ref a],[]⟩) (λr s'=>r=.ok (.ret<|.bool Ws)/\OldK s₁.heap s'.heap/\s'.os=s₁.os/\AllBare s'.gens) s₁:=by
   intro H hO hS hok hA hK;have fD:∀ {b:Yj}{o:Obj}{es:Array DictEntry}{ep:Nat},s₁.heap.get? b=J o->o.data=.dict es ep->H b=M:=λ{b o es ep} e d=>by
     cases q:H b with
     |none=>rfl
     |some u =>
       have e':b=a:=hA b (by rw [q];simp);subst e';rw [ha] at e;cases e;cases d
   have gE:∀ {b:Yj}{m:Str->Option Yk},s₁.heap.Ns b m->(Zoj s₁.heap H).Ns b m:=λ{b m} ⟨o,es,ep,e,d,r⟩=>⟨o,es,ep,(λe n=>Zke e n) e<|fD e d,d,r⟩
   have kD:K.In (Zoj s₁.heap H):=λb o e=>(λe n=>Zke e n) (KX b o e) (by
     cases q:H b with
     |none=>rfl
     |some u =>
       have e':b=a:=hA b (by rw [q];simp);subst e';rw [hK (by rw [q];simp)] at e;cases e)
   refine codeAny_mono ((F _ kD<|gE cH).run callerA [] s₁ H ⟨[.ref a],[]⟩ [.ref a] [.ref a] _ _ hr ⟨rfl,⟨kD,gE cH,⟨mb,gE hb,mV⟩,let⟨mc,R,h2⟩:=jq;⟨mc,gE R,h2⟩⟩,λb o e=>Zsr e,Nat.le_of_eq<|Zoi _ _,trivial,λb hb=>absurd (show b∈([]) from hb)<|by simp,hok,.of_eq hg⟩ (fV s₁<|.ref a) (.cons rfl .nil)<|bK H hO hS) λr s' h=>?_;cases r with
   |error e=>exact(jH H e s' h).elim
   |ok fl =>
     cases fl with
     |next=>exact False.elim h
     |brk=>exact False.elim h
     |cont=>exact False.elim h
     |ret u =>
       obtain⟨v,H',os,bare,un,jl,r',q⟩:=h;cases q;obtain rfl:u=Value.bool Ws:=r';refine⟨rfl,OldK.of_keep λb o e=>?_,os,bare⟩;cases q:H b with
       |none=>exact un.keep b o e q (by intro z;exact absurd (show b∈([]) from z)<|by simp) (by simp)
       |some u =>
         rcases hO b with z|⟨ob,xs,z⟩
         . rw [q] at z;cases z
         . obtain⟨e1,_⟩:=hok b _ z;obtain⟨e2,_⟩:=jl b _<|un.frzs b ob _ z;rw [e] at e1;cases e1;exact e2
 cases hk:K.lookup a with
 |some o =>
   have e:=KX a o hk;rw [ha] at e;cases e;refine gc (λ_=>M) (λ_=>.inl rfl) (.inr ⟨_,vs.toArray,_,hk,rfl,rfl,rfl,by rw [Of,hi.length];exact hl,by simpa using Zfr hi⟩) (λb u z=>by cases z) (λb z=>absurd rfl z) λz=>absurd rfl z
 |none =>
   refine gc (λb=>if b=a then J (.frz {cls:=.type "list",data:=.seq vs.toArray}<|.lst<|ns.map V.int) else M) (λb=>?_) (.inl<|.inr ⟨{cls:=.type "list",data:=.seq vs.toArray},if_pos rfl⟩) (λb u z=>?_) (λb z=>?_) λ_=>hk
   . by_cases hb:b=a
     . exact .inr ⟨_,_,if_pos hb⟩
     . exact .inl (if_neg hb)
   . by_cases hb:b=a
     . have z':=(if_pos hb).symm.trans z;cases z';subst hb;exact⟨ha,by rw [Yu];exact hl,vs,_,Zfr hi,ha⟩
     . have z':=(if_neg hb).symm.trans z;cases z'
   . by_cases hb:b=a
     . exact hb
     . exact absurd (if_neg hb) z
def Zrk{l:PySem.W.OpenLaw}{n k}{q}{a7:List Str}{XP:(Str->Option Yk)->YG->Prop}{YP:Yh->YG->Prop}{d:DefRec}{K:Params->Yl}{CX:Yh->CXT}{sp:Yh->Sp}{x}
 (hn:l.most=J n) (eN:n<=Yc) (fT:d.params.defaults=[]) (hr:Room k callerA)
 (hY:∀(w) (h),YP w h->(K w.params).In h)
 (F:∀(w) (mg:Str->Option Yk) (fa) (h),(K w.params).In h->h.Ns Ye mg->mg d.name=J (.ref fa) ->
  ∃fd:FuncData,(∀(s) (u),BindsTo s fd ⟨[u],[]⟩ [(x,u)]) /\
   ∀base:YG,(K w.params).In base->base.Ns Ye mg->FnOk l.prog w (K w.params) mg base (CX w) k fa fd [x] (sp w))
 (bK:∀(w) (H) (a) (ns:List Int),ns.length<=n->Ztx H->SqL (K w.params) H a (ns.map V.int)->sp w [.ref a] H (λv _=>v=.bl Ws) λ_ _ _=>False)
 (jH:∀(w) (H) (s) (e) (s'),CX w [] H s (λ_ _ _=>False) e s'->False) :
 PySem.W.WalkO q a7 XP YP l.row.toRowW d [] (λf vs=>PySem.call f vs):=by
 refine Att.ZkT hn fT λw s₀ s₁ mg mb fa o pm cd aJ a vs ns G Y ho hd b7 eO dH bQ av hg=>?_;obtain⟨fd,hb,hF⟩:=F w mg fa _ (hY w _ Y) G.T.g eO;exact Zqf (hY w _ Y) G.T.g G.T.b G.T.builtins G.T.nolimit hg dH bQ (OE av eN) hr hF hb (λH hO hS=>bK w H a ns av hO hS) λH e s'=>jH w H s₁ e s'
noncomputable def inClass(s:Stmt)(j:Nat):Stmt:=match s with
 |.ClassDef _ _ _ body _ _ _ _ _ _ _=>body.getD j (.Pass ⟨0,0,0,0⟩)
 |_=>.Pass ⟨0,0,0,0⟩
noncomputable def Zd2(s:Stmt):Arguments:=match s with
 |.FunctionDef _ a _ _ _ _ _ _ _ _=>a
 |_=>{posonlyargs:=[],args:=[],vararg:=M,kwonlyargs:=[],kw_defaults:=[],kwarg:=M,defaults:=[]}
noncomputable def Zb3(s:Stmt):List Stmt:=match s with
 |.FunctionDef _ _ b _ _ _ _ _ _ _=>b
 |_=>[]
noncomputable def ZX(s:Stmt):Scope:=match s with
 |.FunctionDef _ _ _ _ _ _ sc _ _ _=>sc
 |_=>{kind:=.function,names:=[],isGenerator:=false,isCoroutine:=false}
noncomputable abbrev E0:XK:=λ_ _ _=>False
structure Fun(K:Yl)(x am:Str)(st:Stmt)(f:Yj)(fd:FuncData):Prop where
 ex:∃(oc:Yk) (od:Option Yj) (kV aJ pm:Yk) (an:Option Yj) (aH ct:Yk) (bP:Array (Option Yk)),
  fd=PySem.W.fnOf x am (Zd2 st) (Zb3 st) (ZX st) .none kV aJ pm an aH ct/\K.lookup f=J ⟨oc,od,.func fd,bP⟩/\PySem.W.codeIn K aH am=Ws
 kp:Wb K (.ref f)=Ws
section
variable {K:Yl}
def Fun.binds{x am}{st}{f}{fd}{ps}(F:Fun K x am st f fd)
 (h:∀(kV aJ pm) (an) (aH ct) (us),us.length=ps.length->bindArgs (PySem.W.fnOf x am (Zd2 st) (Zb3 st) (ZX st) .none kV aJ pm an aH ct) ⟨us,[]⟩=pure (ps.zip us)):Binds K fd ps []:=by
 obtain⟨oc,od,kV,aJ,pm,an,aH,ct,bP,rfl,lk,b7⟩:=F.ex;exact .all (h kV aJ pm an aH ct)
def Zqw{x am}{st}{f}{oc}{od an}{bP}{kV aJ pm aH ct}(l:K.lookup f=J ⟨oc,od,.func<|PySem.W.fnOf x am (Zd2 st) (Zb3 st) (ZX st) .none kV aJ pm an aH ct,bP⟩)
 (c:PySem.W.codeIn K aH am=Ws) (k:Wb K (.ref f)=Ws):Fun K x am st f (PySem.W.fnOf x am (Zd2 st) (Zb3 st) (ZX st) .none kV aJ pm an aH ct):=⟨⟨oc,od,kV,aJ,pm,an,aH,ct,bP,rfl,l,c⟩,k⟩
end
def ZlE{A B_:Prop}(h:B_):if Wt=Ws then A else B_:=by trivial
def ZlD{A B_:Prop}(h:A):if Ws=Ws then A else B_:=by trivial
set_option tactic.hygienic false
section
variable {κ:Type}[DecidableEq κ]
def ZbB(kvs:List (κ×V))(k:κ):Option V:=(kvs.find? λkv=>Wu<|kv.1=k).map (·.2)
def putK(kvs:List (κ×V))(k:κ)(v:V):List (κ×V):=if (kvs.any λkv=>Wu<|kv.1=k)=Ws then kvs.map (λkv=>if kv.1=k then(kv.1,v)else kv)else kvs++[(k,v)]
def Zgx{p}{r}{k:κ}(e:p.1=k):ZbB (p::r) k=J p.2:=by simp[ZbB,e]
def Zgy{p}{r}{k:κ}(e:¬ p.1=k):ZbB (p::r) k=ZbB r k:=by simp[ZbB,e]
theorem ZjE(k):∀kvs:List (κ×V),(kvs.any λkv=>Wu<|kv.1=k)=(ZbB kvs k).isSome
 |[]=>rfl
 |p::r=>by
  rw[Wa];by_cases e:p.1=k
  . simp[Zgx e,decide_eq_true e]
  . rw[Zgy e,decide_eq_false e];exact ZjE k r
def Zdj(kvs)(k:κ)(v):(putK kvs k v).length<=kvs.length+1:=by
 unfold putK;split
 . simp
 simp
def ZeM.isSome_eq{o}{u}(r:ZeM o u):o.isSome=u.isSome:=by
 cases o with
 |none=>cases u with
  |none=>rfl
  |some _=>trivial
 |some _=>cases u with
  |none=>trivial
  |some _=>rfl
def KV.val{kvs}{vs}(r:KV kvs vs)(k:κ):ZeM (ZbB kvs k) (valueAt vs k):=by
 induction r with
 |nil=>trivial
 |@cons p q ps qs h t ih=>
  obtain⟨R,h2⟩:=h;by_cases e:p.1=k
  . have e':=R.symm.trans e;have b:valueAt (q::qs) k=J q.2:=by simp[valueAt,e']
    rw[Zgx e,b];trivial
  . have e':¬ q.1=k:=λz=>e<|R.trans z;have b:valueAt (q::qs) k=valueAt qs k:=by simp[valueAt,e']
    rw[Zgy e,b];trivial
theorem KV.any{kvs}{vs}(r:KV kvs vs)(k:κ):(kvs.any λkv=>Wu<|kv.1=k)=vs.any λkv=>Wu (kv.1=k):=by
 induction r with
 |nil=>rfl
 |cons h t ih=>simp_all
def KV.repl{kvs}{vs}(r:KV kvs vs)(k:κ){y}{u}(ry:RelV y u):
 KV (kvs.map λkv=>if kv.1=k then(kv.1,y)else kv) (vs.map λkv=>if kv.1=k then(kv.1,u)else kv):=by
 induction r with
 |nil=>exact .nil
 |@cons p q ps qs h t ih=>
  refine .cons ?_ ih;by_cases e:p.1=k
  . simp_all
  simp_all
def KV.put{kvs}{vs}(r:KV kvs vs)(k:κ){y}{u}(ry:RelV y u):KV (putK kvs k y) (stored vs k u):=by
 unfold putK stored;rw[r.any k];by_cases e:(vs.any λkv=>Wu<|kv.1=k)=Ws
 . rw[if_pos e,if_pos e];exact r.repl k ry
 . rw[if_neg e,if_neg e];exact Paired.snoc r ⟨rfl,ry⟩
theorem KV.length(r:KV kvs vs):kvs.length=vs.length:=Paired.length r
end
def Zkd(r:RelV (kV k) u):(ZP P w).is k u=Ws:=by
 cases k with
 |inl i=>obtain⟨t,e⟩:=(r);subst e;exact Zj5 P w i t
 |inr x=>obtain⟨t,e⟩:=(r);subst e;exact Zj4 P w x t
section
variable {P:Yi}{w:Yh}{H:Hp}{h:YG}{a:Yj}
def Zxk(ok:HOk P w H h)(e:Rd H a u):Zag P w H h a u:=e.ok ok
def Zt5(ok:HOk P w H h)(e:Rd H a (.dK kvs)):kvs.length<=Yc/\(a==Yf)=Wt/\∃vs,KV kvs vs/\h.DictOf (ZP P w) a vs:=Zxk ok e
def Zt6(ok:HOk P w H h)(e:H a=J (.dK kvs)):kvs.length<=Yc/\(a==Yf)=Wt/\∃vs,KV kvs vs/\h.DictOf (ZP P w) a vs:=Zt5 ok (.inl e)
end
section
variable {X:Cx}{ac:List (Yj×Obj)}{Z:St}{H:Hp}{s:Yb}{a:Yj}
def Inv.big(I:Inv X ac Z H s):Yf<s.heap.objs.size:=Nat.lt_trans (by decide) (I.mod.glob.keeps I.bk).lt
def Znl(I:Inv X ac Z H s)(mu:Mut (H a))(hs:Heap.SameBut a s.heap h')(he:∃q,h'.get? a=J q)(new:Zag X.prog X.w (upd H a ob) h' a ob):
 Inv X ac Z (upd H a ob) {s with heap:=h',toks:=t'}:=
 I.write mu (.inl rfl) (λb q hb z=>(hs.2 b hb).trans z) he new
def ZqK(z:kvs.length<=Yc)(hd:(a==Yf)=Wt)(rel:KV kvs vs)(dd:h'.DictOf (ZP P w) a vs):
 Zag P w H' h' a (.dK kvs):=⟨z,hd,vs,rel,dd⟩
end
def Zkr(h:YG)(hb:Yf<h.objs.size):Zag P w H (h.push {cls:=.type "dict",data:=.dict #[]}) h.objs.size (.dK []):=⟨Yy _,beq_eq_false_iff_ne.mpr<|YL<|Ou hb,[],.nil,Heap.DictOf.new h⟩
def ZuA:TE:=λ_ H Q=>∀p,H p=M->Q (.ref p) (upd H p<|.dK [])
section
variable {X:Cx}{pos:Pos}
def ZpK:PE X (.Dict [] [] pos) ZuA:=λac s Z H Q I h=>wpAny_Dict_empty ⟨.ref s.heap.objs.size,_,I.laid (λ_ _ q=>Od _ q) (Oq _)<|Zkr s.heap I.big,rfl,h _<|I.hok.fresh<|Oq _⟩
end
def ZiL:List (TE×TE)->St->Hp->(List (V×V)->Hp->Prop)->Prop
 |[],_,H,Q=>Q [] H
 |(tk,tv)::r,Z,H,Q=>tk Z H λx H1=>tv Z H1 λy H2=>ZiL r Z H2 λps H3=>Q ((x,y)::ps) H3
abbrev VV:List (V×V)->List (Yk×Yk)->Prop:=Paired λp q=>RelV p.1 q.1/\RelV p.2 q.2
def PPs(X:Cx)(pos:Pos)(keys:List (Option Expr))(values:List Expr)(cX:List (TE×TE)):Prop:=
 ∀(ac:List (Yj×Obj)) (s:Yb) (Z:St) (H:Hp) (Q:List (V×V)->Hp->Prop),Inv X ac Z H s->ZiL cX Z H Q ->
  YB (model X.prog X.w) X.A (evalPairs<|pairTrees keys values X.env pos) (λvs s'=>∃ps H',Inv X ac Z H' s'/\VV ps vs/\Q ps H') X.xe s
def ZrV:PPs X pos [] [] []:=λac s Z H Q I h=>pairTrees_nil_walk ⟨[],H,I,.nil,h⟩
def Zpy(hk:PE X k tk)(hv:PE X v tv)(hr:PPs X pos ks vs cX):
 PPs X pos (J k::ks) (v::vs) ((tk,tv)::cX):=λac s Z H Q I h=>
 pairTrees_cons_walk (thn (hk ac s Z H _ I h) λu s1 ⟨x,H1,I1,rx,q1⟩=>thn (hv ac s1 Z H1 _ I1 q1) λw2 s2 ⟨y,H2,I2,ry,q2⟩=>thn (hr ac s2 Z H2 _ I2 q2) λws s3 ⟨ps,H3,I3,rel,q3⟩=>⟨(x,y)::ps,H3,I3,.cons ⟨rx,ry⟩ rel,q3⟩)
def ZgY(kvs more:List (Key×V)):List (Key×V):=more.foldl (λai kv=>putK ai kv.1 kv.2) kvs
theorem KV.merge:∀ {more}{rs}{kvs}{vs},KV more rs->KV kvs vs->KV (ZgY kvs more) (merged vs rs):=by
 intro more rs kvs vs r;induction r generalizing kvs vs with
 |nil=>intro q;exact q
 |@cons p q ps qs h t ih =>
   intro r0;exact ih (by
     have:=r0.put p.1 h.2
     simp_all)
theorem Zeh:∀(more kvs),(ZgY kvs more).length<=kvs.length+more.length
 |[],kvs=>by show kvs.length<=kvs.length+0;lia
 |p::r,kvs=>by have R:=Zeh r<|putK kvs p.1 p.2;have h2:=Zdj kvs p.1 p.2;show(ZgY (putK kvs p.1 p.2) r).length<=_;rw[Os];lia
theorem Zhz:∀{kvs}{ws},VV (kvs.map λkv=>(kV kv.1,kv.2)) ws->∃rs,Carries (ZP P w) ws rs/\KV kvs rs
 |[],_,r=>by cases r;exact⟨[],True.intro,.nil⟩
 |p::kvs,_,r=>by
  cases r with
  |@cons a b as bs h t=>obtain⟨rs,c,q⟩:=Zhz (P:=P) (w:=w) t;exact⟨(p.1,b.2)::rs,⟨Zkd h.1,rfl,c⟩,.cons ⟨rfl,h.2⟩ q⟩
def Zw8(cX:List (TE×TE)):TE:=λZ H Q=>∀p,H p=M->ZiL cX Z (upd H p<|.dK []) λps H2=>H2 p=J (.dK [])/\∃kvs:List (Key×V),ps=kvs.map (λkv=>(kV kv.1,kv.2))/\kvs.length<=15/\Q (.ref p) (upd H2 p<|.dK<|ZgY [] kvs)
theorem Zr5(h:PPs X pos keys values cX)(aY:keys.all (·.isSome)=Ws)(hl:keys.length=values.length)(h0:keys≠[])
   (jI:keys.length<=15):PE X (.Dict keys values pos) (Zw8 cX):=by
 intro ac s Z H Q I q;refine wpAny_Dict_walk (knd:=ZP X.prog X.w) aY hl h0 jI<|thn (h ac _ Z _ _ (I.laid (t':=s.toks) (λ_ _ q=>Od _ q) (Oq _)<|Zkr s.heap I.big)<|q _<|I.hok.fresh<|Oq s.heap.objs.size) λws s2 ⟨ps,H2,I2,rel,e,kvs,ep,lk,q2⟩=>?_;subst ep;obtain⟨rs,c,rk⟩:=Zhz rel;obtain⟨z,hd,nP,r0,dd⟩:=Zt6 I2.hok e;cases r0;exact⟨rs,c,dd,λh' eG hs=>⟨.ref s.heap.objs.size,_,Znl I2 (by rw [e];trivial) hs (let⟨q,_,_,hq,_⟩:=eG;⟨q,hq⟩) (ZqK (by
   have R:=Zeh kvs [];rw [List.length_nil] at R;rw [YC];lia) hd (rk.merge .nil) eG),rfl,q2⟩⟩
set_option tactic.hygienic true
theorem Zdi{env:Env}:∀(names:List (Str×NameKind)) (x),
 (names.map λ(n,k)=>if (k==Yo&&env.scope.kind==.function&&env.kindOf n==J .cell)then(n,NameKind.cell)else(n,k)).lookup x =
  (names.lookup x).map λk=>if (k==Yo&&env.scope.kind==.function&&env.kindOf x==J .cell)then NameKind.cell else k
 |[],_=>rfl
 |(n,k)::r,x=>by
  have ih:=@Zdi env r x;show Wg x ((if (k==Yo&&env.scope.kind==.function&&env.kindOf n==J .cell)=Ws then(n,NameKind.cell)else(n,k))::_)=_;cases hx:x==n with
  |true=>
   have e:=by simpa using hx
   subst e;by_cases hc:(k==Yo&&env.scope.kind==.function&&env.kindOf x==J .cell)=Ws
   . rw[if_pos hc];simp only[OF,hx,Yv,if_pos hc]
   . rw[if_neg hc];simp only[OF,hx,Yv,if_neg hc]
  |false=>
   by_cases hc:(k==Yo&&env.scope.kind==.function&&env.kindOf n==J .cell)=Ws
   . rw[if_pos hc];simp only[OF,hx];exact ih
   . rw[if_neg hc];simp only[OF,hx];exact ih
noncomputable def ZfJ(env:Env):List (Str×NameKind)->List (Str×Yj)->List (Str×Yj)
 |[],cs=>cs
 |(n,k)::r,cs=>ZfJ env r (if (k==.free)=Ws then(n,(env.cells.lookup n).getD 0)::cs else cs)
theorem Zkv{env}:∀(l) (cs),(∀y∈l,y.2=.free->∃c,env.cells.lookup y.1=J c) ->
 (∀x c,(x,c)∈cs->env.cells.lookup x=J c)->∀x c,(x,c)∈ZfJ env l cs->env.cells.lookup x=J c
 |[],cs,_,h2,x,c,hm=>h2 x c hm
 |(n,k)::r,cs,R,h2,x,c,hm=>by
  refine Zkv r _ (λy hy=>R y<|Oh _ hy) (λx c hm=>?_) x c hm;by_cases hk:(k==Yo)=Ws
  . rw[if_pos hk]at hm;rcases O2.mp hm with e|hm
    . cases e;obtain⟨c,e⟩:=R (n,k) Oi (by simp_all)
      rw[e];rfl
    . exact h2 x c hm
  . rw[if_neg hk]at hm;exact h2 x c hm
theorem Zix:∀(l) (cs) (p),p∈cs->p∈ZfJ env l cs
 |[],_,_,h=>h
 |(n,k)::r,cs,p,h=>by
  refine Zix r _ p ?_;by_cases hk:(k==Yo)=Ws
  . rw[if_pos hk];simp_all
  . rw[if_neg hk];exact h
theorem Zkw:∀(l) (cs) (y),y∈l->y.2=.free->∃c,(y.1,c)∈ZfJ env l cs
 |(n,k)::r,cs,y,h,hf=>by
  rcases O2.mp h with e|h
  . refine⟨(env.cells.lookup n).getD 0,Zix r _ _ ?_⟩
    simp_all
  . exact Zkw r _ y h hf
theorem Zeg:∀{l:List (Str×α)}{x}{c},(x,c)∈l->∃c',l.lookup x=J c'/\(x,c')∈l
 |(n,d)::r,x,c,h=>by
  cases hx:x==n with
  |true=>simp_all
  |false=>
   rcases O2.mp h with e|h
   . simp_all
   . obtain⟨c',R,h2⟩:=Zeg h;exact⟨c',by simp[OF,hx];trivial,Oh _ h2⟩
def Zh2(h:∀y∈scope.names,y.2=.free->∃c,env.cells.lookup y.1=J c):closureFor scope env=pure (ZfJ env scope.names []):=by
 have all:∀(l) (cs),(∀y∈l,y.2=.free->∃c,env.cells.lookup y.1=J c) ->
  (forIn l cs λx r=>match x with|(name,kind)=>if (kind==Yo)=Ws then(do let a <- cellOf env name;pure<|ForInStep.yield ((name,a)::r))else pure (ForInStep.yield r):Sem (List<|Str×Yj))=pure (ZfJ env l cs):=by
  intro l;induction l with
  |nil=>intro cs _;rfl
  |cons y r ih=>
   intro cs hl;rw[List.forIn_cons];have hr:=λcs=>ih cs λy hy=>hl y<|Oh _ hy;by_cases hk:(y.2==Yo)=Ws
   . obtain⟨c,e⟩:=hl (y.1,y.2) Oi (by simp_all)
     have ec:cellOf env y.1=pure c:=by unfold cellOf;rw[e]
     simp only[hk,if_true,ec];show(forIn r ((y.1,c)::cs) _:Sem _)=_;rw[hr];show _=pure (ZfJ env r (if (y.2==Yo)=Ws then(y.1,(env.cells.lookup y.1).getD 0)::cs else cs));rw[if_pos hk,e];rfl
   . simp only[hk];show(forIn r cs _:Sem _)=_;rw[hr];show _=pure (ZfJ env r (if (y.2==Yo)=Ws then(y.1,(env.cells.lookup y.1).getD 0)::cs else cs));rw[if_neg hk]
 unfold closureFor;have z:=all scope.names [] h;dsimp only at z ⊢;rw[z];rfl
set_option tactic.hygienic false
def Zku(I:Nat->Yb->Prop)
 (turn:∀n s,I n s->YB (model prog w) A (pyNext it) (λr s₁=>match r with
  |none=>qd (.ok .next) s₁
  |some v=>YB (model prog w) A (letOwnedTupleGo target it v) (λ_ s₁'=>YB (model prog w) A (assign target env v) (λ_ s₂=>
   YB (model prog w) A (forIn a9 Ws λc r=>if r=Ws then do let ok <- isTrue c env (eval c env);pure (ForInStep.yield ok)else pure (ForInStep.yield r)) (λok s₃=>
    if ok=Ws then YB (model prog w) A (eval aE env) (λx s₄=>YB (model prog w) A (call (.builtin "list.append") [ai,x]) (λ_ s₅=>∃m,m<n/\I m s₅) (notedBy (model prog w) A env λe s'=>qd (.error e) s') s₄) (notedBy (model prog w) A env λe s'=>qd (.error e) s') s₃
    else ∃m,m<n/\I m s₃) (notedBy (model prog w) A env λe s'=>qd (.error e) s') s₂) (notedBy (model prog w) A env λe s'=>qd (.error e) s') s₁') (notedBy (model prog w) A env λe s'=>qd (.error e) s') s₁) (notedBy (model prog w) A env λe s'=>qd (.error e) s') s)
 (n) (h:I n s) :
 codeAny (model prog w) A (.compLoop (.ListComp aE [⟨target,iter,a9,0⟩] scope pos) 0 it ai env) qd s:=by
 refine codeAny_loop rfl I (λn s hI=>wpAny_noted ?_) n h;rw[compTurn_list];refine Ya<|wpAny_standAt<|Ya<|Yg (turn n s hI) (λr s₁ h₁=>?_) λ_ _ h'=>h';cases r with
 |none=>exact Yd h₁
 |some v=>
  refine Ya<|Yg h₁ (λ_ s₁' h₁'=>Ya<|Yg h₁' (λ_ s₂ h₂=>Ya<|Yg h₂ (λok s₃ h₃=>?_) λ_ _ h'=>h') λ_ _ h'=>h') λ_ _ h'=>h';cases ok with
  |false=>exact Yd ⟨rfl,h₃⟩
  |true=>exact Ya (Ya<|Yg h₃ (λx s₄ h₄=>Ya<|Yg h₄ (λ_ s₅ h₅=>Yd<|Yd ⟨rfl,h₅⟩) λ_ _ h'=>h') λ_ _ h'=>h')
structure CompSc(NC N:List Str)(js:List (Option Nat))(sc scope:Scope):Prop where
 kind:scope.kind=.function
 dkind:sc.kind=.function
 nocell:∀y∈scope.names,y.2≠.cell
 locs:∀y∈scope.names,y.2=.local->scope.names.lookup y.1=J .local
 free:∀y∈scope.names,y.2=.free->sc.names.lookup y.1=J .cell
 nd:NC.Nodup
 len:js.length=NC.length
 jok:((NC.zip js).all λp=>p.2.all λj=>Wu (N[j]?=J p.1)&&Wu (scope.names.lookup p.1=J .free))=Ws
theorem CompSc.at{NC N}{js}(S_:CompSc NC N js sc scope){i j:Nat}{x}(R:NC[i]?=J x)(h2:js[i]?=J (J j)):N[j]?=J x/\scope.names.lookup x=J .free:=by
 have h:=S_.jok;rw[OC]at h;have hm:(x,J j)∈NC.zip js:=by refine O1 (i:=i) ?_;rw[List.getElem?_zip_eq_some];trivial
 have q:=h _ hm;simp at q;exact q
def capt(js:List (Option Nat))(Z:St):St:=js.map λo=>o.bind λj=>(Z[j]?).join
def ZB(X:Cx)(NC:List Str)(scope:Scope)(C:Yj)(s3:Yb)(H3:Hp)(fp:List Yj):Cx:={X with N:=NC,s₀:=s3,H₀:=H3,env:=compEnvC scope (ZfJ X.env scope.names []) C X.env,outer:=X.stack,stack:=X.stack,ex:=fp,fn:=λ_=>Wt,calm:=true,pn:=[],xe:=λ_ _=>False}
def Zmi(k:Nat)(g:TG):Prop:=∀x Z H Q,g x Z H Q->g x Z H λσ2 H2=>Q σ2 H2/\σ2.length=Z.length/\∀j,k<=j->σ2[j]?=Z[j]?
def ZkW(k:Nat)(g:TGs):Prop:=∀x Z H Q,g x Z H Q->g x Z H λσ2 H2=>Q σ2 H2/\σ2.length=Z.length/\∀j,k<=j->σ2[j]?=Z[j]?
def Zrr(h:i<k):Zmi k (Zc0 i):=λx Z H Q q=>⟨q,List.length_set,λj hj=>by rw[Oc<|by lia]⟩
def Zmu:ZkW k ZsV:=λx Z H Q q=>⟨q.1,q.2,rfl,λ_ _=>rfl⟩
def ZgB(h:i<k)(hu:ZkW k u):ZkW k (Zkg (Zc0 i) u):=by
 rintro xs Z H Q ⟨v,r,e,q⟩;refine⟨v,r,e,?_⟩;have e2:∀j,k<=j->(Z.set i<|J v)[j]?=Z[j]? := λj hj=>Oc (by lia);have e3:(λσ2 H2=>Q σ2 H2/\σ2.length=Z.length/\∀j,k<=j->σ2[j]?=Z[j]?)=(λσ2 H2=>Q σ2 H2/\σ2.length=(Z.set i<|J v).length/\∀j,k<=j->σ2[j]?=(Z.set i<|J v)[j]?):=by simp_all
 rw[e3];exact hu r (Z.set i<|J v) H Q q
def ZoY{K}(hu:ZkW k u):Zmi k (ZsU K n u):=by rintro x Z H Q ⟨a,xs,e,R,h2,q⟩;exact⟨a,xs,e,R,h2,hu xs Z H Q q⟩
def PIf(X:Cx)(a9:List Expr)(t:TT):Prop:=
 ∀(ac:List (Yj×Obj)) (s:Yb) (Z:St) (H:Hp) (Q:Bool->Hp->Prop),Inv X ac Z H s->t Z H Q ->
  YB (model X.prog X.w) X.A (forIn a9 Ws λc r=>if r=Ws then do let ok <- isTrue c X.env (eval c X.env);pure (ForInStep.yield ok)else pure (ForInStep.yield r)) (TP X ac Z Q) X.xe s
noncomputable def Zzb:TT:=λ_ H Q=>Q Ws H
def ZrZ{X}:PIf X [] Zzb:=λ_ _ _ H _ I h=>wpAny_tests_nil ⟨H,I,h⟩
def ZrY{X}{c}{t}(hc:PT X c t):PIf X [c] t:=λac s Z H Q I h=>wpAny_tests_one (hc ac s Z H Q I h)
def Zo0(wi:TI)(js:List (Option Nat))(g:TG)(tc:TT)(te:TE):TE:=λZ H Q=>wi Z H λqa H1=>∀D,H1 D=M->∃W:Nat->Nat->List V->Hp->Prop,(∃m,W 0 m []<|upd H1 D<|.lst []) /\
 ∀i m ys H,W i m ys H->H D=J (.lst ys)->(qa.stop i H/\Q (.ref D) H) \/
  (qa.go i H/\ys.length<Yc/\∀x H',qa.yld i H x H'->g x (capt js Z) H' λσ2 H2=>tc σ2 H2 λb H3=>
   if b=Ws then te σ2 H3 λy H4=>H4 D=J (.lst ys)/\∃m',m'<m/\W (i+1) m' (ys++[y]) (upd H4 D<|.lst<|ys++[y])
   else H3 D=J (.lst ys)/\∃m',m'<m/\W (i+1) m' ys H3)
section
variable {X:Cx}{ac:List (Yj×Obj)}{Z:St}{H:Hp}{s:Yb}
def Zqr{NC}{js}{sc scope}{C:Yj}{h4}{tk}{fp}{m}(S_:CompSc NC X.N js sc scope)(bH:X.env.scope=sc)(hc:X.calm=Ws)
 (I:Inv X ac Z H s) (f:∀b∈fp,ZdO X ac H b) (fo:∀b∈fp,∃o,s.heap.get? b=J o) (hC:C=s.heap.objs.size) (cH:h4.Ns C m) (hk:∀b o,s.heap.get? b=J o->h4.get? b=J o) :
 Inv (ZB X NC scope C s H fp) [] (capt js Z) H {s with heap:=h4,toks:=tk}:=by
 have eW:∀x c,(ZfJ X.env scope.names []).lookup x=J c->X.env.cells.lookup x=J c:=λx c e=>Zkv scope.names [] (λy hy hf=>I.ok.has y.1<|.inl (show X.env.scope.names.lookup y.1=J .cell by rw[bH];exact S_.free y hy hf)) (λ_ _ z=>by cases z) x c<|YI e;have gY:∀y∈scope.names,y.2=.free->∃c,(ZfJ X.env scope.names []).lookup y.1=J c:=λy hy hf=>by obtain⟨c,hm⟩:=Zkw (env:=X.env) scope.names [] y hy hf;obtain⟨c',e,_⟩:=Zeg hm;exact⟨c',e⟩
 have kinds:∀x,(ZB X NC scope C s H fp).env.kindOf x=(scope.names.lookup x).map λk=>if (k==Yo&&X.env.scope.kind==.function&&X.env.kindOf x==J .cell)then NameKind.cell else k:=λx=>Zdi scope.names x;have f8:∀x,scope.names.lookup x=J .free->(ZB X NC scope C s H fp).env.kindOf x=J .cell:=λx e=>by
  rw[kinds,e];have R:X.env.kindOf x=J .cell:=show X.env.scope.names.lookup x=J .cell by rw[bH];exact S_.free (x,.free) (YI e) rfl
  simp only[Yv,R,I.ok.kind];rfl
 have flt:∀b∈fp,b<s.heap.objs.size:=λb hb=>let⟨o,e⟩:=fo b hb;Yn e;refine⟨⟨I.ok.mod,S_.kind,I.ok.glob,I.ok.blt,Nat.le_of_eq hC.symm,λx y c R h2=>I.ok.inj x y c (eW x c R)<|eW y c h2,λx hx=>?_,λx c hf _=>absurd (show Wt=Ws from hf) Ow,λ_=>I.ok.hd hc,I.ok.frames,.inl rfl,λb hb=>⟨?_,λx c e=>(f b hb).2.2.2.2.1 x c<|eW x c e⟩,
  I.bs,OE I.ok.bsz I.sz,λb o e hb=>?_,λb hb hm=>?_,I.stack,I.stkFree⟩,
  rfl,I.bare,Un.kept hk,⟨m,cH,λi x v R h2 h3=>?_⟩,λx c e=>?_,?_,λx c e=>I.freeC x c<|eW x c e,λp hp=>absurd (show p∈([])from hp)<|by simp,I.hok.kept hk,?_⟩
 . rw[kinds]at hx;cases e:scope.names.lookup x with
   |none=>rw[e]at hx;rcases hx with hx|hx<;>cases hx
   |some k=>
    rw[e]at hx;have hm:=YI e;exact gY (x,k) hm (by
     by_cases hf:(k==Yo)=Ws
     . cases k<;>first|rfl|(exact absurd hf<|by decide)
     . simp only[Yv,Bool.eq_false_iff.mpr hf,Bool.false_and,OG,if_false]at hx;rcases hx with hx|hx
       . exact absurd (YF hx) (S_.nocell _ hm)
       . exact YF hx)
 . show b≠C;rw[hC];exact Ou (flt b hb)
 . obtain⟨_,_,_,f3,_⟩:=f b hb;rcases f3 with z|z
   . exact I.ok.noex b o e z
   . exact absurd (Ot (Yn e)<|OE I.ok.bsz z) (Yw _)
 . obtain⟨_,f1,f2,_⟩:=f b hb;exact(O2.mp<|I.stkSub b hm).elim f1 f2
 . have hj:∃j,js[i]?=J (J j)/\Z[j]?=J (J v):=by
    unfold capt at h2;rw[On]at h2;cases e:js[i]? with
    |none=>rw[e]at h2;cases h2
    |some o=>
     rw[e]at h2;cases o with
     |none=>cases YF h2
     |some j=>
      refine⟨j,rfl,?_⟩;have gP:(Z[j]?).join=J v:=YF h2;cases q:Z[j]? with
      |none=>rw[q]at gP;cases gP
      |some r=>rw[q]at gP;rw[show r=J v from gP]
   obtain⟨j,hj,hσ⟩:=hj;obtain⟨hN,jw⟩:=S_.at (show NC[i]?=J x from R) hj;have aQ:X.env.scope.names.lookup x=J .cell:=bH▸S_.free (x,.free) (YI jw) rfl;obtain⟨m0,_,hl⟩:=I.loc;obtain⟨u,r,l⟩:=hl j x v hN hσ<|.inr<|.inl aQ;refine⟨u,r,?_⟩;rcases l with⟨k,_⟩|⟨_,c,e,z⟩
   . rw[show X.env.kindOf x=J .cell from aQ]at k;cases k
   . obtain⟨c',e'⟩:=gY (x,.free) (YI jw) rfl;have ec:=eW x c' e';rw[e]at ec;cases ec;obtain⟨o,ho,hd⟩:=z;exact .inr ⟨.inl<|f8 x jw,c,e',o,hk _ _ ho,hd⟩
 . obtain⟨v,o,ho,hd⟩:=I.cell x c<|eW x c e;exact⟨v,o,hk _ _ ho,hd⟩
 . show H C=M;rw[hC];exact I.hok.fresh (Oq _)
 . unfold capt;rw[Yu];exact S_.len
end
section
variable {X:Cx}{aE tg iter:Expr}{a9:List Expr}{scope sc:Scope}{pos:Pos}{NC:List Str}{js:List (Option Nat)}{k:Nat}{wi:TI}{g:TG}{tc:TT}{te:TE}
def Inv.comp_out{ac}{Z σ':St}{H3 H'}{s3 s1}{C:Yj}{fp}{h''}(I3:Inv X ac Z H3 s3)(f:∀b∈fp,ZdO X ac H3 b)(hC:C=s3.heap.objs.size)
 (I':Inv (ZB X NC scope C s3 H3 fp) [] σ' H' s1) (hs:Heap.SameBut C s1.heap h''):Inv X ac Z H' {s1 with heap:=h''}:=by
 have ne:∀b o,s3.heap.get? b=J o->b≠C:=λb o e=>hC▸Ou (Yn e);have u:=I'.base;refine I3.call' (ch:=fp) I'.os ⟨λb o e n hb hx=>(hs.2 b<|ne b o e).trans<|u.keep b o e n hb hx,λb o e n hb hx=>?_,u.free,λb o e hx=>?_,u.tups,u.frzs,u.tbls⟩ ?_ I'.bare λb hb=>?_
 . obtain⟨sl,q⟩:=u.slot b o e n hb hx;exact⟨sl,(hs.2 b<|ne b o e).trans q⟩
 . obtain⟨o',q⟩:=u.there b o e hx;exact⟨o',(hs.2 b<|ne b o e).trans q⟩
 . have bS:H' C=M:=I'.free;intro b ob e;refine(I'.hok b ob e).stay (λc w' hc q=>(hs.2 c ?_).trans q) (λ_ q=>q) λ_ _ q=>q;rintro rfl
   simp_all
 . obtain⟨_,f1,_,f3,f4,f5⟩:=f b hb;trivial
def Zos{ac}{Z}{H3}{s3 s4}{C Dd it}{fp}{tn}{qa}{W:Nat->Nat->List V->Hp->Prop}{Q:VK}{m0}{post}
 (hb:∀(C) (s3) (H3) (fp),PG (ZB X NC scope C s3 H3 fp) tg g/\PIf (ZB X NC scope C s3 H3 fp) a9 tc/\PE (ZB X NC scope C s3 H3 fp) aE te)
 (hk:Zmi k g) (dL:∀j,j<k->js[j]?=J M) (hC:C=s3.heap.objs.size) (f3:∀b∈fp,ZdO X ac H3 b) (gR:∀b∈fp,∃o,s3.heap.get? b=J o) (I4:Inv (ZB X NC scope C s3 H3 fp) [] (capt js Z) H3 s4) (T:Turn X.prog X.w X.K tg qa fp it tn) (gt:tn 0 s4.heap) (m7:H3 Dd=J (.lst [])) (w0:W 0 m0 [] H3)
 (turn:∀i m ys H,W i m ys H->H Dd=J (.lst ys)->(qa.stop i H/\Q (.ref Dd) H)\/(qa.go i H/\ys.length<Yc/\∀x H',qa.yld i H x H'->g x (capt js Z) H' λσ2 H2=>tc σ2 H2 λb H3=>if b=Ws then te σ2 H3 λy H4=>H4 Dd=J (.lst ys)/\∃m',m'<m/\W (i+1) m' (ys++[y]) (upd H4 Dd<|.lst<|ys++[y])else H3 Dd=J (.lst ys)/\∃m',m'<m/\W (i+1) m' ys H3))
 (ig:∀s6 H5,Inv (ZB X NC scope C s3 H3 fp) [] (capt js Z) H5 s6->Q (.ref Dd) H5->post (.ok .next) s6) :
 codeAny (model X.prog X.w) X.A (.compLoop (.ListComp aE [⟨tg,iter,a9,0⟩] scope pos) 0 (.ref it) (.ref Dd)<|compEnvC scope (ZfJ X.env scope.names []) C X.env) post s4:=by
 have bw:∀{H':Hp},(∀b∈fp,H' b=M)->∀b∈fp,ZdO (ZB X NC scope C s3 H3 fp) [] H' b:=λhn b hb=>⟨hn b hb,(hC▸Ou (let⟨o,e⟩:=gR b hb;Yn e)),λhm=>I4.ok.exfs b hb hm,.inl hb,λx c e=>(I4.ok.exf b hb).2 x c e,λp hp=>absurd (show p∈([])from hp)<|by simp⟩
 refine Zku (λn s'=>∃i ys H',Inv (ZB X NC scope C s3 H3 fp) [] (capt js Z) H' s'/\tn i s'.heap/\(∀b∈fp,H' b=M)/\H' Dd=J (.lst ys)/\W i n ys H') ?_ m0
  ⟨0,[],_,I4,gt,λb hb=>(f3 b hb).1,m7,w0⟩
 rintro n s5 ⟨i,ys,H5,I5,eI,gQ,m6,w5⟩;rcases turn i n ys H5 w5 m6 with⟨stop,qn⟩|⟨go,av,step⟩
 . refine Yg (T.done (ZB X NC scope C s3 H3 fp) rfl rfl rfl rfl i [] s5 (capt js Z) H5 (λ_ _=>False) I5 (bw gQ) eI stop) (λr s6 ⟨hr,I6⟩=>?_) λ_ _ z=>z.elim;subst hr;exact ig s6 H5 I6 qn
 . refine Yg (T.item (ZB X NC scope C s3 H3 fp) rfl rfl rfl rfl i [] s5 (capt js Z) H5 (λ_ _=>False) I5 (bw gQ) eI go) (λr s6 ⟨u,hr,h6⟩=>?_) λ_ _ z=>z.elim;subst hr;refine Yg h6 (λ_ s7 ⟨x,H7,I7,r7,y7,ii,ng⟩=>?_) λ_ _ z=>z.elim;obtain⟨pg,k7,pe⟩:=hb C s3 H3 fp;refine Yg (pg _ s7 (capt js Z) H7 x u _ (I7.pinned (bw ng)<|T.obj _ _ ii) r7<|hk _ _ _ _<|step x H7 y7) (λ_ s8 ⟨σ8,H8,I8,q8,l8,k8⟩=>?_) λ_ _ z=>z.elim;have back:∀{H9:Hp}{s9:Yb},Inv (ZB X NC scope C s3 H3 fp) ([]++ZgQ fp s7.heap) σ8 H9 s9 ->
    Inv (ZB X NC scope C s3 H3 fp) [] (capt js Z) H9 s9/\tn (i+1) s9.heap/\∀b∈fp,H9 b=M:=λ{H9 s9} I9=>by
    refine⟨(I9.unpinned).weak l8.symm λj v e=>?_,T.keep _ _ _ ii λb hb o e=>(I9.pin (b,o)<|Ov _<|Ov _<|ZcJ hb e).1,λb hb=>?_⟩
    . by_cases hj:j<k
      . unfold capt at e;rw[On,dL j hj]at e;cases e
      . rw[k8 j<|Nat.le_of_not_lt hj];exact e
    . obtain⟨o,e,d⟩:=T.obj _ _ ii b hb;exact(I9.pin (b,o)<|Ov _<|Ov _<|ZcJ hb e).2.1
   refine Yg (k7 _ s8 σ8 H8 _ I8 q8) (λok s9 ⟨H9,I9,q9⟩=>?_) λ_ _ z=>z.elim;cases ok with
   |false=>rw[if_neg Ow]at q9 ⊢;obtain⟨m5,m',hm,w9⟩:=q9;obtain⟨b1,b2,b3⟩:=back I9;exact⟨m',hm,i+1,ys,H9,b1,b2,b3,m5,w9⟩
   |true=>
    rw[if_pos rfl]at q9 ⊢;refine Yg (pe _ s9 σ8 H9 _ I9 q9) (λy jT ⟨v,kP,nO,k6,jG,m',hm,kS⟩=>Yg (Zin (X:=ZB X NC scope C s3 H3 fp) _ jT σ8 kP (.ref Dd) [v] (.ref Dd) [y]
     (λ_ kO=>kO=upd kP Dd (.lst<|ys++[v])) nO rfl (.cons k6 .nil) ⟨_,ys,v,rfl,rfl,jG,av,rfl⟩) (λ_ nQ ⟨_,kO,nN,_,nz⟩=>?_) λ_ _ z=>z.elim) λ_ _ z=>z.elim
    subst nz;obtain⟨b1,b2,b3⟩:=back nN;exact⟨m',hm,i+1,ys++[v],_,b1,b2,b3,Zh,kS⟩
def Zkt{U}{Q0}{Q}{ac}{Z:St}{H}{s}(S_:CompSc NC X.N js sc scope)(bH:X.env.scope=sc)(hc:X.calm=Ws)(hi:PI X tg iter wi)
 (hb:∀(C) (s3) (H3) (fp),PG (ZB X NC scope C s3 H3 fp) tg g/\PIf (ZB X NC scope C s3 H3 fp) a9 tc/\PE (ZB X NC scope C s3 H3 fp) aE te)
 (hk:Zmi k g) (dL:∀j,j<k->js[j]?=J M) (hs:∀x,foldedSetIterable iter X.env x=pure x) (I:Inv X ac Z H s) (h:Zo0 wi js g tc te Z H Q)
 (ig:∀C Dd (s3 s6:Yb) H3 H5 fp,C=s3.heap.objs.size->Inv X ac Z H3 s3->(∀b∈fp,ZdO X ac H3 b)->Inv (ZB X NC scope C s3 H3 fp) [] (capt js Z) H5 s6->Q (.ref Dd) H5->compPost (model X.prog X.w) X.A X.xe U Q0 (.ref Dd) C (.ok .next) s6) :
 YB (model X.prog X.w) X.A (comprehension (.ListComp aE [⟨tg,iter,a9,0⟩] scope pos) scope X.env posn (newList []) Wt (eval iter X.env) U) Q0 X.xe s:=by
 refine wpAny_comprehension_free rfl hs (Zh2 λy hy hf=>I.ok.has y.1<|.inl (show X.env.scope.names.lookup y.1=J .cell by rw[bH];exact S_.free y hy hf)) S_.kind S_.locs<|thn (hi ac s Z H _ I h) λxv s1 R=>thn R λi4 s2 h2=>?_;obtain⟨it,fp,tn,qa,H2,e,I2,T,bU,f2,ag⟩:=h2;subst e;obtain⟨W,⟨m0,w0⟩,turn⟩:=ag s2.heap.objs.size<|I2.hok.fresh<|Oq _;refine Yr (wpAny_newFunctionEnv S_.nocell (by intro y hy;simp at hy) (λh4 cH jf=>?_) S_.kind);have I3:Inv X ac Z (upd H2 s2.heap.objs.size<|.lst []) {s2 with heap:=s2.heap.push {cls:=.type "list",dict:=M,data:=.seq ([]).toArray}}:=I2.lnew (t':=s2.toks) (ys:=[]) (its:=[]) .nil<|Yy _;dsimp only at cH jf ⊢;generalize hs3:({s2 with heap:=s2.heap.push {cls:=.type "list",dict:=M,data:=.seq ([]).toArray}})=s3 at I3;have eh:s2.heap.push {cls:=.type "list",dict:=M,data:=.seq ([]).toArray}=s3.heap:=by rw[<-hs3]
 have eD:s2.heap.objs.size<s3.heap.objs.size:=by rw[<-eh,Heap.size_push];exact OH _
 rw[eh]at cH jf;have keep:∀b o,s3.heap.get? b=J o->h4.get? b=J o:=λb o e=>(jf.2 b<|Ou<|Yn e).trans<|Od _ e;have gR:∀b∈fp,∃o,s3.heap.get? b=J o:=λb hb=>by obtain⟨o,e,_⟩:=T.obj 0 _ bU b hb;exact⟨o,eh▸Od _ e⟩
 have lr:∀b∈fp,b≠s2.heap.objs.size:=λb hb=>by obtain⟨o,e,_⟩:=T.obj 0 _ bU b hb;exact Ou (Yn e)
 have f3:∀b∈fp,ZdO X ac (upd H2 s2.heap.objs.size<|.lst []) b:=λb hb=>⟨(Zl<|lr b hb).trans<|(f2 b hb).1,(f2 b hb).2⟩
 have gt:tn 0 h4:=T.keep 0 _ _ bU λb hb o e=>keep b o<|eh▸Od _ e;have eC:(s2.heap.push {cls:=.type "list",dict:=M,data:=.seq ([]).toArray}).objs.size=s3.heap.objs.size:=by rw[eh]
 have loop:∀s4:Yb,s4={s3 with heap:=h4,toks:=s2.toks+([]:List (Str×Yk)).length} ->
  codeAny (model X.prog X.w) X.A (.compLoop (.ListComp aE [⟨tg,iter,a9,0⟩] scope pos) 0 (.ref it) (.ref s2.heap.objs.size)<|compEnvC scope (ZfJ X.env scope.names []) s3.heap.objs.size X.env)
   (compPost (model X.prog X.w) X.A X.xe U Q0 (.ref s2.heap.objs.size) s3.heap.objs.size) s4:=by
  rintro s4 rfl;exact Zos hb hk dL rfl f3 gR (Zqr (tk:=s2.toks+([]).length) S_ bH hc I3 f3 gR rfl cH keep) T gt Zh w0 turn λs6 H5 I6 qn=>ig _ _ s3 s6 _ H5 fp rfl I3 f3 I6 qn
 rw[eC];exact codeAny_compStart_list (loop _<|by rw[<-hs3]) (T.self X.A 0 _ _ _ gt<|loop _<|by rw[<-hs3])
def Zr6(S_:CompSc NC X.N js sc scope)(bH:X.env.scope=sc)(hc:X.calm=Ws)(hi:PI X tg iter wi)
 (hb:∀(C:Yj) (s3:Yb) (H3:Hp) (fp:List Yj),PG (ZB X NC scope C s3 H3 fp) tg g/\PIf (ZB X NC scope C s3 H3 fp) a9 tc/\PE (ZB X NC scope C s3 H3 fp) aE te)
 (hk:Zmi k g) (dL:∀j,j<k->js[j]?=J M) (hs:∀x,foldedSetIterable iter X.env x=pure x:=by intro _;rfl) :
 PE X (.ListComp aE [⟨tg,iter,a9,0⟩] scope pos) (Zo0 wi js g tc te):=λac s Z H Q I h=>Zkt S_ bH hc hi hb hk dL hs I h λC Dd s3 s6 H3 H5 fp hC I3 f3 I6 qn=>by obtain⟨m,hm,_⟩:=I6.loc;exact⟨m,hm,λh' bV=>⟨.ref Dd,H5,I3.comp_out f3 hC I6 bV,rfl,qn⟩⟩
end
set_option tactic.hygienic true
section
variable {X:Cx}
def TyN(K:Yl)(x:V)(H:Hp)(t:String):Prop:=match x with
 |.int _=>t="int"
 |.str _=>t="str"
 |.bl _=>t="bool"
 |.non=>t="NoneType"
 |.ref p=>(t="list" /\ ∃xs,SqL K H p xs)\/(t="tuple" /\ ∃xs,SqT K H p xs)
 |_=>False
def ZqR:Z4 X (.builtin "isinstance") (λxs H Q=>∃x t T b,xs=[x,.ty T]/\TyN X.K x H t/\PySem.W.kitOne X.K (.type t) (.type T)=J b/\Q (.bl b) H):=by
 intro ac s Z H xs us Q I r h;obtain⟨x,t,T,b,rfl,ty,e,q⟩:=h;obtain⟨u,w',rfl,rx,rT⟩:=vals2 r;obtain rfl:w'=Value.type T:=rT;have fin:∀tk,EP X ac Z Q (.bool b) {s with toks:=tk}:=λtk=>⟨.bl b,H,I.tok tk,rfl,q⟩
 cases x with
 |int i=>obtain⟨tk,rfl⟩:=rx;obtain rfl:t="int" := ty;exact PySem.W.kia_one PySem.W.kitx_int I.kIn trivial e (by simp) fin
 |str i=>obtain⟨tk,rfl⟩:=rx;obtain rfl:t="str" := ty;exact PySem.W.kia_one PySem.W.kitx_str I.kIn trivial e (by simp) fin
 |bl i=>obtain rfl:u=Value.bool i:=rx;obtain rfl:t="bool" := ty;exact PySem.W.kia_one PySem.W.kitx_bool I.kIn trivial e (by simp) fin
 |non=>obtain rfl:u=Value.none:=rx;obtain rfl:t="NoneType" := ty;exact PySem.W.kia_one PySem.W.kitx_none I.kIn trivial e (by simp) fin
 |ref p=>
  obtain rfl:u=YD p:=rx;rcases ty with⟨rfl,xs,hx⟩|⟨rfl,xs,hx⟩
  . obtain⟨its,_,pl,_⟩:=I.list hx;exact PySem.W.kia_one PySem.W.kitx_list I.kIn pl.isList.typeIs e (by simp) fin
  . obtain⟨its,_,pl,_⟩:=I.tuple hx;exact PySem.W.kia_one PySem.W.kitx_tuple I.kIn pl.typeIs e (by simp) fin
 |_=>trivial
def Zof{K}(h:PySem.W.kitOne [] (.type t) (.type T)=J b):PySem.W.kitOne K (.type t) (.type T)=J b:=h
def range_all(bs:List Bool):(List.range bs.length).all (λi=>bs.getD i Wt)=bs.all id:=by
 rw[Bool.eq_iff_iff,OC,OC];constructor
 . intro h x hx;obtain⟨i,hi,e⟩:=List.getElem_of_mem hx
   simp_all
 . intro h i hi;have bY:=List.mem_range.mp hi;rw[List.getD_eq_getElem?_getD,Og bY];exact h _ (List.getElem_mem bY)
def ZzB:V->Option Int->Option Int->Hp->VK->Prop:=λx lo hi H Q=>∃y,x=.str y/\y.length<=Yc/\Q (.str<|Yq y lo hi) H
def ZuE:SlR X ZzB:=by
 intro ac s Z H x v vl vu lo hi sl Q I rx hs pl pu h;obtain⟨y,rfl,hz,q⟩:=h;obtain⟨t,rfl⟩:=rx;refine⟨"str",_,F.slot_str_getitem.lookup,typeIs_str _ _ _,?_⟩;have go:∀(l u),vl=partValue l->vu=partValue u->lo=l.map (·.1)->hi=u.map (·.1)->YB (model X.prog X.w) X.A (getItem (.str y t)<|.ref sl) (EP X ac Z Q) X.xe s:=by rintro l u rfl rfl rfl rfl;refine wpAny_getItem_str_slice (l:=l) (u:=u) (st:=M) hs rfl (post_val_or_str ⟨OE (Txt.slice_le y _ _) hz,λt' k=>⟨.str _,H,I.tok k,⟨t',rfl⟩,q⟩⟩)
 cases pl with
 |none=>
  cases pu with
  |none=>exact go M M rfl rfl rfl rfl
  |int j tj=>exact go M (J (j,tj)) rfl rfl rfl rfl
 |int i ti=>
  cases pu with
  |none=>exact go (J (i,ti)) M rfl rfl rfl rfl
  |int j tj=>exact go (J (i,ti)) (J (j,tj)) rfl rfl rfl rfl
end
def Zag.there(x:Zag P w H h a o):∃ob,h.get? a=J ob:=by
 cases o with
 |lst xs=>obtain⟨_,_,_,_,e⟩:=x;exact⟨_,e⟩
 |tup xs=>obtain⟨_,_,_,ob,e,_⟩:=x;exact⟨_,e⟩
 |dK kvs=>obtain⟨_,_,_,_,o,_,_,e,_⟩:=x;exact⟨_,e⟩
 |dT kvs=>obtain⟨_,_,o,_,_,e,_⟩:=x;exact⟨_,e⟩
 |set S_ n=>obtain⟨o,_,_,_,e,_⟩:=x;exact⟨_,e⟩
 |ins C dx fs=>exact⟨_,x.2.2.2.1⟩
 |own y=>obtain⟨_,e⟩:=x;exact⟨_,e⟩
 |xd fs=>obtain⟨_,⟨_,_,_,e,_⟩,_⟩:=x;exact⟨_,e⟩
 |rng lo hi=>obtain⟨_,_,_,e⟩:=x;exact⟨_,e⟩
 |frz ob u=>exact⟨_,x.1⟩
 |tbl ps|met f y=>exact⟨_,(show h.get? a=J _ from x)⟩
 |ext φ=>obtain⟨_,⟨_,e⟩,_⟩:=x;exact⟨_,e⟩
def Kept(fs:List Yj)(H':Hp)(h R B_:YG):Prop:=∀b o,R.get? b=J o->(H' b≠M\/((∃o',h.get? b=J o')/\b ∉ fs))->B_.get? b=J o
def CXF(P:Yi)(w:Yh):CXT:=λouter H s E e s'=>
 ∃(a:Yj) (cls a0:Yk) (H':Hp) (B_:YG),e=.ref a/\s'.os=s.os/\AllBare s'.gens/\Un (frs outer) [] H H' s.heap s'.heap/\HOk P w H' s'.heap /\
  Heap.FlyingW B_ outer a cls a0 s'.heap/\Kept (frs outer) H' s.heap s'.heap B_/\H' a=M/\E cls M H'
def ZeB(un:Un fs [] H H' h R)(hok:HOk P w H' R)(kb:Kept fs H' h R B_)(stay:B_.StaysIn h2)(up:R.UpToSlots h2)
 (hf:∀b∈fs,∃o,R.get? b=J o/\∀vs,o.data≠.fields vs):Un fs [] H H' h h2/\HOk P w H' h2/\Kept fs H' h h2 B_:=by
 have tr:∀b u,H' b=J u->∃o,R.get? b=J o/\h2.get? b=J o/\B_.get? b=J o:=λb u e=>by obtain⟨o,q⟩:=(hok b u e).there;have z:=kb b o q (.inl<|by simp_all);exact⟨o,q,stay _ _ z,z⟩
 have old:∀b o,h.get? b=J o->b ∉ fs->∃o1,R.get? b=J o1/\h2.get? b=J o1/\B_.get? b=J o1:=λb o e hb=>by obtain⟨o1,q⟩:=un.there b o e (by simp);have z:=kb b o1 q<|.inr ⟨⟨o,e⟩,hb⟩;exact⟨o1,q,stay _ _ z,z⟩
 refine⟨⟨λb o e n hb _=>?_,λb o e n hb _=>?_,λb o e n _=>un.free b o e n<|by simp,λb o e _=>?_,un.tups,un.frzs,un.tbls⟩,λb u e=>?_,λb o e hb=>?_⟩
 . obtain⟨o1,q1,q2,_⟩:=old b o e hb;have z:=un.keep b o e n hb (by simp)
   simp_all
 . obtain⟨sl,z⟩:=un.slot b o e n hb (by simp);obtain⟨o',z',nf⟩:=hf b hb;rw[z]at z';cases z';obtain⟨b8,q⟩:=up b _ z nf;exact⟨b8,q⟩
 . by_cases hb:b∈fs
   . obtain⟨o',z',nf⟩:=hf b hb;obtain⟨b8,q⟩:=up b _ z' nf;exact⟨_,q⟩
   . obtain⟨o1,_,q2,_⟩:=old b o e hb;exact⟨_,q2⟩
 . refine(hok b u e).stay (λc v hc q=>?_) (λ_ q=>q) λ_ _ q=>q;have dO:∃u',H' c=J u':=by
    rcases hc with rfl|hc
    . exact⟨u,e⟩
    . exact⟨_,hc⟩
   obtain⟨u',e'⟩:=dO;obtain⟨o,q1,q2,_⟩:=tr c u' e';rw[q]at q1;cases q1;exact q2
 . rcases hb with hb|⟨⟨o',e'⟩,hb⟩
   . cases q:H' b with
     |none=>exact absurd q hb
     |some u=>obtain⟨o1,q1,q2,q3⟩:=tr b u q;rw[e]at q2;cases q2;exact q3
   . obtain⟨o1,q1,q2,q3⟩:=old b o' e' hb;rw[e]at q2;cases q2;exact q3
def Zjz(X:Cx)(E:XK):Prop:=∀(ac:List (Yj×Obj)) (Z:St) (H:Hp) (s:Yb) (h':YG) (e:Yj) (cls:Yk) (vs:List Yk),Inv X ac Z H s->Heap.MadeExcOf s.heap h' e cls vs->E cls M H->X.xe (.ref e) {s with heap:=h'}
section
variable {P:Yi}{w:Yh}{K:Yl}{mg:Str->Option Yk}{base:YG}{N:List Str}{am:Str}{scope:Scope}{f:Yj}{cd:Yk}{A:YH}{outer:List Env}{s0:Yb}{H0:Hp}{E:XK}
def Zpb:Zjz (Zop (CXF P w) P w K mg base N am scope f cd A outer s0 H0 E) E:=by
 intro ac Z H s h' e cls vs I hx hE;refine wpAny_leaves_madeW I.ok.frames rfl (λb o q=>PySem.W.of_hideAll _ q) (PySem.W.funFrames_hide I.stack λenv he b hb=>List.mem_filterMap.mpr ⟨env,he,hb⟩) hx λh'' t x1 x2 x3 x4=>?_;obtain⟨r1,r2,r3⟩:=ZeB (I.base.trans<|Un.kept hx.keeps) (I.hok.kept hx.keeps) λb o e1 hb=>by
  rcases hb with hb|⟨⟨o',e'⟩,hb⟩
  . cases q:H b with
    |none=>trivial
    |some u=>
     obtain⟨o1,q1⟩:=(I.hok b u q).there;have q2:=hx.keeps b o1 q1;rw[e1]at q2;cases q2;exact PySem.W.hideAll_get _ q1 λhm=>by have z:=I.stkFree b hm;trivial
  . obtain⟨o1,q1⟩:=I.base.there b o' e'<|List.not_mem_nil;have q2:=hx.keeps b o1 q1;rw[e1]at q2;cases q2;refine PySem.W.hideAll_get _ q1 λhm=>?_;rcases O2.mp (I.stkSub b hm)with z|z
    . rw[z]at e';exact absurd (Yn e') (Yw _)
    trivial x1.1 x4 λb hb=>by
  obtain⟨_,o,q,nf⟩:=I.funs.mem hb;exact⟨o,hx.keeps _ _ q,nf⟩
 refine⟨e,cls,_,H,_,rfl,I.os,I.bare,r1,r2,x1,r3,?_,hE⟩;cases q:H e with
 |none=>rfl
 |some u=>obtain⟨o1,q1⟩:=(I.hok e u q).there;rw[hx.new]at q1;cases q1
def Zr9(h:∀cls H',E1 cls M H'->E cls M H'):ZbR (CXF P w) (Zop (CXF P w) P w K mg base N am scope f cd A outer s0 H0 E) E1:=by
 intro ac Z H s e s' I hx;obtain⟨a,cls,a0,H',B_,rfl,os,bare,un,hok,fl,kb,ha,hE⟩:=hx;have I':=I.call' os un hok bare (λb z=>absurd z<|by simp);refine wpAny_leaves_onW I.ok.frames rfl fl λh'' x1 x4=>?_;obtain⟨r1,r2,r3⟩:=ZeB I'.base hok λb o e1 hb=>by
  refine kb b o e1 ?_;rcases hb with hb|⟨⟨o',e'⟩,hb⟩
  . exact .inl hb
  . obtain⟨o1,q1⟩:=I.base.there b o' e'<|List.not_mem_nil;refine .inr ⟨⟨o1,q1⟩,λhm=>?_⟩;rcases O2.mp (I.stkSub b hm)with z|z
    . rw[z]at e';exact absurd (Yn e') (Yw _)
    trivial x1.1 x4 λb hb=>by
  obtain⟨_,o,q,nf⟩:=I'.funs.mem hb;exact⟨o,q,nf⟩
 exact⟨a,cls,a0,H',B_,rfl,I'.os,bare,r1,r2,x1,r3,ha,h _ _ hE⟩
end
def Zil:ZbR (CXF P w) X E0:=λ_ _ _ _ _ _ _ h=>by obtain⟨_,_,_,_,_,_,_,_,_,_,_,_,_,z⟩:=h;trivial
def ZvZ{p:Prop}{mro:List Yk}{f:Yj->List Yk->String->Bool}{l:List (Option Yk)}:(match mro,l with|.ref c::bm,[_,_,_,_,J<|.builtin n,_]=>f c bm n|_,_=>Wt)=Ws->(∀c bm k0 k1 k2 k3 n k5,mro=.ref c::bm->l=[k0,k1,k2,k3,J<|.builtin n,k5]->f c bm n=Ws->p)->p:=by
 have no:∀{p:Prop},Wt=Ws->p:=λz=>Bool.noConfusion z;rcases mro with _|⟨v,bm⟩
 . exact λq _=>no q
 cases v with
 |ref c=>
  intro q k;rcases l with _|⟨k0,_|⟨k1,_|⟨k2,_|⟨k3,_|⟨k4,l⟩⟩⟩⟩⟩
  iterate 5 exact no q
  rcases k4 with _|v
  . exact no q
  cases v with
  |builtin n=>
   rcases l with _|⟨k5,_|⟨_,l⟩⟩
   . exact no q
   . exact k _ _ _ _ _ _ _ _ rfl rfl q
   exact no q
  |_=>exact no q
 |_=>exact λq _=>no q
def ZsZ{p:Prop}{K}{h}{C}{eX}{aZ}(X:K.In h)(q:PySem.W.excIn K C eX aZ=Ws)
 (k:∀bm N nm qn bs hdct sn sub ab col dd k0 k1 k2 k3 k5 mN,h.get? C=J (excClassObj nm qn C N bs bm hdct sn sub ab col dd k0 k1 k2 k3 k5 aZ)->h.Ns N mN->mN "__init__"=M->OwnTail h eX bm->p):p:=by
 unfold PySem.W.excIn at q;split at q
 . rename_i dd cd sl ho;obtain⟨l⟩:=sl;obtain⟨nm,bs,mro,ns,qn,hd,sn,sub,ab,col,dl⟩:=cd;refine ZvZ (f:=λc bm n=>c==C&&n==aZ&&!dl&&PySem.W.tailIn K eX bm&&PySem.W.nsOkIn K ns&&Ym K ns "__init__" == J M) q λC' bm k0 k1 k2 k3 n k5 hm hs q=>?_;simp only[Oa,beq_iff_eq,Bool.not_eq_true']at q;obtain⟨⟨⟨⟨⟨rfl,rfl⟩,rfl⟩,ht⟩,hok⟩,jo⟩:=q;subst hm hs;exact k bm ns nm qn bs hd sn sub ab col dd k0 k1 k2 k3 k5 _ (X _ _ ho) (.of_isNs<|PySem.W.isNs_of_in X hok) (PySem.W.nsMap_none_of_in X hok jo) (PySem.W.tail_of_in X ht)
 trivial
section
variable {X:Cx}{x:Str}{C:Yj}{eX:List Yk}{B_ aZ di:String}{np ay pos:Pos}{e:Expr}{es:List Expr}{t:TA}{E:XK}
noncomputable def Zuy(C:Yj)(E:XK)(t:TA):TS:=λ_ Z H=>t Z H λvs H1=>vs.length<=Yc/\E (.ref C) M H1
def Zpw(hR:Zjz X E)(hc:X.calm=Ws)(FB:ExcBaseFacts B_ aZ di eX)(hg:Gl X x)(hm:X.mg x=J (.ref C))(hq:PySem.W.excIn X.K C eX aZ=Ws)(ha:PA X (e::es) t)
 (bj:(x==("__debug__" : Str))=Wt:=by decide) (he:YA (e::es) X.env=(Wt,eval e X.env)::YA es X.env:=by rfl) (aG:(YR ay<|YA es X.env).any (·.1)=Wt:=by rfl) :
 PS X (.Raise (J<|.Call (.Name x np) (e::es) [] ay) M pos) (Zuy C E t):=by
 intro ac s Z H D I h;refine ZsZ I.mod.kin hq λtl N nm q bs hdct sn sub ab col dd k0 k1 k2 k3 k5 mN hC hN jo T=>?_;refine wpAny_Raise_call_subT (nm:=nm) (q:=q) (N:=N) (bs:=bs) (hdct:=hdct) (sn:=sn) (sub:=sub) (ab:=ab) (col:=col) (dd:=dd) (k0:=k0) (k1:=k1) (k2:=k2) (k3:=k3) (k5:=k5)
  FB (T.hasType FB.hasBase) (I.ok.hd hc) (by rw[he];trivial) jo (ZcK I hg hm ⟨rfl,?_⟩ bj)
 have R:=ha ay ac s Z H _ I h;rw[he]at R ⊢;exact Calls.evalArgs_plain (thn R λus s2 ⟨vs,H2,I2,r2,hl,hE⟩=>⟨rfl,by rw[<-r2.length];trivial,I2.bk _ _ hC,hN.keeps I2.bk,T.keeps I2.bk,λh' a cI=>hR ac Z H2 s2 h' a _ us I2 cI hE⟩)
end
def cxH(X:Cx)(a:Yj)(oe:Obj):Cx:={X with A:=X.A.mark<|J<|.ref a,calm:=false,pn:=X.pn++[(a,oe)],xe:=λ_ _=>False}
abbrev cxM(X:Cx)(a:Yj):Cx:={X with A:=X.A.mark<|J<|.ref a,calm:=false,xe:=λ_ _=>False}
section
variable {X:Cx}{ac:List (Yj×Obj)}{Z:St}{H:Hp}{s:Yb}{a:Yj}{oe:Obj}
def Inv.toM(I:Inv X ac Z H s)(a):Inv (cxM X a) ac Z H s:=⟨⟨I.ok.mod,I.ok.kind,I.ok.glob,I.ok.blt,I.ok.above,I.ok.inj,I.ok.has,I.ok.cab,λz=>absurd z Ow,I.ok.frames,I.ok.stk,I.ok.exf,I.ok.bs,I.ok.bsz,I.ok.noex,I.ok.exfs,I.ok.funs,I.ok.frf⟩,I.os,I.bare,I.base,I.loc,I.cell,I.free,I.freeC,I.pin,I.hok,I.len⟩
def Inv.toH(I:Inv X ac Z H s)(R:s.heap.get? a=J oe)(h2:H a=M)(h3:a≠X.env.locals)(h4:a ∉ X.fs)(h5:∀v,oe.data≠.cell v):Inv (cxH X a oe) ac Z H s:=
 ⟨⟨I.ok.mod,I.ok.kind,I.ok.glob,I.ok.blt,I.ok.above,I.ok.inj,I.ok.has,I.ok.cab,λz=>absurd z Ow,I.ok.frames,I.ok.stk,I.ok.exf,I.ok.bs,I.ok.bsz,I.ok.noex,I.ok.exfs,I.ok.funs,I.ok.frf⟩,I.os,I.bare,I.base,I.loc,I.cell,I.free,I.freeC,
  λp hp=>by
   rcases OD.mp (hp)with z|z
   . rcases OD.mp z with z|z
     . exact I.pin p (Ys _ z)
     . have e:p=(a,oe):=by simpa using z
       subst e;exact⟨R,h2,h3,h4,h5⟩
   . exact I.pin p (Ov _ z),I.hok,I.len⟩
end
theorem Zkl {K} (X:K.In s.heap) (R:PySem.W.typeIn K (.ref C2)=J (.type "type")) (h0:(PySem.W.clsIn K C2).isSome=Ws)
   (h2:YT K (.ref C2) (.type "BaseException")=J Ws) (h3:YT K (.ref C) (.ref C2)=J Ws) (he:s.heap.get? a=J oe) (hc:oe.cls=.ref C) (q:Q Ws s):YB qb A (excMatches (.ref a)<|.ref C2) Q E s:=by
 have L1:=PySem.W.looks_instIn (M:=qb) X (by
   unfold PySem.W.instIn;rw [R];show YT K (.type "type") (.type "tuple")=J Wt;show YT [] (.type "type") (.type "tuple")=J Wt;decide +kernel)
 have L2:=PySem.W.looks_subIn (M:=qb) X h2;have L3:=PySem.W.looks_subIn (M:=qb) X h3;have L0:PySem.W.Looks qb s.heap (isType<|.ref C2) Ws:=by
   unfold PySem.W.clsIn at h0;split at h0
   . rename_i c' d' kM b8 ho;intro A' Q' E' s' k q;unfold isType loadHead;exact Ya (wpAny_loadPart (k _ _<|X _ _ ho)<|Yd q)
   . cases h0
 have LT:PySem.W.Looks qb s.heap (typeOf<|.ref a) (.ref C):=hc▸(PySem.W.Looks.ld he).andThen .now;unfold excMatches isExcClass
 repeat (any_goals (first|assumption|lk|wp_step))
structure ExcN(K:Yl)(C2:Yj):Prop where
 ty:PySem.W.typeIn K (.ref C2)=J (.type "type")
 cls:(PySem.W.clsIn K C2).isSome=Ws
 exc:YT K (.ref C2) (.type "BaseException")=J Ws
section
variable {X:Cx}{k:Nat}{n:Str}{e:Expr}{p pos:Pos}{ie:Nat}
theorem Zn8(I:Inv X ac Z H s)(hN:X.N.Nodup)(hi:X.N[ie]?=J n)(hl:X.env.scope.names.lookup n=J .local)
   (h:∀ s',Inv X ac (Z.set ie M) H s'->Q () s'):YB qb A (do bindName X.env n .none;unbindBehindTheSuite X.env n pos) Q E s:=by
 obtain⟨m,hn,kg⟩:=id I.loc;have hiσ:ie<Z.length:=I.len▸(Ob.mp hi).1;refine wpAny_nameGoes_keeps hl hn (by rw [I.ok.kind];rfl) λh' v jp hs=>?_;have eL:∀ b o,X.s₀.heap.get? b=J o->b≠X.env.locals:=λb o e=>Ou<|Ot (Yn e) I.ok.above;refine h {s with heap:=h',toks:=s.toks+1} ⟨I.ok,I.os,I.bare,⟨λb o e n hb hx=>(hs.2 b<|eL b o e).trans<|I.base.keep b o e n hb hx,λb o e n hb hx=>?_,I.base.free,λb o e hx=>?_,I.base.tups,I.base.frzs,I.base.tbls⟩,⟨_,jp,λj y v' e1 e2 e3=>?_⟩,λy c e=>?_,I.free,I.freeC,λp hp=>?_,(λb ob e=>by
   refine(I.hok b ob e).stay (λc w' hc q=>(hs.2 c ?_).trans q) (λ_ q=>q) λ_ _ q=>q;rintro rfl;rcases hc with rfl|hc
   . rw [I.free] at e;cases e
   . rw [I.free] at hc;cases hc),by simpa using I.len⟩
 . obtain⟨sl,e1⟩:=I.base.slot b o e n hb hx;exact⟨sl,(hs.2 b<|eL b o e).trans e1⟩
 . obtain⟨o',e1⟩:=I.base.there b o e hx;exact⟨o',(hs.2 b<|eL b o e).trans e1⟩
 . by_cases hj:j=ie
   . subst hj;rw [Ol hiσ] at e2;cases e2
   . rw [Oc<|YL hj] at e2;obtain⟨u',r',q⟩:=kg j y v' e1 e2 e3;refine⟨u',r',?_⟩;rcases q with⟨k,e⟩|⟨k,c,e,z⟩
     . refine .inl ⟨k,?_⟩;have:y≠n:=λe=>hj<|ZgW hN e1<|e▸hi;simp [this,e]
     . exact .inr ⟨k,c,e,z.sameBut hs<|I.cne y c e⟩
 . obtain⟨w',z⟩:=I.cell y c e;exact⟨w',z.sameBut hs<|I.cne y c e⟩
 . obtain⟨e,n,ne,nf,d⟩:=I.pin p hp;exact⟨(hs.2 p.1 ne).trans e,n,ne,nf,d⟩
end
def Def(P:Yi)(w:Yh)(K:Yl)(mg:Str->Option Yk)(base:YG)(k:Nat)(x:Str)(ps:List Str)(sp:Sp):Prop:=∃f fd,mg x=J (.ref f)/\Wb K (.ref f)=Ws/\Binds K fd ps []/\FnOk P w K mg base (CXF P w) k f fd ps sp
section
variable {X:Cx}{k:Nat}{x:Str}{ps:List Str}{sp:Sp}{E:XK}{e:Expr}{es:List Expr}{t:TA}{p pos:Pos}
noncomputable def Zzm(sp:Sp)(E:XK)(t:TA):TE:=λZ H Q=>t Z H λvs H1=>sp vs H1 Q E
def Zu5(D:Def X.prog X.w X.K X.mg X.base k x ps sp)(hr:Room k X.A)(hg:Gl X x)(hx:ZbR (CXF X.prog X.w) X E)(ha:PA X (e::es) t)
 (bj:(x==("__debug__" : Str))=Wt:=by decide) (he:YA (e::es) X.env=(Wt,eval e X.env)::YA es X.env:=by rfl) (aG:(YR pos<|YA es X.env).any (·.1)=Wt:=by rfl) :
 PE X (.Call (.Name x p) (e::es) [] pos) (Zzm sp E t):=by
 obtain⟨f,fd,R,h2,h3,h4⟩:=D;intro ac s Z H Q I h;refine Zr7 h4 hr hg R h2 h3 .nil hx ha bj he aG ac s Z H Q I ?_;have z:t Z H λvs H1=>sp vs H1 Q E:=h;show t Z H λvs H1=>sp (vs++[]) H1 Q E
 simp_all
end
section
variable {X:Cx}{ac:List (Yj×Obj)}{Z:St}{H:Hp}{s:Yb}{h':YG}
def Znc{ch:List Yj}(hf:∀b∈ch,ZdO X ac H b):∀b∈ch,(b∈X.ex\/X.s₀.heap.objs.size<=b)/\b≠X.env.locals/\(∀x c,X.env.cells.lookup x=J c->c≠b)/\∀p∈X.pn++ac,p.1≠b:=λb hb=>by obtain⟨_,f1,_,f3,f4,f5⟩:=hf b hb;trivial
def Inv.turnL{t'}{ch:List Yj}(I:Inv X ac Z H s)(hf:∀b∈ch,ZdO X ac H b)(k:∀b o,b ∉ ch->s.heap.get? b=J o->h'.get? b=J o):Inv X ac Z H {s with heap:=h',toks:=t'}:=by
 have cB:∀b u,H b=J u->b ∉ ch:=λb u e z=>by rw[(hf b z).1]at e;cases e
 refine I.step (Znc hf) (λb o _ _ hc e _=>k b o hc e) (λb o _ _ hc e _=>⟨o.slots,k b o hc e⟩) (λ_ _ _ _ n=>n)
  (λb o hc e=>⟨o,k b o hc e⟩) (λ_ _ e=>e) (λ_ _ _ e=>e) (λb ps e=>⟨#[],by trivial⟩) (λm hm=>?_) (λb u e=>?_) I.bare
 . obtain⟨o,es,ep,ho,r⟩:=hm;exact⟨o,es,ep,k _ o (λz=>(hf _ z).2.1 rfl) ho,r⟩
 . refine(I.hok b u e).stay (λc v hc q=>k c v ?_ q) (λ_ q=>q) λ_ _ q=>q;rcases hc with z|z
   . rw[z];exact cB b u e
   . exact cB c _ z
def Inv.turnT{t'}{ch:List Yj}{us}(I:Inv X ac Z H s)(hf:∀b∈ch,ZdO X ac H b)(k:∀b o,b ∉ ch->s.heap.get? b=J o->h'.get? b=J o)
 (hT:s.heap.objs.size<=T) (tup:ZbT h' T us.toArray) (rv:Zn vs us) (hz:vs.length<=Yc):Inv X ac Z (upd H T<|.tup vs) {s with heap:=h',toks:=t'}:=by
 have cB:∀b u,H b=J u->b ∉ ch:=λb u e z=>by rw[(hf b z).1]at e;cases e
 have fY:=I.hok.fresh hT;refine I.step (Znc hf) (λb o _ _ hc e _=>k b o hc e) (λb o _ _ hc e _=>⟨o.slots,k b o hc e⟩) (λb o _ e n=>(Zl<|(λb o e=>Ou<|Ot (Yn e) hT) b o e).trans n)
  (λb o hc e=>⟨o,k b o hc e⟩) (λb xs e=>(Zl<|ZQ e fY).trans e) (λb o u e=>(Zl<|ZQ e fY).trans e) (λb ps e=>⟨#[],by rw[Zl<|ZQ e fY,e];simp⟩) (λm hm=>?_) (λb u e=>?_) I.bare
 . obtain⟨o,es,ep,ho,r⟩:=hm;exact⟨o,es,ep,k _ o (λz=>(hf _ z).2.1 rfl) ho,r⟩
 . by_cases hb:b=T
   . subst hb;rw[Zh]at e;cases e;exact⟨hz,us,rv,tup⟩
   . rw[Zl hb]at e;refine(I.hok b u e).stay (λc v hc q=>k c v ?_ q) (λc q=>(Zl<|ZQ q fY).trans q) λc xs q=>(Zl<|ZQ q fY).trans q;rcases hc with z|z
     . rw[z];exact cB b u e
     . exact cB c _ z
end
def Ite(K:Yl)(a:Yj):It:=⟨λi H=>∃xs x,SqL K H a xs/\xs[i]?=J x,λi H v H'=>∃p,v=.ref p/\H p=M/\∃x,(∀xs,SqL K H a xs->xs[i]?=J x)/\H'=upd H p (.tup [.int i,x]),λi H=>∃xs,SqL K H a xs/\xs.length=i⟩
theorem ZnG{P}{w}{K}{es}{kk}{tp}(a it e)(cJ:e≠it)(eS:a≠e)(eR:a≠it) :
   Turn P w K (.Tuple es kk tp) (Ite K a) [e,it] e (λi h=>(∃ old,IsEnum h e it i old)/\h.IsListIter it a i) where
 mem:=by simp
 obj:=λi h st b hb=>by
   obtain⟨⟨old,he⟩,o,e1,c,d⟩:=st;rcases O2.mp hb with rfl|hb
   . exact⟨_,he,λv z=>by cases z⟩
   simp_all
 keep:=λi h h' st k=>by
   obtain⟨⟨old,he⟩,st⟩:=st;exact⟨⟨old,k e (by simp) _ he⟩,st.at λo z=>k it (by simp) o z⟩
 item:=by
   intro X hP hw hK hc i ac s Z H E I hf st hg;subst hP hw hK;obtain⟨xs,x,hq,hx⟩:=hg;obtain⟨its,rv,p,hz⟩:=I.list hq;have hl:=rv.length;have hi:i<xs.length:=(Ob.mp hx).1;have W:=WalksT.enumerate (prog:=X.prog) (w:=X.w) (I.ok.hd hc) e it a cJ eS eR its.toArray;have lP:∀ (Q':Option Yk->Yb->Prop) (E':Yk->Yb->Prop),(∀ T be h' tk,(∃ t x,its.toArray[i]?=J x/\be=#[.int i t,x])->s.heap.objs.size<=T->ZbT h' T be ->
       ((∃ x,IsEnumOut h' e it ((i)+1) x T)/\h'.IsListIter it a (i+1)/\h'.IsList a its.toArray/\T≠e/\T≠it)->(∀ b o,b ∉ [e,it]->s.heap.get? b=J o->h'.get? b=J o)->Q' (J<|.ref T) {s with heap:=h',toks:=tk}) ->
       YB (model X.prog X.w) X.A (pyNext<|.ref e) Q' E' s:=by
     intro Q' E' hQ;obtain⟨⟨old,he⟩,az⟩:=st;refine wpAny_pyNext_enum_item he az p.isList (Array.getElem?_eq_getElem (by simp;lia)) cJ λh' ho bA hT aR hk=>?_;exact hQ s.heap.objs.size _ h' (s.toks+1) ⟨_,_,(Array.getElem?_eq_getElem (by simp;lia)),rfl⟩ (Oq _) ⟨_,hT,rfl,rfl,_,rfl⟩ ⟨⟨_,ho⟩,bA,p.isList.at λo z=>hk a o eS eR z,Nat.ne_of_gt<|Yn he,Nat.ne_of_gt (by obtain⟨_,z,_⟩:=az;exact Yn z)⟩
       λb o hb z=>hk b o (λe'=>hb<|by simp [e']) (λe'=>hb<|by simp [e']) z
   refine lP _ _ λT be R tk hP hT tup mid kk=>⟨_,rfl,W.go _ _ _ i T {s with heap:=R,toks:=tk} _ _ mid λh2 bU kk2=>?_⟩
   obtain⟨t,y,hy,rfl⟩:=hP;have i5:its[i]?=J y:=by simpa using hy
   obtain⟨u,hu,ru⟩:=rv.get hx;rw [i5] at hu;cases hu;have fX:T ∉ [e,it]:=W.apart i T R mid;have I2:Inv X ac Z (upd H T<|.tup [.int i,x]) {s with heap:=h2,toks:=tk}:=I.turnT hf (λb o hb q=>kk2 b o hb<|kk b o hb q) hT (us:=[.int i t,y]) (by
     obtain⟨o,q,r⟩:=tup;exact⟨o,kk2 T o fX q,r⟩) (.cons ⟨t,rfl⟩<|.cons ru .nil) (by show 2<=Yc;decide)
   refine⟨.ref T,_,I2,rfl,⟨T,rfl,I.hok.fresh hT,x,λys hy=>I.list_inj hy hq▸hx,rfl⟩,⟨bU.1,bU.2.1⟩,λb hb=>?_⟩;rw [Zl λz=>fX (by rw [<-z];exact hb)];exact(hf b hb).1
 done:=by
   intro X hP hw hK hc i ac s Z H E I hf st hg;subst hP hw hK;obtain⟨xs,hq,hx⟩:=hg;obtain⟨its,rv,p,hz⟩:=I.list hq;have hl:=rv.length;have e1:its.toArray.size=i:=by simp;lia
   refine(WalksT.enumerate (prog:=X.prog) (w:=X.w) (I.ok.hd hc) e it a cJ eS eR its.toArray).done s _ _ ?_ λR tk kk=>⟨rfl,I.turnL hf kk⟩
   rw [e1];exact⟨st.1,st.2,p.isList⟩
 self:=λA i s Q E st h=>by
   obtain⟨⟨old,he⟩,_⟩:=st;exact wpAny_pyIter_enum he h
def Zyp(K:Yl)(ta:TA):TI:=λZ H qd=>ta Z H λvs H1=>∃a,vs=[.ref a]/\(∃xs,SqL K H1 a xs)/\qd (Ite K a) H1
def Zr1{X}{es}{kk}{tp}{l}{ta}{p pos}(hg:Gl X "enumerate")(hm:X.mg "enumerate"=M)(ha:PA X [l] ta)(hs:YA [l] X.env=[(Wt,eval l X.env)]:=by rfl):
 PI X (.Tuple es kk tp) (.Call (.Name "enumerate" p) [l] [] pos) (Zyp X.K ta):=by
 intro ac s Z H qd I h;refine Call_<|Zcm I hg hm boot_enumerate<|PyProof.Rows.callWith_type1 (thn (ha pos ac s Z H _ I h) λus s1 ⟨vs,H1,I1,r1,q1⟩=>?_) hs rfl;obtain⟨a,rfl,⟨xs,hq⟩,q⟩:=q1;obtain⟨u,rfl,ru⟩:=vals1 r1;obtain rfl:u=YD a:=ru;obtain⟨its,rv,pl,hz⟩:=I1.list hq;have aC:a<s1.heap.objs.size:=by obtain⟨_,_,e,_⟩:=pl;exact Yn e
 refine call_enumerate_list pl.isList λh' he hi aR kk=>wpAny_pyIter_enum he ⟨s1.heap.objs.size+1,[s1.heap.objs.size+1,s1.heap.objs.size],_,_,H1,rfl,I1.kept kk,ZnG a s1.heap.objs.size (s1.heap.objs.size+1) (Nat.succ_ne_self _) (Ou<|Nat.lt_succ_of_lt aC)<|Ou aC,⟨⟨_,he⟩,hi⟩,λb hb=>?_,q⟩;rcases O2.mp hb with rfl|hb
 . exact I1.fpOk (Nat.le_succ _) (I1.hok.fresh<|Nat.le_succ _)
 . have e:=by simpa using hb
   subst e;exact I1.fpOk (Oq _) (I1.hok.fresh<|Oq _)
end L2
namespace L2
open PySem PySem.Spec PyProof.Rows PySem.Builtin PySem.Builtin.ObjectAttr PySem.Builtin.Getset_descriptor
structure ExcA(K:Yl)(D:Yj):Prop where
 ga:YJ K (.ref D) "__getattribute__"=J (J<|.builtin "BaseException.__getattribute__")
 ga2:YJ K (.ref D) "__getattr__"=J M
 cl:YJ K (.ref D) "__class__"=J (J<|.builtin "object.__class__")
 get:PySem.W.specialIn K (.builtin "object.__class__") "__get__"=J (J<|.builtin "getset_descriptor.__get__")
 takes:PySem.W.takesIn K (.builtin "object.__class__")=J Ws
 obj:PySem.W.mroIn K D (.type "object")=J Ws
 base:YT K (.ref D) (.type "BaseException")=J Ws
 isc:(PySem.W.clsIn K D).isSome=Ws
def Zga{K:Yl}(X:K.In h)(A:ExcA K D):PySem.W.Looks qb h (find x (.ref D) "__class__") (.bind (.builtin "getset_descriptor.__get__")<|.builtin "object.__class__"):=(PySem.W.looks_findIn (M:=qb) X A.cl).andThen (PySem.W.Looks.andThen (show PySem.W.Looks qb h (getOf<|J<|.builtin "object.__class__") (J<|.builtin "getset_descriptor.__get__")from PySem.W.looks_specialIn (M:=qb) X A.get)<|(show PySem.W.Looks qb h (dataDescriptor? (J<|.builtin "object.__class__")<|J<|.builtin "getset_descriptor.__get__") (J (.builtin "getset_descriptor.__get__",.builtin "object.__class__"))from(PySem.W.looks_takesIn (M:=qb) X A.takes).andThen .now).andThen<|PySem.W.Looks.tag .now)
section
variable {prog:Yi}{w:Yh}{A:YH}{E:Yk->Yb->Prop}{s:Yb}{K:Yl}{x D:Yj}{ox:Obj}
def Zh0(X:K.In s.heap)(hx:s.heap.get? x=J ox)(hc:ox.cls=.ref D)(Z_:ExcA K D)
 (h:qd (.ok<|.ret<|.ref D) s):codeAny (model prog w) A (.call (.builtin "getset_descriptor.__get__") ⟨[.builtin "object.__class__",.ref x,tp],[]⟩) qd s:=by
 have L0:PySem.W.Looks (model prog w) s.1 (typeOf<|.ref x) (.ref D):=hc▸(PySem.W.Looks.ld hx).andThen .now;have L1:=PySem.W.looks_mroIn (M:=model prog w) X Z_.obj;refine codeAny_call_builtin PySem.W.KF.slot_gs.plain PySem.W.KF.entry_gs<|PySem.W.KF.slot_gs.check _ _ _ _ _ _ _ _ PySem.W.KF.type_class (PySem.W.KF.args_gs _ _ _) ?_;unfold Builtin.«getset_descriptor.__get__» descrGet;rw[PySem.W.dga_obj];refine Ya<|Yd ?_;unfold descrGetter descrCheckInstance descrNameAndClass isInstance;simp only[PySem.W.KF.owner_class]
 repeat lk
 refine⟨Code.quiet_builtin _<|by decide +kernel,codeAny_builtin PySem.W.KF.entry_class ?_⟩;unfold Builtin.«object.__class__» shownTypeOf
 repeat lk
 all_goals (first|exact h|fail)
def Zjc{tk}(X:K.In s.heap)(hx:s.heap.get? x=J ox)(hc:ox.cls=.ref D)(Z_:ExcA K D)(h:Q (.done<|.ret<|.ref D) s):
 YB (model prog w) A (Builtin.«object.__getattribute__» ⟨[.ref x,.str "__class__" tk],[]⟩) Q E s:=by
 have L0:PySem.W.Looks (model prog w) s.1 (typeOf<|.ref x) (.ref D):=hc▸(PySem.W.Looks.ld hx).andThen .now;exact Ya (Yd<|Ya<|Yd<|Ya<|L0.at<|Ya<|(Zga (qb:=model prog w) (x:=.ref x) X Z_).at<|Ya<|Wc<|wpAny_call<|Zh0 X hx hc Z_<|Yd h)
def Zom(X:K.In s.heap)(hx:s.heap.get? x=J ox)(hc:ox.cls=.ref D)(Z_:ExcA K D)(h:Q (J<|.ref D) {s with toks:=s.toks+1}):
 YB (model prog w) A (getAttr? (.ref x) "__class__") Q E s:=by
 obtain⟨hh,g,dr,t,os⟩:=s;have L0:PySem.W.Looks (model prog w) hh (typeOf<|.ref x) (.ref D):=hc▸(PySem.W.Looks.ld hx).andThen .now;have L4:PySem.W.Looks (model prog w) hh (isInstance (.ref x)<|.type "BaseException") Ws:=L0.andThen<|PySem.W.looks_subIn (M:=model prog w) X Z_.base;refine Ya<|wpAny_mkText<|Ya<|wpAny_attempt<|Wc<|Ya<|L0.at<|Ya<|(PySem.W.looks_findIn (M:=model prog w) X Z_.ga).at ?_;refine Ya<|(PySem.W.looks_findIn (M:=model prog w) X Z_.ga2).at<|Ya<|wpAny_attempt<|Wc ?_;show YB _ _ (boundAndCalled (.builtin "BaseException.__getattribute__") (.ref x) _) _ _ _;unfold boundAndCalled;refine Ya<|Wi (F.attr_ValueError.ga.bind<|.ref x)<|wpAny_call<|codeAny_call_builtin F.attr_ValueError.ga.plain F.entry_bexc_ga ?_;have hk:builtinKind "BaseException.__getattribute__"=J .slot:=by decide +kernel
 have dC:splitId "BaseException.__getattribute__"=J ("BaseException", "__getattribute__"):=by decide +kernel
 have ha:=F.args_bexc_ga (.ref x)<|.str (O "__class__") t;simp only[checkBuiltinCall,hk,dC,List.cons_append,OB];refine Ya ?_;refine L4.at ?_;simp only[Bool.not_true,OG,if_false];refine Wi ha ?_;refine Zjc (s:=⟨hh,g,dr,t+1,os⟩) X hx hc Z_ ?_;show YB _ _ (handedOut<|.ref D) _ _ _;refine Yd ?_;exact Yd h
def Zkc(Z_:ExcA K D):PySem.W.KitX K (.ref x) (.ref D) (λh=>∃ob,h.get? x=J ob/\ob.cls=.ref D) where
 ty:=λ_ _ _ ⟨ob,R,h2⟩=>h2▸(PySem.W.Looks.ld R).andThen .now
 it:=λ_ _ X _=>by
  have h0:=Z_.isc;unfold PySem.W.clsIn at h0;split at h0
  . rename_i c' d' kM b8 ho;intro A' Q' E' s' k q;exact Ya (wpAny_loadPart (k _ _<|X _ _ ho)<|Yd q)
  trivial
 ne:=λh tp dd its n sl X lX=>by
  have h0:=Z_.isc;refine Bool.eq_false_iff.mpr λq=>?_;have e:=Value.ref.inj<|beq_iff_eq.mp q;subst e;unfold PySem.W.clsIn at h0;split at h0
  . rename_i c' d' kM b8 ho;cases (X _ _ ho).symm.trans lX
  trivial
 ca:=λX ⟨ob,R,h2⟩ k=>Zom X R h2 Z_ k
end
def Zjm:Z4 X (.builtin "isinstance") (λxs H Q=>∃a oe D c v b,xs=[.ref a,c]/\(a,oe)∈X.pn/\oe.cls=.ref D/\ExcA X.K D/\RelV c v/\PySem.W.kitOne X.K (.ref D) v=J b/\Q (.bl b) H):=by
 intro ac s Z H xs us Q I r h;obtain⟨a,oe,D,c,v,b,rfl,hp,hc,Z_,rc,e,q⟩:=h;obtain⟨u,w',rfl,rx,rT⟩:=vals2 r;obtain rfl:u=YD a:=rx;have ev:w'=v:=by
  cases c with
  |ref p=>exact(show w'=YD p from rT).trans (show v=YD p from rc).symm
  |ty n=>exact(show w'=Value.type n from rT).trans (show v=Value.type n from rc).symm
  |non=>exact(show w'=Value.none from rT).trans (show v=Value.none from rc).symm
  |bl z=>exact(show w'=Value.bool z from rT).trans (show v=Value.bool z from rc).symm
  |int z|str z|byt z|flt z=>obtain⟨_,rfl⟩:=rc;cases e
 subst ev;exact PySem.W.kia_one (Zkc Z_) I.kIn ⟨oe,(I.pin (a,oe)<|Ys _ hp).1,hc⟩ e (by intro z;cases z) λtk=>⟨.bl b,H,I.tok tk,rfl,q⟩
end L2
namespace L2
open PySem PySem.Spec PyProof.Rows
def Ztf(h:PSs X b t)(r:t D Z H):∃t,PSs X b t/\t D Z H:=⟨t,h,r⟩
def ZgI:RelV (.str x) (.str x t):=⟨t,rfl⟩
def ZeV:RelV (.int x) (.int x t):=⟨t,rfl⟩
def ZaB:RelV (.ref a) (.ref a):=rfl
def isSome_of{K:Yl}(h:PySem.W.isClsIn K C=Ws):(PySem.W.clsIn K C).isSome=Ws:=h
def DkK(P:Yi)(w:Yh)(K:Yl)(a:Yj)(kvs:List (Key×V)):Prop:=∃(o:Obj) (es:Array DictEntry) (ep:Nat) (vs:List (Key×Yk)),K.lookup a=J o/\o.ExactDict/\o.data=.dict es ep/\KeysOf (ZP P w) es/\Pairs (ZP P w) es.toList vs/\(vs.map (·.1)).Nodup/\KV kvs vs/\kvs.length<=Yc/\(a==Yf)=Wt
def Dk(P:Yi)(w:Yh)(K:Yl)(H:Hp)(a:Yj)(kvs:List (Key×V)):Prop:=Rd H a (.dK kvs)\/DkK P w K a kvs
section
variable {X:Cx}{ac:List (Yj×Obj)}{Z:St}{H:Hp}{s:Yb}{a:Yj}
def Inv.dk(I:Inv X ac Z H s)(h:Dk X.prog X.w X.K H a kvs):kvs.length<=Yc/\(a==Yf)=Wt/\∃vs,KV kvs vs/\s.heap.DictOf (ZP X.prog X.w) a vs:=by
 rcases h with h|⟨o,es,ep,vs,lk,ex,da,ks,ps,nd,kv,z,hm⟩
 . exact Zt5 I.hok h
 . exact⟨z,hm,vs,kv,o,es,ep,I.kIn a o lk,ex,da,ks,ps,nd⟩
def Zxw(P:Yi)(w:Yh)(K:Yl)(neg:Bool):R2:=λx y H Q=>∃a kvs k,y=.ref a/\x=kV k/\Dk P w K H a kvs/\Q (.bl<|if neg then !(ZbB kvs k).isSome else(ZbB kvs k).isSome) H
def Zvc:OpR X (YM .In) (Zxw X.prog X.w X.K Wt):=by intro ac s Z H x y v u Q I rx ry h;obtain⟨a,kvs,k,rfl,rfl,hd,q⟩:=h;cases ry;obtain⟨z,hm,vs,rel,dd⟩:=I.dk hd;refine wpAny_in_of (Zkd rx) hm dd.mapOf ?_;rw[<-(rel.val k).isSome_eq];exact⟨.bl _,H,I.tok _,rfl,q⟩
def Zn3:OpR X (YM .NotIn) (Zxw X.prog X.w X.K Ws):=by intro ac s Z H x y v u Q I rx ry h;obtain⟨a,kvs,k,rfl,rfl,hd,q⟩:=h;cases ry;obtain⟨z,hm,vs,rel,dd⟩:=I.dk hd;refine wpAny_notIn_of (Zkd rx) hm dd.mapOf ?_;rw[<-(rel.val k).isSome_eq];exact⟨.bl _,H,I.tok _,rfl,q⟩
def ZzI(P:Yi)(w:Yh)(K:Yl):R2:=λx y H Q=>∃a kvs k v,x=.ref a/\y=kV k/\Dk P w K H a kvs/\ZbB kvs k=J v/\Q v H
def ZsL:IxR X (ZzI X.prog X.w X.K):=by intro value slice ac s Z H x y v u Q I rx ry h hs;obtain⟨a,kvs,k,z,rfl,rfl,hd,hv,q⟩:=h;cases rx;obtain⟨_,hm,vs,rel,dd⟩:=I.dk hd;obtain⟨w',hw,bf⟩:=ZeM.some_of<|hv▸rel.val k;exact subscriptTail_builtinR dd.typeIs PySem.F.slot_dict_getitem.lookup (wpAny_getItem_of (Zkd ry) dd.mapOf hw ⟨rfl,z,H,I.tok _,bf,q⟩) hs
def ZyC(I:Inv X ac Z H s)(e:H a=J (.dK kvs))(l:kvs.length<Yc)(ry:RelV (kV k) u)(rv:RelV v r)
 (h:∀s',Inv X ac Z (upd H a<|.dK<|putK kvs k v) s'->Q () s'):YB (model X.prog X.w) A (setItem (.ref a) u r) Q E s:=by
 obtain⟨z,hd,vs,rel,dd⟩:=Zt6 I.hok e;have hz:vs.length<=Yc:=rel.length▸z;exact wpAny_setItem_pairs (Zkd ry) dd λh' eG hs=>h _ (Znl I (by rw[e];trivial) hs (let⟨q,_,_,hq,_⟩:=eG;⟨q,hq⟩)<|ZqK (by have:=Zdj kvs k v;lia) hd (rel.put k rv) eG)
def Zxi:ZoF:=λo i v H Q=>∃a kvs k,o=.ref a/\i=kV k/\H a=J (.dK kvs)/\kvs.length<Yc/\Q (upd H a<|.dK<|putK kvs k v)
def set_dict:ZoH X Zxi:=by intro ac s Z H o i v ov iv u Q I ro ri rv h;obtain⟨a,kvs,k,rfl,rfl,e,l,q⟩:=h;cases ro;exact ZyC I e l ri rv λs' I'=>⟨_,I',q⟩
end
set_option tactic.hygienic false
section
variable {X:Cx}{aE tg iter:Expr}{a9:List Expr}{scope sc:Scope}{pos:Pos}{NC:List Str}{js:List (Option Nat)}{k:Nat}{wi:TI}{g:TG}{tc:TT}{te:TE}
theorem Zk9(hN:X.N.Nodup)(hy:X.N[i0]?=J y)(hx:Loc X.env.scope y)(hf:X.fn y=Ws\/X.env.scope.names.lookup y=J .local)(S_:CompSc NC X.N js sc scope)(bH:X.env.scope=sc)(hc:X.calm=Ws)(hi:PI X tg iter wi)
   (hb:∀ (C:Yj) (s3:Yb) (H3:Hp) (fp:List Yj),PG (ZB X NC scope C s3 H3 fp) tg g/\PIf (ZB X NC scope C s3 H3 fp) a9 tc/\PE (ZB X NC scope C s3 H3 fp) aE te)
   (hk:Zmi k g) (dL:∀ j,j<k->js[j]?=J M) (hs:∀ x,foldedSetIterable iter X.env x=pure x:=by intro _;rfl) (jd:swapsWith (.ListComp aE [⟨tg,iter,a9,0⟩] scope pos) (J<|.Name y py) spos.line X.env=pure Ws:=by rfl) :
   PS X (.Assign [.Name y py] (.ListComp aE [⟨tg,iter,a9,0⟩] scope pos) spos) (ZnK (Zo0 wi js g tc te)<|Zc0 i0):=by
 intro ac s Z H D0 I h;rw [exec_Assign_Name_used _ _ _ _ jd];refine Ya<|wpAny_standAt<|Ya ?_;show YB _ X.A (do let _ <- comprehension (.ListComp aE [⟨tg,iter,a9,0⟩] scope pos) scope X.env _ (newList []) Wt (eval iter X.env) (J<|assign (.Name y py) X.env)) _ _ s;refine Ya<|Yg (Zkt (Q:=λx H1=>Zc0 i0 x Z H1 D0.nx) (Q0:=λ_ s'=>SP X ac D0 .next s') S_ bH hc hi hb hk dL hs I h λC Dd s3 s6 H3 H5 fp hC I3 f3 I6 qn=>?_) (λ_ s' hq=>Yd<|Yd hq) λ_ _ e=>e;obtain⟨m,hm,_⟩:=I6.loc;have fC:ZdO X ac H5 C:=I3.fpOk (Nat.le_of_eq hC.symm) I6.free;show YB _ X.A (assign (.Name y py) X.env<|.ref Dd) _ _ _;exact wpAny_assign_Name (Zif (I3.comp_out (h'':=s6.heap) f3 hC I6 ⟨rfl,λ_ _=>rfl⟩) hN hy hx (v:=.ref Dd) rfl (λs8 I8 ⟨a8,sb8,mY⟩=>⟨m,hm.sameBut sb8 λz=>by
   rcases mY with e|e
   . exact fC.2.1 (z.trans e)
   . exact fC.2.2.2.2.1 _ _ e z.symm,λh' bV=>⟨_,H5,I8.turnL (t':=s8.toks) (ch:=[C]) (λb hb=>Ox.mp hb▸fC)<|λb o hb e=>(bV.2 b<|λz=>hb<|z▸List.mem_singleton_self _).trans e,qn⟩⟩) hf)
end
set_option tactic.hygienic true
mutual
inductive Dp(K:Yl)(H:Hp):V->PyData->Prop
 |non:Dp K H .non .none
 |bl (b:Bool):Dp K H (.bl b) (.bool b)
 |int (i:Int):Dp K H (.int i) (.int i)
 |str (x:Str) (ok:Yp x=Ws):Dp K H (.str x) (.str x)
 |lst {a:Yj}{xs:List V}{ds:List PyData}:SqL K H a xs->Dps K H xs ds->Dp K H (.ref a) (.list ds)
 |tup {a:Yj}{xs:List V}{ds:List PyData}:SqT K H a xs->Dps K H xs ds->Dp K H (.ref a) (.tuple ds)
inductive Dps(K:Yl)(H:Hp):List V->List PyData->Prop
 |nil:Dps K H [] []
 |cons {v:V}{vs:List V}{d:PyData}{ds:List PyData}:Dp K H v d->Dps K H vs ds->Dps K H (v::vs) (d::ds)
end
section
variable {K:Yl}{H:Hp}
mutual
theorem Dp.lay:∀{v:V}{d:PyData},Dp K H v d->d.canLay0=Ws
 |_,_,.non=>rfl
 |_,_,.bl b=>rfl
 |_,_,.int i=>rfl
 |_,_,.str x ok=>ok
 |_,_,.lst h r=>Dps.lay r
 |_,_,.tup h r=>Dps.lay r
theorem Dps.lay:∀{v:List V}{d:List PyData},Dps K H v d->PyData.canLayAll0 d=Ws
 |_,_,.nil=>rfl
 |_,_,.cons h r=>by rw[PyData.canLayAll0,Dp.lay h,Dps.lay r];rfl
end
end
section
variable {X:Cx}{ac:List (Yj×Obj)}{Z:St}{H:Hp}{s:Yb}
mutual
theorem Inv.reads(I:Inv X ac Z H s):∀{v:V}{d:PyData}{u:Yk},Dp X.K H v d->RelV v u->∃as,Reads s.heap u d as
 |_,_,_,.non,r=>by cases r;exact⟨_,.none⟩
 |_,_,_,.bl b,r=>by cases r;exact⟨_,.bool b⟩
 |_,_,_,.int i,r=>by obtain⟨t,rfl⟩:=r;exact⟨_,.int i t⟩
 |_,_,_,.str x ok,r=>by obtain⟨t,rfl⟩:=r;exact⟨_,.str x t⟩
 |_,_,_,.lst h rs,r=>by cases r;obtain⟨its,rv,⟨o,n,e,c,_,dd⟩,_⟩:=I.list h;obtain⟨as,q⟩:=Inv.readsAll I rs rv;exact⟨_,.list e c dd<|by simpa using q⟩
 |_,_,_,.tup h rs,r=>by cases r;obtain⟨its,rv,⟨o,e,c,n,dd⟩,_⟩:=I.tuple h;obtain⟨as,q⟩:=Inv.readsAll I rs rv;exact⟨_,.tuple e c dd<|by simpa using q⟩
theorem Inv.readsAll(I:Inv X ac Z H s):∀{v:List V}{d:List PyData}{u:List Yk},Dps X.K H v d->Zn v u->∃as,ReadsAll s.heap u d as
 |_,_,_,.nil,r=>by cases r;exact⟨_,.nil⟩
 |_,_,_,.cons h rs,r=>by
  cases r with
  |cons r1 r2=>obtain⟨as,q⟩:=Inv.reads I h r1;obtain⟨bs,q2⟩:=Inv.readsAll I rs r2;exact⟨_,.cons q q2⟩
end
end
set_option tactic.hygienic false
namespace Rv
def own:Manifest.owners.lookup (String.ofList ['d','e','s','r','e','v','e','r'].reverse)=J Manifest.sig_reversed:=by kernel_rfl
def next:Slot "reversed" "__next__" "reversed.__next__" :=
 .of (owner := "reversed") (n := "__next__") (rfl) (rfl) (rfl) (rfl) (by first|exact .inl (by decide +kernel)|exact .inr (by decide +kernel)) (by rw[isSubtype_type]<;>kernel_rfl)
def Zt3:entryFor table "reversed.__next__"=J Builtin.«reversed.__next__»:=entryFor_of_tree (rfl)
def Zug(a):argsOk "reversed.__next__" ⟨[a],[]⟩:=by unfold argsOk;rw[signature?_of (n:=['_','_','t','x','e','n','_','_']) (rfl) own];trivial
def iter:Slot "reversed" "__iter__" "reversed.__iter__" :=
 .of (owner := "reversed") (n := "__iter__") (rfl) (rfl) (rfl) (rfl) (by first|exact .inl (by decide +kernel)|exact .inr (by decide +kernel)) (by rw[isSubtype_type]<;>kernel_rfl)
def ZyQ(a):argsOk "reversed.__iter__" ⟨[a],[]⟩:=by unfold argsOk;rw[signature?_of (n:=['_','_','r','e','t','i','_','_']) (rfl) own];trivial
def ZyA:entryFor table "reversed.__iter__"=J Builtin.«dict_keyiterator.__iter__» :=entryFor_alias (id' := "dict_keyiterator.__iter__") (rfl) (rfl) (by decide +kernel) (by kernel_rfl)
def ZxV:typeLookup (.type "tuple") "__reversed__"=pure M:=by rw[typeLookup_type]<;>kernel_rfl
def Zmy:isSubtype (.type "reversed") (.type "reversed")=pure Ws:=by rw[isSubtype_type]<;>kernel_rfl
def init:Slot "reversed" "__init__" "object.__init__" :=
 .of (owner := "object") (n := "__init__") (by rw[typeLookup_type]<;>kernel_rfl) (rfl) (rfl) (by decide +kernel) (by first|exact .inl (by decide +kernel)|exact .inr (by decide +kernel)) (by rw[isSubtype_type]<;>kernel_rfl)
def called:TypeCalled "reversed" "reversed.__new__" "object.__init__" := ⟨rfl,F.create_reversed,⟨_,_,F.mro_reversed⟩,F.made_reversed,by decide +kernel,Zmy,init⟩
noncomputable def obj(l:Yj)(i:Int):Obj:={cls:=.type "reversed",data:=.fields #[.ref l,rawInt i]}
def Is(h:YG)(a l:Yj)(i:Int):Prop:=∃o,h.get? a=J o/\o.cls=.type "reversed" /\ o.data=.fields #[.ref l,rawInt i]
section
variable {prog:Yi}{w:Yh}{A:YH}{E:Yk->Yb->Prop}{s:Yb}
def Is.typeIs(x:Is s.heap a l i):s.TypeIs (.ref a) "reversed" := let⟨o,ho,hc,_⟩:=x;⟨o,ho,hc⟩
def Is.at(x:Is h a l i)(e:∀o,h.get? a=J o->h'.get? a=J o):Is h' a l i:=let⟨o,ho,r⟩:=x;⟨o,e _ ho,r⟩
def new(hl:IsTup s.heap l items)(hz:items.size<=Yc)
 (h:Q (.ref s.heap.objs.size) {s with heap:=s.heap.push<|obj l<|items.size-1,toks:=s.toks+1+1}) :
 codeAny (model prog w) A (.call (.builtin "reversed.__new__") ⟨[.type "reversed",.ref l],[]⟩) (wants Q E) s:=by
 refine codeAny_of_tree<|Ya<|Wi (F.newCall_reversed_1 _)<|Yd ⟨plainId_quiet F.plain_reversed_new _,codeAny_builtin F.entry_reversed_new ?_⟩;rw[Around.under_plainId F.plain_reversed_new _];unfold Builtin.«reversed.__new__»;refine Ya (Wi (newClass_reversed _) ?_)
 try dsimp only
 refine Ya (Wi (a:=()) (by first|rfl|kernel_rfl)<|Ya<|Wi (a:=()) (by first|rfl|kernel_rfl) ?_)
 try dsimp only
 refine Ya (wpAny_specialOf hl.typeIs ZxV ?_)
 try dsimp only
 refine Ya ?_;show YB _ _ (isInstance (.ref l) (.type "dict") >>= λb=>_) _ _ s;refine Ya<|wpAny_isInstance hl.typeIs F.sub_tuple_dict ?_;show YB _ _ (specialOf (.ref l) "__getitem__" >>= λb=>_) _ _ s;refine Ya (wpAny_specialOf hl.typeIs slot_tuple_getitem.lookup<|Wi (a:=true) (by rfl) ?_);show YB _ _ (call (.builtin "len") [.ref l] >>= λb=>_) _ _ s;refine Ya (len_tuple hl (by have:=Zcl;lia) ?_);show YB _ _ (asInt? (.int _ _) >>= λb=>_) _ _ _;refine Ya<|Yd ?_;show YB _ _ (newObj (.type "reversed") (.fields #[.ref l,rawInt<|(items.size)-1]) >>= λb=>_) _ _ _;exact Ya (Yr<|Yd h)
theorem call(hl:IsTup s.heap l items)(hz:items.size<=Yc)
 (h:Q (.ref s.heap.objs.size) {s with heap:=s.heap.push<|obj l<|items.size-1,toks:=s.toks+1+1}):YB (model prog w) A (PySem.call (.type "reversed") [.ref l]) Q E s:=by
 refine callType_codes called (F.typeCall_reversed_1 _) F.entry_object_init (new (Q:=λo s1=>o=.ref s.heap.objs.size/\s1={s with heap:=s.heap.push<|obj l<|items.size-1,toks:=s.toks+1+1}) hl hz ⟨rfl,rfl⟩) ?_;rintro _ _ ⟨rfl,rfl⟩;exact⟨⟨_,Oj _ rfl,rfl⟩,F.args_object_init_2 _ _,object_init_meets init.lookup F.made_reversed (rfl) prog w _ _ _ ⟨⟨_,Oj _ rfl,rfl⟩,rfl,h⟩⟩
def next_item{it l}{i:Nat}{Q}(az:Is s.heap it l i)(hl:IsTup s.heap l items)(hz:items.size<=Yc)(hx:items[i]?=J x)
 (hQ:∀h' t',Is h' it l (i-1)->Heap.SameBut it s.heap h'->Q (J x) {s with heap:=h',toks:=t'}):YB (model prog w) A (pyNext<|.ref it) Q E s:=by
 obtain⟨o,ho,hc,hd⟩:=id az;have hi:i<items.size:=(Array.getElem?_eq_some_iff.mp hx).1;have nT:=Zcl;refine Ya<|wpAny_attempt<|YZ (name:=O "__next__") az.typeIs next (We next az.typeIs Zt3 (Ya<|Wi (a:=(YD it,[])) rfl<|Ya<|YQ ho hd (x:=.ref l) rfl<|Ya<|YQ ho hd (x:=rawInt<|i) rfl ?_) (Zug _));show YB _ _ (if (i:Int)<0 then _ else _) _ _ s;rw[if_neg<|by lia];show YB _ _ (specialOf (.ref l) "__getitem__" >>= λb=>_) _ _ s;refine Ya<|wpAny_specialOf hl.typeIs slot_tuple_getitem.lookup ?_;show YB _ _ (mkInt (i) >>= λb=>_) _ _ s;refine Ya (wpAny_mkInt<|Ya<|wpAny_attempt<|getItem_tuple (s:={s with toks:=s.toks+1}) (j:=i) (x:=x) hl (by lia) (by lia) (seqIndex_of (by lia)<|by lia) hx ?_);show YB _ _ (field (.ref it) 1 >>= λb=>_) _ _ _;refine Ya<|YQ ho hd (x:=rawInt<|i) rfl ?_;show YB _ _ (setField (.ref it) 1 (rawInt<|(i)-1) >>= λb=>_) _ _ _;exact Ya (wpAny_setField ho hd (by simp)<|Yd ⟨x,rfl,Yd<|hQ _ _ ⟨_,YU _ ho<|Obj.isFreed_of_fields<|YW hd _,(Obj.cls_mapFields ..).trans hc,by rw[YW hd]<;>simp⟩<|Heap.SameBut.update ..⟩)
def next_end(hh:A.handled=M)(az:Is s.heap it l (-1))(hQ:∀h',Heap.ExtBut it s.heap h'->Q M {s with heap:=h'}):YB (model prog w) A (pyNext<|.ref it) Q E s:=by
 obtain⟨o,ho,hc,hd⟩:=id az;refine Ya (wpAny_attempt<|YZ (name:=O "__next__") az.typeIs next (We next az.typeIs Zt3 (Ya<|Wi (a:=(YD it,[])) rfl ?_) (Zug _)))
 try dsimp only
 refine Ya<|YQ ho hd (x:=.ref l) rfl<|Ya<|YQ ho hd (x:=rawInt<|-1) rfl ?_;show YB _ _ (if (-1)<0 then _ else _) _ _ s;rw[if_pos<|by decide];refine Ya<|wpAny_rule ?_;show YB _ _ ((setField (.ref it) 1 (rawInt<|-1) >>= λ_=>setField (.ref it) 0 .none) >>= λb=>_) _ _ _;refine Ya (Ya (wpAny_setField ho hd (by simp) (wpAny_setField (YU (Obj.mapFields (·.setIfInBounds 1 (rawInt<|-1))) ho<|Obj.isFreed_of_fields<|YW hd _) (YW hd _) (by simp) ?_)));refine Ya ?_;show YB _ _ (newExc (.type "StopIteration") [] >>= λb=>_) _ _ _;refine Ya ?_;simp only;refine Ya (Yr (Ya (m:=firstArgMember _ _)<|Wi (a:=Value.none) (by first|rfl|(simp only[firstArgMember]<;>rfl))<|Yr ?_<|by size_fits)<|by size_fits);simp only;refine Ya<|wpAny_handled ?_;rw[show A.in1.handled=M from hh];refine Ya<|Yd<|wpAny_throw ?_;exact Ya (wpAny_isInstance (T := "StopIteration") (b:=true) ⟨_,Oj _ rfl,rfl⟩ isSubtype_stop<|Yd<|hQ _<|((((Heap.ExtBut.refl _ _).trans (Heap.SameBut.update ..).extBut).trans (Heap.SameBut.update ..).extBut).push _).push _)
def Zfz(az:Is s.heap it l i)(h:Q (.ref it) s):YB (model prog w) A (pyIter<|.ref it) Q E s:=wpAny_pyIter_slot az.typeIs iter (We iter az.typeIs ZyA (Yd ⟨_,rfl, "reversed",_,az.typeIs,next.lookup,h⟩)<|ZyQ _)
end
end Rv
noncomputable def Itv(K:Yl)(a:Yj)(n:Nat):It:=⟨λi H=>∃xs x,SqT K H a xs/\xs.length=n/\xs.reverse[i]?=J x,λi H x H'=>H'=H/\∀xs,SqT K H a xs->xs.reverse[i]?=J x,λi H=>∃xs,SqT K H a xs/\xs.length=n/\n=i⟩
def ZoT{P}{w}{K}{tg}(a it)(n):Turn P w K tg (Itv K a n) [it] it (λi h=>i<=n/\Rv.Is h it a (n-1-i)) where
 mem:=by simp
 obj:=λi h st b hb=>by
  have e:b=it:=by simpa using hb
  subst e;obtain⟨_,o,e,c,d⟩:=st;exact⟨o,e,λv z=>by rw[d]at z;cases z⟩
 keep:=λi h h' st k=>⟨st.1,st.2.at λo e=>k it (by simp) o e⟩
 item:=by
  intro X hP hw hK hc i ac s Z H E I hf st hg;subst hP hw hK;obtain⟨eP,st⟩:=st;obtain⟨xs,x,hq,fJ,hx⟩:=hg;obtain⟨its,rv,p,hz⟩:=I.tuple hq;have hl:=rv.length;have hi:i<xs.length:=by simpa using (Ob.mp hx).1
  have i7:xs[n-1-i]?=J x:=by rw[List.getElem?_reverse hi]at hx;rw[<-fJ];exact hx
  obtain⟨u,hu,ru⟩:=rv.get i7;obtain⟨f0,f1,f2,f3,f4,f5⟩:=hf it (by simp);have e1:(n)-1-(i)=((n-1-i:Nat):Int):=by lia
  rw[e1]at st;refine Rv.next_item st p (by simp;lia) (x:=u) (by simpa using hu) λh' t' bh sb=>?_;obtain⟨o,e,c,d⟩:=id bh;have e2:((n-1-i:Nat))-1=(n)-1-((i+1:Nat):Int):=by lia
  refine⟨u,rfl,Zis (s:={s with heap:=h',toks:=t'}) e c d (by decide) ⟨x,H,I.turned (t':=t') (λb o hb e=>(sb.2 b hb).trans e) f0 f1 f3 f4 f5,ru,⟨rfl,λys hy=>I.tuple_inj hy hq▸hx⟩,⟨by lia,by rw[<-e2];exact bh⟩,λb hb=>(hf b hb).1⟩⟩
 done:=by intro X hP hw hK hc i ac s Z H E I hf st hg;subst hP hw hK;obtain⟨xs,hq,fJ,hx⟩:=hg;obtain⟨f0,f1,f2,f3,f4,f5⟩:=hf it (by simp);have bF:=st.2;rw[show(n:Int)-1-(i:Nat)=-1 by lia]at bF;exact Rv.next_end (I.ok.hd hc) bF λh' eb=>⟨rfl,I.turned (t':=s.toks) (λb o hb e=>eb b o hb e) f0 f1 f3 f4 f5⟩
 self:=λ_ _ _ _ _ st h=>Rv.Zfz st.2 h
theorem ZdR:∀{vs}{ss},StrsAre vs ss->Zn (ss.map V.str) vs
 |_,_,.nil=>.nil
 |_,_,.cons y t h=>.cons ⟨t,rfl⟩ (ZdR h)
section
variable {prog:Yi}{w:Yh}{A:YH}{E:Yk->Yb->Prop}{s:Yb}
def Zk1
 (jC:∀qd ,(∀(h') (tk) (vs),s.heap.objs.size<=h'.objs.size->(∀b o,s.heap.get? b=J o->h'.get? b=J o)->StrsAre vs ss->qd vs {s with heap:=h',toks:=tk})->YB (model prog w) A.in1 (collect<|.ref r) qd E s)
 (kF:ss.length<64)
 (h:∀(D:Yj) (h') (tk) (out) (bq) (n),(∀b o,s.heap.get? b=J o->h'.get? b=J o)->s.heap.objs.size<=D->h'.get? D=J {cls:=.type "list",data:=.seq out.toArray n}->StrsAre out bq->bq.Perm ss->sortedS bq=Ws ->
  Q (.ref D) {s with heap:=h',toks:=tk}):YB (model prog w) A (call (.builtin "sorted") [.ref r]) Q E s:=by
 refine Calls.call_function_entry kind_sorted plain_sorted entry_sorted (args_sorted1 _)<|Ya (m:=checkCount "sorted" 1 1 _)<|Yd<|Ya<|jC _ λh' tk vs aR hk hS=>?_;have av:vs.length=ss.length:=by simpa using ((ZdR hS).length).symm
 refine Ya (wpAny_newList (Ya<|Wc<|We slot_list_sort ⟨_,Oj _ rfl,rfl⟩ entry_list_sort (list_sort_treeK strKind_oneLt (Oj _ rfl) hS.keysOf (λv₁ v₂ ag e=>keyKind_strs<|e▸hS) (by lia) λbh a1 a2=>⟨_,rfl,Yd ⟨_,rfl,?_⟩⟩)<|args_list_sort _) (by rw[YC];lia));obtain⟨bq,R,h2,h3⟩:=sorted_out_str hS a1 a2;obtain⟨e,he⟩:=sortedHeap_at (out:=(arrOf bh).map (·.2))<|Oj _ rfl;refine h h'.objs.size _ tk ((arrOf bh).map (·.2)).toList bq e (λb o q=>?_) aR (Array.toArray_toList.symm▸he) R h2 h3;have aC:=Yn<|hk b o q;rw[sortedHeap_old (Ou aC) (by rw[size_push'];exact Nat.lt_succ_of_lt aC)];exact Od _ (hk b o q)
def Zdw(K:PySem.W.KdlSrc prog w T r d n P OK)(hh:A.handled=M)(hok:OK s.heap)(hn:n<=Yc)
 (h:∀(h') (tk) (ai),s.heap.objs.size<=h'.objs.size->(∀b o,s.heap.get? b=J o->h'.get? b=J o)->ItemsOf P ai n->qd ai.toList {s with heap:=h',toks:=tk}) :
 YB (model prog w) A (collect<|.ref r) qd E s:=by
 refine Ya (wpAny_runValue (codeAny_builtin entry_proto_collect' (Ya (Yr (Yd ⟨plainId_quiet PySem.F.plain_list_iadd _,codeAny_builtin entry_list_iadd' (Yg (PySem.W.kdl_extend (A:=A) (s:={s with heap:=s.heap.push {cls:=.type "list",data:=.seq ([]).toArray}})
  (R:=λ(q) (s')=>∃(h':YG) (tk:Nat) (ai:Array Yk) (c:Nat),q=.ok (.ret<|.ref s.heap.objs.size)/\s'={s with heap:=h',toks:=tk}/\(∀b o,s.heap.get? b=J o->h'.get? b=J o)/\h'.get? s.heap.objs.size=J {cls:=.type "list",dict:=M,data:=.seq ai c,slots:=#[]}/\ItemsOf P ai n)
  K hh (K.keep _ _ hok λb _ o e=>Od _ e) s.heap.objs.size (Nat.ne_of_gt (K.there _ hok).1) (Nat.ne_of_gt (K.there _ hok).2) (.ref s.heap.objs.size) 0 (Oj _ rfl) (λh' tk ai c hk hS aw=>⟨h',tk,ai,c,rfl,rfl,λb o e=>hk b o (Ou<|Yn e)<|Od _ e,hS,aw⟩) hn) (λfin s' x=>?_) λe s' x=>?_)⟩)))))
 . cases fin with
   |done f=>obtain⟨h',tk,ai,c,e,rfl,hk,hS,aw⟩:=x;cases e;exact Ya (wpAny_load hS<|Yd<|h h' tk ai (Nat.le_of_lt<|Yn hS) hk aw)
   |again c₁=>refine⟨x.1,codeAny_mono x.2 λq s₂ y=>?_⟩;obtain⟨h',tk,ai,c,rfl,rfl,hk,hS,aw⟩:=y;exact Ya (wpAny_load hS<|Yd<|h h' tk ai (Nat.le_of_lt<|Yn hS) hk aw)
 . obtain⟨_,_,_,_,z,_⟩:=x;cases z
end
theorem Zez:∀{xs:List α}{ys:List β},Paired qd xs ys->∀{i:Nat}{x},xs[i]?=J x->∃y,ys[i]?=J y/\qd x y
 |_,_,.nil,i,x,e=>by trivial
 |_,_,.cons h r,0,x,e=>by simp_all
 |_,_,.cons h r,i+1,x,e=>by obtain⟨y,R,h2⟩:=Zez r (by trivial);exact⟨y,by trivial,h2⟩
theorem Zew:∀(ss) (vs),vs.length=ss.length->(∀(j:Nat) (v),vs[j]?=J v->∃x,ss[j]?=J x/\(ZP P w).is (YE x) v=Ws)->StrsAre vs ss
 |[],[],_,_=>.nil
 |s::ss,v::vs,hl,h=>by obtain⟨x,e,hx⟩:=h 0 v rfl;cases e;obtain⟨t,rfl⟩:=Value.isStrOf_shape hx;exact .cons s t (Zew ss vs (by simpa using hl) λj u hu=>h (j+1) u<|by trivial)
section
variable {X:Cx}
def Zpk(P:Yi)(w:Yh)(K:Yl):List V->Hp->VK->Prop:=λxs H Q=>∃a kvs ss,xs=[.ref a]/\Dk P w K H a kvs/\kvs.map (·.1)=ss.map YE/\ss.length<64/\∀p bq,H p=M->bq.Perm ss->sortedS bq=Ws->Q (.ref p) (upd H p<|.lst<|bq.map V.str)
def Zji(hc:X.A.handled=M):Z4 X (.builtin "sorted") (Zpk X.prog X.w X.K):=by
 intro ac s Z H xs us Q I r h;obtain⟨a,kvs,ss,rfl,hd,fO,kF,q⟩:=h;obtain⟨u,rfl,ru⟩:=vals1 r;cases ru;obtain⟨z,hm,vs,rel,dd⟩:=I.dk hd;obtain⟨ep,fW⟩:=dd.dictAt;have hl:=(Paired.length rel).symm;have bX:=by simpa using congrArg List.length fO
 have bx:∀(j:Nat) k x,vs[j]?=J (k,x)->∃y,ss[j]?=J y/\k=YE y:=λj k x e=>by
  have hj:j<vs.length:=(Ob.mp e).1;have R:kvs[j]?=J kvs[j]:=Og (by lia);obtain⟨u,hu,i9⟩:=Zez rel R;rw[e]at hu;cases hu;have h3:(kvs.map (·.1))[j]?=J kvs[j].1:=by rw[On,R];rfl
  rw[fO,On]at h3;obtain⟨y,hy,e3⟩:=Oo.mp h3;exact⟨y,hy,i9.1.symm.trans e3.symm⟩
 refine Zk1 (ss:=ss) (λqd hR=>Zdw (PySem.W.kdl_dict (knd:=ZP X.prog X.w) (kvs:=vs) (ep:=ep) hm) hc fW (by lia) λh' tk ai aR hk aw=>?_) kF λD h' tk out bq n hk hD ho hS hp hs=>?_
 . refine hR h' tk ai.toList aR hk (Zew (P:=X.prog) (w:=X.w) ss ai.toList (by rw[Array.length_toList,aw.1];lia) λj v hv=>?_);obtain⟨k,x,e,jt⟩:=aw.2 j v<|Array.getElem?_toList.symm.trans hv;obtain⟨y,hy,rfl⟩:=bx j k x e;exact⟨y,hy,jt⟩
 . refine⟨.ref D,_,I.laid (a:=D) (o:=.lst<|bq.map V.str) (t':=tk) hk hD ⟨by simpa using by rw[hp.length_eq];lia,out,n,ZdR hS,ho⟩,rfl,q D bq (I.hok.fresh hD) hp hs⟩
end
set_option tactic.hygienic true
theorem Zec:∀{ns}{vs},Zn (ns.map V.int) vs->IntsAre vs ns
 |[],vs,h=>by cases h;exact .nil
 |s::ss,vs,h=>by
  cases h with
  |cons R h2=>obtain⟨t,rfl⟩:=R;exact .cons s t (Zec h2)
noncomputable def Zf8(z:Str)(n:Nat):Str:=⟨(YK n z.cps).foldl (·++·) #[]⟩
theorem Zhg(a:Array Nat):∀(n) (i:Array Nat),((YK n a).foldl (·++·) i).size=i.size+n*a.size
 |0,i=>by simp
 |n+1,i=>by
  rw[List.replicate_succ,List.foldl_cons,Zhg a n<|i++a,Array.size_append,Nat.succ_mul]
  lia
def ZeU(z)(n):(Zf8 z n).length=n*z.length:=by show((YK n z.cps).foldl (·++·) #[]).size=_;rw[Zhg];simp;rfl
section
variable {X:Cx}
def Zou(hc:X.A.handled=M):Z4 X (.builtin "sum") (λxs H Q=>∃(a:Yj) (ns:List Int),xs=[.ref a]/\SqL X.K H a (ns.map V.int)/\Q (.int ns.sum) H):=by
 intro ac s Z H xs us Q I r h;obtain⟨a,ns,rfl,hq,q⟩:=h;obtain⟨u,rfl,ru⟩:=vals1 r;cases ru;obtain⟨its,rv,pl,hz⟩:=I.list hq;have hi:=Zec rv;obtain⟨ys,e⟩:=hi.allInts.items;refine sum_intListG hc (e▸pl.isList) λh' tk t' hk=>⟨.int ns.sum,H,I.kept hk,⟨t',?_⟩,q⟩
 have e2:=hi.numsOf;have e3:numsOf (intItems ys).toList=ns:=by rw[<-e];trivial
 rw[nums_intItems]at e3;rw[preSum_eq,List.take_of_length_le<|by simp,e3]
def Zsd:OpR X (binaryOp .Mult) (λx y H Q=>∃z n,x=.str z/\y=.int n/\0<=n/\n<=1000/\z.length<=1000/\Q (.str<|Zf8 z n.toNat) H):=by
 intro ac s Z H x y v u Q I rx ry h;obtain⟨z,n,rfl,rfl,h0,R,h2,q⟩:=h;obtain⟨t,rfl⟩:=rx;obtain⟨t2,rfl⟩:=ry;have hl:z.length*n.toNat<=1000000:=Nat.mul_le_mul h2 (by lia:n.toNat<=1000);have hs:(1000000)<=Yc:=by decide
 refine PySem.P.mul_str (by rw[decide_eq_false<|by lia,decide_eq_false<|by lia]<;>rfl) (λ_ _=>?_) (λ_ _=>?_) ?_
 . have h3:1<=n:=by lia
   have h4:(9223372036854775807)/n ≥ 1000:=by exact(Int.le_ediv_iff_mul_le<|by lia).mpr (by lia)
   show ¬ ((z.length) > (2^63-1)/n);rw[show(2^63-1:Int)=9223372036854775807 by decide]
   lia
 . unfold Builtin.Str.tooLong;exact decide_eq_false (by lia)
 . by_cases hn:n<1
   . rw[if_pos hn];refine⟨by decide,.str _,H,I.tok _,⟨_,rfl⟩,?_⟩;rw[show n.toNat=0 by lia]at q;exact q
   . rw[if_neg hn];by_cases h5:(n==1||z.length==0)=Ws
     . rw[if_pos h5];refine⟨.str _,H,I,⟨_,rfl⟩,?_⟩;have e:Zf8 z n.toNat=z:=by
        rw[Wo]at h5;rcases h5 with h5|h5
        . have e1:n.toNat=1:=by have:=eq_of_beq h5;lia
          rw[e1];unfold Zf8;simp
        . have e1:z.length=0:=eq_of_beq h5;have e2:(Zf8 z n.toNat).length=0:=by rw[ZeU,e1];simp
          have f:∀y:Str,y.length=0->y=⟨#[]⟩:=λy hy=>by cases y with|mk c=>rw[show c=#[]from Array.eq_empty_of_size_eq_zero hy]
          exact(f _ e2).trans (f z e1).symm
       rw[e]at q;exact q
     . rw[if_neg h5];refine⟨?_,.str _,H,I.tok _,⟨_,rfl⟩,q⟩;show(Zf8 z n.toNat).length<=Yc;rw[ZeU,Nat.mul_comm]
       lia
def ZiZ(hi:i.natAbs<2^2000)(hj:j.natAbs<2^2000):IntMulOk i j:=by
 have ge:∀k ,k.natAbs<2^2000->Builtin.Int.intBits k<=2000:=λk hk=>by
  unfold Builtin.Int.intBits;split
  . lia
  . rename_i h;have:=(Nat.log2_lt<|by simpa using h).mpr hk
    lia
 have R:=ge i hi;have h2:=ge j hj;have h3:Builtin.Int.intTooBig (Builtin.Int.intBits i+Builtin.Int.intBits j)=Wt:=by
  unfold Builtin.Int.intTooBig;have:bitsLine=134217728:=rfl;rw[this]
  lia
 intro q
 simp_all
def Zn4:OpR X (binaryOp .Mult) (rI (λi j=>i.natAbs<2^2000/\j.natAbs<2^2000) λi j=>.int<|i*j):=opI λ_ _ _ _ _ _ _ hc q=>mul_int q (ZiZ hc.1 hc.2)
noncomputable def Zxy(K:Yl):R2:=λx y H Q=>∃a b ys,x=.ref a/\y=.ref b/\SqT K H a []/\SqT K H b ys/\Q (.ref b) H
def Zsg:OpR X (binaryOp .Add) (Zxy X.K):=by
 intro ac s Z H x y v u Q I rx ry h;obtain⟨a,b,ys,rfl,rfl,ha,hb,q⟩:=h;cases rx;cases ry;obtain⟨its,r1,ht,_⟩:=I.tuple ha;obtain⟨aF,r2,hb,_⟩:=I.tuple hb;cases r1;obtain⟨⟨cls,dd,data,sl⟩,ho,hc,n,hd⟩:=id ht;obtain⟨⟨jM,gX,data2,gu⟩,dI,jE,n2,jB⟩:=id hb;subst hc hd jE jB;exact concat_meets ⟨_,ho,rfl⟩ ⟨_,dI,rfl⟩ noFill_tuple_add seq_tuple_add PySem.F.slot_tuple_add PySem.F.entry_tuple_add (PySem.F.args_tuple_add_2 _ _)
  (tuple_addW0 a b _ _ n n2 dd gX sl gu<|rfl) ⟨ho,dI,⟨.ref b,H,I,rfl,q⟩⟩
end
end L2
namespace HT
open PySem PyProof.Rows
section
variable {prog:Yi}{w:Yh}{A:YH}{E:Yk->Yb->Prop}{s:Yb}
theorem Zd4{t sl}{items}{lo hi}{Q}(ht:IsTup s.heap t items)(hs:s.heap.IsSliceOf sl vl vu .none)(pl:IsPart vl lo)(pu:IsPart vu hi)
   (hw:sIx items.size 0 lo=0/\sIx items.size items.size hi=items.size) (h:Q (.ref t) s):YB (model prog w) A (getItem (.ref t)<|.ref sl) Q E s:=by
 obtain⟨os,dE,gN,fR⟩:=id hs;unfold getItem
 try with_reducible refine Wc ?_
 refine Ya (wpAny_sequenceKey ht.typeIs (by decide) (Ya (YZ (name:=O "__getitem__") ht.typeIs Wh
   (We Wh ht.typeIs entry_tuple_getitem ?_<|args_tuple_getitem _ _))))
 show YB _ _ (Builtin.Tuple.tupleItemsOf (.ref t) >>= _) _ _ s;refine Ya<|tupleItemsOf_ ht<|Ya<|wpAny_typeOf ⟨os,dE,gN⟩<|Ya<|Zcs hs pl pu ?_;show YB _ _ (if (((sIx items.size 0 lo):Int)==0&&(1)==1&&(sIx items.size items.size hi-sIx items.size 0 lo)==items.size)=Ws then _ else _) _ _ s;rw [if_pos (by
   rw [hw.1,hw.2];simp)]
 refine Ya<|Ya<|wpAny_typeOf ht.typeIs<|Yd ?_;rw [if_pos<|by decide];exact Ya (wpAny_rule<|Yd ⟨_,rfl,Yd h⟩)
end
end HT
namespace L2
open PySem PySem.Spec PyProof.Rows
section
variable {X:Cx}
def Zzz(K:Yl):V->Option Int->Option Int->Hp->VK->Prop:=λx lo hi H Q=>∃a xs,x=.ref a/\SqT K H a xs /\
 (HT.sIx xs.length 0 lo=0/\HT.sIx xs.length xs.length hi=xs.length)/\Q (.ref a) H
def Zo4:SlR X (Zzz X.K):=by intro ac s Z H x v vl vu lo hi sl Q I rx hs pl pu h;obtain⟨a,xs,rfl,hx,hw,q⟩:=h;cases rx;obtain⟨its,r,ht,hz⟩:=I.tuple hx;have av:its.toArray.size=xs.length:=r.length.symm;exact⟨"tuple",_,PyProof.Rows.slot_tuple_getitem.lookup,ht.typeIs,HT.Zd4 ht hs pl pu (by rw[av];trivial) ⟨.ref a,H,I,rfl,q⟩⟩
end
end L2
namespace L2
set_option tactic.hygienic false
namespace Mx
open PySem PyProof.Rows
def nm:toString "max" ++ toString ".loop"="max.loop" := rfl
section
variable {prog:Yi}{w:Yh}{A:YH}{Z_:Result->Yb->Prop}{qa:Yj}{fo wo:List Yj}{m:Nat}{P:Nat->Yk->Prop}{S_:Nat->YG->Prop}
theorem loop(W:Walks prog w A.in1 qa fo wo m P S_)(bt)(hb:CmpOf prog w A.in1 .Gt P bt)(C)(hC:C ∉ fo)(kw):∀(d j) (s) (u) (c),
 m-(j+1)=d->j+1<=m->S_ (j+1) s.heap->P (argBest bt j) u->s.heap.get? C=J {cls:=.type "list",dict:=M,data:=.seq #[u,u] c,slots:=#[]} ->
 (∀v hp tk,P (argBest bt<|m-1) v->(∀b o,b ∉ wo->b≠C->s.heap.get? b=J o->hp.get? b=J o)->Z_ (.ok<|.ret v) {s with heap:=hp,toks:=tk}) ->
 codeAny (model prog w) A (.builtin "max.loop" ⟨[.ref qa,.none,.ref C],kw⟩) Z_ s:=by
 have kE:=λz=>hC<|W.sub _ z;intro d;induction d with
 |zero=>
  intro j s u c e1 e2 st pu hc hz;have em:j+1=m:=by omega
  refine codeAny_builtin PySem.F.entry_max_loop ?_;rw[Around.under_plainId YS _];show YB (model prog w) A.in1 (seqItems? (YD C) >>= _) _ _ s;refine Ya<|wpAny_seqItems hc rfl ?_;show YB (model prog w) A.in1 (tryCatch (pyNext<|YD qa) _ >>= _) _ _ s;refine Ya<|wpAny_tryCatch<|W.done s _ _ (em▸st) λhp tk kp=>?_;have cK:=kp C _ kE hc;show YB (model prog w) A.in1 (updateSeq C (λ_=>#[]) >>= _) _ _ _;exact Ya (wpAny_updateSeq cK rfl<|Ya<|wpAny_letGo<|Yd<|hz u _ tk (em▸pu) λb o b1 b2 e=>(YN _ _<|YL b2).trans<|kp b o b1 e)
 |succ d ih=>
  intro j s u c e1 e2 st pu hc hz;have lt:j+1<m:=by omega
  refine codeAny_builtin PySem.F.entry_max_loop ?_;rw[Around.under_plainId YS _];show YB (model prog w) A.in1 (seqItems? (YD C) >>= _) _ _ s;refine Ya<|wpAny_seqItems hc rfl ?_;show YB (model prog w) A.in1 (tryCatch (pyNext<|YD qa) _ >>= _) _ _ s;refine Ya<|wpAny_tryCatch<|W.item (j+1) s _ _ lt st λv hp tk pv bF kp=>?_;have cK:=kp C _ kE hc;show YB (model prog w) A.in1 (tryCatch (holding [v,v]<|richCompare CmpOp.Gt v u >>= _) _ >>= _) _ _ _;refine Ya<|wpAny_tryCatch<|Wc<|Ya<|hb (j+1) (argBest bt j) v u _ _ _ pv pu<|Ya<|Wc<|wpAny_truthy_bool<|Ya<|wpAny_letGo<|Yd ?_;cases q:bt (j+1) (argBest bt j)with
  |true=>
   simp only;refine Ya<|wpAny_updateSeq cK rfl<|Ya<|wpAny_letGo ?_;rw[nm];refine Yd ⟨plainId_quiet YS _,ih (j+1) _ v _ (by omega) lt (W.frame _ _ _ bF λb b1 o e=>?_) (by simp only[argBest,q,if_true];exact pv) (YU _ cK rfl) λv2 dD fc fj fF=>?_⟩
   . exact(YN _ _ (λz:C=b=>hC (by rw[z];exact b1))).trans e
   . exact hz v2 dD fc fj λb o b1 b2 e=>fF b o b1 b2 ((YN _ _<|YL b2).trans<|kp b o b1 e)
  |false=>simp only[OG,if_false];refine Ya<|wpAny_letGo ?_;rw[nm];exact Yd ⟨plainId_quiet YS _,ih (j+1) _ u c (by omega) lt bF (by simp only[argBest,q,OG,if_false];exact pu) cK λv2 dD fc fj fF=>hz v2 dD fc fj λb o b1 b2 e=>fF b o b1 b2<|kp b o b1 e⟩
def first(W:Walks prog w A.in1 qa fo wo m P S_)(bt)(hb:CmpOf prog w A.in1 .Gt P bt)(C)(hC:C ∉ fo)(dn)(dv)(st:S_ 0 s.heap)
 (hc:s.heap.get? C=J {cls:=.type "list",dict:=M,data:=.seq #[] c,slots:=#[]})
 (hz:∀v hp tk,(m=0->v=dv)->(0<m->P (argBest bt<|m-1) v)->(∀b o,b ∉ wo->b≠C->s.heap.get? b=J o->hp.get? b=J o)->Z_ (.ok<|.ret v) {s with heap:=hp,toks:=tk}) :
 codeAny (model prog w) A (.builtin "max.loop" ⟨[.ref qa,.none,.ref C],[(dn,dv)]⟩) Z_ s:=by
 refine codeAny_builtin PySem.F.entry_max_loop<|Ya<|wpAny_seqItems hc rfl ?_;show YB (model prog w) A.in1 (tryCatch (pyNext<|YD qa) _ >>= _) _ _ s;by_cases hm:0<m
 . refine Ya (wpAny_tryCatch<|W.item 0 s _ _ hm st λv hp tk pv bF kp=>?_);have cK:=kp C _ (λz=>hC<|W.sub _ z) hc;show YB (model prog w) A.in1 (updateSeq C (λ_=>#[v,v]) >>= _) _ _ _;refine Ya<|wpAny_updateSeq cK rfl ?_;rw[nm];refine Yd ⟨plainId_quiet YS _,loop W bt hb C hC _ _ 0 _ v _ rfl hm (W.frame _ _ _ bF λb b1 o e=>?_) pv (YU _ cK rfl) λv2 dD fc fj fF=>?_⟩
   . exact(YN _ _ (λz:C=b=>hC<|z▸b1)).trans e
   . exact hz v2 dD fc (λz=>by omega) (λ_=>fj) λb o b1 b2 e=>fF b o b1 b2 ((YN _ _<|YL b2).trans<|kp b o b1 e)
 . have h0:m=0:=by omega
   exact Ya (wpAny_tryCatch<|W.done s _ _ (h0▸st) λhp tk kp=>Ya<|wpAny_rule<|Yd<|hz dv hp tk (λ_=>rfl) (λz=>absurd z hm) λb o b1 _ e=>kp b o b1 e)
end
section
variable {prog:Yi}{w:Yh}{A:YH}{E:Yk->Yb->Prop}{s:Yb}
def args(a d):argsOk "max" ⟨[a],[("default",d)]⟩:=rfl
theorem call
 (h:YB (model prog w) A.in1 (pyIter x) (λit s2=>∃qa fo wo m P S_ bt,it=.ref qa/\Walks prog w A.in1 qa fo wo m P S_/\S_ 0 s2.heap/\(∀b∈fo,b<s2.heap.objs.size)/\CmpOf prog w A.in1 .Gt P bt /\
  ∀v hp tk,(m=0->v=dv)->(0<m->P (argBest bt<|m-1) v)->(∀b o,b ∉ wo->s2.heap.get? b=J o->hp.get? b=J o)->Q v {s2 with heap:=hp,toks:=tk}) E s) :
 YB (model prog w) A (PySem.call (.builtin "max") [x] [("default",dv)]) Q E s:=by
 refine wpAny_call<|codeAny_call_builtin PySem.F.plain_max PySem.F.entry_max ?_;simp only[checkBuiltinCall,PySem.F.kind_max];have go:YB (model prog w) A.in1 (Builtin.«max» ⟨[x],[("default",dv)]⟩) (λfin s'=>match fin with
  |.done f=>(match Except.ok f with|.ok (.ret v)=>Q v s'|.ok _=>False|.error e=>E e s')
  |.again c'=>c'.quiet=Ws/\codeAny (model prog w) A c' (λr s'=>match r with|.ok (.ret v)=>Q v s'|.ok _=>False|.error e=>E e s') s') E s:=by
  show YB (model prog w) A.in1 (Builtin.Builtins.bindParams "max" ["key", "default"] 0 ⟨[],[("default",dv)]⟩ >>= _) _ _ s;refine Ya<|Wi (show Builtin.Builtins.bindParams "max" ["key", "default"] 0 ⟨[],[("default",dv)]⟩=pure [M,J dv]from rfl)<|Ya<|Yd<|Ya<|Yg h (λit s2 q=>?_) λ_ _ e=>e;obtain⟨qa,fo,wo,m,P,S_,bt,rfl,W,st,jx,hb,hQ⟩:=q;refine Ya<|Yr ?_;rw[nm];exact Yd ⟨plainId_quiet YS _,first W bt hb s2.heap.objs.size (λz=>Yw _<|jx _ z) _ dv (W.frame _ _ _ st λb _ o e=>Od _ e) (Oj _ rfl) λv hp tk a1 a2 kp=>hQ v hp tk a1 a2 λb o b1 e=>kp b o b1 (Ou<|Yn e)<|Od _ e⟩
 cases hs:Manifest.signature? "max" with
 |none=>exact Yd go
 |some sig=>have ha:=args x dv;simp only[argsOk,hs]at ha;show YB _ A.in1 (Bind.checkArgs "max" sig ⟨[x],[("default",dv)]⟩) _ _ s;rw[ha];exact Yd go
end
end Mx
end L2
namespace L2
open PySem PySem.Spec PyProof.Rows
set_option tactic.hygienic false
noncomputable def Zfw:List Int->Int->Int
 |[],d=>d
 |x::r,_=>r.foldl (λm y=>if y > m then y else m) x
theorem ZiG(ns:List Int):∀k,k<ns.length->(argBest (λi j=>Wu<|ns.getD i 0 > ns.getD j 0) k)<ns.length/\ns.getD (argBest (λi j=>Wu<|ns.getD i 0 > ns.getD j 0) k) 0=Zfw (ns.take<|k+1) 0
 |0,h=>by
  cases ns with
  |nil=>simp_all
  |cons x r=>trivial
 |k+1,h=>by
  obtain⟨R,h2⟩:=ZiG ns k (by omega);have e:Zfw (ns.take<|k+1+1) 0=if ns.getD (k+1) 0 > Zfw (ns.take<|k+1) 0 then ns.getD (k+1) 0 else Zfw (ns.take<|k+1) 0:=by
   cases ns with
   |nil=>simp_all
   |cons x r=>
    have hk:=by simpa using h
    show((r.take<|k+1).foldl _ x)=_;rw[List.take_succ_eq_append_getElem hk,List.foldl_append];have:(x::r).getD (k+1) 0=r[k]:=by simp[List.getD_eq_getElem?_getD,Og hk]
    rw[this];rfl
  rw[e,<-h2];have ea:argBest (λi j=>Wu<|ns.getD i 0 > ns.getD j 0) (k+1)=if Wu (ns.getD (k+1) 0 > ns.getD (argBest (λi j=>Wu<|ns.getD i 0 > ns.getD j 0) k) 0)=Ws then k+1 else argBest (λi j=>Wu<|ns.getD i 0 > ns.getD j 0) k:=rfl;rw[ea];by_cases q:ns.getD (k+1) 0 > ns.getD (argBest (λi j=>Wu<|ns.getD i 0 > ns.getD j 0) k) 0
  . rw[if_pos<|decide_eq_true q,if_pos q];exact⟨h,rfl⟩
  . rw[if_neg<|by simpa using q,if_neg q];exact⟨R,rfl⟩
section
variable {X:Cx}
def Zp7(hc:X.calm=Ws)(I:Inv X ac Z H s)(hx:SqL X.K H a (ns.map V.int))(q:Q (.int<|Zfw ns d) H):
 YB (model X.prog X.w) X.A (PySem.call (.builtin "max") [.ref a] [("default",.int d t)]) (EP X ac Z Q) X.xe s:=by
 obtain⟨its,rv,pl,hz⟩:=I.list hx;have aC:a<s.heap.objs.size:=by obtain⟨_,_,e,_⟩:=pl;exact Yn e
 have hl:=by have:=rv.length;rw[Yu]at this;exact this.symm
 have val:∀{i:Nat}{v:Yk},its.toArray[i]?=J v->i<ns.length/\∃t,v=.int (ns.getD i 0) t:=λ{i v} hv=>by
  have cf:its[i]?=J v:=by simpa using hv
  have hi:i<ns.length:=hl▸(Ob.mp cf).1;obtain⟨u',e',r'⟩:=rv.get (by rw[On,Og hi]<;>rfl);rw[cf]at e';cases e';obtain⟨t,rfl⟩:=r';exact⟨hi,t,by simp[List.getD_eq_getElem?_getD,Og hi]⟩
 refine Mx.call (wpAny_pyIter_list pl.isList ⟨s.heap.objs.size,_,_,_,_,_,λi j=>Wu<|ns.getD i 0 > ns.getD j 0,rfl,Walks.list (A:=X.A.in1) (show X.A.in1.handled=M from I.ok.hd hc) s.heap.objs.size a (Ou aC) its.toArray,⟨⟨_,Oj _ rfl,rfl,rfl⟩,pl.isList.push _⟩,?_,?_,λv hp tk a1 a2 kp=>?_⟩)
 . intro b hb;simpa[Heap.push]using by
    simp at hb;rcases hb with rfl|rfl
    . exact OH _
    . exact Nat.lt_succ_of_lt aC
 . exact CmpOf.ints_gt (λi=>ns.getD i 0) λi v hv=>(val hv).2
 . refine⟨.int<|Zfw ns d,H,I.kept λb o e=>kp b o (λz=>?_)<|Od _ e,?_,q⟩
   . have:b=s.heap.objs.size:=by simpa using z
     subst this;exact absurd (Yn e) (Yw _)
   . have aR:its.toArray.size=ns.length:=by rw[Of,hl]
     by_cases h0:ns=[]
     . subst h0;have:=a1 (by rw[aR];rfl);subst this;exact⟨t,rfl⟩
     . have mf:0<ns.length:=List.length_pos_iff.mpr h0;obtain⟨_,t3,ev⟩:=val<|a2<|aR▸mf;refine⟨t3,?_⟩;rw[ev,aR,(ZiG ns (ns.length-1)<|by omega).2,List.take_of_length_le<|by omega];cases ns with
       |nil=>exact absurd rfl h0
       |cons x r=>rfl
def Zw6(K:Yl)(ta tb:TE):TE:=λZ H Q=>ta Z H λv H1=>tb Z H1 λu H2=>∃a ns d,v=.ref a/\u=.int d/\SqL K H2 a (ns.map V.int)/\Q (.int<|Zfw ns d) H2
def Zr3(hg:Gl X "max")(hm:X.mg "max"=M)(hc:X.calm=Ws)(ha:PE X x ta)(hb:PE X y tb)(he:YA [x] X.env=[(Wt,eval x X.env)]):
 PE X (.Call (.Name "max" p) [x] [⟨J "default",y,kp⟩] pos) (Zw6 X.K ta tb):=by
 intro ac s Z H Q I h;refine YV (Zcm I hg hm boot_max<|PyProof.Rows.callWith_kw ?_ (by rw[he];rfl) (by rw[he];rfl));rw[he];refine Calls.spliced_cons<|thn (ha ac s Z H _ I h) λv s1 ⟨vv,H1,I1,r1,q1⟩=>Calls.spliced_nil<|kws_cons<|thn (hb ac s1 Z H1 _ I1 q1) λu s2 ⟨uu,H2,I2,r2,q2⟩=>kws_nil ?_;obtain⟨a,ns,d,rfl,rfl,hq,q⟩:=q2;cases r1;obtain⟨t,rfl⟩:=r2;exact Zp7 hc I2 hq q
end
end L2
namespace L2
open PySem PySem.Spec PyProof PyProof.Rows PySem.AutoSeq1
set_option maxRecDepth 8000 in
def ZlN(l:Yj)(items:Array Yk)(n:Nat)(b:Yj)(aP:Array Yk)(n2:Nat)(od:Option Yj)(sl:Array (Option Yk))(nW:¬(!items.isEmpty&&Wj (items.size+aP.size))=Ws)(lZ:items.size<=Yc)(gK:items.size+aP.size<=Yc+1):
 Meets (Builtin.«list.extend» ⟨[.ref l,.ref b],[]⟩) (λ_ qd s=>s.heap.get? l=J {cls:=.type "list",dict:=M,data:=.seq items n,slots:=#[]}/\s.heap.get? b=J {cls:=.type "tuple",dict:=od,data:=.seq aP n2,slots:=sl}/\qd (.ok<|.ret Value.none) {s with heap:=s.heap.update l<|Obj.mapSeq λx=>x++aP,toks:=s.toks}):=
 .of_wp λprog w A qd s h=>by
  obtain⟨hp,g,d,tk,os⟩:=s;obtain⟨hl,hb,h⟩:=h;have f1:=idx_int;have f2:=AutoSeq1.sub_tuple_tuple;have f3:=AutoSeq1.sub_list_list;have f4:=AutoSeq1.sub_tuple_list;have f5:=AutoSeq1.sub_list_tuple;have lQ:(items++aP).size<=Yc+1:=by rw[Array.size_append];exact gK
  wp_walk using (wpAny_updateSeq hl rfl (hz:=lZ) (_hz':=lQ)),wpAny_loadPart' hl,wpAny_loadPart' hb;exact⟨_,rfl,h⟩
section
variable {X:Cx}
def Zpm(K:Yl):V->List V->Hp->VK->Prop:=λx vs H Q=>∃l b xs zs,x=.ref l/\vs=[.ref b]/\H l=J (.lst xs)/\SqT K H b zs/\xs.length+zs.length<=Yc/\Q .non (upd H l<|.lst<|xs++zs)
theorem Zlr:MtM X "list.extend" (Zpm X.K):=by
 intro ac s Z H x vs v us Q I rx rv h;obtain⟨l,b,xs,zs,rfl,rfl,hH,hB,hz,q⟩:=h;cases rx;obtain⟨u,rfl,ru⟩:=rv.one;cases ru;obtain⟨z,its,n,r,hl,e⟩:=I.lstM hH;obtain⟨aF,r2,⟨o,e2,oc,n2,od⟩,z2⟩:=I.tuple hB;obtain⟨cls,dc,oE,sl⟩:=o;subst oc;subst od;have bX:=r2.length;have aR:its.toArray.size+aF.toArray.size<=Yc:=by simp_all
 refine call_meets F.slot_list_extend ⟨_,e,rfl⟩ F.entry_list_extend (F.args_list_extend_2 _ _)
   (ZlN l its.toArray n b aF.toArray n2 dc sl (by
   rw [Zj2 aR];simp) (by simp_all) (by lia)) ⟨e,e2,⟨.non,_,I.lset hH e (by simp) (r.append r2) ?_,rfl,q⟩⟩
 simp_all
end
end L2
namespace L2
open PySem PySem.Spec PyProof.Rows
noncomputable def Zww(K:Yl)(a:Yj)(n:Nat):It:=⟨λi H=>∃xs x,SqL K H a xs/\xs.length=n/\xs.reverse[i]?=J x,λi H x H'=>H'=H/\∀xs,SqL K H a xs->xs.reverse[i]?=J x,λi H=>∃xs,SqL K H a xs/\xs.length=n/\n=i⟩
def ZnE{P}{w}{K}{tg}(a it)(n):Turn P w K tg (Zww K a n) [it] it (λi h=>i<=n/\h.IsRevIter it a (n-1-i)) where
 mem:=by simp
 obj:=λi h st b hb=>by
  have e:=by simpa using hb
  subst e;obtain⟨_,o,e,c,d⟩:=st
  simp_all
 keep:=λi h h' st k=>⟨st.1,st.2.at λo e=>k it (by simp) o e⟩
 item:=by
  intro X hP hw hK hc i ac s Z H E I hf st hg;subst hP hw hK;obtain⟨eP,st⟩:=st;obtain⟨xs,x,hq,fJ,hx⟩:=hg;obtain⟨its,rv,p,hz⟩:=I.list hq;have hl:=rv.length;have hi:i<xs.length:=by simpa using (Ob.mp hx).1
  have i7:xs[n-1-i]?=J x:=by rw[List.getElem?_reverse hi]at hx;rw[<-fJ];exact hx
  obtain⟨u,hu,ru⟩:=rv.get i7;obtain⟨f0,f1,f2,f3,f4,f5⟩:=hf it (by simp);have e1:(n)-1-(i)=((n-1-i:Nat):Int):=by lia
  rw[e1]at st;refine wpAny_pyNext_rev_item st p.isList (x:=u) (by simpa using hu) λh' bh sb=>?_;obtain⟨o,e,c,d⟩:=id bh;have e2:((n-1-i:Nat))-1=(n)-1-((i+1:Nat):Int):=by lia
  exact⟨u,rfl,Zis (s:={s with heap:=h'}) e c d (by decide) ⟨x,H,I.turned (t':=s.toks) (λb o hb e=>(sb.2 b hb).trans e) f0 f1 f3 f4 f5,ru,⟨rfl,λys hy=>I.list_inj hy hq▸hx⟩,⟨by lia,e2▸bh⟩,λb hb=>(hf b hb).1⟩⟩
 done:=by intro X hP hw hK hc i ac s Z H E I hf st hg;subst hP hw hK;obtain⟨xs,hq,fJ,hx⟩:=hg;obtain⟨f0,f1,f2,f3,f4,f5⟩:=hf it (by simp);have bF:=st.2;rw[show(n:Int)-1-(i:Nat)=-1 by lia]at bF;exact wpAny_pyNext_rev_end (I.ok.hd hc) bF λh' eb=>⟨rfl,I.turned (t':=s.toks) (λb o hb e=>eb b o hb e) f0 f1 f3 f4 f5⟩
 self:=λ_ _ _ _ _ st h=>wpAny_pyIter_revIter st.2 h
def Zyo(K:Yl)(ta:TA):TI:=λZ H qd=>ta Z H λvs H1=>∃a xs,vs=[.ref a]/\((SqT K H1 a xs/\qd (Itv K a xs.length) H1)\/(SqL K H1 a xs/\qd (Zww K a xs.length) H1))
def Zr0{X}{tg l}{ta}{p pos}(hg:Gl X "reversed")(hm:X.mg "reversed"=M)(ha:PA X [l] ta)(hs:YA [l] X.env=[(Wt,eval l X.env)]:=by rfl):
 PI X tg (.Call (.Name "reversed" p) [l] [] pos) (Zyo X.K ta):=by
 intro ac s Z H qd I h;refine Call_<|Zcm I hg hm boot_reversed<|PyProof.Rows.callWith_type1 (thn (ha pos ac s Z H _ I h) λus s1 ⟨vs,H1,I1,r1,q1⟩=>?_) hs rfl;obtain⟨a,xs,rfl,q⟩:=q1;obtain⟨u,rfl,ru⟩:=vals1 r1;obtain rfl:u=YD a:=ru;rcases q with⟨hq,q⟩|⟨hq,q⟩
 . obtain⟨its,rv,pl,hz⟩:=I1.tuple hq;have hl:=rv.length;refine Rv.call pl (by simp;lia) ?_;have e1:(its.toArray.size)-1=(xs.length)-1-((0:Nat):Int):=by simp;lia
   have st:Rv.Is (s1.heap.push<|Rv.obj a<|(its.toArray.size)-1) s1.heap.objs.size a ((xs.length)-1-((0:Nat))):=⟨_,Oj _ rfl,rfl,by rw[<-e1];rfl⟩
   refine Rv.Zfz st ⟨s1.heap.objs.size,[s1.heap.objs.size],_,_,H1,rfl,I1.kept (t':=s1.toks+1+1) λb o e=>Od _ e,ZoT a _ xs.length,⟨Yy _,st⟩,λb hb=>?_,q⟩;have e:b=s1.heap.objs.size:=by simpa using hb
   subst e;exact I1.fpOk (Oq _) (I1.hok.fresh<|Oq _)
 . obtain⟨its,rv,pl,hz⟩:=I1.list hq;have hl:=rv.length;refine call_reversed_list pl.isList ?_;have e1:(its.toArray.size)-1=(xs.length)-1-((0:Nat):Int):=by simp;lia
   have st:(s1.heap.push<|revObj a<|(its.toArray.size)-1).IsRevIter s1.heap.objs.size a ((xs.length)-1-((0:Nat))):=⟨_,Oj _ rfl,rfl,by rw[<-e1];rfl⟩
   refine wpAny_pyIter_revIter st ⟨s1.heap.objs.size,[s1.heap.objs.size],_,_,H1,rfl,I1.kept (t':=s1.toks) λb o e=>Od _ e,ZnE a _ xs.length,⟨Yy _,st⟩,λb hb=>?_,q⟩;have e:b=s1.heap.objs.size:=by simpa using hb
   subst e;exact I1.fpOk (Oq _) (I1.hok.fresh<|Oq _)
set_option tactic.hygienic false
namespace Rv
def ZvP:Slot "reversed" "__length_hint__" "reversed.__length_hint__" :=
 .of (owner := "reversed") (n := "__length_hint__") (rfl) (rfl) (rfl) (rfl) (by first|exact .inl (by decide +kernel)|exact .inr (by decide +kernel)) (by rw[isSubtype_type]<;>kernel_rfl)
def ZyB:entryFor table "reversed.__length_hint__"=J Builtin.«reversed.__length_hint__»:=entryFor_of_tree (rfl)
def ZyR(a):argsOk "reversed.__length_hint__" ⟨[a],[]⟩:=by unfold argsOk;rw[signature?_of (n:=['_','_','t','n','i','h','_','h','t','g','n','e','l','_','_']) (rfl) own];trivial
def ZxW:typeLookup (.type "reversed") "__len__"=pure M:=by rw[typeLookup_type]<;>kernel_rfl
section
variable {prog:Yi}{w:Yh}{A:YH}{E:Yk->Yb->Prop}{s:Yb}
def walks(hh:A.handled=M)(I l)(dJ:l≠I)(items)(hz:items.size<=Yc):
 Walks prog w A I [I,l] [I] items.size (λi v=>items[items.size-1-i]?=J v) (λi h=>i<=items.size/\Is h I l (items.size-1-i)/\IsTup h l items) where
 sub:=λb hb=>by simp_all
 frame:=λ_ _ _ x hk=>⟨x.1,x.2.1.at λo e=>hk I (by simp) o e,let⟨o,e,r⟩:=x.2.2;⟨o,hk l (by simp) o e,r⟩⟩
 item:=λi s Q E hi x hQ=>by have az:=x.2.1;rw[show(items.size)-1-(i)=((items.size-1-i:Nat):Int) by lia]at az;refine next_item az x.2.2 hz (Array.getElem?_eq_getElem<|by lia) λh' t' bA bV=>?_;rw[show((items.size-1-i:Nat))-1=(items.size)-1-((i+1):Int) by lia]at bA;exact hQ _ h' t' (Array.getElem?_eq_getElem<|by lia) ⟨hi,bA,let⟨o,e,r⟩:=x.2.2;⟨o,(bV.2 l dJ).trans e,r⟩⟩ λb o hb eo=>bV.extBut b o (λh=>hb<|by simp[h]) eo
 done:=λs Q E x hQ=>by have az:=x.2.1;rw[show(items.size)-1-(items.size:Int)=-1 by lia]at az;exact next_end hh az λh' mR=>hQ h' s.toks λb o hb eo=>mR b o (λh=>hb<|by simp[h]) eo
 self:=λ_ _ _ _ x hQ=>Zfz x.2.1 hQ
def ZsQ(az:Is s.heap it l (items.size-1))(hl:IsTup s.heap l items)(hz:items.size<=Yc)
 (hQ:∀u tk,s.toks<=tk->Q (.int items.size u) {s with toks:=tk}):YB (model prog w) A (PySem.call (.builtin "reversed.__length_hint__") [.ref it]) Q E s:=by
 obtain⟨o,ho,hc,hd⟩:=id az;refine We ZvP az.typeIs ZyB (Ya<|Wi (a:=YD it) rfl<|Ya<|YQ ho hd (x:=.ref l) rfl<|Ya<|len_tuple hl (by have:=Zcl;lia)<|Ya (m:=asInt?<|.int _ _)<|Yd ?_)<|ZyR _;dsimp only;refine Ya<|YQ ho hd (x:=rawInt<|(items.size)-1) rfl ?_;show YB _ _ (if (items.size)<(items.size:Int)-1+1 then _ else _) _ _ _;rw[if_neg<|by lia,show(items.size:Int)-1+1=items.size by lia];unfold retInt;exact Ya (wpAny_mkInt<|Yd ⟨_,rfl,hQ _ _ (by simp only;lia)⟩)
def ZvO:typeLookup (.type "reversed") "__length_hint__"=pure (J<|.builtin "reversed.__length_hint__"):=ZvP.lookup
end
end Rv
set_option tactic.hygienic true
namespace Tx
noncomputable def place(x:Str):List Str->Option Nat
 |[]=>M
 |y::r=>if y=x then J 0 else(place x r).map (·+1)
end Tx
def Zgz(K:Yl):Bool:=K.all λp=>!Wu (p.2.cls=.type "tuple")||p.2.dict.isNone
end L2
namespace L2
open PySem PySem.Spec PyProof.Rows
open PySem.AutoSeq1 (wpAny_loadPart')
namespace En1
section
variable {prog:Yi}{w:Yh}{A:YH}{E:Yk->Yb->Prop}{s:Yb}
def Zrq(st:s.heap.IsTupleIter qa T k)(tt:s.heap.IsTuple T us)(hy:us[k]?=J y)
 (q:∀R,R.IsTupleIter qa T (k+1)->Heap.SameBut qa s.heap R->Q y {s with heap:=R}):YB (model prog w) A (Builtin.SmallTypes.nextOf<|.ref qa) Q E s:=by
 obtain⟨ob,g1,g2,g3⟩:=id st;obtain⟨ot,g4,_,m,g5⟩:=tt;refine Ya (YZ st.typeIs F.slot_tuple_iterator_next<|We F.slot_tuple_iterator_next st.typeIs F.entry_tuple_iterator_next ?g<|F.args_tuple_iterator_next_1 _)
 case g=>show YB _ _ (field (.ref qa) 0 >>= _) _ _ s;refine Ya<|YQ g1 g3 (x:=.ref T) rfl<|Ya<|YQ g1 g3 rfl<|Ya<|wpAny_seqItems g4 g5 ?_;simp[hy];exact Ya (wpAny_setField g1 g3 (by simp)<|Yd ⟨y,rfl,Yd<|q _ ⟨_,YU _ g1<|Obj.isFreed_of_fields<|YW g3 _,(Obj.cls_mapFields ..).trans g2,by rw[YW g3];trivial⟩<|Heap.SameBut.update ..⟩)
def Zuv(calm:A.handled=M)(st:s.heap.IsTupleIter qa T k)(tt:s.heap.IsTuple T us)(hy:us[k]?=M)
 (q:∀R x,Heap.ExtBut qa s.heap R->(∃ob,R.get? x=J ob/\ob.cls=.type "StopIteration")->E (.ref x) {s with heap:=R}):YB (model prog w) A (Builtin.SmallTypes.nextOf<|.ref qa) Q E s:=by
 obtain⟨ob,g1,g2,g3⟩:=id st;obtain⟨ot,g4,_,m,g5⟩:=tt;refine Ya (YZ st.typeIs F.slot_tuple_iterator_next<|We F.slot_tuple_iterator_next st.typeIs F.entry_tuple_iterator_next ?g<|F.args_tuple_iterator_next_1 _)
 case g=>
  show YB _ _ (field (.ref qa) 0 >>= _) _ _ s;refine Ya<|YQ g1 g3 (x:=.ref T) rfl<|Ya<|YQ g1 g3 (x:=.int k 0) rfl<|Ya<|wpAny_seqItems g4 g5 ?_;simp only[Int.toNat_natCast,hy];refine Ya (wpAny_rule<|Ya<|wpAny_setField g1 g3 (by simp)<|Ya ?_);simp only[newExc,newTuple];refine Ya (Yr (Ya (m:=firstArgMember _ _)<|Wi (a:=Value.none) (by first|rfl|(simp only ;rfl))<|Yr ?_<|by size_fits)<|by size_fits);simp only;refine Ya (wpAny_handled ?_)
  first|rw[show A.in1.handled=M from calm]|rw[calm]
  exact Ya (Yd<|wpAny_throw<|q _ _ (((Heap.SameBut.update ..).extBut.push _).push _) ⟨_,Oj _ rfl,rfl⟩)
def dr(calm:A.handled=M)(qa T)(ne:T≠qa)(us):Draws prog w A qa [qa,T] (us.size+1) (λk y=>∃j,k=j+1/\us[j]?=J y) (λk h=>∃j,k=j+1/\h.IsTupleIter qa T j/\h.IsTuple T us) where
 live:=λ_ _ z=>let⟨_,_,⟨ob,g,_⟩,_⟩:=z;⟨ob,g⟩
 frame:=λ_ _ _ z kp=>by obtain⟨j,e,⟨o1,a1,b1⟩,o2,a2,b2⟩:=z;exact⟨j,e,⟨o1,kp qa (by simp) _ a1,b1⟩,o2,kp T (by simp) _ a2,b2⟩
 item:=λk s Q E lt z q=>by
  obtain⟨j,rfl,a,b⟩:=z;have lj:j<us.size:=by lia
  exact Zrq a b (y:=us[j]) (by simp) λR a1 sb=>q _ R s.toks ⟨j,rfl,by simp⟩ ⟨j+1,rfl,a1,b.extBut sb.extBut ne⟩ sb
 done:=λs Q E z q=>by
  obtain⟨j,e,a,b⟩:=z;have:j=us.size:=by lia
  subst this;exact Zuv calm a b (by simp) q
end
end En1
namespace En1
def ct(a v):checkTypeCall "enumerate" ⟨[a],[("start",v)]⟩=pure ():=by kernel_rfl
def cb(a v):checkBuiltinCall "enumerate.__new__" ⟨[.type "enumerate",a],[("start",v)]⟩=pure ():=by kernel_rfl
def ao(o a v):argsOk "object.__init__" ⟨[o,a],[("start",v)]⟩:=by kernel_rfl
def ini:Meets (Builtin.«object.__init__» ⟨[o,a],[("start",v)]⟩) (λ_ qd s=>s.TypeIs o "enumerate" /\ qd (.ok<|.ret .none) s):=by
 refine Meets.of_wp λprog w A qd s z=>?_;obtain⟨ty,q⟩:=z;have hl:=F.called_enumerate.init.lookup;have hm:=F.called_enumerate.made
 repeat (any_goals (first|assumption|wp_step))
 exact⟨_,rfl,q⟩
def nw(T)(us:Array Yk)(n:Nat)(dc:Option Yj)(sl:Array (Option Yk))(t:Tok):
 Meets (Builtin.«enumerate.__new__» ⟨[.type "enumerate",.ref T],[("start",.int 1 t)]⟩) (λ_ qd s=>s.heap.get? T=J {cls:=.type "tuple",dict:=dc,data:=.seq us n,slots:=sl} /\
  qd (.ok<|.ret<|.ref (s.heap.push {cls:=.type "tuple_iterator",data:=.fields #[.ref T,.int 0 0]}).objs.size)
   {s with heap:=(s.heap.push {cls:=.type "tuple_iterator",data:=.fields #[.ref T,.int 0 0]}).push {cls:=.type "enumerate",data:=.fields #[.none,.bool Wt,.ref s.heap.objs.size,rawInt 1,.none,.none]}}):=
 .of_wp λprog w A qd s z=>by
  obtain⟨hp,g,d,tk,os⟩:=s;obtain⟨e,q⟩:=z;have cg:=sub_enumerate;have tt:Heap.IsTuple (Shared.heap ⟨hp,g,d,tk,os⟩) T us:=⟨_,e,rfl,n,rfl⟩
  wp_walk using wpAny_loadPart' e
  refine wpAny_stack_any λst=>Yd ?_;split
  . rename_i c _ _ _ _ _;cases (c==Value.type "enumerate")
    . wp_walk using wpAny_loadPart' e,wpAny_pyIter_tuple tt
      exact⟨_,rfl,q⟩
    . wp_walk using wpAny_loadPart' e,wpAny_pyIter_tuple tt
      exact⟨_,rfl,q⟩
  . wp_walk using wpAny_loadPart' e,wpAny_pyIter_tuple tt
    exact⟨_,rfl,q⟩
end En1
end L2
namespace L2
open PySem PySem.Spec PyProof.Rows
namespace En1
section
variable {prog:Yi}{w:Yh}{A:YH}{E:Yk->Yb->Prop}{s:Yb}
def mk(tt:s.heap.IsTuple T us)
 (q:∀R,IsEnum R (s.heap.objs.size+1) s.heap.objs.size 1 .none->R.IsTupleIter s.heap.objs.size T 0->(∀b o,s.heap.get? b=J o->R.get? b=J o)->Q (.ref<|s.heap.objs.size+1) {s with heap:=R}) :
 YB (model prog w) A (call (.type "enumerate") [.ref T] [("start",.int 1 t)]) Q E s:=by
 obtain⟨⟨c,dc,dt,sl⟩,e,hc,n,hd⟩:=tt;obtain rfl:c=.type "tuple" := hc;obtain rfl:dt=.seq us n:=hd;have ft:=F.called_enumerate;have cI:=ft.made;have cg:=ft.sub;have om:=ct (.ref T)<|.int 1 t;refine wpAny_call<|codeAny_of_tree ?_;show YB _ _ (callAny (.type "enumerate") _) _ _ _;refine Yd ⟨Code.quiet_builtin _<|by decide +kernel,codeAny_builtin F.entry_type_call ?_⟩;rw[Around.under_plain (weight_type_call_type "enumerate" [.ref T] [("start",.int 1 t)])<|units_type_call_type "enumerate" [.ref T] [("start",.int 1 t)]];have R:=ft.notType;have h2:=ft.canCreate
 repeat (any_goals (first|assumption|wp_step))
 refine codeAny_mono (codeAny_call_builtin ft.plain F.entry_enumerate_new<|Wi (cb (.ref T)<|.int 1 t)<|nw T us n dc sl t prog w A.in1 (wants (λobj s1=>s1.TypeIs obj "enumerate" /\ Q obj s1) E) s ⟨e,?_⟩) λr s1 hr=>?_
 . have hz:(s.heap.push {cls:=.type "tuple_iterator",data:=.fields #[.ref T,.int 0 0]}).objs.size=s.heap.objs.size+1:=Heap.size_push ..;show _/\_;rw[hz];have he:IsEnum ((s.heap.push {cls:=.type "tuple_iterator",data:=.fields #[.ref T,.int 0 0]}).push {cls:=.type "enumerate",data:=.fields #[.none,.bool Wt,.ref s.heap.objs.size,rawInt 1,.none,.none]}) (s.heap.objs.size+1) s.heap.objs.size 1 .none:=by have:=Oj (s.heap.push {cls:=.type "tuple_iterator",data:=.fields #[.ref T,.int 0 0]}) (o:={cls:=.type "enumerate",data:=.fields #[.none,.bool Wt,.ref s.heap.objs.size,rawInt 1,.none,.none]}) rfl;rw[hz]at this;exact this
   exact⟨⟨_,he,rfl⟩,q _ he ⟨_,Od _<|Oj _ rfl,rfl,rfl⟩ λb o x=>Od _<|Od _ x⟩
 cases r with
 |error e=>exact hr
 |ok fl=>
  cases fl with
  |ret obj=>
   obtain⟨hT,hq⟩:=hr;have og:=ft.init.lookup;have on:=ft.init.bind obj
   repeat (any_goals (first|assumption|wp_step))
   refine codeAny_mono (codeAny_call_builtin ft.init.plain F.entry_object_init<|ft.init.check _ _ _ _ _ _ _ _ hT (ao obj (.ref T)<|.int 1 t)<|ini prog w A.in1 (wants (λr s2=>r=.none/\Q obj s2) E) s1 ⟨hT,rfl,hq⟩) λr2 s2 bE=>?_;cases r2 with
   |error e=>exact bE
   |ok fl2=>
    cases fl2 with
    |ret r=>
     obtain⟨rfl,hq⟩:=bE
     repeat (any_goals (first|assumption|wp_step))
    |_=>exact bE.elim
  |_=>exact hr.elim
end
end En1
def It1(K:Yl)(a:Yj):It:=⟨λi H=>∃xs x,SqT K H a xs/\xs[i]?=J x,λi H v H'=>∃p,v=.ref p/\H p=M/\∃x,(∀xs,SqT K H a xs->xs[i]?=J x)/\H'=upd H p (.tup [.int (i+1:Nat),x]),λi H=>∃xs,SqT K H a xs/\xs.length=i⟩
def ZoU{P}{w}{K}{es}{kk}{tp}(a it e)(cJ:e≠it)(eS:a≠e)(eR:a≠it):
 Turn P w K (.Tuple es kk tp) (It1 K a) [e,it] e (λi h=>(∃old,IsEnum h e it (i+1:Nat) old)/\h.IsTupleIter it a i) where
 mem:=by simp
 obj:=λi h st b hb=>by
  obtain⟨⟨old,he⟩,o,e1,c,d⟩:=st;rcases O2.mp hb with rfl|hb
  . exact⟨_,he,λv z=>by cases z⟩
  simp_all
 keep:=λi h h' st k=>by obtain⟨⟨old,he⟩,st⟩:=st;exact⟨⟨old,k e (by simp) _ he⟩,st.at λo z=>k it (by simp) o z⟩
 item:=by
  intro X hP hw hK hc i ac s Z H E I hf st hg;subst hP hw hK;obtain⟨xs,x,hq,hx⟩:=hg;obtain⟨its,rv,p,hz⟩:=I.tuple hq;have hl:=rv.length;have hi:i<xs.length:=(Ob.mp hx).1;have D:=En1.dr (prog:=X.prog) (w:=X.w) (A:=X.A.in1) (I.ok.hd hc) it a eR its.toArray;obtain⟨⟨old,he⟩,az⟩:=st;refine wpAny_pyNext_enum_itemD D he ⟨i,rfl,az,p⟩ (by simp;lia) cJ (by simp[cJ,YL eS]) λy R tk hy ho hst hT aR hk=>?_;obtain⟨j,ej,hy⟩:=hy;obtain rfl:i=j:=by lia
  have kB:s.heap.objs.size≠e:=Nat.ne_of_gt<|Yn he;have kA:s.heap.objs.size≠it:=Nat.ne_of_gt (by obtain⟨_,z,_⟩:=az;exact Yn z);refine⟨_,rfl,(WalksT.enumerateD (A:=X.A) D e cJ (by simp[cJ,YL eS])<|by simp).go _ _ _ (i+1) s.heap.objs.size {s with heap:=R,toks:=tk+1} _ _ ⟨⟨_,ho⟩,hst,kB,kA⟩ λh2 bU kk2=>?_⟩;have i5:its[i]?=J y:=by simpa using hy
  obtain⟨u,hu,ru⟩:=rv.get hx;rw[i5]at hu;cases hu;have fX:s.heap.objs.size ∉ [e,it]:=by simp[kB,kA]
  have I2:Inv X ac Z (upd H s.heap.objs.size<|.tup [.int<|(i+1:Nat),x]) {s with heap:=h2,toks:=tk+1}:=I.turnT hf (λb o hb q=>kk2 b o hb<|hk b o (λz=>hb<|by simp[z]) (λz=>hb<|by simp[z]) q) (Oq _) (us:=[.int ((i+1:Nat)) tk,y]) ⟨_,kk2 _ _ fX hT,rfl,rfl,_,rfl⟩ (.cons ⟨tk,rfl⟩<|.cons ru .nil) (by show 2<=Yc;decide);obtain⟨s3,j,oB,s4,s5⟩:=bU;obtain rfl:j=i+1:=by lia
  refine⟨.ref s.heap.objs.size,_,I2,rfl,⟨_,rfl,I.hok.fresh<|Oq _,x,λys hy=>I.tuple_inj hy hq▸hx,rfl⟩,⟨s3,s4⟩,λb hb=>?_⟩;rw[Zl λz=>fX (by rw[<-z];exact hb)];exact(hf b hb).1
 done:=by intro X hP hw hK hc i ac s Z H E I hf st hg;subst hP hw hK;obtain⟨xs,hq,hx⟩:=hg;obtain⟨its,rv,p,hz⟩:=I.tuple hq;have hl:=rv.length;have D:=En1.dr (prog:=X.prog) (w:=X.w) (A:=X.A.in1) (I.ok.hd hc) it a eR its.toArray;obtain⟨⟨old,he⟩,az⟩:=st;refine wpAny_pyNext_enum_endD D he ⟨i,by simp;lia,az,p⟩ λR ex=>⟨rfl,I.turnL (t':=s.toks) hf λb o hb q=>ex b o (λz=>hb<|by simp[z]) q⟩
 self:=λA i s Q E st h=>by obtain⟨⟨old,he⟩,_⟩:=st;exact wpAny_pyIter_enum he h
section
variable {qb:Model}{A:YH}{E:Yk->Yb->Prop}{s:Yb}{env:Env}
def ZqS(he:YA [e] env=[(Wt,eval e env)])
 (h:YB qb A (spliced<|YR pos<|YA [e] env) (λvs s1=>YB qb A (evalAll ((backToKw pos<|YY kws env).map (·.2)))
  (λkvs s2=>YB qb A (call (.type T) vs (((backToKw pos<|YY kws env).filterMap (·.1)).zip kvs)) Q E s2) E s1) E s)
 (aY:(backToKw pos<|YY kws env).all (·.1.isSome)=Ws:=by rfl) (mG:(backToKw pos<|YY kws env).any (·.1.isNone)=Wt:=by rfl) :
 YB qb A (callWith pos (.type T) [] (YR pos<|YA [e] env)<|backToKw pos<|YY kws env) Q E s:=by
 have hp:(YR pos<|YA [e] env).any (·.1)=Wt:=by rw[he];rfl
 have g:YB qb A (evalArgs (.type T) Ws (YR pos<|YA [e] env)<|backToKw pos<|YY kws env) (λa s1=>YB qb A (call (.type T) ([]++a.pos) a.kw) Q E s1) E s:=by rw[he]at h ⊢;exact evalArgs_kwB aY h
 refine Ya<|Wc<|Yg g (λa s1 R=>Ya<|wpAny_standAt ?_) λ_ _ z=>z;simp only[hp,mG];exact Ya (Yd<|Ya<|Yg R (λr s2 hr=>Ya<|Wc<|wpAny_point<|Yd hr) λ_ _ z=>z)
end
def ZzS(K:Yl)(tl tk:TE):TI:=λZ H qd=>tl Z H λv H1=>tk Z H1 λu H2=>∃a,v=.ref a/\u=.int 1/\(∃xs,SqT K H2 a xs)/\qd (It1 K a) H2
def ZuZ{X}{es}{kk}{tp}{l y}{tl tk}{p kp pos}(hg:Gl X "enumerate")(hm:X.mg "enumerate"=M)(hl:PE X l tl)(hy:PE X y tk)(he:YA [l] X.env=[(Wt,eval l X.env)]):
 PI X (.Tuple es kk tp) (.Call (.Name "enumerate" p) [l] [⟨J "start",y,kp⟩] pos) (ZzS X.K tl tk):=by
 intro ac s Z H qd I h;refine YV<|Zcm I hg hm boot_enumerate<|ZqS he ?_;rw[he];refine Calls.spliced_cons<|thn (hl ac s Z H _ I h) λv s1 ⟨vv,H1,I1,r1,q1⟩=>Calls.spliced_nil<|kws_cons<|thn (hy ac s1 Z H1 _ I1 q1) λu s2 ⟨uu,H2,I2,r2,q2⟩=>kws_nil ?_;obtain⟨a,rfl,rfl,⟨xs,hq⟩,q⟩:=q2;cases r1;obtain⟨t,rfl⟩:=r2;obtain⟨its,rv,pt,hz⟩:=I2.tuple hq;have aC:a<s2.heap.objs.size:=by obtain⟨_,z,_⟩:=pt;exact Yn z
 refine En1.mk pt λR he hi kk=>wpAny_pyIter_enum he ⟨s2.heap.objs.size+1,[s2.heap.objs.size+1,s2.heap.objs.size],_,_,H2,rfl,I2.kept kk,ZoU a s2.heap.objs.size (s2.heap.objs.size+1) (Nat.succ_ne_self _) (Ou<|Nat.lt_succ_of_lt aC)<|Ou aC,⟨⟨_,he⟩,hi⟩,λb hb=>?_,q⟩;rcases O2.mp hb with rfl|hb
 . exact I2.fpOk (Nat.le_succ _) (I2.hok.fresh<|Nat.le_succ _)
 . have e:b=s2.heap.objs.size:=by simpa using hb
   subst e;exact I2.fpOk (Oq _) (I2.hok.fresh<|Oq _)
section
variable {X:Cx}{ac:List (Yj×Obj)}{Z:St}{H:Hp}{s:Yb}
def Inv.freeze(I:Inv X ac Z H s)(e:H a=J (.dK kvs))(ho:s.heap.get? a=J o):Inv X ac Z (upd H a<|.frz o<|.dK kvs) s:=by
 have ne:∀b,(∀kvs,H b≠J (.dK kvs))->b≠a:=λb q z=>q kvs<|z▸e;refine I.un ⟨λb u q n _ _=>q,λb u q n _ _=>⟨u.slots,q⟩,λb u q n _=>?_,λb u q _=>⟨u,q⟩,λb xs q=>?_,λb u v q=>?_,λb ps q=>⟨#[],?_⟩⟩ ?_
 . rw[Zl<|ne b λk z=>by simp_all];exact n
 . rw[Zl<|ne b λk z=>by simp_all];exact q
 . rw[Zl<|ne b λk z=>by simp_all];exact q
 . rw[Zl<|ne b λk z=>by simp_all,q];simp
 . exact I.hok.write (by rw[e];trivial) (.inl rfl) (λb u _ q=>q) ⟨o,ho⟩ ⟨ho,I.hok a _ e⟩
end
def ZsJ(h:Zg4 k u=Ws):RelV (kV k) u:=by
 rcases ZL h with⟨i,t,rfl,rfl⟩|⟨x,t,rfl,rfl⟩
 . exact⟨t,rfl⟩
 . exact⟨t,rfl⟩
theorem Zm6:∀{kvs:List (Key×V)}{vs:List (Key×Yk)},KV kvs vs->kvs.map (·.1)=vs.map (·.1)
 |_,_,.nil=>rfl
 |_,_,.cons h t=>by rw[Op,Op,Zm6 t,h.1]
def Itd(a:Yj)(o:Obj)(kvs:List (Key×V)):It:=⟨λi H=>H a=J (.frz o<|.dK kvs)/\i<kvs.length,λi H x H'=>H'=H/\∃k v,kvs[i]?=J (k,v)/\x=kV k,λi H=>H a=J (.frz o<|.dK kvs)/\kvs.length<=i⟩
theorem Zrm{P}{w}{K}{tg}(a it)(o)(kvs)(es)(ep)(hd:o.data=.dict es ep):Turn P w K tg (Itd a o kvs) [it] it (λi h=>h.IsKeyIter it a i kvs.length ep) where
 mem:=by simp
 obj:=λi h st b hb=>by
   have e:=by simpa using hb
   subst e;obtain⟨o,e,c,d⟩:=st
   simp_all
 keep:=λi h h' st k=>st.at λo e=>k it (by simp) o e
 item:=by
   intro X hP hw hK hc i ac s Z H E I hf st hg;subst hP hw hK;obtain⟨ea,hi⟩:=hg;obtain⟨g1,hz,gJ,vs,rv,o2,nh,ni,g2,x1,x2,x3,x4,x5⟩:=I.hok a _ ea;rw [g1] at g2;cases g2;rw [hd] at x2;cases x2;have hl:=rv.length;have hj:i<vs.length:=by lia
   obtain⟨f0,f1,f2,f3,f4,f5⟩:=hf it (by simp);refine wpAny_pyNext_dict_item (knd:=ZP X.prog X.w) (kvs:=vs) (k:=(vs[i]'hj).1) (v:=(vs[i]'hj).2) (hl▸st) ⟨o,es,g1,x1,hd,x3,x4,x5⟩ (by simp [hj]) λkey h' bx bA bV=>?_;obtain⟨oi,e,c,d⟩:=id bA;exact⟨key,rfl,Zis (s:={s with heap:=h'}) e c d (by decide) ⟨kV (kvs[i]'hi).1,H,I.turned (t':=s.toks) (λb o hb e=>(bV.2 b hb).trans e) f0 f1 f3 f4 f5,by
     have q:=congrArg (λl=>l[i]?)<|Zm6 rv;simp only [On,Og hi,Og hj,Yv] at q;exact YF q▸ZsJ bx,⟨rfl,(kvs[i]'hi).1,(kvs[i]'hi).2,by simp [hi],rfl⟩,hl▸bA,λb hb=>(hf b hb).1⟩⟩
 done:=by
   intro X hP hw hK hc i ac s Z H E I hf st hg;subst hP hw hK;obtain⟨ea,hi⟩:=hg;obtain⟨g1,hz,gJ,vs,rv,o2,nh,ni,g2,x1,x2,x3,x4,x5⟩:=I.hok a _ ea;rw [g1] at g2;cases g2;rw [hd] at x2;cases x2;have hl:=rv.length;obtain⟨f0,f1,f2,f3,f4,f5⟩:=hf it (by simp);exact wpAny_pyNext_dict_end (knd:=ZP X.prog X.w) (kvs:=vs) (I.ok.hd hc) (hl▸st) ⟨o,es,g1,x1,hd,x3,x4,x5⟩ (by simp;lia) λh' eb=>⟨rfl,I.turned (t':=s.toks) (λb o hb e=>eb b o hb e) f0 f1 f3 f4 f5⟩
 self:=λ_ _ _ _ _ st h=>wpAny_pyIter_keyiter st h
def iDk(tl:TE):TI:=λZ H qd=>tl Z H λx H1=>∃a kvs,x=.ref a/\((H1 a=J (.dK kvs)/\∀o,qd (Itd a o kvs)<|upd H1 a<|.frz o<|.dK kvs)\/∃o,H1 a=J (.frz o<|.dK kvs)/\qd (Itd a o kvs) H1)
def ZxC{X}{tg l}{tl}(hl:PE X l tl):PI X tg l (iDk tl):=by
 intro ac s Z H qd I h;refine thn (hl ac s Z H _ I h) λv s1 ⟨x,H1,I1,r1,q1⟩=>?_;obtain⟨a,kvs,rfl,q⟩:=q1;cases r1;have main:∀(o) (H2),Inv X ac Z H2 s1->H2 a=J (.frz o<|.dK kvs)->qd (Itd a o kvs) H2->YB (model X.prog X.w) X.A (pyIter<|.ref a) (PIE X ac Z tg qd) X.xe s1:=by
  intro o H2 I2 ea hR;obtain⟨g1,hz,gJ,vs,rv,o2,es,ep,g2,x1,x2,x3,x4,x5⟩:=I2.hok a _ ea;rw[g1]at g2;cases g2;refine wpAny_pyIter_dict gJ ⟨o,es,g1,x1,x2,x3,x4,x5⟩ ⟨s1.heap.objs.size,[s1.heap.objs.size],_,_,H2,rfl,I2.kept λb o e=>Od _ e,Zrm a _ o kvs es ep x2,⟨_,Oj _ rfl,rfl,by rw[rv.length];rfl⟩,λb hb=>?_,hR⟩;have e:=by simpa using hb
  subst e;exact I2.fpOk (Oq _) (I2.hok.fresh<|Oq _)
 rcases q with⟨ea,hR⟩|⟨o,ea,hR⟩
 . obtain⟨hz,gJ,vs,rv,o,es,ep,g2,r⟩:=I1.hok a _ ea;exact main o _ (I1.freeze ea g2) Zh (hR o)
 . exact main o _ I1 ea hR
namespace Rv
section
variable {prog:Yi}{w:Yh}{A:YH}{E:Yk->Yb->Prop}{s:Yb}
def ext(hh:A.handled=M)(az:Is s.heap I l ((items.size:Int)-1))(hl:IsTup s.heap l items)(dJ:l≠I)(hz:items.size<=Yc)(fZ:S_≠I)(gO:S_≠l)(res:Yk)(c₀:Nat)(jF:s.heap.get? S_=J {cls:=.type "list",data:=.seq #[] c₀})
 (hR:∀s' ai c,Moved [S_,I] (λa b=>b=a) s s'->s'.heap.get? S_=J {cls:=.type "list",dict:=M,data:=.seq ai c,slots:=#[]}->ItemsOf (λi v=>items[items.size-1-i]?=J v) ai items.size->qd (.ok<|.ret res) s') :
 YB (model prog w) A.in1 (Builtin.List.listExtendWith (.ref S_) (.ref I) res)
  (λfin s'=>match fin with|.done f=>qd (.ok f) s'|.again c'=>c'.quiet=Ws/\codeAny (model prog w) A c' qd s') (λe s'=>qd (.error e) s') s:=by
 have W:=(walks (prog:=prog) (w:=w) (A:=A.in1) hh I l dJ items hz).toS;have hst:0<=items.size/\Is s.heap I l ((items.size:Int)-1-((0:Nat):Int))/\IsTup s.heap l items:=⟨Yy _,by simpa using az,hl⟩
 have kC:S_ ∉ [I,l]:=by simp only[O2,List.not_mem_nil,or_false,not_or];exact⟨fZ,gO⟩
 have key:∀(s2:Yb) (c₁:Nat),Moved [S_] (λa b=>b=a) s s2->(0<=items.size/\Is s2.heap I l ((items.size:Int)-1-((0:Nat):Int))/\IsTup s2.heap l items)->s2.heap.get? S_=J {cls:=.type "list",dict:=M,data:=.seq #[] c₁,slots:=#[]}->codeAny (model prog w) A (.builtin "list.extend.loop" ⟨[.ref S_,.ref I,res],[]⟩) qd s2:=by intro s2 c₁ m2 du eT;refine codeAny_extend_loopS W hz S_ kC res items.size 0 _ #[] c₁ rfl (Yy _) du eT (ItemsOf.nil _) λs' jO c' hm f7 aw=>?_;refine hR s' jO c' ⟨λb o hb e=>hm.heap b o hb<|m2.heap b o (λh=>hb (by rw[Ox.mp h];exact Oi)) e,hm.gens.trans m2.gens,hm.drawn.trans m2.drawn,hm.os.trans m2.os,OE m2.toks hm.toks⟩ f7 aw
 have e1:Builtin.List.listSameRef (.ref S_) (.ref I)=Wt:=by simp[Builtin.List.listSameRef,fZ]
 have hT:Shared.TypeIs s (.ref I) "reversed" := az.typeIs;unfold Builtin.List.listExtendWith;refine Ya<|wpAny_typeOf hT ?_;rw[if_neg (by rw[e1];decide)];refine Ya<|W.self 0 _ _ _ hst<|Ya<|Wc ?_;unfold Builtin.List.listLengthHint;refine Ya<|wpAny_specialOf hT ZxW ?_;show YB _ A.in1 (specialOf (YD I) (O "__length_hint__") >>= _) _ _ _;refine Ya<|wpAny_specialOf hT ZvO ?_;have bK:splitId "reversed.__length_hint__"=J ("reversed", "__length_hint__"):=by decide +kernel
 dsimp only;rw[bK];dsimp only;refine Ya<|wpAny_isInstance (b:=true) hT Zmy ?_;rw[if_neg<|by decide,if_neg<|by decide +kernel];refine Ya<|wpAny_rule<|Ya<|Wi (ZvP.bind _) ?_;dsimp only;refine Ya (wpAny_attempt<|ZsQ (by simpa using hst.2.1) hst.2.2 hz λu tk jb=>?_);dsimp only;have ea:asInt? (Value.int (items.size:Int) u)=pure (J (items.size:Int)):=rfl;rw[ea];clear ea;generalize hk:(items.size:Int)=kk;refine Ya ?_;refine Yd ?_;dsimp only;have l1:Builtin.List.listFitsIndex kk=Ws:=by
  have:=Zcl;unfold Builtin.List.listFitsIndex;rw[Oa,decide_eq_true_iff,decide_eq_true_iff]
  lia
 have l2:Wj kk.toNat=Wt:=by
  unfold Wj;rw[decide_eq_false_iff_not]
  lia
 rw[if_neg (by rw[l1];decide),if_neg<|by lia,if_neg (by rw[l2];decide)];refine Yd ?_;have m0:Moved [S_] (λa b=>b=a) s {s with toks:=tk}:=⟨λb o _ e=>e,rfl,rfl,rfl,jb⟩
 refine wpAny_ite_split (λ_=>?_)<|λ_=>Yd ⟨plainId_quiet F.plain_extend_loop _,key _ c₀ m0 hst jF⟩;refine Ya<|wpAny_rule<|Ya ?_;show YB _ A.in1 (updateSeq S_ (·.push .none) >>= λ_=>updateSeq S_ (·.pop)) _ _ _;refine Ya<|wpAny_updateSeq jF rfl ?_;have eT:=YU (Obj.mapSeq (·.push Value.none)) jF rfl;refine wpAny_updateSeq (hz:=by seq_fits) eT rfl ?_;have m4:=YU (Obj.mapSeq (·.pop)) eT rfl;have eJ:∀b o,b≠S_->s.heap.get? b=J o->((s.heap.update S_ (Obj.mapSeq (·.push Value.none))).update S_ (Obj.mapSeq (·.pop))).get? b=J o:=λb o hb e=>(YN _ _<|YL hb).trans ((YN _ _<|YL hb).trans e)
 have du:=W.frame 0 s _ tk hst jb λb hb o e=>eJ b o (λh=>kC<|h▸hb) e;refine Yd ⟨plainId_quiet F.plain_extend_loop _,key _ _ ⟨λb o hb e=>eJ b o (λh=>hb<|h▸Oi) e,rfl,rfl,rfl,jb⟩ du m4⟩
def Zyb(hh:A.handled=M)(az:Is s.heap I l ((items.size:Int)-1))(hl:IsTup s.heap l items)(dJ:l≠I)(hz:items.size<=Yc)(fZ:S_≠I)(gO:S_≠l)(hS:s.heap.get? S_=J {cls:=.type "list",data:=.seq #[]})
 (hR:∀s' ai c,Moved [S_,I] (λa b=>b=a) s s'->s'.heap.get? S_=J {cls:=.type "list",dict:=M,data:=.seq ai c,slots:=#[]}->ItemsOf (λi v=>items[items.size-1-i]?=J v) ai items.size->qd (.ok<|.ret .none) s') :
 YB (model prog w) A.in1 (Builtin.«list.__init__» ⟨[.ref S_,.ref I],[]⟩)
  (λfin s'=>match fin with|.done f=>qd (.ok f) s'|.again c'=>c'.quiet=Ws/\codeAny (model prog w) A c' qd s') (λe s'=>qd (.error e) s') s:=by
 show YB _ _ (do let old <- Builtin.List.listItems (.ref S_);Builtin.List.listUpdate (.ref S_)<|λ_=>#[];letGo old.toList.reverse;Builtin.List.listExtendWith (.ref S_) (.ref I) .none) _ _ s;refine Ya ?_;unfold Builtin.List.listItems;refine Ya<|wpAny_seqItems hS rfl<|Yd ?_;show YB _ _ (updateSeq S_ (λ_=>#[]) >>= λ_=>letGo (#[]:Array Yk).toList.reverse >>= λ_=>Builtin.List.listExtendWith (.ref S_) (.ref I) .none) _ _ s;refine Ya<|wpAny_updateSeq hS rfl ?_;have eT:=YU (Obj.mapSeq<|λ_=>(#[]:Array Yk)) hS rfl;have eJ:∀b o,b≠S_->s.heap.get? b=J o->(s.heap.update S_<|Obj.mapSeq<|λ_=>(#[]:Array Yk)).get? b=J o:=λb o hb e=>(YN _ _<|YL hb).trans e
 refine Ya<|wpAny_letGo ?_;refine ext (l:=l) (items:=items) hh (az.at λo e=>eJ I o (YL fZ) e) (let⟨o,e,r⟩:=hl;⟨o,eJ l o (YL gO) e,r⟩) dJ hz fZ gO .none _ eT λs' ai c hm f7 aw=>hR s' ai c ⟨λb o hb e=>hm.heap b o hb<|eJ b o (λh=>hb<|h▸Oi) e,hm.gens,hm.drawn,hm.os,hm.toks⟩ f7 aw
def ZsD(hh:A.handled=M)(az:Is s.heap I l (items.size-1))(hl:IsTup s.heap l items)(dJ:l≠I)(hz:items.size<=Yc)
 (hQ:∀s' ai c,(∀b o,b≠I->s.heap.get? b=J o->s'.heap.get? b=J o)->s'={s with heap:=s'.heap,toks:=s'.toks}->s'.heap.get? s.heap.objs.size=J {cls:=.type "list",dict:=M,data:=.seq ai c,slots:=#[]}->ItemsOf (λi v=>items[items.size-1-i]?=J v) ai items.size->Q (.ref s.heap.objs.size) s') :
 YB (model prog w) A (PySem.call (.type "list") [.ref I]) Q E s:=by
 refine callType_codes (Q₁:=λobj s₁=>obj=.ref s.heap.objs.size/\s₁={s with heap:=s.heap.push {cls:=.type "list",data:=.seq #[]}}) PySem.F.called_list (PySem.F.typeCall_list_1 _) PySem.F.entry_list_init
  (code_list_new _ ⟨rfl,rfl⟩) λobj s₁ h₁=>?_
 obtain⟨rfl,rfl⟩:=h₁;refine⟨⟨_,Oj _ rfl,rfl⟩,PySem.F.args_list_init_2 _ _,Zyb (A:=A.in1) (l:=l) (items:=items) hh (az.at λo e=>Od _ e) (let⟨o,e,r⟩:=hl;⟨o,Od _ e,r⟩) dJ hz (Nat.ne_of_gt (by obtain⟨o,ho,_⟩:=az;exact Yn ho)) (Nat.ne_of_gt (by obtain⟨o,ho,_⟩:=hl;exact Yn ho)) (Oj _ rfl) λs' ai c hm f7 aw=>⟨rfl,hQ s' ai c (λb o hb e=>hm.heap b o (λh=>?_)<|Od _ e) ?_ f7 aw⟩⟩
 . rcases O2.mp h with q|q
   . exact absurd (Yn e) (q▸Yw _)
   . exact hb (Ox.mp q)
 . rw[Moved.eq_with hm]
end
end Rv
def Zrw(K:Yl)(ta:TA):TE:=λZ H Q=>ta Z H λvs H1=>∃a xs,vs=[.ref a]/\SqT K H1 a xs/\∀p,H1 p=M->Q (.ref p) (upd H1 p<|.lst xs.reverse)
theorem Zn0 (hc:X.calm=Ws) (mO:Gl X "list") (mC:X.mg "list"=M) (mP:Gl X "reversed") (mD:X.mg "reversed"=M) (ha:PA X [l] ta)
   (hs:YA [l] X.env=[(Wt,eval l X.env)]:=by rfl):PE X (.Call (.Name "list" p) [.Call (.Name "reversed" p2) [l] [] pos2] [] pos) (Zrw X.K ta):=by
 intro ac s Z H Q I h;refine Call_<|Zcm I mO mC boot_list<|PyProof.Rows.callWith_type1 ?_ rfl rfl;show YB _ _ (spliced ((Wt,eval (.Call (.Name "reversed" p2) [l] [] pos2) X.env)::[])) _ _ s;refine Calls.spliced_cons<|Call_<|Zcm I mP mD boot_reversed<|PyProof.Rows.callWith_type1 (thn (ha pos2 ac s Z H _ I h) λus s1 ⟨vs,H1,I1,r1,q1⟩=>?_) hs rfl;obtain⟨a,xs,rfl,hq,q⟩:=q1;obtain⟨u,rfl,ru⟩:=vals1 r1;obtain rfl:u=YD a:=ru;obtain⟨its,rv,pl,hz⟩:=I1.tuple hq;have n9:=rv.length;refine Rv.call pl (by simp;lia) (Calls.spliced_nil<|Rv.ZsD (I.ok.hd hc) (l:=a) (items:=its.toArray) ⟨_,Oj _ rfl,rfl,rfl⟩ (pl.push _) (Ou (by obtain⟨o,ho,_⟩:=pl;exact Yn ho)) (by simp;lia) λs' ai c hk es hS aw=>?_);have ea:ai.toList=its.reverse:=by
   apply List.ext_getElem?;intro j;rcases Nat.lt_or_ge j its.length with hj|hj
   . have dM:j<ai.size:=by rw [aw.1];simpa using hj
     rw [List.getElem?_reverse hj,Array.getElem?_toList,Array.getElem?_eq_getElem dM,<-aw.2 j ai[j] (Array.getElem?_eq_getElem dM)];simp
   . rw [List.getElem?_eq_none (by have:=aw.1;simp at this ⊢;lia),List.getElem?_eq_none<|by simpa using hj]
 have ev:ai=its.reverse.toArray:=by rw [<-ea]
 rw [ev] at hS;generalize hp:(s1.heap.push _).objs.size=pp at hS ⊢;have le:s1.heap.objs.size<=pp:=by rw [<-hp,Heap.size_push];lia
 rw [es];exact⟨.ref pp,_,I1.laid (t':=s'.toks) (λb o e=>hk b o (λhb=>by
   rw [hb] at e;exact absurd (Yn e)<|Yw _) (Od _ e)) le (show Zag X.prog X.w _ _ _ (.lst xs.reverse) from⟨by simpa using hz,its.reverse,c,rv.reverse,hS⟩),rfl,q _<|I1.hok.fresh le⟩
noncomputable def ZnO(d:PyData):Bool:=isDisplay d&&(PyData.showable d&&(PyData.intsShort 13 d&&(Wu (PyData.weight d<=2^20)&&Wu (PyData.depth d<=1000))))
def ZmH(K:Yl):List V->Hp->VK->Prop:=λvs H Q=>∃v d,vs=[v]/\Dp K H v d/\ZnO d=Ws/\Q (.str d.shown) H
theorem Zov (hr:Room k X.A):Z4 X (.builtin "repr") (ZmH X.K):=by
 intro ac s Z H vs us Q I r h;obtain⟨v,d,rfl,hd,ho,q⟩:=h;obtain⟨u,rfl,ru⟩:=vals1 r;obtain⟨as,r1⟩:=I.reads hd ru;unfold ZnO at ho;simp at ho;obtain⟨R,h2,h3,h4,h5⟩:=ho;obtain⟨a,rfl⟩:=isRef_of_reads r1 R;have:=hr.un;exact repr_of_reads' r1 h2 (PyData.noDict_hsm<|PyData.hasDict_of_canLay d hd.lay) hr.gd (by lia) (λ_ _ e=>e) (λh' t tk hk=>⟨.str d.shown,H,I.kept hk,⟨t,rfl⟩,q⟩) (by
   have:=PyData.shown_le 13 (by simp) d<|PyData.leavesShort_of_canLay0 13 d hd.lay h3;rw [YC]
   lia)
noncomputable def Zxu(o:Bool):R2:=λx y H Q=>∃a b,x=.str a/\y=.str b/\Q (.bl<|bif o then !Wu (a=b)else Wu (a=b)) H
def ZpO:∀{o},OpR X (YM<|bif o then .NotEq else .Eq) (Zxu o):=by
 intro o;intro ac s Z H x y v u Q I rx ry h;obtain⟨a,b,rfl,rfl,q⟩:=h;obtain⟨t,rfl⟩:=rx;obtain⟨t',rfl⟩:=ry;cases o
 . exact eq_str (Zi8 I q (by by_cases e:a=b<;>simp[e]))
 . exact ne_str (Zi8 I q<|congrArg not (by by_cases e:a=b<;>simp[e]))
structure XAs(K:Yl)(a b:Yj):Prop extends ExcN K a where
 sub:YT K (.ref b) (.ref a)=J Ws
 at':ExcA K b
 one:PySem.W.kitOne K (.ref b) (.ref b)=J Ws
noncomputable def tx(l:List Nat):Str:=⟨l.toArray⟩
def ClV(mg:Str->Option Yk)(W:Str)(v:Yk):Prop:=(mg W=J v/\∃a,v=.ref a)\/(W=O "ValueError" /\ mg W=M/\v=.type "ValueError")
def KyS(K:Yl)(H:Hp)(b:Yj)(k:NK):Prop:=∃c,SqT K H b [.int k.1,.ref c]/\SqT K H c (k.2.map .str)
theorem ZjJ:∀{ks}{us},Zn (ks.map V.str) us->ItemsAre (PySem.strKind P w) ks us
 |[],_,r=>by cases r;exact .nil
 |k::ks,_,r=>by
  cases r with
  |cons h t=>obtain⟨t',rfl⟩:=h;exact .cons (by show Value.isStrOf k (.str k t')=Ws;simp[Value.isStrOf]) (ZjJ t)
abbrev KN(K:Yl)(H:Hp):List (NK×V)->List (NK×Yj×Yk)->Prop:=Paired λp q=>p.1=q.1/\KyS K H q.2.1 p.1/\RelV p.2 q.2.2
def KN.val{K}(r:KN K H kvs xs)(k):ZeM (ZbB kvs k) ((atKey xs k).map (·.2)):=by
 induction r with
 |nil=>trivial
 |@cons p q ps qs h t ih=>
  obtain⟨R,_,h2⟩:=h;by_cases e:p.1=k
  . rw[Zgx e,show atKey (q::qs) k=J q.2 by simp[atKey,R.symm.trans e]];trivial
  . have e':¬ q.1=k:=λz=>e<|R.trans z;rw[Zgy e,show atKey (q::qs) k=atKey qs k by simp[atKey,e']];trivial
def KN.put{K}(r:KN K H kvs xs)(k)(hb:KyS K H b k)(ry:RelV y u):KN K H (putK kvs k y) (storedH xs k b u):=by
 have e:(kvs.any λkv=>Wu<|kv.1=k)=(atKey xs k).isSome:=by rw[ZjE,(r.val k).isSome_eq,Option.isSome_map]
 unfold putK storedH;rw[e];by_cases q:(atKey xs k).isSome=Ws
 . rw[if_pos q,if_pos q];clear e q;induction r with
   |nil=>exact .nil
   |@cons p q ps qs h t ih=>
    refine .cons ?_ ih;obtain⟨R,h2,h3⟩:=h;show(if p.1=k then(p.1,y)else p).1=(putAt k u q).1/\KyS K H (putAt k u q).2.1 (if p.1=k then(p.1,y)else p).1/\RelV (if p.1=k then(p.1,y)else p).2 (putAt k u q).2.2;unfold putAt;by_cases e:p.1=k
    . rw[if_pos e,if_pos<|R.symm.trans e];trivial
    . rw[if_neg e,if_neg<|λz=>e<|R.trans z];trivial
 . rw[if_neg q,if_neg q];exact Paired.snoc r ⟨rfl,hb,ry⟩
section
variable {X:Cx}{ac:List (Yj×Obj)}{Z:St}{H:Hp}{s:Yb}{a:Yj}
def Inv.nk(I:Inv X ac Z H s)(h:KyS X.K H b k):Zeb X.prog X.w s.heap k b:=by
 obtain⟨c,R,h2⟩:=h;obtain⟨its,r,⟨o,e,cl,n,d⟩,_⟩:=I.tuple R;obtain⟨aF,r2,⟨o2,e2,gY,n2,d2⟩,_⟩:=I.tuple h2;cases r with
 |cons ra t=>cases t with
  |cons rb t=>cases t;obtain⟨t,rfl⟩:=ra;cases (rb);exact⟨o,t,c,n,e,cl,d,o2,aF.toArray,n2,e2,gY,d2,by simpa using ZjJ r2⟩
def Inv.dn(I:Inv X ac Z H s)(h:H a=J (.dT xs))(r:KN X.K H kvs xs):xs.length<=Yc/\(a==Yf)=Wt/\s.heap.DictOfH (Zln X.prog X.w) a xs:=by
 obtain⟨z,m,o,es,ep,e,ex,d,el,nd⟩:=(I.hok a _ h)
 refine⟨z,m,o,es,ep,e,ex,d,el,?_,nd⟩;clear h z e el nd;induction r with
 |nil=>simp
 |@cons p q ps qs hq t ih=>
  intro x hx;rcases O2.mp hx with rfl|hx
  . have:=I.nk hq.2.1;rw[hq.1]at this;trivial
  . exact ih x hx
def Zgk(hr:Room k X.A):(Zln X.prog X.w).room X.A.in1:=by
 have:=hr.un;show X.A.units+1+1<cLine
 lia
def Zxv(K:Yl)(neg:Bool):R2:=λx y H Q=>∃a b kvs xs k,y=.ref a/\x=.ref b/\KyS K H b k/\H a=J (.dT xs)/\KN K H kvs xs/\Q (.bl<|if neg then !(ZbB kvs k).isSome else(ZbB kvs k).isSome) H
def Zvb(hr:Room n X.A):OpR X (YM .In) (Zxv X.K Wt):=by intro ac s Z H x y v u Q I rx ry h;obtain⟨a,b,kvs,xs,k,rfl,rfl,hb,ha,rel,q⟩:=h;cases rx;cases ry;obtain⟨z,hm,dd⟩:=I.dn ha rel;refine wpAny_in_heap (Zgk hr) (I.nk hb) hm dd ?_;have e:=(rel.val k).isSome_eq;rw[Option.isSome_map]at e;rw[<-e];exact⟨.bl _,H,I.tok _,rfl,q⟩
def Zn2(hr:Room n X.A):OpR X (YM .NotIn) (Zxv X.K Ws):=by intro ac s Z H x y v u Q I rx ry h;obtain⟨a,b,kvs,xs,k,rfl,rfl,hb,ha,rel,q⟩:=h;cases rx;cases ry;obtain⟨z,hm,dd⟩:=I.dn ha rel;refine wpAny_notIn_heap (Zgk hr) (I.nk hb) hm dd ?_;have e:=(rel.val k).isSome_eq;rw[Option.isSome_map]at e;rw[<-e];exact⟨.bl _,H,I.tok _,rfl,q⟩
def ZzG(K:Yl):R2:=λx y H Q=>∃a b kvs xs k v,x=.ref a/\y=.ref b/\KyS K H b k/\H a=J (.dT xs)/\KN K H kvs xs/\ZbB kvs k=J v/\Q v H
def Zyj(hr:Room n X.A):IxR X (ZzG X.K):=by intro value slice ac s Z H x y v u Q I rx ry h hs;obtain⟨a,b,kvs,xs,k,z,rfl,rfl,hb,ha,rel,hv,q⟩:=h;cases rx;cases ry;obtain⟨_,hm,dd⟩:=I.dn ha rel;obtain⟨w',hw,bf⟩:=ZeM.some_of<|hv▸rel.val k;obtain⟨p,hp,dD⟩:=Oo.mp hw;exact subscriptTail_builtinR dd.typeIs PySem.F.slot_dict_getitem.lookup (wpAny_getItem_heap (Zgk hr) (I.nk hb) dd hp (by rw[dD];exact⟨rfl,z,H,I.tok _,bf,q⟩)) hs
def Zxh(K:Yl):ZoF:=λo i v H Q=>∃a b kvs xs k,o=.ref a/\i=.ref b/\KyS K H b k/\H a=J (.dT xs)/\KN K H kvs xs/\kvs.length<Yc/\∀r,RelV v r->Q (upd H a<|.dT<|storedH xs k b r)
theorem ZuG(hr:Room n X.A):ZoH X (Zxh X.K):=by
 intro ac s Z H o i v ov iv u Q I ro ri rv h;obtain⟨a,b,kvs,xs,k,rfl,rfl,hb,ha,rel,l,q⟩:=h;cases ro;cases ri;obtain⟨z,hm,dd⟩:=I.dn ha rel;refine wpAny_setItem_heap (Zgk hr) (I.nk hb) dd λh' eG hs=>⟨_,?_,q u rv⟩
 obtain⟨o',es,ep,hq,h2,h3,h4,_,h5⟩:=eG;exact I.write (by rw [ha];trivial) (.inl rfl) (λc q hc z=>(hs.2 c hc).trans z) ⟨_,hq⟩ (⟨by
   have e1:=Paired.length<|rel.put k hb rv;have:=Zdj kvs k v
   lia,hm,o',es,ep,hq,h2,h3,h4,h5⟩)
def Zuz:TE:=λ_ H Q=>∀p,H p=M->Q (.ref p) (upd H p<|.dT [])
def ZpJ:PE X (.Dict [] [] pos) Zuz:=λac s Z H Q I h=>wpAny_Dict_empty ⟨.ref s.heap.objs.size,_,I.laid (λ_ _ q=>Od _ q) (Oq _)<|show Zag X.prog X.w _ _ _ (.dT [])from⟨Yy _,beq_eq_false_iff_ne.mpr<|YL<|Ou I.big,_,#[],0,Oj _ rfl,⟨rfl,rfl,rfl⟩,rfl,rfl,List.nodup_nil⟩,rfl,h _<|I.hok.fresh<|Oq _⟩
end
end L2
namespace L2
open PySem PySem.Spec PyProof.Rows
open AutoSeq1 (wpAny_loadPart')
def range_any(bs:List Bool):(List.range bs.length).any (λi=>bs.getD i Wt)=bs.any id:=by
 have:=range_all<|bs.map λb=>!b;rw[Yu]at this;have e1:(List.range bs.length).any (λi=>bs.getD i Wt)=!((List.range bs.length).all λi=>(bs.map λb=>!b).getD i Wt):=by
  rw[List.not_all_eq_any_not,Bool.eq_iff_iff,List.any_eq_true,List.any_eq_true];have z:∀i∈List.range bs.length,bs.getD i Wt=!((bs.map λb=>!b).getD i Wt):=λi hi=>by simp_all
  exact⟨λ⟨i,hi,h⟩=>⟨i,hi,(z i hi).symm.trans h⟩,λ⟨i,hi,h⟩=>⟨i,hi,(z i hi).trans h⟩⟩
 rw[e1,this,List.not_all_eq_any_not,List.any_map];congr 1;funext b;simp
section
variable {X:Cx}
def Zow(hc:X.calm=Ws):Z4 X (.builtin "any") (λxs H Q=>∃(a:Yj) (bs:List Bool),xs=[.ref a]/\SqL X.K H a (bs.map V.bl)/\Q (.bl<|bs.any id) H):=by
 intro ac s Z H xs us Q I r h;obtain⟨a,bs,rfl,hx,q⟩:=h;obtain⟨u,rfl,rx⟩:=vals1 r;obtain rfl:u=YD a:=rx;obtain⟨its,rv,pl,hz⟩:=I.list hx;have hl:=by have:=rv.length;rw[Yu]at this;exact this.symm
 refine call_any_walk (wpAny_pyIter_list pl.isList ⟨s.heap.objs.size,_,_,_,_,_,λi=>bs.getD i Wt,rfl,Walks.list (A:=X.A.in1) (show X.A.in1.handled=M from I.ok.hd hc) s.heap.objs.size a (Ou (by obtain⟨_,_,e,_⟩:=pl;exact Yn e)) its.toArray,⟨⟨_,Oj _ rfl,rfl,rfl⟩,pl.isList.push _⟩,?_,λh' tk hk=>?_⟩)
 . intro i v s' Q' E' hv hq;have cf:its[i]?=J v:=by simpa using hv
   have hi:i<bs.length:=hl▸(Ob.mp cf).1;obtain⟨u',e',r'⟩:=rv.get (by rw[On,Og hi]<;>rfl);rw[cf]at e';cases e';obtain rfl:v=Value.bool bs[i]:=r';refine wpAny_truthy_bool ?_;have e:bs.getD i Wt=bs[i]:=by rw[List.getD_eq_getElem?_getD,Og hi]<;>rfl
   rw[<-e];exact hq
 . refine⟨.bl<|bs.any id,H,I.kept λb o e=>hk b o (λz=>?_)<|Od _ e,?_,q⟩
   . have:b=s.heap.objs.size:=by simpa using z
     subst this;exact absurd (Yn e) (Yw _)
   . rw[<-range_any];show Value.bool ((List.range its.toArray.size).any _)=_;rw[Of,hl]
def ZhZ{prog}{w}{A}{E}{s:Yb}{Q₁:Yk->Yb->Prop}(K:PySem.W.KdlSrc prog w T r d n P OK)(hh:A.handled=M)(hok:OK s.heap)(hn:n<=Yc)
 (h:∀(h':YG) (tk:Nat) (ai:Array Yk),s.heap.objs.size<=h'.objs.size->(∀b o,s.heap.get? b=J o->h'.get? b=J o)->ItemsOf P ai n->Q₁ (.ref h'.objs.size) {s with heap:=h'.push {cls:=.type "tuple",data:=.seq ai},toks:=tk}) :
 codeAny (model prog w) A (.call (.builtin "tuple.__new__") ⟨[.type "tuple",.ref r],[]⟩) (wants Q₁ E) s:=by
 refine codeAny_of_tree ?_;show YB _ A.in1 (do checkBuiltinCall "tuple.__new__" ⟨[.type "tuple",.ref r],[]⟩;again<|.builtin "tuple.__new__" ⟨[.type "tuple",.ref r],[]⟩) _ _ s;refine Ya<|Wi (PySem.F.newCall_tuple_1 _)<|Yd ⟨plainId_quiet PySem.F.plain_tuple_new _,codeAny_builtin PySem.F.entry_tuple_new ?_⟩;rw[Around.under_plainId PySem.F.plain_tuple_new _];have cg:=sub_tuple_self;have ku:=init_tuple_lookup;have nZ:=madeHere_tuple;have eQ:A.in1.handled=M:=hh;have mK:A.in1.in1.handled=M:=hh;have nt:=K.notTuple
 wp_walk using wpAny_typeOf (K.type s hok),Zdw K eQ hok hn,Zdw K mK hok hn
 intro h' tk ai aR hk aw;show YB _ _ (Builtin.Tuple.tupleExact ai.toList.toArray >>= λv=>ret v) _ _ _;unfold Builtin.Tuple.tupleExact;refine Ya (Yr ?_ (by show ai.toList.toArray.size<=Yc;simp only[Array.toArray_toList];rw[aw.1];exact hn));refine Yd ?_;have e:ai.toList.toArray=ai:=by simp
 rw[e];exact h h' tk ai aR hk aw
def ZhA{prog}{w}{A}{E}{s}{Q}(K:PySem.W.KdlSrc prog w T r d n P OK)(hh:A.handled=M)(hok:OK s.heap)(hn:n<=Yc)
 (h:∀(h':YG) (tk) (ai),s.heap.objs.size<=h'.objs.size->(∀b o,s.heap.get? b=J o->h'.get? b=J o)->ItemsOf P ai n->Q (.ref h'.objs.size) {s with heap:=h'.push {cls:=.type "tuple",data:=.seq ai},toks:=tk}) :
 YB (model prog w) A (call (.type "tuple") [.ref r]) Q E s:=callType_codes (Q₁:=λobj s₁=>s₁.TypeIs obj "tuple" /\ Q obj s₁) PySem.F.called_tuple (PySem.F.typeCall_tuple_1 _) PySem.F.entry_object_init
 (ZhZ K hh hok hn λh' tk ai aR hk aw=>⟨⟨_,Oj _ rfl,rfl⟩,h h' tk ai aR hk aw⟩) λobj s₁ h₁=>⟨h₁.1,PySem.F.args_object_init_2 obj _,object_init_meets PySem.F.called_tuple.init.lookup PySem.F.called_tuple.made (rfl) prog w A.in1 _ s₁ ⟨h₁.1,rfl,h₁.2⟩⟩
def ZrN(P:Yi)(w:Yh)(K:Yl):List V->Hp->VK->Prop:=λxs H Q=>∃a kvs,∃ss:List Str,xs=[.ref a]/\Dk P w K H a kvs/\kvs.map (·.1)=ss.map YE/\∀p,H p=M->Q (.ref p) (upd H p<|.tup<|ss.map V.str)
theorem Zkz (hc:X.A.handled=M):Z4 X (.type "tuple") (ZrN X.prog X.w X.K):=by
 intro ac s Z H xs us Q I r h;obtain⟨a,kvs,ss,rfl,hd,fO,q⟩:=h;obtain⟨u,rfl,ru⟩:=vals1 r;cases ru;obtain⟨z,hm,vs,rel,dd⟩:=I.dk hd;obtain⟨ep,fW⟩:=dd.dictAt;have hl:=(Paired.length rel).symm;have bX:=by
   simpa using congrArg List.length fO
 have bx:∀ (j:Nat) k x,vs[j]?=J (k,x)->∃ y,ss[j]?=J y/\k=YE y:=λj k x e=>by
   have hj:j<vs.length:=(Ob.mp e).1;have R:kvs[j]?=J kvs[j]:=Og (by lia);obtain⟨u,hu,i9⟩:=Zez rel R;rw [e] at hu;cases hu;have h3:(kvs.map (·.1))[j]?=J kvs[j].1:=by rw [On,R];rfl
   rw [fO,On] at h3;obtain⟨y,hy,e3⟩:=Oo.mp h3;exact⟨y,hy,i9.1.symm.trans e3.symm⟩
 refine ZhA (PySem.W.kdl_dict (knd:=ZP X.prog X.w) (kvs:=vs) (ep:=ep) hm) hc fW (by lia) λh' tk ai aR hk aw=>?_;have I1:=I.kept (t':=tk) hk;exact⟨.ref h'.objs.size,_,I1.laid (a:=h'.objs.size) (o:=.tup<|ss.map V.str) (t':=tk) (λb o e=>Od _ e) (Oq _) ⟨by simp;lia,ai.toList,ZdR (Zew (P:=X.prog) (w:=X.w) ss ai.toList (by rw [Array.length_toList,aw.1];lia) λj v hv=>by
   obtain⟨k,x,e,jt⟩:=aw.2 j v<|Array.getElem?_toList.symm.trans hv;obtain⟨y,hy,rfl⟩:=bx j k x e;exact⟨y,hy,jt⟩),Array.toArray_toList▸ZbT.fresh _ _⟩,rfl,q _<|I1.hok.fresh<|Oq _⟩
end
end L2
namespace L2
open PySem PySem.Spec PyProof.Rows
theorem ZjQ:∀{cs:List Yj}{us},Zn (cs.map V.ref) us->us=cs.map YD
 |[],_,.nil=>rfl
 |c::cs,_,.cons r q=>by rw[ZjQ q];cases r;rfl
def Zh3:Z4 X (.builtin "isinstance") (λxs H Q=>∃a oe D tp,∃cs:List Yj,∃b,xs=[.ref a,.ref tp]/\(a,oe)∈X.pn/\oe.cls=.ref D/\ExcA X.K D/\SqT X.K H tp (cs.map V.ref)/\PySem.W.kitAny X.K (.ref D) (cs.map YD)=J b/\Q (.bl b) H):=by intro ac s Z H xs us Q I r h;obtain⟨a,oe,D,tp,cs,b,rfl,hp,hc,Z_,ht,e,q⟩:=h;obtain⟨u,w',rfl,rx,rT⟩:=vals2 r;obtain rfl:u=YD a:=rx;obtain rfl:w'=YD tp:=rT;obtain⟨its,rv,⟨o,ho,oc,n,od⟩,_⟩:=I.tuple ht;obtain rfl:=ZjQ rv;obtain⟨c,d,da,sl⟩:=o;cases oc;cases od;exact PySem.W.kia_tup (Zkc Z_) I.kIn ⟨oe,(I.pin (a,oe)<|Ys _ hp).1,hc⟩ ho e (by simp) λtk=>⟨.bl b,H,I.tok tk,rfl,q⟩
noncomputable def cxP(X:Cx)(a:Yj)(oe:Obj):Cx:={X with pn:=X.pn++[(a,oe)]}
section
variable {X:Cx}{ac:List (Yj×Obj)}{Z:St}{H:Hp}{s:Yb}{a:Yj}{oe:Obj}
def Inv.toP(I:Inv (cxH X a oe) ac Z H s)(hd:X.calm=Ws->X.A.handled=M):Inv (cxP X a oe) ac Z H s:=⟨⟨I.ok.mod,I.ok.kind,I.ok.glob,I.ok.blt,I.ok.above,I.ok.inj,I.ok.has,I.ok.cab,hd,I.ok.frames,I.ok.stk,I.ok.exf,I.ok.bs,I.ok.bsz,I.ok.noex,I.ok.exfs,I.ok.funs,I.ok.frf⟩,I.os,I.bare,I.base,I.loc,I.cell,I.free,I.freeC,I.pin,I.hok,I.len⟩
theorem Inv.ofP(I:Inv (cxP X a oe) ac Z H s):Inv X ac Z H s :=
 ⟨⟨I.ok.mod,I.ok.kind,I.ok.glob,I.ok.blt,I.ok.above,I.ok.inj,I.ok.has,I.ok.cab,I.ok.hd,I.ok.frames,I.ok.stk,I.ok.exf,I.ok.bs,I.ok.bsz,I.ok.noex,I.ok.exfs,I.ok.funs,I.ok.frf⟩,I.os,I.bare,I.base,I.loc,I.cell,I.free,I.freeC,
   λp hp=>I.pin p (by
     rcases OD.mp hp with z|z
     . exact Ys _ (Ys _ z)
     simp_all),I.hok,I.len⟩
end
def CXF.el{p:Prop}{e}(h:CR (CXF P w) outer P w H s Q E (.error e) s')(k:∀a cls a0 H' B_,e=.ref a->s'.os=s.os->AllBare s'.gens->Un (frs outer) [] H H' s.heap s'.heap->HOk P w H' s'.heap->Heap.FlyingW B_ outer a cls a0 s'.heap->Kept (frs outer) H' s.heap s'.heap B_->H' a=M->E cls M H'->p):p:=by obtain⟨a,cls,a0,H',B_,b,c,d,e,f,g,i,j,l⟩:=h;exact k a cls a0 H' B_ b c d e f g i j l
noncomputable def ZtG(K:Yl)(sp:Sp)(C2:Yj)(i ie:Nat)(tr:Yj->Obj->TS)(t:TA):TS:=λD Z H=>t Z H λvs H1=>sp vs H1 (λ_ _=>False) (λcls _ H2=>∃C,cls=.ref C/\YT K (.ref C) (.ref C2)=J Ws /\
 ∀a oe σ',oe.cls=.ref C->σ'[i]?=J (J<|.ref a)->tr a oe D σ' H2)
section
variable {X:Cx}{k:Nat}{x cx n y:Str}{ps:List Str}{sp:Sp}{e:Expr}{es:List Expr}{t:TA}{p np ay eF cq pos px mp q0:Pos}{f C2:Yj}{fd:FuncData}{i ie:Nat}{ag:List Stmt}{tr:Yj->Obj->TS}
theorem ZjW(F:FnOk X.prog X.w X.K X.mg X.base (CXF X.prog X.w) k f fd ps sp)(hr:Room k X.A)(hg:Gl X x)(hm:X.mg x=J (.ref f))(hk:Wb X.K (.ref f)=Ws)(hb:Binds X.K fd ps [])(ha:PA X.nox (e::es) t)
   (mM:Gl X cx) (mz:X.mg cx=J (.ref C2)) (hC:ExcN X.K C2) (hN:X.N.Nodup) (hi:X.N[ie]?=J n) (hl:X.env.scope.names.lookup n=J .local) (fL:X.stack=X.env::X.outer) (jv:X.env.frame=J X.env.locals)
   (hy:X.N[i]?=J y) (lh:y≠n) (Ly:Loc X.env.scope y) (fy:X.fn y=Ws\/X.env.scope.names.lookup y=J .local) (dn:(n==("__debug__" : Str))=Wt) (cn:(n==("__classdict__" : Str))=Wt)
   (fM:∀ a oe,PSs (cxP X a oe) ag<|tr a oe) (bj:(x==("__debug__" : Str))=Wt) (jA:(cx==("__debug__" : Str))=Wt) (he:YA (e::es) X.env=(Wt,eval e X.env)::YA es X.env) (aG:(YR ay<|YA es X.env).any (·.1)=Wt)
   (jd:swapsWith (.Call (.Name x p) (e::es) [] ay) M eF.line X.env=pure Wt:=by rfl) :
   PSs X (.Try [.Expr (.Call (.Name x p) (e::es) [] ay) eF] [.ExceptHandler (J<|.Name cx np) (J n) [.Assign [.Name y px] (.Name n mp) q0] cq] [] [] pos::ag) (ZtG X.K sp C2 i ie tr t):=by
 intro ac s Z H D I h;refine wpAny_execs_cons<|wpAny_Try_except<|wpAny_execs_cons<|wpAny_Expr_any (YV<|ZcK I hg hm (PySem.W.callWith_K (h₀:=X.base) I.ok.mod.kin hk (Yg (ha ay ac s Z H _ (I.wish _) h) (λus s1 ⟨vs,H1,I1',r,q⟩=>?_) λ_ _ z=>z.elim) he aG) bj) I.quiet jd;have I1:Inv X ac Z H1 s1:=I1'.unwish;refine⟨I1.kIn,?_⟩;have kz:=hb s1 us I1.kIn (by rw [Yt,<-r.length];exact F.len _ _ _ _ q);rw [Yt] at kz;refine wpAny_call<|codeAny_mono (F.run X.A X.stack s1 H1 ⟨us,[]⟩ us vs _ _ hr I1.env0 kz r q) λr s' hq=>?_;cases r with
 |ok fl =>
   cases fl with
   |ret u =>
     obtain⟨v,H',I',rv,q'⟩:=I1.after hq;exact q'.elim
   |next|brk|cont=>exact False.elim hq
 |error ev =>
   refine CXF.el hq λa cls a0 H' B_ e os bare un hok fl kb hna ⟨C,z,cg,hts⟩=>?_;subst e z;have jx:∀ b∈frs X.stack,∃ o,s'.heap.get? b=J o/\∀ vs,o.data≠.fields vs:=λb hb=>by
     obtain⟨_,o,q,nf⟩:=(I1.call' (ch:=[]) os un hok bare<|λb z=>absurd z<|by simp).stack.mem hb;exact⟨o,q,nf⟩
   have jN:∀ h2:YG,B_.StaysIn h2->s'.heap.UpToSlots h2->∀ tk,Inv X ac Z H' {s' with heap:=h2,toks:=tk}:=λh2 st up tk=>by
     obtain⟨r1,r2,_⟩:=ZeB un hok kb st up jx;exact I1.call' (s':={s' with heap:=h2,toks:=tk}) (ch:=[]) os r1 r2 bare (λb z=>absurd z<|by simp)
   refine wpAny_looks_onW (by rw [<-fL];exact I1.ok.frames) jv (by rw [<-fL];exact fl) λh4 held4 up4=>?_;refine wpAny_landsW held4 λh5 fl5 up5=>?_;refine wpAny_handleBy_cons (codeAny_handlers_test<|ZcK (X:=cxM X a) ((jN h5 fl5.1 (up4.trans up5) s'.toks).toM a) mM mz ?_ jA) (by intro q;cases q);obtain⟨oe,mi,gL⟩:=fl5.there;refine Zkl (s:={s' with heap:=h5}) (jN h5 fl5.1 (up4.trans up5) s'.toks).kIn hC.ty hC.cls hC.exc cg mi gL<|codeAny_handlers_suite_as ?_;refine lands_againW fl5 λh6 fl6 up6=>?_;have I6:Inv X ac Z H' {s' with heap:=h6}:=jN h6 fl6.1 ((up4.trans up5).trans up6) s'.toks;obtain⟨eK,ws,dF,jn,dG,_⟩:=fl6.first;have mv:a ∉ X.fs:=λz=>by
     obtain⟨_,o,q,nf⟩:=I6.funs.mem z;rw [dF] at q;cases q;exact nf _ dG
   have IH:Inv (cxH X a eK) ac Z H' {s' with heap:=h6}:=I6.toH dF hna (λz=>by
     obtain⟨m,⟨o,gU,ep,ho,hd,_⟩,_⟩:=I6.loc;rw [<-z,dF] at ho;cases ho;rw [dG] at hd;cases hd) mv (λv z=>by rw [dG] at z;cases z)
   have lq:ie≠i:=λz=>lh<|YF<|hy.symm.trans<|z▸hi;have ju:ie<Z.length:=by rw [I.len];exact(Ob.mp hi).1
   refine ZeS (X:=cxH X a eK) IH hN hi (.inl hl) (v:=.ref a) rfl (λs7 I7=>?_)<|.inr hl;have hs:=ZmK<|Zla (X:=cxH X a eK) (i:=i) (pos:=q0) (pos':=px) hN hy Ly (Zlf (pos:=mp) hi (.inl hl) dn cn) rfl fy;refine Yg (hs ac s7 _ H' ⟨λσ' jP=>σ'=(Z.set ie<|J<|.ref a).set i (J<|.ref a)/\jP=H',λ_ _=>False,λ_ _=>False,λ_ _=>False⟩ I7 ⟨_,Ol ju,rfl,rfl⟩) (λfl s8 q8=>?_) λ_ _ z=>z.elim;cases fl with
   |next =>
     obtain⟨σ',H8,I8,rfl,rfl⟩:=q8;refine Zn8 (X:=cxP X a eK) (I8.toP I.ok.hd) hN hi hl λs9 I9=>?_;refine thn (fM a eK ac s9 _ _ D I9<|hts a eK _ jn (by rw [Oc lq];exact Ol (by rw [List.length_set,I.len];exact(Ob.mp hy).1))) λfl jT q10=>?_;cases fl with
     |next|brk|cont =>
       obtain⟨σ',H8,I8,q8⟩:=q10;exact⟨σ',H8,I8.ofP,q8⟩
     |ret v =>
       obtain⟨y,σ',H8,I8,r8,q8⟩:=q10;exact⟨y,σ',H8,I8.ofP,r8,q8⟩
   |brk|cont=>obtain⟨_,_,_,z⟩:=q8;exact z.elim
   |ret v=>obtain⟨_,_,_,_,_,z⟩:=q8;exact z.elim
end
def ZsN{X}{i:Nat}{y}{a}{oe}{W A B_}{wa aa ba}(ky:Gl X (O "isinstance"))(ke:X.mg (O "isinstance")=M)(hy:X.N[i]?=J y)(ly:Vis X.env.scope y)(dn:(y==("__debug__"))=Wt)(cn:(y==("__classdict__"))=Wt)
 (gW:Gl X W) (mW:X.mg W=J (.ref wa)) (dW:(W==("__debug__"))=Wt) (gA:Gl X A) (mA:X.mg A=J (.ref aa)) (dA:(A==("__debug__"))=Wt) (gB:Gl X B_) (mB:X.mg B_=J (.ref ba)) (dB:(B_==("__debug__"))=Wt) :
 PSs (cxP X a oe) [.Return (J<|.BoolOp .And [.Call (.Name (O "isinstance") p1) [.Name y p2,.Name W p3] [] p4,.UnaryOp .Not (.Call (.Name (O "isinstance") p5) [.Name y p6,.Tuple [.Name A p7,.Name B_ p8] x1 p9] [] df) de] c9) fu]
  (λD Z H=>∃c,oe.cls=.ref c/\ExcA X.K c/\Z[i]?=J (J<|.ref a)/\PySem.W.kitOne X.K (.ref c) (.ref wa)=J Ws/\PySem.W.kitOne X.K (.ref c) (.ref aa)=J Wt/\PySem.W.kitOne X.K (.ref c) (.ref ba)=J Wt/\∀p,H p=M->D.rt (.bl Ws) (upd H p<|.tup [.ref aa,.ref ba])):=by
 have v:=λpp=>Zlf (X:=cxP X a oe) (pos:=pp) hy ly dn cn;have h3:=ZmK (Zpv (pos:=fu)<|ZpL (pos:=c9) (Za2 (X:=cxP X a oe) (p:=p1) (pos:=p4) Zjm ky ke (by decide +kernel)<|Z7 (v p2)<|Z7 (Zgm (pos:=p3) gW mW (v:=.ref wa) rfl dW) Zci)<|Zlg<|ZpE (pos:=de)<|Za2 (X:=cxP X a oe) (p:=p5) (pos:=df) Zh3 ky ke (by decide +kernel)<|Z7 (v p6)<|Z7 (ZpC (x1:=x1) (pos:=p9)<|Z7 (Zgm (pos:=p7) gA mA (v:=.ref aa) rfl dA)<|Z7 (Zgm (pos:=p8) gB mB (v:=.ref ba) rfl dB) Zci) Zci);intro ac s Z H D I ⟨c,hc,hA,hs,k1,k2,k3,q⟩;have hp:(a,oe)∈(cxP X a oe).pn:=Ov _<|Ox.mpr rfl;refine h3 ac s Z H D I ⟨_,hs,a,oe,c,.ref wa,.ref wa,Ws,rfl,hp,hc,hA,rfl,k1,Ws,rfl,?_⟩;rw[if_pos rfl];exact⟨_,hs,(by show 2<=Yc;decide),λp hn=>⟨a,oe,c,p,[aa,ba],Wt,rfl,hp,hc,hA,SqT.of Zh,by show PySem.W.kitAny X.K (.ref c) [.ref aa,.ref ba]=J Wt;simp[PySem.W.kitAny,k2,k3],Wt,rfl,q p hn⟩⟩
end L2
namespace IV
open PySem PySem.Spec PyProof.Rows L2
set_option tactic.hygienic false
inductive D where
 |non|bl (b:Bool)|int (i:Int)|str (x:Str)|tup (xs:List D)|ref (i:Nat)|ty (n:String)
 |ro (xs:List D)|kd (x:Str)
inductive DO where
 |lst (xs:List D)|dic (kvs:List (Key×D))|ins (C:Str) (fs:List (Str×D))
 |fdic (kvs:List (Key×D))
 |dnk (kvs:List (NK×D))
noncomputable abbrev Hd:=List DO
inductive qd(α:Type) where
 |bad|ok (a:α) (h:Hd)|exc (c:Str) (h:Hd)
noncomputable def qd.bind(r:qd α)(k:α->Hd->qd β):qd β:=match r with
 |.bad=>.bad
 |.ok a h=>k a h
 |.exc c h=>.exc c h
def qd.bind_ok:(qd.ok a h).bind k=k a h:=rfl
def qd.bind_bad:(qd.bad:qd α).bind k=.bad:=rfl
noncomputable def qd.ofO(o:Option α)(h:Hd):qd α:=match o with
 |some a=>.ok a h
 |none=>.bad
def qd.ofO_some:qd.ofO (J a) h=.ok a h:=rfl
noncomputable abbrev Ev:=List (Option D)
inductive Bf where
 |len
 |isi
 |int
 |tup
 |lst
 |sum
 |srt
 |anb
 |tdk
 deriving DecidableEq
inductive Mf where
 |app|ext|pop|rev|clr
 deriving DecidableEq
inductive Tf where
 |spl
 |joi
 deriving DecidableEq
mutual
inductive Ex where
 |var (i:Nat)
 |cst (d:D)
 |glo (x:Str)
 |bin (op:Operator) (a b:Ex)
 |cmp (op:CmpOp) (a b:Ex)
 |neg (a:Ex)
 |nt (a:Ex)
 |ands (es:Exs)
 |ors (es:Exs)
 |ite (c:Tx) (a b:Ex)
 |tupl (es:Exs)
 |lstl (es:Exs)
 |ix (a i:Ex)
 |sl (a:Ex) (lo hi:Option Ex)
 |blt (f:Bf) (es:Exs)
 |call (f:Str) (es:Exs)
 |meth (m:Mf) (o:Ex) (es:Exs)
 |comp (NC:List Str) (js:List (Option Nat)) (it:Ix) (g:Tg) (c:Option Tx) (e:Ex)
 |dictl (ps:Exs)
 |maxd (e d:Ex)
 |att (Cs:List Str) (o:Ex) (f:Str)
 |mk (C:Str) (es:Exs)
 |mcl (C m:Str) (o:Ex) (es:Exs)
 |any
 |lrv (e:Ex)
 |rpn (o:Bool) (a b:Ex)
 |nin (n:Bool) (a b:Ex)
 |nix (a b:Ex)
 |ndl
inductive Exs where
 |nil|cons (e:Ex) (es:Exs)
inductive Ix where
 |pl (e:Ex)
 |rng (e:Ex)
 |enu (e:Ex)
 |rev (e:Ex)
 |en1 (e:Ex)
 |dk (e:Ex)
inductive Tg where
 |nm (i:Nat)|two (i j:Nat)|many (is:List Nat)
inductive Tx where
 |ex (e:Ex)|ands (ts:Txs)|ors (ts:Txs)|nt (a:Tx)
inductive Txs where
 |one (t:Tx)|cons (t:Tx) (ts:Txs)
end
noncomputable abbrev Ex.ci(i:Int):Ex:=.cst (.int i)
noncomputable abbrev Ex.Ci_(x:String):Ex:=.cst (.str<|O x)
mutual
inductive Sx where
 |ret (e:Ex)
 |set (g:Tg) (e:Ex)
 |put (o i e:Ex)
 |aug (i:Nat) (op:Operator) (e:Ex)
 |drp (e:Ex)
 |iff (c:Tx) (a b:Sxs)
 |whl (c:Tx) (b:Sxs)
 |forr (g:Tg) (it:Ix) (b:Sxs)
 |pas
 |brk
 |cnt
 |seta (Cs:List Str) (o:Ex) (f:Str) (e:Ex)
 |auga (Cs:List Str) (o:Ex) (f:Str) (e:Ex)
 |any
 |rai (C:Str) (e:Ex)
 |npt (o i e:Ex)
inductive Sxs where
 |nil|cons (s:Sx) (r:Sxs)
 |trq (i n:Nat) (f:Str) (es:Exs) (C c W A B_:Str)
end
noncomputable abbrev Ex.v:=Ex.var
noncomputable abbrev Exs.c:=Exs.cons
noncomputable abbrev Exs.n:=Exs.nil
noncomputable abbrev Sxs.c:=Sxs.cons
noncomputable abbrev Sxs.n:=Sxs.nil
noncomputable abbrev Txs.c:=Txs.cons
noncomputable abbrev F0:=Ex.ci 0
noncomputable abbrev F1:=Ex.ci 1
noncomputable abbrev F10:=Ex.ci 10
noncomputable abbrev F12:=Ex.ci 12
noncomputable abbrev F15:=Ex.ci 15
noncomputable abbrev F2:=Ex.ci 2
noncomputable abbrev F20:=Ex.ci 20
noncomputable abbrev F26:=Ex.ci 26
noncomputable abbrev F29:=Ex.ci 29
noncomputable abbrev F3:=Ex.ci 3
noncomputable abbrev F30:=Ex.ci 30
noncomputable abbrev F4:=Ex.ci 4
noncomputable abbrev F5:=Ex.ci 5
noncomputable abbrev F6:=Ex.ci 6
noncomputable abbrev F7:=Ex.ci 7
noncomputable abbrev F8:=Ex.ci 8
noncomputable abbrev V0:=Ex.var 0
noncomputable abbrev V1:=Ex.var 1
noncomputable abbrev V2:=Ex.var 2
noncomputable abbrev V3:=Ex.var 3
noncomputable abbrev V4:=Ex.var 4
noncomputable abbrev V5:=Ex.var 5
noncomputable abbrev V6:=Ex.var 6
noncomputable abbrev V7:=Ex.var 7
noncomputable abbrev V8:=Ex.var 8
noncomputable abbrev V9:=Ex.var 9
noncomputable abbrev Exs.o(a:Ex):Exs:=.cons a .nil
noncomputable abbrev Sxs.o(a:Sx):Sxs:=.cons a .nil
noncomputable abbrev Exs.w(a b:Ex):Exs:=.cons a (.cons b .nil)
noncomputable abbrev Sxs.w(a b:Sx):Sxs:=.cons a (.cons b .nil)
noncomputable abbrev Exs.u(a b c:Ex):Exs:=.cons a (.cons b<|.cons c .nil)
noncomputable abbrev Sxs.u(a b c:Sx):Sxs:=.cons a (.cons b<|.cons c .nil)
noncomputable abbrev Exs.z(a b c d:Ex):Exs:=.cons a (.cons b<|.cons c<|.cons d .nil)
noncomputable abbrev Sxs.z(a b c d:Sx):Sxs:=.cons a (.cons b<|.cons c<|.cons d .nil)
noncomputable abbrev Exs.y(a b c d e:Ex):Exs:=.cons a (.cons b<|.cons c<|.cons d<|.cons e .nil)
noncomputable abbrev Sxs.y(a b c d e:Sx):Sxs:=.cons a (.cons b<|.cons c<|.cons d<|.cons e .nil)
noncomputable abbrev Tx.q(a b:Ex):Tx:=.ex (.cmp .Eq a b)
noncomputable abbrev Tx.nq(a b:Ex):Tx:=.ex (.cmp .NotEq a b)
noncomputable abbrev Tx.x(o:PySem.CmpOp)(a b:Ex):Tx:=.ex (.cmp o a b)
noncomputable abbrev Sx.s(i:Nat)(e:Ex):Sx:=.set (.nm i) e
noncomputable abbrev Ex.f(f:String)(e:Exs):Ex:=.call (O f) e
noncomputable abbrev Ex.a(c:String)(x:Ex)(f:String):Ex:=.att [O c] x (O f)
noncomputable abbrev Ex.m(c f:String)(x:Ex)(e:Exs):Ex:=.mcl (O c) (O f) x e
noncomputable abbrev Sx.sa(c:String)(x:Ex)(f:String)(e:Ex):Sx:=.seta [O c] x (O f) e
noncomputable instance:DecidableEq D:=λa b=>Classical.propDecidable (a=b)
noncomputable instance:DecidableEq DO:=λa b=>Classical.propDecidable (a=b)
mutual
noncomputable def D.py(rd:Nat->Option PyData):D->Option PyData
 |.non=>J .none
 |.bl b=>J (.bool b)
 |.int i=>J (.int i)
 |.str x=>J (.str x)
 |.tup xs=>(D.pys rd xs).map .tuple
 |.ro xs=>(D.pys rd xs).map .list
 |.ref i=>rd i
 |_=>M
noncomputable def D.pys(rd:Nat->Option PyData):List D->Option (List PyData)
 |[]=>J []
 |x::xs=>(D.py rd x).bind λd=>(D.pys rd xs).map λds=>d::ds
end
def ZiO(h:Hd):Nat->Nat->Option PyData
 |0,_=>M
 |n+1,i=>match h[i]? with
  |some (.lst xs)=>(D.pys (ZiO h n) xs).map .list
  |_=>M
def Zk8(h:Hd)(d:D):Option PyData:=D.py (ZiO h 4) d
noncomputable def Zdb(o:DO)(h:Hd):qd D:=.ok (.ref h.length) (h++[o])
noncomputable def lstOf(d:D)(h:Hd):Option (List D):=match d with
 |.ref i=>match h[i]? with
  |some (.lst xs)=>J xs
  |_=>M
 |.ro xs=>J xs
 |_=>M
noncomputable def dicOf(GD:Str->Option (List<|Key×D))(d:D)(h:Hd):Option (List<|Key×D):=match d with
 |.ref i=>match h[i]? with
  |some (.dic kvs)=>J kvs
  |some (.fdic kvs)=>J kvs
  |_=>M
 |.kd x=>GD x
 |_=>M
noncomputable def keyOf:D->Option Key
 |.int i=>J (.inl i)
 |.str x=>J (.inr x)
 |_=>M
noncomputable def ZH(kvs:List (Key×D))(k:Key):Option D:=(kvs.find? λp=>Wu<|p.1=k).map (·.2)
def putD(kvs:List (Key×D))(k:Key)(v:D):List (Key×D):=if (kvs.any λkv=>Wu<|kv.1=k)=Ws then kvs.map (λkv=>if kv.1=k then(kv.1,v)else kv)else kvs++[(k,v)]
def cutD(xs:List D)(lo hi:Option Int):List D:=(xs.drop<|HT.sIx xs.length 0 lo).take (HT.sIx xs.length xs.length hi-HT.sIx xs.length 0 lo)
noncomputable def D.flat:D->Bool
 |.int _|.str _|.bl _|.non=>Ws
 |_=>Wt
noncomputable def eqF:D->D->Bool
 |.int i,.int j=>i==j
 |.str i,.str j=>i==j
 |.non,.non=>Ws
 |.bl i,.bl j=>i==j
 |.int i,.bl j=>i==(if j then 1 else 0)
 |.bl i,.int j=>(if i then 1 else 0)==j
 |_,_=>Wt
noncomputable def Zev(GD:Str->Option (List<|Key×D))(d:D)(h:Hd):Option Bool:=match d with
 |.non=>J Wt
 |.bl b=>J b
 |.int i=>J (i != 0)
 |.str x=>if x.length<=Yc then J (!(x.length==0))else M
 |.tup xs=>J (!xs.isEmpty)
 |.ref i=>match h[i]? with
  |some (.lst xs)=>J (!xs.isEmpty)
  |some (.dic xs)=>J (!xs.isEmpty)
  |_=>M
 |.ro xs=>J (!xs.isEmpty)
 |_=>M
noncomputable def int2(x y:D)(k:Int->Int->qd D):qd D:=match x with
 |.int i=>match y with
  |.int j=>k i j
  |_=>.bad
 |_=>.bad
def Ztv(x y:D)(h:Hd):qd D:=match x with
 |.int i=>match y with
  |.int j=>.ok (.int<|i+j) h
  |_=>.bad
 |.str i=>match y with
  |.str j=>if i.length+j.length<=Yc then .ok (.str<|i++j) h else .bad
  |_=>.bad
 |.tup xs=>match y with
  |.tup ys=>if xs.length+ys.length<=Yc then .ok (.tup<|xs++ys) h else .bad
  |_=>.bad
 |.ref i=>match y with
  |.ref j=>match h[i]? with
   |some (.lst xs)=>match h[j]? with
    |some (.lst ys)=>if xs.length+ys.length<=Yc then Zdb (.lst<|xs++ys) h else .bad
    |_=>.bad
   |_=>.bad
  |_=>.bad
 |_=>.bad
def Zx1(x y:D)(h:Hd):qd D:=match x with
 |.str z=>match y with
  |.int n=>if 0<=n/\n<=1000/\z.length<=1000 then .ok (.str<|Zf8 z n.toNat) h else .bad
  |_=>.bad
 |x=>int2 x y λi j=>if i.natAbs<2^2000/\j.natAbs<2^2000 then .ok (.int<|i*j) h else .bad
def opB(op:Operator)(x y:D)(h:Hd):qd D:=match op with
 |.Add=>Ztv x y h
 |.Sub=>int2 x y λi j=>.ok (.int<|i-j) h
 |.Mult=>Zx1 x y h
 |.Mod=>int2 x y λi j=>if 0<j then .ok (.int<|i%j) h else .bad
 |.FloorDiv=>int2 x y λi j=>if 0<j/\j<1073741824 then .ok (.int<|i/j) h else .bad
 |.Pow=>int2 x y λi j=>if 0<=j/\j<=1000000/\i.natAbs<2^64 then .ok (.int<|i^j.toNat) h else .bad
 |_=>.bad
def Zd3(neg:Bool)(x y:D)(h:Hd):qd D:=match Zk8 h x,Zk8 h y with
 |some a,J b=>if min a.depth b.depth<=1100 then .ok (.bl<|if neg then !PyData.eqv a b else PyData.eqv a b) h else .bad
 |_,_=>.bad
def seqOf(d:D)(h:Hd):Option (List D):=match d with
 |.tup xs=>J xs
 |d=>lstOf d h
def ZbV(GD:Str->Option (List<|Key×D))(neg:Bool)(x y:D)(h:Hd):qd D:=match seqOf y h with
 |some xs=>if x.flat&&xs.all D.flat then .ok (.bl<|if neg then !xs.any (λz=>eqF z x)else xs.any λz=>eqF z x) h else .bad
 |none=>match dicOf GD y h,keyOf x with
  |some kvs,J k=>.ok (.bl<|if neg then !(ZH kvs k).isSome else(ZH kvs k).isSome) h
  |_,_=>.bad
noncomputable def ZiV(f:Int->Int->Bool)(x y:D)(h:Hd):qd D:=match x,y with
 |.int i,.int j=>.ok (.bl<|f i j) h
 |_,_=>.bad
noncomputable def opN(neg:Bool)(x y:D)(h:Hd):qd D:=match y with
 |.non=>.ok (.bl<|if neg then !Wu (x=.non)else Wu (x=.non)) h
 |_=>.bad
def opC(GD:Str->Option (List<|Key×D))(op:CmpOp)(x y:D)(h:Hd):qd D:=match op with
 |.Eq=>Zd3 Wt x y h
 |.NotEq=>Zd3 Ws x y h
 |.Lt=>ZiV (λi j=>Wu<|i<j) x y h
 |.LtE=>ZiV (λi j=>Wu<|i<=j) x y h
 |.Gt=>ZiV (λi j=>Wu<|j<i) x y h
 |.GtE=>ZiV (λi j=>Wu<|j<=i) x y h
 |.In=>ZbV GD Wt x y h
 |.NotIn=>ZbV GD Ws x y h
 |.Is=>opN Wt x y h
 |.IsNot=>opN Ws x y h
def ZaM(GD:Str->Option (List<|Key×D))(x y:D)(h:Hd):qd D:=match y with
 |.int i=>match seqOf x h with
  |some xs=>qd.ofO (atI xs i) h
  |none=>match x with
   |.str z=>if z.length<=Yc then qd.ofO ((atI z.cps.toList i).map λc=>.str ⟨#[c]⟩) h else .bad
   |_=>match dicOf GD x h with
    |some kvs=>qd.ofO (ZH kvs<|.inl i) h
    |none=>.bad
 |.str z=>match dicOf GD x h with
  |some kvs=>qd.ofO (ZH kvs<|.inr z) h
  |none=>.bad
 |_=>.bad
def ZhY(x:D)(l u:Option Int)(h:Hd):qd D:=match x with
 |.tup xs=>.ok (.tup<|cutD xs l u) h
 |.str y=>if y.length<=Yc then .ok (.str<|Yq y l u) h else .bad
 |d=>match lstOf d h with
  |some xs=>Zdb (.lst<|cutD xs l u) h
  |none=>.bad
def ZwR(d:D)(h:Hd):Option String:=match d with
 |.int _=>J "int"
 |.str _=>J "str"
 |.bl _=>J "bool"
 |.non=>J "NoneType"
 |.tup _=>J "tuple"
 |d=>(lstOf d h).map λ_ => "list"
noncomputable def ZlG(t T:String):Option Bool:=if T∈["int", "str", "bool", "tuple", "list"]/\t∈["int", "str", "bool", "tuple", "list", "NoneType"]then J (t==T||(t == "bool" && T == "int"))else M
noncomputable def intsOf:List D->Option (List Int)
 |[]=>J []
 |.int i::r=>(intsOf r).map λz=>i::z
 |_=>M
noncomputable def ZhD:List D->Option (List Bool)
 |[]=>J []
 |.bl i::r=>(ZhD r).map λz=>i::z
 |_=>M
noncomputable def strsOf:List D->Option (List Str)
 |[]=>J []
 |.str i::r=>(strsOf r).map λz=>i::z
 |_=>M
noncomputable def Zan:List (Key×D)->Option (List Str)
 |[]=>J []
 |(.inr x,_)::r=>(Zan r).map λz=>x::z
 |_=>M
noncomputable def ZnU(x:Str):List Str->List Str
 |[]=>[x]
 |y::r=>if ltCps y.cps.toList x.cps.toList then y::ZnU x r else x::y::r
def ZcZ:List Str->List Str
 |[]=>[]
 |x::r=>ZnU x (ZcZ r)
def Zjw(xs:List D)(h:Hd):qd D:=match xs with
 |[.str y]=>if y.length<=Yc then .ok (.int y.length) h else .bad
 |[d]=>qd.ofO ((seqOf d h).map λxs=>.int xs.length) h
 |_=>.bad
def Zwn(xs:List D)(h:Hd):qd D:=match xs with
 |[d,.ty T]=>qd.ofO ((ZwR d h).bind λt=>(ZlG t T).map .bl) h
 |_=>.bad
noncomputable def Zwo(xs:List D)(h:Hd):qd D:=match xs with
 |[.int i]=>.ok (.int i) h
 |[.bl b]=>.ok (.int<|if b then 1 else 0) h
 |_=>.bad
def ZkS(xs:List D)(h:Hd):qd D:=match xs with
 |[.tup xs]=>.ok (.tup xs) h
 |[d]=>qd.ofO ((lstOf d h).map .tup) h
 |_=>.bad
def Zq5(xs:List D)(h:Hd):qd D:=match xs with
 |[d]=>match seqOf d h with
  |some xs=>Zdb (.lst xs) h
  |none=>.bad
 |_=>.bad
def Zq2(xs:List D)(h:Hd):qd D:=match xs with
 |[d]=>qd.ofO (((lstOf d h).bind intsOf).map λns=>.int ns.sum) h
 |_=>.bad
def Zfp(GD:Str->Option (List<|Key×D))(xs:List D)(h:Hd):qd D:=match xs with
 |[d]=>match (dicOf GD d h).bind Zan with
  |some ss=>if ss.length<64/\ss.all Yp=Ws then Zdb (.lst<|(ZcZ ss).map .str) h else .bad
  |none=>.bad
 |_=>.bad
def nkD:D->Option NK
 |.tup [.int n,.tup ss]=>(strsOf ss).map λss=>(n,ss)
 |_=>M
noncomputable def valN(kvs:List (NK×D))(k:NK):Option D:=(kvs.find? λp=>Wu<|p.1=k).map (·.2)
def putN(kvs:List (NK×D))(k:NK)(v:D):List (NK×D):=if (kvs.any λkv=>Wu<|kv.1=k)=Ws then kvs.map (λkv=>if kv.1=k then(kv.1,v)else kv)else kvs++[(k,v)]
noncomputable def Zoo(d:D)(h:Hd):Option (List<|NK×D):=match d with
 |.ref i=>match h[i]? with
  |some (.dnk kvs)=>J kvs
  |_=>M
 |_=>M
def Zmg(n:Bool)(x y:D)(h:Hd):qd D:=match Zoo y h with
 |some kvs=>match nkD x with
  |some k=>.ok (.bl<|if n then !(valN kvs k).isSome else(valN kvs k).isSome) h
  |none=>.bad
 |none=>.bad
def Zq4(x y:D)(h:Hd):qd D:=match Zoo x h with
 |some kvs=>match nkD y with
  |some k=>qd.ofO (valN kvs k) h
  |none=>.bad
 |none=>.bad
def Zq3(o i v:D)(h:Hd):qd Unit:=match o with
 |.ref a=>match h[a]? with
  |some (.dnk kvs)=>match nkD i with
   |some k=>if kvs.length<Yc then .ok () (h.set a<|.dnk<|putN kvs k v)else .bad
   |none=>.bad
  |_=>.bad
 |_=>.bad
def Zwp(xs:List D)(h:Hd):qd D:=match xs with
 |[d]=>qd.ofO (((lstOf d h).bind ZhD).map λbs=>.bl<|bs.any id) h
 |_=>.bad
def Zq1(GD:Str->Option (List<|Key×D))(xs:List D)(h:Hd):qd D:=match xs with
 |[d]=>match (dicOf GD d h).bind Zan with
  |some ss=>if ss.all Yp=Ws then .ok (.tup<|ss.map .str) h else .bad
  |none=>.bad
 |_=>.bad
def Znz(x d:D)(h:Hd):qd D:=match d with
 |.int d=>qd.ofO (((lstOf x h).bind intsOf).map λns=>.int<|Zfw ns d) h
 |_=>.bad
def Zaj(GD:Str->Option (List<|Key×D)):Bf->List D->Hd->qd D
 |.len=>Zjw
 |.isi=>Zwn
 |.int=>Zwo
 |.tup=>ZkS
 |.lst=>Zq5
 |.sum=>Zq2
 |.srt=>Zfp GD
 |.anb=>Zwp
 |.tdk=>Zq1 GD
def ZyK(x:D)(h:Hd):qd D:=match x with
 |.tup ys=>Zdb (.lst ys.reverse) h
 |_=>.bad
def Zch:List D->Option (List<|Key×D)
 |[]=>J []
 |k::v::r=>match keyOf k,Zch r with
  |some k,J r=>J ((k,v)::r)
  |_,_=>M
 |_=>M
def ZbC(kvs more:List (Key×D)):List (Key×D):=more.foldl (λai kv=>putD ai kv.1 kv.2) kvs
noncomputable def Zp9(i:Nat)(ys xs:List D)(h:Hd):qd D:=match xs with
 |[d]=>if ys.length<Yc then .ok .non (h.set i<|.lst<|ys++[d])else .bad
 |_=>.bad
noncomputable def ZsA(i:Nat)(ys xs:List D)(h:Hd):qd D:=match xs with
 |[.ref j]=>match h[j]? with
  |some (.lst zs)=>if ys.length+zs.length<=Yc then .ok .non (h.set i<|.lst<|ys++zs)else .bad
  |_=>.bad
 |[.tup zs]=>if ys.length+zs.length<=Yc then .ok .non (h.set i<|.lst<|ys++zs)else .bad
 |_=>.bad
noncomputable def Zsz(i:Nat)(ys xs:List D)(h:Hd):qd D:=match xs with
 |[]=>match ys[ys.length-1]? with
  |some y=>.ok y (h.set i<|.lst ys.dropLast)
  |none=>.bad
 |_=>.bad
noncomputable def Zvs(i:Nat)(ys xs:List D)(h:Hd):qd D:=match xs with
 |[]=>.ok .non (h.set i<|.lst ys.reverse)
 |_=>.bad
noncomputable def Zx4(i:Nat)(ys xs:List D)(h:Hd):qd D:=match xs with
 |[]=>.ok .non (h.set i<|.lst [])
 |_=>.bad
def shD(x:D)(h:Hd):qd Str:=match Zk8 h x with
 |some d=>if L2.ZnO d=Ws then .ok d.shown h else .bad
 |none=>.bad
def Zfv:Mf->Nat->List D->List D->Hd->qd D
 |.app=>Zp9
 |.ext=>ZsA
 |.pop=>Zsz
 |.rev=>Zvs
 |.clr=>Zx4
def Zax(m:Mf)(o:D)(xs:List D)(h:Hd):qd D:=match o with
 |.ref i=>match h[i]? with
  |some (.lst ys)=>Zfv m i ys xs h
  |_=>.bad
 |_=>.bad
noncomputable def ZfW(o:D)(h:Hd):Bool:=match o with
 |.ref i=>match h[i]? with
  |some (.lst _)=>Ws
  |_=>Wt
 |_=>Wt
def ZaD(o i v:D)(h:Hd):qd Unit:=match o with
 |.ref a=>match h[a]? with
  |some (.lst xs)=>match i with
   |.int k=>match ixN xs.length k with
    |some j=>.ok () (h.set a<|.lst<|xs.set j v)
    |none=>.bad
   |_=>.bad
  |some (.dic kvs)=>match keyOf i with
   |some k=>if kvs.length<Yc then .ok () (h.set a<|.dic<|putD kvs k v)else .bad
   |none=>.bad
  |_=>.bad
 |_=>.bad
structure Wk where
 src:List (Nat×List D)
 xs:List D
noncomputable def Wk.stays:List (Nat×List D)->Hd->Bool
 |[],_=>Ws
 |(i,xs)::r,h=>Wu (h[i]?=J (.lst xs))&&Wk.stays r h
noncomputable def ZaA(d:D)(h:Hd):Option Wk:=match d with
 |.tup xs=>J ⟨[],xs⟩
 |.ro xs=>J ⟨[],xs⟩
 |.ref i=>match h[i]? with
  |some (.lst xs)=>J ⟨[(i,xs)],xs⟩
  |_=>M
 |_=>M
noncomputable def Zgw(d:D)(h:Hd):Option Wk:=match d with
 |.ro xs=>J ⟨[],xs⟩
 |.ref i=>match h[i]? with
  |some (.lst xs)=>J ⟨[(i,xs)],xs⟩
  |_=>M
 |_=>M
noncomputable def Zgv(d:D)(h:Hd):Option Wk:=match d with
 |.tup xs=>J ⟨[],xs⟩
 |.ref i=>match h[i]? with
  |some (.lst xs)=>J ⟨[(i,xs)],xs⟩
  |_=>M
 |_=>M
noncomputable def Zbe(lo:Int)(n:Nat):List D:=(List.range n).map λ(k:Nat)=>.int (lo+(k:Int))
noncomputable def Zdv(xs:List D):List D:=xs.mapIdx λk x=>.tup [.int (k:Int),x]
noncomputable def ZeE(xs:List D):List D:=xs.mapIdx λk x=>.tup [.int ((k+1:Nat):Int),x]
noncomputable def Zqm:Key->D
 |.inl i=>.int i
 |.inr x=>.str x
def Zqx(x:D)(h:Hd):qd Wk:=match x with
 |.ref i=>match h[i]? with
  |some (.dic kvs)=>.ok ⟨[],kvs.map λp=>Zqm p.1⟩ (h.set i<|.fdic kvs)
  |some (.fdic kvs)=>.ok ⟨[],kvs.map λp=>Zqm p.1⟩ h
  |_=>.bad
 |_=>.bad
noncomputable def ZdU(i:Int):Bool:=Wu (-(2^62)<=i)&&Wu (i<2^62)
noncomputable def Zk3:List Nat->List D->Ev->Ev
 |i::is,x::xs,S=>Zk3 is xs (S.set i<|J x)
 |_,_,S=>S
def ZbI(g:Tg)(d:D)(S:Ev):Option Ev:=match g with
 |.nm i=>J (S.set i<|J d)
 |.two i j=>match d with
  |.tup [a,b]=>J ((S.set i<|J a).set j<|J b)
  |_=>M
 |.many is=>match d with
  |.tup xs=>if xs.length=is.length then J (Zk3 is xs S)else M
  |_=>M
def Za7(js:List (Option Nat))(S:Ev):Ev:=js.map λo=>o.bind λj=>(S[j]?).join
inductive Fl where
 |nx|bk|ct|rt (d:D)
def ZW(src:List (Nat×List D))(g:Tg)(body:Ev->Hd->qd (Fl×Ev)):List D->Ev->Hd->qd (Fl×Ev)
 |[],S,h=>if Wk.stays src h then .ok (.nx,S) h else .bad
 |d::ds,S,h=>if Wk.stays src h then match ZbI g d S with
  |none=>.bad
  |some ρ1=>(body ρ1 h).bind λp h2=>match p with
   |(.nx,ρ2)=>ZW src g body ds ρ2 h2
   |(.ct,ρ2)=>ZW src g body ds ρ2 h2
   |(.bk,ρ2)=>.ok (.nx,ρ2) h2
   |(.rt d,ρ2)=>.ok (.rt d,ρ2) h2
  else .bad
noncomputable def ZE(test:Ev->Hd->qd Bool)(body:Ev->Hd->qd (Fl×Ev)):Nat->Ev->Hd->qd (Fl×Ev)
 |0,_,_=>.bad
 |n+1,S,h=>(test S h).bind λb R=>if b then(body S R).bind λp h2=>match p with
  |(.nx,ρ2)=>ZE test body n ρ2 h2
  |(.ct,ρ2)=>ZE test body n ρ2 h2
  |(.bk,ρ2)=>.ok (.nx,ρ2) h2
  |(.rt d,ρ2)=>.ok (.rt d,ρ2) h2
  else .ok (.nx,S) R
@[reducible] def qd.plain:qd α->qd α
 |.exc _ _=>.bad
 |r=>r
def Zx(src:List (Nat×List D))(g:Tg)(test:Ev->Hd->qd Bool)(aE:Ev->Hd->qd D):List D->Ev->List D->Hd->qd (List D)
 |[],_,ai,h=>if Wk.stays src h then .ok ai h else .bad
 |d::ds,S,ai,h=>if Wk.stays src h/\ai.length<Yc then match ZbI g d S with
  |none=>.bad
  |some ρ1=>(test ρ1 h).plain.bind λb R=>if b then(aE ρ1 R).plain.bind λx h2=>Zx src g test aE ds S (ai++[x]) h2 else Zx src g test aE ds S ai R
  else .bad
noncomputable def ZlT(C:Str)(S:Ev)(r:qd D):qd (Fl×Ev):=match r with
 |.exc c h=>if c=C then .ok (.rt<|.bl Ws,S) h else .bad
 |_=>.bad
noncomputable def mnm(C m:Str):Str:=C++(O "." ++ m)
def ZT(d:D)(h:Hd):Option (Str×List (Str×D)):=match d with
 |.ref i=>match h[i]? with
  |some (.ins C fs)=>J (C,fs)
  |_=>M
 |_=>M
def ZeC(Cs:List Str)(f:Str)(x:D)(h:Hd):qd D:=match ZT x h with
 |some (C,fs)=>if C∈Cs then qd.ofO (fs.lookup f) h else .bad
 |none=>.bad
noncomputable def ZgO(f:Str)(v:D):List (Str×D)->List (Str×D)
 |[]=>[(f,v)]
 |(g,x)::r=>if g=f then(g,v)::r else(g,x)::ZgO f v r
def ZhX(Cs:List Str)(f:Str)(x d:D)(h:Hd):qd D:=match x with
 |.ref i=>match h[i]? with
  |some (.ins C fs)=>if C∈Cs/\fs.length<1000 then .ok .non (h.set i<|.ins C<|ZgO f d fs)else .bad
  |_=>.bad
 |_=>.bad
def Zlp(Cf:Str->List D->Hd->qd D)(C:Str)(xs:List D)(h:Hd):qd D:=(Cf (mnm C<|O "__init__") (.ref h.length::xs)<|h++[.ins C []]).bind λd h2=>match d with
 |.non=>.ok (.ref h.length) h2
 |_=>.bad
structure Tb where
 G:Str->Option D
 GD:Str->Option (List<|Key×D)
 C:Str->List D->Hd->qd D
 L:Nat
mutual
noncomputable def ev(T:Tb):Ex->Ev->Hd->qd D
 |.var i,S,h=>qd.ofO (S[i]?).join h
 |.cst d,_,h=>.ok d h
 |.glo x,_,h=>qd.ofO (T.G x) h
 |.bin op a b,S,h=>(ev T a S h).bind λx R=>(ev T b S R).bind λy h2=>opB op x y h2
 |.cmp op a b,S,h=>(ev T a S h).bind λx R=>(ev T b S R).bind λy h2=>opC T.GD op x y h2
 |.neg a,S,h=>(ev T a S h).bind λx R=>match x with
  |.int i=>.ok (.int<|-i) R
  |_=>.bad
 |.nt a,S,h=>(ev T a S h).bind λx R=>match x with
  |.bl b=>.ok (.bl<|!b) R
  |_=>.bad
 |.ands es,S,h=>evAnd T es S h
 |.ors es,S,h=>evOr T es S h
 |.ite c a b,S,h=>(tst T c S h).bind λc R=>if c then ev T a S R else ev T b S R
 |.tupl es,S,h=>(evs T es S h).bind λxs R=>if xs.length<=Yc then .ok (.tup xs) R else .bad
 |.lstl es,S,h=>(evs T es S h).bind λxs R=>if xs.length<=Yc then Zdb (.lst xs) R else .bad
 |.ix a i,S,h=>(ev T a S h).bind λx R=>(ev T i S R).bind λy h2=>ZaM T.GD x y h2
 |.sl a lo hi,S,h=>(ev T a S h).bind λx R=>(evo T lo S R).bind λl h2=>(evo T hi S h2).bind λu h3=>ZhY x l u h3
 |.blt f es,S,h=>(evs T es S h).bind λxs R=>Zaj T.GD f xs R
 |.call f es,S,h=>(evs T es S h).bind λxs R=>T.C f xs R
 |.meth m o es,S,h=>(ev T o S h).bind λx R=>if ZfW x R then(evs T es S R).bind λxs h2=>Zax m x xs h2 else .bad
 |.comp _ js it g c e,S,h=>(evi T it S h).bind λw R=>(Zx w.src g (tsto T c) (ev T e) w.xs (Za7 js S) [] R).bind λxs h2=>Zdb (.lst xs) h2
 |.maxd e d,S,h=>(ev T e S h).bind λx R=>(ev T d S R).bind λy h2=>Znz x y h2
 |.dictl ps,S,h=>(evs T ps S h).bind λxs R=>match Zch xs with
  |some kvs=>if kvs.length<=15 then Zdb (.dic<|ZbC [] kvs) R else .bad
  |none=>.bad
 |.att Cs o f,S,h=>(ev T o S h).bind λx R=>ZeC Cs f x R
 |.mk C es,S,h=>(evs T es S h).bind λxs R=>Zlp T.C C xs R
 |.mcl C m o es,S,h=>(ev T o S h).bind λx R=>match ZT x R with
  |some (C',fs)=>if C'=C/\fs.lookup m=M then(evs T es S R).bind λxs h2=>T.C (mnm C m) (x::xs) h2 else .bad
  |none=>.bad
 |.any,_,_=>.bad
 |.lrv e,S,h=>(ev T e S h).bind λx R=>ZyK x R
 |.nin n a b,S,h=>(ev T a S h).bind λx R=>(ev T b S R).bind λy h2=>Zmg n x y h2
 |.nix a b,S,h=>(ev T a S h).bind λx R=>(ev T b S R).bind λy h2=>Zq4 x y h2
 |.ndl,_,h=>Zdb (.dnk []) h
 |.rpn o a b,S,h=>(ev T a S h).bind λx R=>(shD x R).bind λp R=>(ev T b S R).bind λy h2=>(shD y h2).bind λq h3=>.ok (.bl<|bif o then !Wu (p=q)else Wu (p=q)) h3
noncomputable def evs(T:Tb):Exs->Ev->Hd->qd (List D)
 |.nil,_,h=>.ok [] h
 |.cons e es,S,h=>(ev T e S h).bind λx R=>(evs T es S R).bind λxs h2=>.ok (x::xs) h2
noncomputable def evAnd(T:Tb):Exs->Ev->Hd->qd D
 |.nil,_,_=>.bad
 |.cons e es,S,h=>match es with
  |.nil=>ev T e S h
  |.cons _ _=>(ev T e S h).bind λx R=>match x with
   |.bl Ws=>evAnd T es S R
   |.bl Wt=>.ok (.bl Wt) R
   |_=>.bad
noncomputable def evOr(T:Tb):Exs->Ev->Hd->qd D
 |.nil,_,_=>.bad
 |.cons e es,S,h=>match es with
  |.nil=>ev T e S h
  |.cons _ _=>(ev T e S h).bind λx R=>match x with
   |.bl Ws=>.ok (.bl Ws) R
   |.bl Wt=>evOr T es S R
   |_=>.bad
noncomputable def evo(T:Tb):Option Ex->Ev->Hd->qd (Option Int)
 |none,_,h=>.ok M h
 |some e,S,h=>(ev T e S h).bind λx R=>match x with
  |.int i=>.ok (J i) R
  |_=>.bad
noncomputable def tst(T:Tb):Tx->Ev->Hd->qd Bool
 |.ex e,S,h=>(ev T e S h).bind λx R=>qd.ofO (Zev T.GD x R) R
 |.ands ts,S,h=>tstAnd T ts S h
 |.ors ts,S,h=>tstOr T ts S h
 |.nt a,S,h=>(tst T a S h).bind λc R=>.ok (!c) R
noncomputable def tstAnd(T:Tb):Txs->Ev->Hd->qd Bool
 |.one t,S,h=>tst T t S h
 |.cons t ts,S,h=>(tst T t S h).bind λc R=>if c then tstAnd T ts S R else .ok Wt R
noncomputable def tstOr(T:Tb):Txs->Ev->Hd->qd Bool
 |.one t,S,h=>tst T t S h
 |.cons t ts,S,h=>(tst T t S h).bind λc R=>if c then .ok Ws R else tstOr T ts S R
noncomputable def tsto(T:Tb):Option Tx->Ev->Hd->qd Bool
 |none,_,h=>.ok Ws h
 |some e,S,h=>tst T e S h
noncomputable def evi(T:Tb):Ix->Ev->Hd->qd Wk
 |.pl e,S,h=>(ev T e S h).bind λx R=>qd.ofO (ZaA x R) R
 |.rng e,S,h=>(ev T e S h).bind λx R=>match x with
  |.int j=>if ZdU j then .ok ⟨[],Zbe 0 j.toNat⟩ R else .bad
  |_=>.bad
 |.enu e,S,h=>(ev T e S h).bind λx R=>qd.ofO ((Zgw x R).map λw=>⟨w.src,Zdv w.xs⟩) R
 |.rev e,S,h=>(ev T e S h).bind λx R=>qd.ofO ((Zgv x R).map λw=>⟨w.src,w.xs.reverse⟩) R
 |.en1 e,S,h=>(ev T e S h).bind λx R=>match x with
  |.tup xs=>.ok ⟨[],ZeE xs⟩ R
  |_=>.bad
 |.dk e,S,h=>(ev T e S h).bind λx R=>Zqx x R
end
mutual
noncomputable def xs1(T:Tb):Sx->Ev->Hd->qd (Fl×Ev)
 |.ret e,S,h=>(ev T e S h).bind λx R=>.ok (.rt x,S) R
 |.set g e,S,h=>(ev T e S h).bind λx R=>(qd.ofO (ZbI g x S) R).bind λρ1 h2=>.ok (.nx,ρ1) h2
 |.put o i e,S,h=>(ev T e S h).bind λx R=>(ev T o S R).bind λy h2=>(ev T i S h2).bind λz h3=>(ZaD y z x h3).bind λ_ h4=>.ok (.nx,S) h4
 |.aug i op e,S,h=>(qd.ofO (S[i]?).join h).bind λx R=>(ev T e S R).bind λy h2=>match op,x,y with
  |.Add,.int a,.int b=>.ok (.nx,S.set i<|J<|.int<|a+b) h2
  |_,_,_=>.bad
 |.drp e,S,h=>(ev T e S h).bind λ_ R=>.ok (.nx,S) R
 |.iff c a b,S,h=>(tst T c S h).bind λt R=>if t then xs2 T a S R else xs2 T b S R
 |.whl c b,S,h=>ZE (tst T c) (xs2 T b) T.L S h
 |.forr g it b,S,h=>(evi T it S h).bind λw R=>ZW w.src g (xs2 T b) w.xs S R
 |.pas,S,h=>.ok (.nx,S) h
 |.brk,S,h=>.ok (.bk,S) h
 |.cnt,S,h=>.ok (.ct,S) h
 |.seta Cs o f e,S,h=>(ev T e S h).bind λd R=>(ev T o S R).bind λx h2=>(ZhX Cs f x d h2).bind λ_ h3=>.ok (.nx,S) h3
 |.auga Cs o f e,S,h=>(ev T o S h).bind λx R=>(ZeC Cs f x R).bind λv h2=>(ev T e S h2).bind λy h3=>match v,y with
  |.int a,.int b=>if (ZT x R).map (·.1)=(ZT x h3).map (·.1)then(ZhX Cs f x (.int<|a+b) h3).bind λ_ h4=>.ok (.nx,S) h4 else .bad
  |_,_=>.bad
 |.any,_,_=>.bad
 |.rai C e,S,h=>(ev T e S h).bind λ_ R=>.exc C R
 |.npt o i e,S,h=>(ev T e S h).bind λx R=>(ev T o S R).bind λy h2=>(ev T i S h2).bind λz h3=>(Zq3 y z x h3).bind λ_ h4=>.ok (.nx,S) h4
noncomputable def xs2(T:Tb):Sxs->Ev->Hd->qd (Fl×Ev)
 |.nil,S,h=>.ok (.nx,S) h
 |.trq _ _ f es _ c _ _ _,S,h=>(evs T es S h).plain.bind λxs R=>ZlT c S (T.C f xs R)
 |.cons s r,S,h=>(xs1 T s S h).bind λp R=>match p with
  |(.nx,ρ1)=>xs2 T r ρ1 R
  |p=>.ok p R
end
structure Fd where
 ps:List Str
 N:List Str
 body:Sxs
noncomputable abbrev fd_(n:Nat)(l:List String)(b:Sxs):Fd:=⟨(l.map O).take n,l.map O,b⟩
structure Pg where
 tb:List (Str×Fd)
 G:Str->Option D
 GD:Str->Option (List<|Key×D)
 L:Nat
 ms:List (Str×Fd):=[]
noncomputable def Pg.look(P:Pg)(f:Str):Option Fd:=match P.tb.lookup f with
 |some fd=>J fd
 |none=>P.ms.lookup f
noncomputable def Zw(N:List Str)(ds:List D):Ev:=ds.map J++YK (N.length-ds.length) M
noncomputable def Ze:qd (Fl×Ev)->qd D
 |.ok (.rt d,_) h=>.ok d h
 |.ok (.nx,_) h=>.ok .non h
 |.exc c h=>.exc c h
 |_=>.bad
def run(P:Pg):Nat->Str->List D->Hd->qd D
 |0,_,_,_=>.bad
 |n+1,f,ds,h=>match P.look f with
  |none=>.bad
  |some fd=>if ds.length=fd.ps.length then Ze (xs2 ⟨P.G,P.GD,run P n,P.L⟩ fd.body (Zw fd.N ds) h)else .bad
def Pg.tbl(P:Pg)(n:Nat):Tb:=⟨P.G,P.GD,run P n,P.L⟩
def FzL(K:Yl)(H:Hp)(a:Yj)(xs:List V):Prop:=(∃o,H a=J (.frz o<|.lst xs))\/∃(o:Obj) (its:Array Yk) (n:Nat),K.lookup a=J o/\o.cls=.type "list" /\ o.dict=M/\o.data=.seq its n/\its.size<=Yc/\Zn xs its.toList
def FzL.sq{K}(h:FzL K H a xs):SqL K H a xs:=h.elim (λ⟨o,h⟩=>.inl<|.inr ⟨o,h⟩) .inr
structure Yx where
 K:Yl
 mg:Str->Option Yk
mutual
inductive RD(Y:Yx)(H:Hp)(B:List Yj):D->V->Prop
 |non:RD Y H B .non .non
 |bl (b:Bool):RD Y H B (.bl b) (.bl b)
 |int (i:Int):RD Y H B (.int i) (.int i)
 |str (x:Str) (ok:Yp x=Ws):RD Y H B (.str x) (.str x)
 |tup {a:Yj}{vs:List V}{ds:List D}:SqT Y.K H a vs->RDs Y H B ds vs->RD Y H B (.tup ds) (.ref a)
 |ref {i:Nat}{a:Yj}:B[i]?=J a->RD Y H B (.ref i) (.ref a)
 |ty (n:String):RD Y H B (.ty n) (.ty n)
 |ro {a:Yj}{vs:List V}{ds:List D}:FzL Y.K H a vs->RDs Y H B ds vs->RD Y H B (.ro ds) (.ref a)
 |kd {x:Str}{a:Yj}:Y.mg x=J (.ref a)->RD Y H B (.kd x) (.ref a)
inductive RDs(Y:Yx)(H:Hp)(B:List Yj):List D->List V->Prop
 |nil:RDs Y H B [] []
 |cons {d:D}{v:V}{ds:List D}{vs:List V}:RD Y H B d v->RDs Y H B ds vs->RDs Y H B (d::ds) (v::vs)
end
inductive RKs(Y:Yx)(H:Hp)(B:List Yj){κ:Type}:List (κ×D)->List (κ×V)->Prop
 |nil:RKs Y H B [] []
 |cons {k:κ}{d:D}{v:V}{ds:List (κ×D)}{vs:List (κ×V)}:RD Y H B d v->RKs Y H B ds vs->RKs Y H B ((k,d)::ds) ((k,v)::vs)
def RO(Y:Yx)(H:Hp)(B:List Yj)(a:Yj):DO->Prop
 |.lst ds=>∃vs,H a=J (.lst vs)/\RDs Y H B ds vs
 |.dic kvs=>∃aj,H a=J (.dK aj)/\RKs Y H B kvs aj
 |.ins C fs=>∃Ca dx br,H a=J (.ins Ca dx br)/\Y.mg C=J (.ref Ca)/\RKs Y H B fs br
 |.fdic kvs=>∃o aj,H a=J (.frz o<|.dK aj)/\RKs Y H B kvs aj
 |.dnk kvs=>∃aj xs,H a=J (.dT xs)/\KN Y.K H aj xs/\RKs Y H B kvs aj
def ZbS(kvs:List (Key×D)):Prop:=∀p∈kvs,∀x,p.1=.inr x->Yp x=Ws
def DOk:DO->Prop
 |.dic kvs=>ZbS kvs
 |.fdic kvs=>ZbS kvs
 |_=>True
structure RH(Y:Yx)(H:Hp)(B:List Yj)(h:Hd):Prop where
 len:h.length=B.length
 nd:B.Nodup
 ob:∀(i:Nat) (o:DO) (a:Yj),h[i]?=J o->B[i]?=J a->RO Y H B a o
 ks:∀(i:Nat) (o:DO),h[i]?=J o->DOk o
structure Gr(H:Hp)(B:List Yj)(H':Hp)(μ':List Yj):Prop where
 pre:∀(i:Nat) (a:Yj),B[i]?=J a->μ'[i]?=J a
 new:∀a∈μ',a∈B\/H a=M
 keep:∀b o,b ∉ B->H b=J o->H' b=J o
 fz:∀b o u,H b=J (.frz o u)->H' b=J (.frz o u)
def Gr.refl:Gr H B H B:=⟨λ_ _ h=>h,λ_ h=>.inl h,λ_ _ _ h=>h,λ_ _ _ h=>h⟩
def Gr.trans(a:Gr H B H1 μ1)(b:Gr H1 μ1 H2 μ2):Gr H B H2 μ2:=by
 refine⟨λi x h=>b.pre i x<|a.pre i x h,λx hx=>?_,λx o hx h=>?_,λx o u h=>b.fz x o u<|a.fz x o u h⟩
 . rcases b.new x hx with h|h
   . exact a.new x h
   . by_cases hm:x∈B
     . exact .inl hm
     . cases q:H x with
       |none=>simp
       |some o=>rw[a.keep x o hm q]at h;cases h
 . refine b.keep x o (λhm=>?_) (a.keep x o hx h);rcases a.new x hm with z|z
   . trivial
   simp_all
def Mu:Option HO->Prop
 |some (.lst _)|some (.dK _)|some (.ins _ _ _)|some (.frz _ (.dK _))|some (.dT _)=>True
 |_=>False
def RO.mut(h:RO Y H B a o):Mu (H a):=by
 cases o with
 |lst ds|dic ds=>obtain⟨vs,e,_⟩:=h;rw[e];trivial
 |ins C ds=>obtain⟨_,_,_,e,_⟩:=h;rw[e];trivial
 |fdic ds|dnk ds=>obtain⟨_,_,e,_⟩:=h;rw[e];trivial
def RH.mem(r:RH Y H B h)(ha:a∈B):∃(i:Nat) (o:DO),B[i]?=J a/\h[i]?=J o/\RO Y H B a o:=by obtain⟨i,hi⟩:=List.mem_iff_getElem?.mp ha;have hl:i<h.length:=r.len▸(Ob.mp hi).1;exact⟨i,h[i],hi,Og hl,r.ob i _ a (Og hl) hi⟩
theorem RH.mut(r:RH Y H B h)(ha:a∈B):Mu (H a):=let⟨_,_,_,_,q⟩:=r.mem ha;q.mut
def Gr.rdT(r:RH Y H B h)(g:Gr H B H' μ')(t:SqT Y.K H a xs):SqT Y.K H' a xs:=by
 rcases t with t|t
 . rcases t with t|⟨o,t⟩
   . exact .inl (.inl<|g.keep a _ (λhm=>by have:=r.mut hm;rw[t]at this;exact this) t)
   . exact .inl (.inr ⟨o,g.fz a _ _ t⟩)
 . exact .inr t
def Gr.rdF(r:RH Y H B h)(g:Gr H B H' μ')(t:FzL Y.K H a xs):FzL Y.K H' a xs:=by
 rcases t with⟨o,t⟩|t
 . exact .inl ⟨o,g.fz a _ _ t⟩
 . exact .inr t
section
variable {Y:Yx}{H H':Hp}{B μ':List Yj}{h:Hd}
structure Tr(Y:Yx)(H:Hp)(B:List Yj)(H':Hp)(μ':List Yj):Prop where
 t:∀{a xs},SqT Y.K H a xs->SqT Y.K H' a xs
 f:∀{a xs},FzL Y.K H a xs->FzL Y.K H' a xs
 m:∀{i:Nat}{a},B[i]?=J a->μ'[i]?=J a
mutual
theorem RD.tr(T:Tr Y H B H' μ'):∀{d:D}{v:V},RD Y H B d v->RD Y H' μ' d v
 |_,_,.non=>.non
 |_,_,.bl b=>.bl b
 |_,_,.int i=>.int i
 |_,_,.str x ok=>.str x ok
 |_,_,.tup t s=>.tup (T.t t) (RDs.tr T s)
 |_,_,.ref e=>.ref (T.m e)
 |_,_,.ty n=>.ty n
 |_,_,.ro t s=>.ro (T.f t) (RDs.tr T s)
 |_,_,.kd e=>.kd e
theorem RDs.tr(T:Tr Y H B H' μ'):∀{d:List D}{v:List V},RDs Y H B d v->RDs Y H' μ' d v
 |_,_,.nil=>.nil
 |_,_,.cons a s=>.cons (RD.tr T a) (RDs.tr T s)
end
theorem RKs.tr(T:Tr Y H B H' μ'):∀{d}{v:List (κ×V)},RKs Y H B d v->RKs Y H' μ' d v
 |_,_,.nil=>.nil
 |_,_,.cons a s=>.cons (a.tr T) (RKs.tr T s)
def KyS.tr(T:Tr Y H B H' μ'):KyS Y.K H b k->KyS Y.K H' b k:=λ⟨c,R,h2⟩=>⟨c,T.t R,T.t h2⟩
theorem KN.tr(T:Tr Y H B H' μ')(r:KN Y.K H kvs xs):KN Y.K H' kvs xs:=Paired.mapP r λ_ _ z=>⟨z.1,KyS.tr T z.2.1,z.2.2⟩
theorem RO.tr(T:Tr Y H B H' μ')(q:RO Y H B a o)(e:H' a=H a):RO Y H' μ' a o:=by
 cases o with
 |lst ds|dic ds=>obtain⟨vs,z,s⟩:=q;exact⟨vs,e.trans z,s.tr T⟩
 |ins C ds=>obtain⟨a1,a2,a3,z,m,s⟩:=q;exact⟨a1,a2,a3,e.trans z,m,s.tr T⟩
 |fdic ds=>obtain⟨o,vs,z,s⟩:=q;exact⟨o,vs,e.trans z,s.tr T⟩
 |dnk ds=>obtain⟨vs,xs,z,n,s⟩:=q;exact⟨vs,xs,e.trans z,KN.tr T n,s.tr T⟩
def Gr.tr(r:RH Y H B h)(g:Gr H B H' μ'):Tr Y H B H' μ':=⟨g.rdT r,g.rdF r,g.pre _ _⟩
def RD.mono(r:RH Y H B h)(g:Gr H B H' μ')(q:RD Y H B d v):RD Y H' μ' d v:=q.tr (g.tr r)
def RDs.mono(r:RH Y H B h)(g:Gr H B H' μ')(q:RDs Y H B d v):RDs Y H' μ' d v:=q.tr (g.tr r)
def RKs.mono{d:List (κ×D)}(r:RH Y H B h)(g:Gr H B H' μ')(q:RKs Y H B d v):RKs Y H' μ' d v:=q.tr (g.tr r)
theorem RDs.length:∀{d}{v},RDs Y H B d v->d.length=v.length
 |_,_,.nil=>rfl
 |_,_,.cons a s=>by rw[Os,Os,s.length]
theorem RKs.length:∀{d}{v:List (κ×V)},RKs Y H B d v->d.length=v.length
 |_,_,.nil=>rfl
 |_,_,.cons a s=>by rw[Os,Os,s.length]
theorem RDs.get:∀{ds}{vs},RDs Y H B ds vs->∀{i:Nat}{d},ds[i]?=J d->∃v,vs[i]?=J v/\RD Y H B d v
 |_,_,.nil,i,d,e=>by trivial
 |_,_,.cons a s,0,d,e=>by simp_all
 |_,_,.cons a s,i+1,d,e=>by obtain⟨v,R,h2⟩:=RDs.get s (by trivial);exact⟨v,by trivial,h2⟩
theorem RDs.append:∀{ds es}{vs ws},RDs Y H B ds vs->RDs Y H B es ws->RDs Y H B (ds++es) (vs++ws)
 |_,_,_,_,.nil,s=>s
 |_,_,_,_,.cons a r,s=>.cons a (r.append s)
theorem RDs.take:∀{ds}{vs} (n),RDs Y H B ds vs->RDs Y H B (ds.take n) (vs.take n)
 |_,_,0,_=>.nil
 |_,_,_+1,.nil=>.nil
 |_,_,n+1,.cons a s=>.cons a (s.take n)
theorem RDs.drop:∀{ds}{vs} (n),RDs Y H B ds vs->RDs Y H B (ds.drop n) (vs.drop n)
 |_,_,0,s=>s
 |_,_,_+1,.nil=>.nil
 |_,_,n+1,.cons a s=>s.drop n
theorem RDs.reverse(s:RDs Y H B ds vs):RDs Y H B ds.reverse vs.reverse:=by
 have gen:∀{ds es}{vs ws},RDs Y H B ds vs->RDs Y H B es ws->RDs Y H B (ds.reverseAux es) (vs.reverseAux ws):=by
  intro ds;induction ds with
  |nil=>intro es vs ws a b;cases a;exact b
  |cons d ds ih=>
   intro es vs ws a b;cases a with
   |cons a s=>have z:=ih s<|RDs.cons a b;exact z
 exact gen s .nil
theorem RDs.dropLast(s:RDs Y H B ds vs):RDs Y H B ds.dropLast vs.dropLast:=by rw[List.dropLast_eq_take,List.dropLast_eq_take,s.length];exact s.take _
theorem RDs.set(r:RD Y H B d v):∀{ds}{vs} (i),RDs Y H B ds vs->RDs Y H B (ds.set i d) (vs.set i v)
 |_,_,_,.nil=>.nil
 |_,_,0,.cons _ s=>.cons r s
 |_,_,i+1,.cons a s=>.cons a (RDs.set r i s)
def RDs.cut(s:RDs Y H B ds vs)(lo hi):RDs Y H B (cutD ds lo hi) (Zor vs lo hi):=by unfold cutD Zor;rw[s.length];exact(s.drop _).take _
theorem RDs.isEmpty(s:RDs Y H B ds vs):ds.isEmpty=vs.isEmpty:=by cases s<;>rfl
theorem RDs.atI(s:RDs Y H B ds vs)(e:L2.atI ds i=J d):∃v,L2.atI vs i=J v/\RD Y H B d v:=by
 unfold L2.atI at e ⊢;rw[s.length]at e;cases q:ixN vs.length i with
 |none=>simp_all
 |some j=>rw[q]at e;exact s.get e
theorem RKs.val[DecidableEq κ]:∀{ds}{vs},RKs Y H B ds vs->∀(k:κ),((ds.find? λp=>Wu<|p.1=k)=M/\(vs.find? λp=>Wu<|p.1=k)=M)\/∃d v,(ds.find? λp=>Wu<|p.1=k)=J (k,d)/\(vs.find? λp=>Wu<|p.1=k)=J (k,v)/\RD Y H B d v
 |_,_,.nil,k=>.inl ⟨rfl,rfl⟩
 |_,_,.cons (k:=k') (d:=d) (v:=v) a s,k=>by
  by_cases e:k'=k
  . subst e;exact .inr ⟨d,v,by simp,by simp,a⟩
  . rcases s.val k with⟨R,h2⟩|⟨d,v,R,h2,h3⟩
    . exact .inl ⟨by simp[e,R],by simp[e,h2]⟩
    . exact .inr ⟨d,v,by simp_all,by simp_all,h3⟩
end
def ZvJ{α:Type}{l:List α}(hl:l.Nodup){i j:Nat}{x}(a:l[i]?=J x)(b:l[j]?=J x):i=j:=by obtain⟨R,e1⟩:=Ob.mp a;obtain⟨h2,e2⟩:=Ob.mp b;exact(List.getElem_inj hl).mp (e1.trans e2.symm)
section
variable {Y:Yx}{H:Hp}{B:List Yj}{h:Hd}
def Gr.add(g:Gr H0 μ0 H B)(hp:H0 p=M):Gr H0 μ0 H (B++[p]):=⟨λi a e=>by have e:=g.pre i a e;rw[Oe (Ob.mp e).1];exact e,λa ha=>(OD.mp ha).elim (g.new a) λz=>Ox.mp z▸.inr hp,g.keep,g.fz⟩
def ZoQ{H0 H:Hp}(hp:H0 p=M)(e:H0 b=J u):upd H p o b=H b:=Zl λz=>by simp_all
def Gr.put(g:Gr H0 μ0 H B)(hp:H0 p=M):Gr H0 μ0 (upd H p o) B:=⟨g.pre,g.new,λb u hb e=>(ZoQ hp e).trans<|g.keep b u hb e,λb u v e=>(ZoQ hp e).trans<|g.fz b u v e⟩
def Gr.lay0(hp:H p=M):Gr H B (upd H p o) B:=Gr.refl.put hp
def Gr.lay(hp:H p=M):Gr H B (upd H p o) (B++[p]):=(Gr.lay0 hp).add hp
def NF:Option HO->Prop
 |some (.frz _ _)=>False
 |_=>True
def Gr.write(hp:p∈B)(nf:NF (H p)):Gr H B (upd H p o) B:=⟨λ_ _ e=>e,λa ha=>.inl ha,λb u hb e=>(Zl<|λz=>hb (by rw[z];trivial)).trans e,λb u v e=>(Zl (λz=>by rw[z]at e;rw[e]at nf;exact nf)).trans e⟩
def RO.mono(r:RH Y H B h)(g:Gr H B H' μ')(q:RO Y H B a o)(e:H' a=H a):RO Y H' μ' a o:=q.tr (g.tr r) e
theorem RH.tr(r:RH Y H B h)(T:Tr Y H B H' B)(k:∀a∈B,H' a=H a):RH Y H' B h:=⟨r.len,r.nd,λi o a e1 e2=>(r.ob i o a e1 e2).tr T<|k a<|O1 e2,r.ks⟩
def RH.keep(r:RH Y H B h)(g:Gr H B H' B)(k:∀a∈B,H' a=H a):RH Y H' B h:=r.tr (g.tr r) k
def Tr.more:Tr Y H B H (B++[p]):=⟨id,id,λe=>(Oe (Ob.mp e).1).trans e⟩
def ZvC(k:∀(i:Nat) (o),h[i]?=J o->DOk o)(dk:DOk o):∀(i:Nat) (o'),(h++[o])[i]?=J o'->DOk o':=by
 intro i o' e1;by_cases hi:i<h.length
 . rw[Oe hi]at e1;exact k i o' e1
 . have bY:i=h.length:=by
    have:=(Ob.mp e1).1;simp at this
    lia
   simp_all
def RH.add(r:RH Y H B h)(np:p ∉ B)(n:RO Y H (B++[p]) p o)(dk:DOk o:=by trivial):RH Y H (B++[p]) (h++[o]):=by
 refine⟨by simp[r.len],?_,λi o' a e1 e2=>?_,ZvC r.ks dk⟩
 . rw[List.nodup_append];refine⟨r.nd,by simp,λa ha b hb=>?_⟩;intro z
   simp_all
 . by_cases hi:i<h.length
   . rw[Oe hi]at e1;rw[Oe (by rw[<-r.len];trivial)]at e2;exact(r.ob i o' a e1 e2).tr .more rfl
   . have bY:i=h.length:=by
      have:=(Ob.mp e1).1;simp at this
      lia
     subst bY;simp[r.len]at e1 e2;subst e1;subst e2;exact n
def RH.fr(r:RH Y H B h)(hp:H p=M):p ∉ B:=λz=>by have:=r.mut z;rw[hp]at this;exact this
theorem RH.lay0(r:RH Y H B h)(hp:H p=M):RH Y (upd H p u) B h:=r.keep (Gr.lay0 hp) λa ha=>Zl λz=>r.fr hp (z▸ha)
def RH.lay(r:RH Y H B h)(hp:H p=M)(n:RO Y (upd H p u) (B++[p]) p o)(dk:DOk o:=by trivial):RH Y (upd H p u) (B++[p]) (h++[o]):=(r.lay0 hp).add (r.fr hp) n dk
theorem RH.write{p}{i}{u}{o}(r:RH Y H B h)(hp:B[i]?=J p)(n:RO Y (upd H p u) B p o)(nf:NF (H p))(dk:DOk o:=by trivial):RH Y (upd H p u) B (h.set i o):=by
 refine⟨by simp[r.len],r.nd,λj o' a e1 e2=>?_,λj o' e1=>?_⟩
 rotate_right
 . by_cases hj:j=i
   . subst hj;have hl:j<h.length:=r.len▸(Ob.mp hp).1
     simp_all
   . rw[Oc<|YL hj]at e1;exact r.ks j o' e1
 by_cases hj:j=i
 . subst hj;rw[hp]at e2;cases e2;have hl:j<h.length:=r.len▸(Ob.mp hp).1
   simp_all
 . rw[Oc<|YL hj]at e1;refine(r.ob j o' a e1 e2).mono r (Gr.write (O1 hp) nf)<|Zl λz=>hj ?_;subst z;exact ZvJ r.nd e2 hp
end
def Fin(Y:Yx)(rel:Hp->List Yj->α->β->Prop)(H:Hp)(B:List Yj)(r:qd α)(Q:β->Hp->Prop)(E:XK):Prop:=match r with
 |.bad=>False
 |.ok a h'=>∀b H' μ',Gr H B H' μ'->RH Y H' μ' h'->rel H' μ' a b->Q b H'
 |.exc c h'=>∀H' μ' C,Gr H B H' μ'->RH Y H' μ' h'->Y.mg c=J (.ref C)->E (.ref C) M H'
section
variable {Y:Yx}{α β α' β':Type}{rel:Hp->List Yj->α->β->Prop}{aW:Hp->List Yj->α'->β'->Prop}{H H1:Hp}{B μ1:List Yj}{E:XK}
def Fin.mono(g:Gr H B H1 μ1)(f:Fin Y rel H B r Q E):Fin Y rel H1 μ1 r Q E:=by
 cases r with
 |bad=>exact f
 |ok a h=>exact λb H' μ' g'=>f b H' μ' (g.trans g')
 |exc c h=>exact λH' μ' C g'=>f H' μ' C (g.trans g')
theorem Fin.bind(f:Fin Y aW H B (r.bind k) Q E)
 (hk:∀a R b H1 μ1,r=.ok a R->Gr H B H1 μ1->RH Y H1 μ1 R->rel H1 μ1 a b->Fin Y aW H1 μ1 (k a R) Q E->Q1 b H1):Fin Y rel H B r Q1 E:=by
 cases r with
 |bad=>exact f
 |ok a h=>exact λb H' μ' g' rh rl=>hk a h b H' μ' rfl g' rh rl (Fin.mono g' f)
 |exc c h=>exact f
theorem Fin.ok(f:Fin Y rel H B (.ok a h) Q E)(rh:RH Y H B h)(r:rel H B a b):Q b H:=f b H B Gr.refl rh r
def Fin.at(f:Fin Y rel H B (.ok a h) Q E)(g:Gr H B H1 μ1)(rh:RH Y H1 μ1 h)(r:rel H1 μ1 a b):Q b H1:=f b H1 μ1 g rh r
theorem Fin.ofO(f:Fin Y rel H B (qd.ofO o h) Q E):∃a,o=J a/\Fin Y rel H B (.ok a h) Q E:=by
 cases o with
 |none=>exact f.elim
 |some a=>exact⟨a,rfl,f⟩
def Fin.iff[Decidable c](f:Fin Y rel H B (if c then r else .bad) Q E):c/\Fin Y rel H B r Q E:=by
 by_cases h:c
 . simp_all
 . rw[if_neg h]at f;exact f.elim
def Fin.new(f:Fin Y (RD Y) H B (Zdb o h) Q E)(rh:RH Y H B h)(hp:H p=M)(n:RO Y (upd H p u) (B++[p]) p o)(dk:DOk o:=by trivial):Q (.ref p) (upd H p u):=f.at (Gr.lay hp) (rh.lay hp n dk) (.ref (by rw[rh.len];simp))
theorem Fin.tup(f:Fin Y (RD Y) H B (.ok (.tup ds) h) Q E)(rh:RH Y H B h)(hp:H p=M)(r:RDs Y H B ds vs):Q (.ref p) (upd H p<|.tup vs):=f.at (Gr.lay0 hp) (rh.lay0 hp) (.tup (.inl<|.inl Zh)<|r.mono rh<|Gr.lay0 hp)
def Fin.wrote(f:Fin Y rel H B (.ok a<|h.set i o) Q E)(rh:RH Y H B h)(hp:B[i]?=J p)(n:RO Y (upd H p u) B p o)(r:rel (upd H p u) B a b)(nf:NF (H p))(dk:DOk o:=by trivial):Q b (upd H p u):=f.at (Gr.write (O1 hp) nf) (rh.write hp n nf dk) r
end
section
variable {Y:Yx}{H:Hp}{B:List Yj}{h:Hd}
theorem RD.lst(rh:RH Y H B h)(r:RD Y H B (.ref i) v)(e:h[i]?=J (.lst xs)):∃a vs,v=.ref a/\B[i]?=J a/\H a=J (.lst vs)/\RDs Y H B xs vs:=by
 cases r with
 |ref q=>obtain⟨vs,R,h2⟩:=rh.ob i _ _ e q;exact⟨_,vs,rfl,q,R,h2⟩
theorem RD.dic(rh:RH Y H B h)(r:RD Y H B (.ref i) v)(e:h[i]?=J (.dic xs)):∃a vs,v=.ref a/\B[i]?=J a/\H a=J (.dK vs)/\RKs Y H B xs vs:=by
 cases r with
 |ref q=>obtain⟨vs,R,h2⟩:=rh.ob i _ _ e q;exact⟨_,vs,rfl,q,R,h2⟩
theorem RD.lstOf(rh:RH Y H B h)(r:RD Y H B d v)(e:lstOf d h=J xs):∃a vs,v=.ref a/\SqL Y.K H a vs/\RDs Y H B xs vs:=by
 cases d with
 |ref i=>
  unfold IV.lstOf at e;simp at e;split at e
  . cases e;rename_i q;obtain⟨a,vs,R,h2,h3,h4⟩:=r.lst rh q;exact⟨a,vs,R,.of h3,h4⟩
  trivial
 |ro ys=>
  cases e;cases r with
  |ro q s=>exact⟨_,_,rfl,q.sq,s⟩
 |_=>cases e
theorem RD.seqOf(rh:RH Y H B h)(r:RD Y H B d v)(e:seqOf d h=J xs):∃ a vs,v=.ref a/\(SqL Y.K H a vs\/SqT Y.K H a vs)/\RDs Y H B xs vs:=by
 by_cases ht:∃ ys,d=.tup ys
 . obtain⟨ys,rfl⟩:=ht;cases e;cases r with
   |tup q s=>exact⟨_,_,rfl,.inr q,s⟩
 . obtain⟨a,vs,R,h2,h3⟩:=r.lstOf rh (by
     cases d with
     |tup ys=>exact absurd ⟨ys,rfl⟩ ht
     |_=>exact e)
   exact⟨a,vs,R,.inl h2,h3⟩
def RD.int_inv(r:RD Y H B (.int i) v):v=.int i:=by cases r;rfl
def RD.str_inv(r:RD Y H B (.str i) v):v=.str i/\Yp i=Ws:=by cases r with|str x ok=>trivial
def RD.tup_inv(r:RD Y H B (.tup ds) v):∃a vs,v=.ref a/\SqT Y.K H a vs/\RDs Y H B ds vs:=by cases r with|tup q s=>exact⟨_,_,rfl,q,s⟩
def Zim(hx:Yp x=Ws)(hy:Yp y=Ws):Yp (x++y)=Ws:=by show(x.cps++y.cps).all _=Ws;rw[Array.all_append];unfold Yp at hx hy;rw[hx,hy];rfl
def ZpU(hx:Yp x=Ws)(n):Yp (Zf8 x n)=Ws:=by
 have gen:∀(n) (a),a.all (·<0x110000)=Ws->((YK n x.cps).foldl (·++·) a).all (·<0x110000)=Ws:=by
  intro n;induction n with
  |zero=>intro a h;exact h
  |succ n ih=>intro a h;refine ih _ ?_;rw[Array.all_append,h];trivial
 exact gen n #[] (by simp)
def ZpV(hx:Yp x=Ws)(h:c∈x.cps.toList):Yp ⟨#[c]⟩=Ws:=by
 unfold Yp at hx ⊢;rw[Array.all_eq_true']at hx
 simp_all
def Zsx(h:atI xs i=J x):x∈xs:=by
 unfold atI at h;cases q:ixN xs.length i with
 |none=>simp_all
 |some j=>rw[q]at h;exact O1 h
end
section
variable {X:Cx}{Y:Yx}{E:XK}
noncomputable def rB(Y:Yx)(E:XK)(f:D->D->Hd->qd D):R2:=λx y H Q=>∃dx dy h B,RH Y H B h/\RD Y H B dx x/\RD Y H B dy y/\Fin Y (RD Y) H B (f dx dy h) Q E
theorem Fin.int2(f:Fin Y (RD Y) H B (int2 x y k) Q E):∃i j,x=.int i/\y=.int j/\Fin Y (RD Y) H B (k i j) Q E:=by
 cases x with
 |int i=>
  cases y with
  |int j=>exact⟨i,j,rfl,rfl,f⟩
  |_=>exact f.elim
 |_=>exact f.elim
def Zvh(hY:Y.K=X.K)(op):OpR X (binaryOp op) (rB Y E<|opB op):=by
 intro ac s Z H x y v u Q I rx ry hh;obtain⟨dx,dy,h,B,rh,r1,r2,f⟩:=hh;cases op with
 |Add=>
  have f:Fin Y (RD Y) H B (Ztv dx dy h) Q E:=f;cases dx with
  |int i=>
   cases dy with
   |int j=>cases r1;cases r2;exact Zve ac s Z H _ _ v u Q I rx ry ⟨_,_,rfl,rfl,f.ok rh<|.int _⟩
   |_=>exact f.elim
  |str i=>
   cases dy with
   |str j=>
    obtain⟨hz,f⟩:=Fin.iff f;cases r1 with|str _ o1=>
    cases r2 with|str _ o2=>
    exact Zli ac s Z H _ _ v u Q I rx ry ⟨_,_,rfl,rfl,hz,f.ok rh<|.str _<|Zim o1 o2⟩
   |_=>exact f.elim
  |tup xs=>
   cases dy with
   |tup ys=>
    obtain⟨hz,f⟩:=Fin.iff f;obtain⟨a,vs,rfl,t1,s1⟩:=r1.tup_inv;obtain⟨b,ws,rfl,t2,s2⟩:=r2.tup_inv;rw[s1.length,s2.length]at hz;by_cases h0:vs=[]
    . subst h0;cases s1;exact Zsg ac s Z H _ _ v u Q I rx ry ⟨a,b,ws,rfl,rfl,hY▸t1,hY▸t2,f.ok rh<|.tup t2 s2⟩
    . refine Zsf ac s Z H _ _ v u Q I rx ry ⟨a,b,vs,ws,rfl,rfl,hY▸t1,hY▸t2,h0,hz,λe=>?_,λe p hp=>f.tup rh hp<|s1.append s2⟩;subst e;cases s2;rw[Yt]at f;exact f.ok rh (.tup t1 s1)
   |_=>exact f.elim
  |ref i=>
   cases dy with
   |ref j=>
    unfold Ztv at f;simp only at f;split at f
    . rename_i e1;split at f
      . rename_i e2;obtain⟨hz,f⟩:=f.iff;obtain⟨a,vs,rfl,_,R,s1⟩:=r1.lst rh e1;obtain⟨b,ws,rfl,_,h2,s2⟩:=r2.lst rh e2;rw[s1.length,s2.length]at hz;exact Zvd ac s Z H _ _ v u Q I rx ry ⟨a,b,vs,ws,rfl,rfl,R,h2,hz,λp hp=>f.new rh hp ⟨_,Zh,(s1.append s2).mono rh<|Gr.lay hp⟩⟩
      . exact f.elim
    . exact f.elim
   |_=>exact f.elim
  |_=>exact f.elim
 |Sub=>obtain⟨i,j,rfl,rfl,f⟩:=Fin.int2 f;cases r1;cases r2;exact Zu7 ac s Z H _ _ v u Q I rx ry ⟨_,_,rfl,rfl,f.ok rh<|.int _⟩
 |Mult=>
  have f:Fin Y (RD Y) H B (Zx1 dx dy h) Q E:=f;cases dx with
  |str z=>
   cases dy with
   |int n=>
    obtain⟨hz,f⟩:=Fin.iff f;cases r1 with|str _ o1=>
    cases r2;exact Zsd ac s Z H _ _ v u Q I rx ry ⟨_,_,rfl,rfl,hz.1,hz.2.1,hz.2.2,f.ok rh<|.str _<|ZpU o1 _⟩
   |_=>exact f.elim
  |int i=>obtain⟨i,j,e1,rfl,f⟩:=Fin.int2<|show Fin Y (RD Y) H B (IV.int2 (.int i) dy λi j=>if i.natAbs<2^2000/\j.natAbs<2^2000 then .ok (.int<|i*j) h else .bad) Q E from f;cases e1;cases r1;cases r2;exact Zn4 ac s Z H _ _ v u Q I rx ry ⟨_,_,rfl,rfl,f.iff.1,f.iff.2.ok rh<|.int _⟩
  |_=>exact f.elim
 |Mod=>obtain⟨i,j,rfl,rfl,f⟩:=Fin.int2 f;cases r1;cases r2;exact Zu9 ac s Z H _ _ v u Q I rx ry ⟨_,_,rfl,rfl,f.iff.1,f.iff.2.ok rh<|.int _⟩
 |FloorDiv=>obtain⟨i,j,rfl,rfl,f⟩:=Fin.int2 f;cases r1;cases r2;exact Zse ac s Z H _ _ v u Q I rx ry ⟨_,_,rfl,rfl,f.iff.1,f.iff.2.ok rh<|.int _⟩
 |Pow=>obtain⟨i,j,rfl,rfl,f⟩:=Fin.int2 f;cases r1;cases r2;exact Zu8 ac s Z H _ _ v u Q I rx ry ⟨_,_,rfl,rfl,f.iff.1,f.iff.2.ok rh<|.int _⟩
 |_=>exact f.elim
end
set_option tactic.hygienic true
structure Gk(X:Cx)(Y:Yx)(T:Tb):Prop where
 K:Y.K=X.K
 mg:Y.mg=X.mg
 gd:∀x kvs,T.GD x=J kvs->∃a aj,X.mg x=J (.ref a)/\DkK X.prog X.w X.K a aj/\∀H B,RKs Y H B kvs aj
 g:∀x d,T.G x=J d->∃v u,X.mg x=J u/\RelV v u/\∀H B,RD Y H B d v
 bare:Zgz X.K=Ws
section
variable {X:Cx}{Y:Yx}{E:XK}{T:Tb}{H:Hp}{B:List Yj}{h:Hd}
theorem RD.dicOf(G:Gk X Y T)(rh:RH Y H B h)(r:RD Y H B d v)(e:dicOf T.GD d h=J kvs):∃a aj,v=.ref a/\Dk X.prog X.w X.K H a aj/\RKs Y H B kvs aj:=by
 cases d with
 |ref i=>
  unfold IV.dicOf at e;simp at e;split at e
  . cases e;rename_i q;obtain⟨a,vs,R,_,h3,h4⟩:=r.dic rh q;exact⟨a,vs,R,.inl<|.inl h3,h4⟩
  . cases e;rename_i q;cases r with
    |ref qm=>obtain⟨o,vs,R,h2⟩:=rh.ob i _ _ q qm;exact⟨_,vs,rfl,.inl<|.inr ⟨o,R⟩,h2⟩
  trivial
 |kd x=>
  obtain⟨a,aj,R,h2,h3⟩:=G.gd x kvs e;cases r with
  |kd q=>rw[G.mg,R]at q;cases q;exact⟨a,aj,rfl,.inr h2,h3 H B⟩
 |_=>cases e
def Zql(r:RD Y H B d v)(e:keyOf d=J k):∀x,k=.inr x->Yp x=Ws:=by
 cases d with
 |int i=>cases e;simp
 |str i=>
  cases e;intro x z;cases z;cases r with
  |str _ ok=>trivial
 |_=>cases e
def Zg3(h:ZbS kvs)(hk:∀x,k=.inr x->Yp x=Ws):ZbS (putD kvs k c):=by
 intro p hp x e;unfold putD at hp;split at hp
 . obtain⟨q,hq,rfl⟩:=List.mem_map.mp hp;refine h q hq x ?_;split at e<;>exact e
 . rcases OD.mp hp with hp|hp
   . exact h p hp x e
   simp_all
def Zd0(r:RD Y H B d v)(e:keyOf d=J k):v=kV k:=by
 cases d with
 |int i|str i=>cases e;cases r;rfl
 |_=>cases e
def RKs.valV_rel(s:RKs Y H B ds vs)(k):(ZH ds k=M/\ZbB vs k=M)\/∃d v,ZH ds k=J d/\ZbB vs k=J v/\RD Y H B d v:=by
 unfold ZH ZbB;rcases s.val k with⟨R,h2⟩|⟨d,v,R,h2,h3⟩
 . exact .inl ⟨by rw[R];rfl,by rw[h2];rfl⟩
 . exact .inr ⟨d,v,by rw[R];rfl,by rw[h2];rfl,h3⟩
def RKs.any_rel[DecidableEq κ](k:κ):∀{ds:List (κ×D)}{vs:List (κ×V)},RKs Y H B ds vs->(ds.any λkv=>Wu<|kv.1=k)=(vs.any λkv=>Wu<|kv.1=k):=by intro Y H B;induction B<;>simp_all<;>grind
theorem RKs.map_rel[DecidableEq κ](k)(r:RD Y H B d v):∀{ds}{vs:List (κ×V)},RKs Y H B ds vs->RKs Y H B (ds.map λkv=>if kv.1=k then(kv.1,d)else kv) (vs.map λkv=>if kv.1=k then(kv.1,v)else kv)
 |_,_,.nil=>.nil
 |_,_,.cons (k:=k') a s=>by
  rw[Op,Op];by_cases e:k'=k
  . rw[if_pos e,if_pos e];exact .cons r (s.map_rel k r)
  . rw[if_neg e,if_neg e];exact .cons a (s.map_rel k r)
theorem RKs.append:∀{ds es}{vs ws:List (κ×V)},RKs Y H B ds vs->RKs Y H B es ws->RKs Y H B (ds++es) (vs++ws)
 |_,_,_,_,.nil,s=>s
 |_,_,_,_,.cons a r,s=>.cons a (r.append s)
def RKs.put(s:RKs Y H B ds vs)(k)(r:RD Y H B d v):RKs Y H B (putD ds k d) (putK vs k v):=by
 unfold putD putK;rw[s.any_rel k];split
 . exact s.map_rel k r
 . exact s.append (.cons r .nil)
mutual
theorem RD.dp(rh:RH Y H B h)(rd:Nat->Option PyData)(hr:∀i p a,rd i=J p->B[i]?=J a->Dp Y.K H (.ref a) p):∀{d:D}{v:V}{p:PyData},RD Y H B d v->D.py rd d=J p->Dp Y.K H v p
 |_,_,_,.non,e=>by cases e;exact .non
 |_,_,_,.bl b,e=>by cases e;exact .bl b
 |_,_,_,.int i,e=>by cases e;exact .int i
 |_,_,_,.str x ok,e=>by cases e;exact .str x ok
 |_,_,_,.tup t s,e=>by rw[D.py]at e;obtain⟨ps,e1,rfl⟩:=Oo.mp e;exact .tup t (RDs.dps rh rd hr s e1)
 |_,_,_,.ref q,e=>hr _ _ _ e q
 |_,_,_,.ty n,e=>by cases e
 |_,_,_,.ro t s,e=>by rw[D.py]at e;obtain⟨ps,e1,rfl⟩:=Oo.mp e;exact .lst t.sq (RDs.dps rh rd hr s e1)
 |_,_,_,.kd q,e=>by cases e
theorem RDs.dps(rh:RH Y H B h)(rd:Nat->Option PyData)(hr:∀i p a,rd i=J p->B[i]?=J a->Dp Y.K H (.ref a) p):∀{d:List D}{v:List V}{p:List PyData},RDs Y H B d v->D.pys rd d=J p->Dps Y.K H v p
 |_,_,_,.nil,e=>by cases e;exact .nil
 |_,_,_,.cons a s,e=>by rw[D.pys]at e;obtain⟨q,e1,e2⟩:=Option.bind_eq_some_iff.mp e;obtain⟨qs,e3,rfl⟩:=Oo.mp e2;exact .cons (RD.dp rh rd hr a e1) (RDs.dps rh rd hr s e3)
end
theorem ZmE(rh:RH Y H B h):∀(n i) (p) (a),ZiO h n i=J p->B[i]?=J a->Dp Y.K H (.ref a) p
 |0,i,p,a,e,q=>by cases e
 |n+1,i,p,a,e,q=>by
  rw[ZiO]at e;split at e
  . rename_i xs he;obtain⟨ps,e1,rfl⟩:=Oo.mp e;obtain⟨vs,z,s⟩:=rh.ob i _ a he q;exact .lst (.of z) (RDs.dps rh _ (ZmE rh n) s e1)
  trivial
def ZeW(rh:RH Y H B h)(r:RD Y H B d v)(e:Zk8 h d=J p):Dp Y.K H v p:=r.dp rh _ (ZmE rh 4) e
def Zhh(r:RD Y H B d v)(f:d.flat=Ws):Zel v=Ws:=by cases r<;>first|rfl|cases f
theorem ZfA:∀{ds}{vs},RDs Y H B ds vs->ds.all D.flat=Ws->vs.all Zel=Ws
 |_,_,.nil,_=>rfl
 |_,_,.cons a s,f=>by rw[List.all_cons,Oa]at f;rw[List.all_cons,Zhh a f.1,ZfA s f.2];rfl
def Zv9(r:RD Y H B d v)(q:RD Y H B e w)(f:d.flat=Ws)(g:e.flat=Ws):eqF d e=eqV v w:=by cases r<;>cases q<;>first|rfl|simp|simp
theorem any_rel(q:RD Y H B e w)(g:e.flat=Ws):∀{ds}{vs},RDs Y H B ds vs->ds.all D.flat=Ws->(ds.any λz=>eqF z e)=vs.any λy=>eqV y w
 |_,_,.nil,_=>rfl
 |_,_,.cons a s,f=>by rw[List.all_cons,Oa]at f;rw[Wa,Wa,Zv9 a q f.1 g,any_rel q g s f.2]
def Zsn(hr:Room k X.A)(h60:60<=k)(hY:Y.K=X.K):OpR X (YM .Eq) (rB Y E<|Zd3 Wt):=by
 intro ac s Z H x y v u Q I rx ry hh;obtain⟨dx,dy,h,B,rh,r1,r2,f⟩:=hh;unfold Zd3 at f;split at f
 . rename_i e1 e2;obtain⟨hz,f⟩:=f.iff;have d1:=ZeW rh r1 e1;have d2:=ZeW rh r2 e2;rw[hY]at d1 d2;obtain⟨as,q1⟩:=I.reads d1 rx;obtain⟨bs,q2⟩:=I.reads d2 ry;have:=hr.un;exact SeqAt.compareEq_reads q1 q2 d1.lay d2.lay (by lia) ⟨.bl _,H,I,rfl,f.ok rh<|.bl _⟩
 trivial
def Zsi(hr:Room k X.A)(h60:60<=k)(hY:Y.K=X.K):OpR X (YM .NotEq) (rB Y E<|Zd3 Ws):=by
 intro ac s Z H x y v u Q I rx ry hh;obtain⟨dx,dy,h,B,rh,r1,r2,f⟩:=hh;unfold Zd3 at f;split at f
 . rename_i e1 e2;obtain⟨hz,f⟩:=f.iff;have d1:=ZeW rh r1 e1;have d2:=ZeW rh r2 e2;rw[hY]at d1 d2;obtain⟨as,q1⟩:=I.reads d1 rx;obtain⟨bs,q2⟩:=I.reads d2 ry;have:=hr.un;exact SeqAt.compareNe_reads q1 q2 d1.lay d2.lay (by lia) ⟨.bl _,H,I,rfl,f.ok rh<|.bl _⟩
 trivial
def Zgn(ho:OpR X (YM op) (rI0 λi j=>.bl<|g i j)):OpR X (YM op) (rB Y E<|ZiV g):=by
 intro ac s Z H x y v u Q I rx ry hh;obtain⟨dx,dy,h,B,rh,r1,r2,f⟩:=hh;unfold ZiV at f;split at f
 . cases r1;cases r2;exact ho ac s Z H _ _ v u Q I rx ry ⟨_,_,rfl,rfl,f.ok rh<|.bl _⟩
 trivial
def ZmS(r:RD Y H B d v):Wu (d=.non)=Wu (v=.non):=by cases r<;>simp
def Zsl:OpR X (YM .Is) (rB Y E<|opN Wt):=by
 intro ac s Z H x y v u Q I rx ry hh;obtain⟨dx,dy,h,B,rh,r1,r2,f⟩:=hh;unfold opN at f;split at f
 . cases r2;simp[ZmS r1]at f;exact Zva ac s Z H _ _ v u Q I rx ry ⟨rfl,f.ok rh<|.bl _⟩
 trivial
def Zn6:OpR X (YM .IsNot) (rB Y E<|opN Ws):=by
 intro ac s Z H x y v u Q I rx ry hh;obtain⟨dx,dy,h,B,rh,r1,r2,f⟩:=hh;unfold opN at f;split at f
 . cases r2;simp[ZmS r1]at f;exact Zsc ac s Z H _ _ v u Q I rx ry ⟨rfl,f.ok rh<|.bl _⟩
 trivial
def Zsm(G:Gk X Y T):OpR X (YM .In) (rB Y E<|ZbV T.GD Wt):=by
 intro ac s Z H x y v u Q I rx ry hh;obtain⟨dx,dy,h,B,rh,r1,r2,f⟩:=hh;unfold ZbV at f;split at f
 . rename_i xs e1;obtain⟨hz,f⟩:=f.iff;rw[Oa]at hz;obtain⟨a,vs,rfl,hs,rs⟩:=r2.seqOf rh e1;have q:=f.ok rh<|.bl _;simp[any_rel r1 hz.1 rs hz.2]at q;exact Zn5 ac s Z H _ _ v u Q I rx ry ⟨a,vs,rfl,G.K▸hs,Zhh r1 hz.1,ZfA rs hz.2,q⟩
 . split at f
   . rename_i kvs k e1 e2;obtain⟨a,aj,rfl,hd,rk⟩:=r2.dicOf G rh e1;have q:=f.ok rh<|.bl _;have z:(ZH kvs k).isSome=(ZbB aj k).isSome:=by rcases rk.valV_rel k with⟨R,h2⟩|⟨d,v,R,h2,_⟩<;>rw[R,h2]<;>rfl
     rw[z]at q;exact Zvc ac s Z H _ _ v u Q I rx ry ⟨a,aj,k,rfl,Zd0 r1 e2,hd,q⟩
   trivial
def Zlj(G:Gk X Y T):OpR X (YM .NotIn) (rB Y E<|ZbV T.GD Ws):=by
 intro ac s Z H x y v u Q I rx ry hh;obtain⟨dx,dy,h,B,rh,r1,r2,f⟩:=hh;unfold ZbV at f;split at f
 . rename_i xs e1;obtain⟨hz,f⟩:=f.iff;rw[Oa]at hz;obtain⟨a,vs,rfl,hs,rs⟩:=r2.seqOf rh e1;have q:=f.ok rh<|.bl _;simp[any_rel r1 hz.1 rs hz.2]at q;exact ZiU ac s Z H _ _ v u Q I rx ry ⟨a,vs,rfl,G.K▸hs,Zhh r1 hz.1,ZfA rs hz.2,q⟩
 . split at f
   . rename_i kvs k e1 e2;obtain⟨a,aj,rfl,hd,rk⟩:=r2.dicOf G rh e1;have q:=f.ok rh<|.bl _;have z:(ZH kvs k).isSome=(ZbB aj k).isSome:=by rcases rk.valV_rel k with⟨R,h2⟩|⟨d,v,R,h2,_⟩<;>rw[R,h2]<;>rfl
     rw[z]at q;exact Zn3 ac s Z H _ _ v u Q I rx ry ⟨a,aj,k,rfl,Zd0 r1 e2,hd,q⟩
   trivial
def ZpQ(hr:Room k X.A)(h60:60<=k)(G:Gk X Y T)(op):OpR X (YM op) (rB Y E<|opC T.GD op):=by
 cases op with
 |Eq=>exact Zsn hr h60 G.K
 |NotEq=>exact Zsi hr h60 G.K
 |Lt=>exact Zgn ZxL
 |LtE=>exact Zgn ZxM
 |Gt=>exact Zgn ZxN
 |GtE=>exact Zgn ZxO
 |Is=>exact Zsl
 |IsNot=>exact Zn6
 |In=>exact Zsm G
 |NotIn=>exact Zlj G
def Zsj(G:Gk X Y T):IxR X (rB Y E<|ZaM T.GD):=by
 intro value slice ac s Z H x y v u Q I rx ry hh hs;obtain⟨dx,dy,h,B,rh,r1,r2,f⟩:=hh;have dict:∀(kvs) (k),dicOf T.GD dx h=J kvs->y=kV k->Fin Y (RD Y) H B (qd.ofO (ZH kvs k) h) Q E->YB (model X.prog X.w) X.A (subscriptTail value slice v u) (EP X ac Z Q) X.xe s:=by
  intro kvs k e1 ey f;obtain⟨d,e2,f⟩:=f.ofO;obtain⟨a,aj,rfl,hd,rk⟩:=r1.dicOf G rh e1;rcases rk.valV_rel k with⟨R,h2⟩|⟨d',w,R,h2,h3⟩
  . simp_all
  . rw[R]at e2;cases e2;exact ZsL value slice ac s Z H _ _ v u Q I rx ry ⟨a,aj,k,w,rfl,ey,hd,h2,f.ok rh h3⟩ hs
 unfold ZaM at f;split at f
 . rename_i i;cases r2;split at f
   . rename_i xs e1;obtain⟨d,e2,f⟩:=f.ofO;obtain⟨a,vs,rfl,hq,rs⟩:=r1.seqOf rh e1;obtain⟨w,e3,bf⟩:=rs.atI e2;rcases hq with hq|hq
     . exact ZsK value slice ac s Z H _ _ v u Q I rx ry ⟨a,vs,i,w,rfl,rfl,G.K▸hq,e3,f.ok rh bf⟩ hs
     . exact ZvH value slice ac s Z H _ _ v u Q I rx ry ⟨a,vs,i,w,rfl,rfl,G.K▸hq,e3,f.ok rh bf⟩ hs
   . split at f
     . obtain⟨hz,f⟩:=f.iff;obtain⟨d,e2,f⟩:=f.ofO;obtain⟨c,e3,rfl⟩:=Oo.mp e2;obtain⟨rfl,ok⟩:=r1.str_inv;exact ZvI value slice ac s Z H _ _ v u Q I rx ry ⟨_,i,c,rfl,rfl,hz,e3,f.ok rh<|.str _<|ZpV ok<|Zsx e3⟩ hs
     . split at f
       . rename_i kvs e1;exact dict kvs (.inl i) e1 rfl f
       . exact f.elim
 . rename_i z;obtain⟨rfl,ok⟩:=r2.str_inv;split at f
   . rename_i kvs e1;exact dict kvs (.inr z) e1 rfl f
   . exact f.elim
 trivial
def ZpT(hx:Yp x=Ws)(h:∀c∈y.cps.toList,c∈x.cps.toList):Yp y=Ws:=by unfold Yp at hx ⊢;rw[Array.all_eq_true']at hx ⊢;intro c hc;exact hx c (by simp_all)
def Zro(hY:Y.K=X.K)(rh:RH Y H B h)(r:RD Y H B d v)(e:Zev T.GD d h=J b):Zwv X.K v H b:=by
 cases d with
 |non|bl c|int c=>cases r;cases e;rfl
 |str c=>
  cases r;unfold Zev at e;simp only at e;split at e
  . rename_i hz;cases e;refine⟨hz,?_⟩;by_cases h0:c.length=0
    . simp[h0]
    . have R:((c.length:Int) != 0)=Ws:=by
       simp
       lia
      rw[R];simp[h0]
  . cases e
 |tup xs=>obtain⟨a,vs,rfl,t,s⟩:=r.tup_inv;cases e;exact .inr (.inl ⟨vs,hY▸t,by rw[s.isEmpty]⟩)
 |ref i=>
  unfold Zev at e;simp only at e;split at e
  . rename_i q;cases e;obtain⟨a,vs,rfl,_,h3,s⟩:=r.lst rh q;exact .inl ⟨vs,.of h3,by rw[s.isEmpty]⟩
  . rename_i q;cases e;obtain⟨a,vs,rfl,_,h3,s⟩:=r.dic rh q;exact .inr (.inr ⟨vs,h3,by cases s<;>rfl⟩)
  . cases e
 |ro xs=>
  cases e;cases r with
  |ro q s=>exact .inl ⟨_,hY▸q.sq,by rw[s.isEmpty]⟩
 |ty n=>cases e
 |kd x=>cases e
end
section
variable {X:Cx}{Y:Yx}{E:XK}{T:Tb}{H:Hp}{B:List Yj}{h:Hd}
def rS(Y:Yx)(E:XK):V->Option Int->Option Int->Hp->VK->Prop:=λx l u H Q=>∃d h B,RH Y H B h/\RD Y H B d x/\Fin Y (RD Y) H B (ZhY d l u h) Q E
def ZgF(y)(l u):∀c∈(Yq y l u).cps.toList,c∈y.cps.toList:=by
 intro c hc;unfold Yq at hc;split at hc
 . trivial
 . simp at hc;obtain⟨i,_,hi⟩:=hc;have:=Array.mem_of_getElem? hi
   simp_all
def Zoq{xs}{lo hi}(h:HT.sIx xs.length 0 lo=0/\HT.sIx xs.length xs.length hi=xs.length):cutD xs lo hi=xs:=by
 unfold cutD
 simp_all
def Zsh(hY:Y.K=X.K):SlR X (rS Y E):=by
 intro ac s Z H x v vl vu lo hi sl Q I rx hs pl pu hh;obtain⟨d,h,B,rh,r,f⟩:=hh;unfold ZhY at f;split at f
 . obtain⟨a,vs,rfl,t,rs⟩:=r.tup_inv;by_cases hw:HT.sIx vs.length 0 lo=0/\HT.sIx vs.length vs.length hi=vs.length
   . rw[Zoq (by rw[rs.length];trivial)]at f;exact Zo4 ac s Z H _ v vl vu lo hi sl Q I rx hs pl pu ⟨a,vs,rfl,hY▸t,hw,f.ok rh<|.tup t rs⟩
   . exact ZuD ac s Z H _ v vl vu lo hi sl Q I rx hs pl pu ⟨a,vs,rfl,hY▸t,hw,λp hp=>f.tup rh hp<|rs.cut lo hi⟩
 . obtain⟨rfl,ok⟩:=r.str_inv;exact ZuE ac s Z H _ v vl vu lo hi sl Q I rx hs pl pu ⟨_,rfl,f.iff.1,f.iff.2.ok rh<|.str _<|ZpT ok<|ZgF _ _ _⟩
 . split at f
   . rename_i xs e1;obtain⟨a,vs,rfl,hl,rs⟩:=r.lstOf rh e1;exact Zrx ac s Z H _ v vl vu lo hi sl Q I rx hs pl pu ⟨a,vs,rfl,hY▸hl,λp hp=>f.new rh hp ⟨_,Zh,(rs.cut lo hi).mono rh<|Gr.lay hp⟩⟩
   trivial
def rF(Y:Yx)(E:XK)(f:List D->Hd->qd D):List V->Hp->VK->Prop:=λxs H Q=>∃ds h B,RH Y H B h/\RDs Y H B ds xs/\Fin Y (RD Y) H B (f ds h) Q E
def RDs.one(r:RDs Y H B [d] xs):∃x,xs=[x]/\RD Y H B d x:=by
 cases r with
 |cons a s=>cases s;exact⟨_,rfl,a⟩
def RDs.two(r:RDs Y H B [d,e] xs):∃x y,xs=[x,y]/\RD Y H B d x/\RD Y H B e y:=by
 cases r with
 |cons a s=>obtain⟨y,rfl,b⟩:=s.one;exact⟨_,_,rfl,a,b⟩
def Ztl(hY:Y.K=X.K):Z4 X (.builtin "len") (rF Y E Zjw):=by
 intro ac s Z H xs us Q I r hh;obtain⟨ds,h,B,rh,rs,f⟩:=hh;unfold Zjw at f;split at f
 . obtain⟨x,rfl,rd⟩:=rs.one;obtain⟨rfl,ok⟩:=rd.str_inv;exact Zjk ac s Z H _ us Q I r ⟨_,rfl,f.iff.1,f.iff.2.ok rh<|.int _⟩
 . obtain⟨e,e1,f⟩:=f.ofO;obtain⟨zs,e2,rfl⟩:=Oo.mp e1;obtain⟨x,rfl,rd⟩:=rs.one;obtain⟨a,vs,rfl,hq,rv⟩:=rd.seqOf rh e2;refine Zjl ac s Z H _ us Q I r ⟨a,vs,rfl,hY▸hq,?_⟩;rw[<-rv.length];exact f.ok rh (.int _)
 trivial
def ZsI{K}{t T}{b}(e:ZlG t T=J b):PySem.W.kitOne K (.type t) (.type T)=J b:=by
 have all:(["int", "str", "bool", "tuple", "list"].all λT=>["int", "str", "bool", "tuple", "list", "NoneType"].all λt=>Wu<|PySem.W.kitOne [] (.type t) (.type T)=J (t==T||(t == "bool" && T == "int")))=Ws:=rfl;unfold ZlG at e;split at e
 . rename_i hm;cases e;rw[OC]at all;have R:=all T hm.1;rw[OC]at R;exact Zof (of_decide_eq_true<|R t hm.2)
 trivial
def ZwQ(hY:Y.K=X.K)(rh:RH Y H B h)(r:RD Y H B d v)(e:ZwR d h=J t):TyN X.K v H t:=by
 have lst:(IV.lstOf d h).map (λ_ => "list")=J t->TyN X.K v H t:=λe=>by obtain⟨xs,e1,rfl⟩:=Oo.mp e;obtain⟨a,vs,rfl,hl,rs⟩:=r.lstOf rh e1;exact .inl ⟨rfl,vs,hY▸hl⟩
 cases d with
 |int i|str i|bl i|non=>cases e;cases r;rfl
 |tup xs=>cases e;obtain⟨a,vs,rfl,t,rs⟩:=r.tup_inv;exact .inr ⟨rfl,vs,hY▸t⟩
 |ref i=>exact lst e
 |ro xs=>exact lst e
 |ty n=>exact lst e
 |kd x=>exact lst e
def Ztm(hY:Y.K=X.K):Z4 X (.builtin "isinstance") (rF Y E Zwn):=by
 intro ac s Z H xs us Q I r hh;obtain⟨ds,h,B,rh,rs,f⟩:=hh;unfold Zwn at f;split at f
 . obtain⟨e,e1,f⟩:=f.ofO;obtain⟨t,e2,e3⟩:=Option.bind_eq_some_iff.mp e1;obtain⟨b,e4,rfl⟩:=Oo.mp e3;obtain⟨x,y,rfl,r1,r2⟩:=rs.two;cases r2;exact ZqR ac s Z H _ us Q I r ⟨x,t,_,b,rfl,ZwQ hY rh r1 e2,ZsI e4,f.ok rh<|.bl _⟩
 trivial
def Ztn:Z4 X (.type "int") (rF Y E Zwo):=by
 intro ac s Z H xs us Q I r hh;obtain⟨ds,h,B,rh,rs,f⟩:=hh;unfold Zwo at f;split at f
 . obtain⟨x,rfl,r1⟩:=rs.one;cases r1;exact Ziy ac s Z H _ us Q I r (.inl ⟨_,rfl,f.ok rh<|.int _⟩)
 . obtain⟨x,rfl,r1⟩:=rs.one;cases r1;exact Ziy ac s Z H _ us Q I r (.inr ⟨_,rfl,f.ok rh<|.int _⟩)
 trivial
def Ztg(hY:Y.K=X.K):Z4 X (.type "tuple") (rF Y E ZkS):=by
 intro ac s Z H xs us Q I r hh;obtain⟨ds,h,B,rh,rs,f⟩:=hh;unfold ZkS at f;split at f
 . obtain⟨x,rfl,r1⟩:=rs.one;obtain⟨a,vs,rfl,t,rv⟩:=r1.tup_inv;exact Zeq ac s Z H _ us Q I r ⟨a,vs,rfl,.inr ⟨hY▸t,f.ok rh<|.tup t rv⟩⟩
 . obtain⟨e,e1,f⟩:=f.ofO;obtain⟨zs,e2,rfl⟩:=Oo.mp e1;obtain⟨x,rfl,r1⟩:=rs.one;obtain⟨a,vs,rfl,hl,rv⟩:=r1.lstOf rh e2;exact Zeq ac s Z H _ us Q I r ⟨a,vs,rfl,.inl ⟨hY▸hl,λp hp=>f.tup rh hp rv⟩⟩
 trivial
def Ztk(hY:Y.K=X.K):Z4 X (.type "list") (rF Y E Zq5):=by
 intro ac s Z H xs us Q I r hh;obtain⟨ds,h,B,rh,rs,f⟩:=hh;unfold Zq5 at f;split at f
 . split at f
   . rename_i e2;obtain⟨x,rfl,r1⟩:=rs.one;obtain⟨a,vs,rfl,hq,rv⟩:=r1.seqOf rh e2;exact Zjj ac s Z H _ us Q I r ⟨a,vs,rfl,hY▸hq,λp hp=>f.new rh hp ⟨_,Zh,rv.mono rh<|Gr.lay hp⟩⟩
   trivial
 trivial
theorem Zg6:∀{ds}{vs}{ns},RDs Y H B ds vs->intsOf ds=J ns->vs=ns.map V.int
 |_,_,_,.nil,e=>by cases e;rfl
 |_,_,_,.cons (d:=d) a s,e=>by
  cases d with
  |int i=>rw[intsOf]at e;obtain⟨z,e1,rfl⟩:=Oo.mp e;cases a;rw[Zg6 s e1];rfl
  |_=>cases e
theorem Znv:∀{ds}{vs}{ns},RDs Y H B ds vs->ZhD ds=J ns->vs=ns.map V.bl
 |_,_,_,.nil,e=>by cases e;rfl
 |_,_,_,.cons (d:=d) a s,e=>by
  cases d with
  |bl i=>rw[ZhD]at e;obtain⟨z,e1,rfl⟩:=Oo.mp e;cases a;rw[Znv s e1];rfl
  |_=>cases e
def Zti(hc:X.A.handled=M)(hY:Y.K=X.K):Z4 X (.builtin "sum") (rF Y E Zq2):=by
 intro ac s Z H xs us Q I r hh;obtain⟨ds,h,B,rh,rs,f⟩:=hh;unfold Zq2 at f;split at f
 . obtain⟨e,e1,f⟩:=f.ofO;obtain⟨ns,e2,rfl⟩:=Oo.mp e1;obtain⟨zs,e3,e4⟩:=Option.bind_eq_some_iff.mp e2;obtain⟨x,rfl,r1⟩:=rs.one;obtain⟨a,vs,rfl,hl,rv⟩:=r1.lstOf rh e3;rw[Zg6 rv e4]at hl;exact Zou hc ac s Z H _ us Q I r ⟨a,ns,rfl,hY▸hl,f.ok rh<|.int _⟩
 trivial
theorem ZjI:∀(ss:List Str),(∀x∈ss,Yp x=Ws)->RDs Y H B (ss.map D.str) (ss.map V.str)
 |[],_=>.nil
 |x::ss,h=>.cons (.str _<|h x<|.head _) (ZjI ss λy hy=>h y<|.tail _ hy)
theorem Zie:∀{ds}{vs}{ss},RDs Y H B ds vs->strsOf ds=J ss->vs=ss.map V.str
 |_,_,_,.nil,e=>by cases e;rfl
 |_,_,_,.cons (d:=d) a s,e=>by
  cases d with
  |str i=>rw[strsOf]at e;obtain⟨z,e1,rfl⟩:=Oo.mp e;cases a;rw[Zie s e1];rfl
  |_=>cases e
def rM(Y:Yx)(E:XK)(m:Mf):V->List V->Hp->VK->Prop:=λx xs H Q=>∃d ds h B,RH Y H B h/\RD Y H B d x/\RDs Y H B ds xs/\Fin Y (RD Y) H B (Zax m d ds h) Q E
noncomputable def mid:Mf->String
 |.app => "list.append"
 |.ext => "list.extend"
 |.pop => "list.pop"
 |.rev => "list.reverse"
 |.clr => "list.clear"
def ZmV(hY:Y.K=X.K)(m):MtM X (mid m) (rM Y E m):=by
 intro ac s Z H x xs v us Q I rx rs hh;obtain⟨d,ds,h,B,rh,r1,r2,f⟩:=hh;unfold Zax at f;split at f
 . split at f
   . rename_i i ys e;obtain⟨a,vs,rfl,hi,hl,rv⟩:=r1.lst rh e;cases m with
     |app=>
      unfold Zfv Zp9 at f;simp at f;split at f
      . obtain⟨y,rfl,ry⟩:=r2.one;exact Zin ac s Z H _ _ v us Q I rx rs ⟨a,vs,y,rfl,rfl,hl,rv.length▸f.iff.1,f.iff.2.wrote rh hi ⟨_,Zh,(rv.append<|.cons ry .nil).mono rh<|Gr.write (O1 hi) (by rw[hl];trivial)⟩ .non (by rw[hl];trivial)⟩
      trivial
     |ext=>
      unfold Zfv ZsA at f;simp only at f;split at f
      . split at f
        . rename_i zs e2;obtain⟨y,rfl,ry⟩:=r2.one;obtain⟨b,ws,rfl,hj,bX,bf⟩:=ry.lst rh e2;exact Zn9 ac s Z H _ _ v us Q I rx rs ⟨a,b,vs,ws,rfl,rfl,hl,bX,by rw[<-rv.length,<-bf.length];exact f.iff.1,f.iff.2.wrote rh hi ⟨_,Zh,(rv.append bf).mono rh<|Gr.write (O1 hi) (by rw[hl];trivial)⟩ .non (by rw[hl];trivial)⟩
        . exact f.elim
      . obtain⟨y,rfl,ry⟩:=r2.one;obtain⟨b,ws,rfl,t,bf⟩:=ry.tup_inv;exact Zlr ac s Z H _ _ v us Q I rx rs ⟨a,b,vs,ws,rfl,rfl,hl,hY▸t,by rw[<-rv.length,<-bf.length];exact f.iff.1,f.iff.2.wrote rh hi ⟨_,Zh,(rv.append bf).mono rh<|Gr.write (O1 hi) (by rw[hl];trivial)⟩ .non (by rw[hl];trivial)⟩
      . exact f.elim
     |pop=>
      unfold Zfv Zsz at f;simp only at f;split at f
      . split at f
        . rename_i y e2;cases r2;rw[rv.length]at e2;obtain⟨w,e3,bf⟩:=rv.get e2;exact Zvq ac s Z H _ _ v us Q I rx rs ⟨a,vs,w,rfl,rfl,hl,e3,f.wrote rh hi ⟨_,Zh,rv.dropLast.mono rh<|Gr.write (O1 hi) (by rw[hl];trivial)⟩ (bf.mono rh<|Gr.write (O1 hi) (by rw[hl];trivial)) (by rw[hl];trivial)⟩
        . exact f.elim
      . exact f.elim
     |rev=>
      unfold Zfv Zvs at f;simp only at f;split at f
      . cases r2;exact Zlq ac s Z H _ _ v us Q I rx rs ⟨a,vs,rfl,rfl,hl,f.wrote rh hi ⟨_,Zh,rv.reverse.mono rh<|Gr.write (O1 hi) (by rw[hl];trivial)⟩ .non (by rw[hl];trivial)⟩
      . exact f.elim
     |clr=>
      unfold Zfv Zx4 at f;simp only at f;split at f
      . cases r2;exact Zp3 ac s Z H _ _ v us Q I rx rs ⟨a,vs,rfl,rfl,hl,f.wrote rh hi ⟨_,Zh,.nil⟩ .non (by rw[hl];trivial)⟩
      . exact f.elim
   trivial
 trivial
def rP(Y:Yx)(E:XK):ZoF:=λo i v H Q=>∃a b c h B,RH Y H B h/\RD Y H B a o/\RD Y H B b i/\RD Y H B c v/\Fin Y (λ_ _ (_:Unit) (_:Unit)=>True) H B (ZaD a b c h) (λ_ H'=>Q H') E
def ZuS:ZoH X (rP Y E):=by
 intro ac s Z H o i v ov iv u Q I ro ri rv hh;obtain⟨a,b,c,h,B,rh,ra,rb,rc,f⟩:=hh;unfold ZaD at f;split at f
 . split at f
   . rename_i j xs e;split at f
     . split at f
       . rename_i j' e2;obtain⟨p,vs,rfl,hi,hl,rs⟩:=ra.lst rh e;have hb:=rb.int_inv;subst hb;rw[rs.length]at e2;exact set_list ac s Z H _ _ v ov iv u Q I ro ri rv ⟨p,vs,_,j',rfl,rfl,hl,e2,f.wrote (b:=()) rh hi ⟨_,Zh,(RDs.set rc j' rs).mono rh<|Gr.write (O1 hi) (by rw[hl];trivial)⟩ trivial (by rw[hl];trivial)⟩
       trivial
     trivial
   . rename_i j kvs e;split at f
     . rename_i k e2;obtain⟨p,vs,rfl,hi,hl,rs⟩:=ra.dic rh e;exact set_dict ac s Z H _ _ v ov iv u Q I ro ri rv ⟨p,vs,k,rfl,Zd0 rb e2,hl,rs.length▸f.iff.1,f.iff.2.wrote (b:=()) rh hi ⟨_,Zh,(rs.put k rc).mono rh<|Gr.write (O1 hi) (by rw[hl];trivial)⟩ trivial (by rw[hl];trivial)<|Zg3 (rh.ks _ _ e)<|Zql rb e2⟩
     trivial
   trivial
 trivial
end
def rW(K:Yl)(x:V)(H1:Hp)(qd:It->Hp->Prop):Prop:=(∃a,x=.ref a/\(∃xs,SqL K H1 a xs)/\qd (Itl K a) H1)\/(∃a,x=.ref a/\(∃xs,SqT K H1 a xs)/\qd (Itt K a) H1)
def Zu0(hl:PE X l tl):PI X tg l (λZ H qd=>tl Z H λx H1=>rW X.K x H1 qd):=by
 intro ac s Z H qd I h;refine thn (hl ac s Z H _ I h) λv s1 ⟨x,H1,I1,r1,q1⟩=>?_;have kI:∀b∈[s1.heap.objs.size],ZdO X ac H1 b:=λb hb=>by
  have e:=by simpa using hb
  subst e;exact I1.fpOk (Oq _) (I1.hok.fresh<|Oq _)
 rcases q1 with⟨a,rfl,⟨xs,hq⟩,q⟩|⟨a,rfl,⟨xs,hq⟩,q⟩
 . cases r1;obtain⟨its,rv,p,hz⟩:=I1.list hq;exact wpAny_pyIter_list p.isList ⟨s1.heap.objs.size,[s1.heap.objs.size],_,_,H1,rfl,I1.kept λb o e=>Od _ e,ZnF a _,⟨_,Oj _ rfl,rfl,rfl⟩,kI,q⟩
 . cases r1;obtain⟨its,rv,p,hz⟩:=I1.tuple hq;exact wpAny_pyIter_tuple (p) ⟨s1.heap.objs.size,[s1.heap.objs.size],_,_,H1,rfl,I1.kept λb o e=>Od _ e,ZkZ a _,⟨_,Oj _ rfl,rfl,rfl⟩,kI,q⟩
def WJ(Y:Yx)(H0:Hp)(μ0:List Yj)(w:Wk)(qa:It):Prop:=∀H B h,Gr H0 μ0 H B->RH Y H B h->Wk.stays w.src h=Ws ->
 (∀i d,w.xs[i]?=J d->qa.go i H/\∀x H',qa.yld i H x H'->Gr H B H' B/\RH Y H' B h/\RD Y H' B d x)/\qa.stop w.xs.length H
section
variable {X:Cx}{Y:Yx}{E:XK}{H:Hp}{B:List Yj}{h:Hd}
def Zuh(hY:Y.K=X.K)(rh:RH Y H B h)(t:SqT Y.K H a vs)(s:RDs Y H B xs vs):WJ Y H B ⟨[],xs⟩ (Itt X.K a):=by intro H1 μ1 R g ah st;have t1:=g.rdT rh t;rw[hY]at t1;refine⟨λi d e=>?_,⟨vs,t1,by rw[s.length];simp⟩⟩;obtain⟨v,e1,r1⟩:=(s.mono rh g).get e;refine⟨⟨vs,v,t1,e1⟩,λx H' ⟨eH,q⟩=>?_⟩;subst eH;have:=q vs t1;rw[e1]at this;cases this;exact⟨Gr.refl,ah,r1⟩
def ZtA(hY:Y.K=X.K)(rh:RH Y H B h)(t:FzL Y.K H a vs)(s:RDs Y H B xs vs):WJ Y H B ⟨[],xs⟩ (Itl X.K a):=by intro H1 μ1 R g ah st;have t1:=(g.rdF rh t).sq;rw[hY]at t1;refine⟨λi d e=>?_,⟨vs,t1,by rw[s.length];simp⟩⟩;obtain⟨v,e1,r1⟩:=(s.mono rh g).get e;refine⟨⟨vs,v,t1,e1⟩,λx H' ⟨eH,q⟩=>?_⟩;subst eH;have:=q vs t1;rw[e1]at this;cases this;exact⟨Gr.refl,ah,r1⟩
def ZgC(st:Wk.stays ((i,xs)::r) h=Ws):h[i]?=J (.lst xs):=of_decide_eq_true (Bool.and_eq_true_iff.mp st).1
def ZoO(hi:B[i]?=J a):WJ Y H B ⟨[(i,xs)],xs⟩ (Itl X.K a):=by intro H1 μ1 R g ah st;obtain⟨vs,hl,s1⟩:=ah.ob i _ a (ZgC st)<|g.pre i a hi;refine⟨λi d e=>?_,⟨vs,.of hl,by rw[s1.length];simp⟩⟩;obtain⟨v,e1,r1⟩:=s1.get e;refine⟨⟨vs,v,.of hl,e1⟩,λx H' ⟨eH,q⟩=>?_⟩;subst eH;have:=q vs<|.of hl;rw[e1]at this;cases this;exact⟨Gr.refl,ah,r1⟩
def Zui{lo}:WJ Y H B ⟨[],Zbe lo n⟩ (Itr lo n):=by
 intro H1 μ1 R g ah st;have hl:(Zbe lo n).length=n:=by simp[Zbe]
 refine⟨λi d e=>?_,by rw[hl];exact Oq _⟩;have hi:=by have:=(Ob.mp e).1;rw[hl]at this;exact this
 refine⟨hi,λx H' ⟨eH,q⟩=>?_⟩;subst eH q;have:=by unfold Zbe at e;rw[On,List.getElem?_range hi]at e;exact(YF e).symm
 subst this;exact⟨Gr.refl,ah,.int _⟩
def ZqH{xs}{i:Nat}{d}(e:(Zdv xs)[i]?=J d):∃x,xs[i]?=J x/\d=.tup [.int i,x]:=by unfold Zdv at e;rw[List.getElem?_mapIdx]at e;obtain⟨x,e1,e2⟩:=Oo.mp e;exact⟨x,e1,e2.symm⟩
def Zmm{a}{src}{xs}(hw:WJ Y H B ⟨src,xs⟩ (Itl X.K a))(sq:∀H1 μ1 R,Gr H B H1 μ1->RH Y H1 μ1 R->Wk.stays src R=Ws->∃vs,SqL X.K H1 a vs/\RDs Y H1 μ1 xs vs):WJ Y H B ⟨src,Zdv xs⟩ (Ite X.K a):=by
 intro H1 μ1 R g ah st;obtain⟨vs,t1,s1⟩:=sq H1 μ1 R g ah st;have hl:(Zdv xs).length=xs.length:=by simp[Zdv]
 refine⟨λi d e=>?_,⟨vs,t1,by rw[hl,s1.length]⟩⟩;obtain⟨x0,e0,rfl⟩:=ZqH e;obtain⟨v,e1,r1⟩:=s1.get e0;refine⟨⟨vs,v,t1,e1⟩,λx H' ⟨p,ex,hp,y,q,eH⟩=>?_⟩;subst ex eH;have:=q vs t1;rw[e1]at this;cases this;exact⟨Gr.lay0 hp,ah.lay0 hp,.tup (.inl<|.inl Zh)<|.cons (.int _)<|.cons (r1.mono ah<|Gr.lay0 hp) .nil⟩
def Zuj(hY:Y.K=X.K)(rh:RH Y H B h)(t:SqT Y.K H a vs)(s:RDs Y H B xs vs):WJ Y H B ⟨[],xs.reverse⟩ (Itv X.K a vs.length):=by intro H1 μ1 R g ah st;have t1:=g.rdT rh t;rw[hY]at t1;refine⟨λi d e=>?_,⟨vs,t1,rfl,by simp[s.length]⟩⟩;obtain⟨v,e1,r1⟩:=((s.mono rh g).reverse).get e;refine⟨⟨vs,v,t1,rfl,e1⟩,λx H' ⟨eH,q⟩=>?_⟩;subst eH;have:=q vs t1;rw[e1]at this;cases this;exact⟨Gr.refl,ah,r1⟩
def Zrg(hi:B[i]?=J a):WJ Y H B ⟨[(i,xs)],xs.reverse⟩ (Zww X.K a xs.length):=by intro H1 μ1 R g ah st;obtain⟨vs,hl,s0⟩:=ah.ob i _ a (ZgC st)<|g.pre i a hi;refine⟨λi d e=>?_,⟨vs,.of hl,s0.length.symm,by simp⟩⟩;obtain⟨v,e1,r1⟩:=s0.reverse.get e;refine⟨⟨vs,v,.of hl,s0.length.symm,e1⟩,λx H' ⟨eH,q⟩=>?_⟩;subst eH;have:=q vs<|.of hl;rw[e1]at this;cases this;exact⟨Gr.refl,ah,r1⟩
def Zuk(hY:Y.K=X.K)(rh:RH Y H B h)(t:SqT Y.K H a vs)(s:RDs Y H B xs vs):WJ Y H B ⟨[],ZeE xs⟩ (It1 X.K a):=by
 intro H1 μ1 R g ah st;have t1:=g.rdT rh t;rw[hY]at t1;have hl:(ZeE xs).length=xs.length:=by simp[ZeE]
 refine⟨λi d e=>?_,⟨vs,t1,by rw[hl,(s.mono rh g).length]⟩⟩;have:∃x0,xs[i]?=J x0/\d=.tup [.int (i+1:Nat),x0]:=by unfold ZeE at e;rw[List.getElem?_mapIdx]at e;obtain⟨x,e1,e2⟩:=Oo.mp e;exact⟨x,e1,e2.symm⟩
 obtain⟨x0,e0,rfl⟩:=this;obtain⟨v,e1,r1⟩:=(s.mono rh g).get e0;refine⟨⟨vs,v,t1,e1⟩,λx H' ⟨p,ex,hp,y,q,eH⟩=>?_⟩;subst ex eH;have:=q vs t1;rw[e1]at this;cases this;exact⟨Gr.lay0 hp,ah.lay0 hp,.tup (.inl<|.inl Zh)<|.cons (.int _)<|.cons (r1.mono ah<|Gr.lay0 hp) .nil⟩
theorem RKs.keys:∀{kvs:List (Key×D)}{aj:List (Key×V)},RKs Y H B kvs aj->kvs.map (·.1)=aj.map (·.1)
 |_,_,.nil=>rfl
 |_,_,.cons a s=>by rw[Op,Op,s.keys]
def ZtB(ea:H a=J (.frz o<|.dK aj))(s:RKs Y H B kvs aj)(ok:ZbS kvs):WJ Y H B ⟨[],kvs.map λp=>Zqm p.1⟩ (Itd a o aj):=by
 intro H1 μ1 R g ah st;have hl:=s.length;refine⟨λi d e=>?_,⟨g.fz a _ _ ea,by simp_all⟩⟩;simp only[On]at e;obtain⟨p,ep,rfl⟩:=Oo.mp e;have hi:=(Ob.mp ep).1;refine⟨⟨g.fz a _ _ ea,by lia⟩,λx H' ⟨eH,k,v,ek,ex⟩=>?_⟩;subst eH ex;have hk:=by have q:=congrArg (λl=>l[i]?) s.keys;simp only[On,ep,ek,Yv]at q;exact YF q
 refine⟨Gr.refl,ah,?_⟩;have jV:=ok p<|O1 ep;rw[hk]at jV ⊢;cases k with
 |inl i=>exact .int _
 |inr x=>exact .str _ (jV x rfl)
def ZvS{d}{x}{qd}{E}(rh:RH Y H B h)(r:RD Y H B d x)(f:Fin Y (WJ Y) H B (Zqx d h) qd E):
 ∃a kvs,x=.ref a/\((H a=J (.dK kvs)/\∀o,qd (Itd a o kvs)<|upd H a<|.frz o<|.dK kvs)\/∃o,H a=J (.frz o<|.dK kvs)/\qd (Itd a o kvs) H):=by
 cases d with
 |ref i=>
  unfold Zqx at f;simp at f;split at f
  . rename_i kvs e;obtain⟨a,vs,rfl,hi,hl,s⟩:=r.dic rh e;have nf:NF (H a):=by rw[hl];trivial
    refine⟨a,vs,rfl,.inl ⟨hl,λo=>?_⟩⟩;have g:Gr H B (upd H a<|.frz o<|.dK vs) B:=Gr.write (O1 hi) nf;exact f.at g (rh.write hi ⟨o,vs,Zh,s.mono rh g⟩ nf<|show ZbS kvs from rh.ks _ _ e) (ZtB Zh (s.mono rh g)<|rh.ks _ _ e)
  . rename_i kvs e;cases r with
    |ref q=>obtain⟨o,vs,R,s⟩:=rh.ob i _ _ e q;exact⟨_,vs,rfl,.inr ⟨o,R,f.ok rh<|ZtB R s<|rh.ks _ _ e⟩⟩
  trivial
 |_=>exact f.elim
def Zrj{d}{qd}(hY:Y.K=X.K)(rh:RH Y H B h)(r:RD Y H B d x)(e:ZaA d h=J w)(q:∀qa,WJ Y H B w qa->qd qa H):rW X.K x H qd:=by
 cases d with
 |tup xs=>cases e;obtain⟨a,vs,rfl,t,s⟩:=r.tup_inv;exact .inr ⟨a,rfl,⟨vs,hY▸t⟩,q _<|Zuh hY rh t s⟩
 |ro xs=>
  cases e;cases r with
  |ro t s=>exact .inl ⟨_,rfl,⟨_,hY▸t.sq⟩,q _<|ZtA hY rh t s⟩
 |ref i=>
  unfold ZaA at e;simp at e;split at e
  . rename_i xs he;cases e;obtain⟨a,vs,rfl,hi,hl,s⟩:=r.lst rh he;exact .inl ⟨a,rfl,⟨vs,.of hl⟩,q _<|ZoO hi⟩
  trivial
 |_=>cases e
end
structure Kl where
 cs:List Str
 ats:List Str
 ms:List (Str×Str)
 is:List Str
 xs:List Str:=[]
 xa:List (Str×Str):=[]
 xi:List (Str×Str×Bool):=[]
structure Gm where
 N:List Str
 sc:Scope
 fs:List Str
 top:Bool
 kl:Kl
noncomputable def glb(Γ:Gm)(x:Str):Bool:=Wu (Γ.sc.names.lookup x=J .globalImplicit)&&!(x==("__debug__" : Str))
noncomputable def ZoP(sc:Scope)(x:Str):Bool:=Wu (sc.names.lookup x=J .local)||Wu (sc.names.lookup x=J .cell)||Wu (sc.names.lookup x=J .free)
noncomputable def Znt:Bf->Str
 |.len => "len" |.isi => "isinstance" |.int => "int" |.tup => "tuple" |.lst => "list" |.sum => "sum" |.srt => "sorted" |.anb => "any" |.tdk => "tuple"
noncomputable def bok:Bf->Bool
 |_=>Ws
noncomputable def Zp4:Mf->Str
 |.app => "append" |.ext => "extend" |.pop => "pop" |.rev => "reverse" |.clr => "clear"
noncomputable def Znu:List Str:=["len", "isinstance", "int", "tuple", "list", "sum", "all", "sorted", "range", "enumerate", "reversed", "str", "bool", "max", "repr", "zip", "set", "dict", "any", "ValueError"]
noncomputable def Zmr:List String:=["int", "str", "bool", "tuple", "list"]
structure Pt where
 a:Expr:=default
 b:Expr:=default
 c:Expr:=default
 xs:List Expr:=[]
 s:Str:=⟨#[]⟩
 op:Operator:=.Add
 cs:List CmpOp:=[]
 u:UnaryOp:=.Not
 bo:BoolOp:=.And
 p:Pos:=default
 kw:List Keyword:=[]
 l:Option Expr:=M
 h:Option Expr:=M
 st:Option Expr:=M
 ks:List (Option Expr):=[]
 gs:List Comprehension:=[]
 sc:Scope:=default
 k:Nat:=0
 v:Const:=.none
noncomputable def tgE:Expr->Nat
 |.Starred _ _=>0|.BoolOp _ _ _=>1|.UnaryOp _ _ _=>2|.IfExp _ _ _ _=>3|.Compare _ _ _ _=>4|.Slice _ _ _ _=>5|.Name _ _=>6|.BinOp _ _ _ _=>7|.Tuple _ _ _=>8|.List _ _=>9
 |.Subscript _ _ _=>10|.Call _ _ _ _=>11|.Attribute _ _ _=>12|.ListComp _ _ _ _=>13|.Dict _ _ _=>14|.Constant _ _ _=>15|.NamedExpr _ _ _=>17|.Set _ _ _=>18|.SetComp _ _ _ _=>19|.DictComp _ _ _ _ _=>19|_=>16
def prt(e:Expr):Pt:=match e with
 |.BoolOp o xs p=>{bo:=o,xs:=xs,p:=p}
 |.UnaryOp o x p=>{a:=x,u:=o,p:=p}
 |.IfExp t x y p=>{a:=t,b:=x,c:=y,p:=p}
 |.Compare l os rs p=>{a:=l,cs:=os,xs:=rs,p:=p}
 |.Slice l u s p=>{l:=l,h:=u,st:=s,p:=p}
 |.Name x p=>{s:=x,p:=p}
 |.BinOp l o r p=>{a:=l,b:=r,op:=o,p:=p}
 |.Tuple xs k p=>{xs:=xs,k:=k,p:=p}
 |.List xs p=>{xs:=xs,p:=p}
 |.Subscript x y p=>{a:=x,b:=y,p:=p}
 |.Call f xs kw p=>{a:=f,xs:=xs,kw:=kw,p:=p}
 |.Attribute x n p=>{a:=x,s:=n,p:=p}
 |.ListComp x gs sc p=>{a:=x,gs:=gs,p:=p,sc:=sc}
 |.Dict ks vs p=>{ks:=ks,xs:=vs,p:=p}
 |.Constant c k p=>{v:=c,k:=k,p:=p}
 |_=>{a:=e}
noncomputable def mkE(n:Nat)(p:Pt):Expr:=match n with
 |1=>.BoolOp p.bo p.xs p.p|2=>.UnaryOp p.u p.a p.p|3=>.IfExp p.a p.b p.c p.p|4=>.Compare p.a p.cs p.xs p.p|5=>.Slice p.l p.h p.st p.p|6=>.Name p.s p.p|7=>.BinOp p.a p.op p.b p.p
 |8=>.Tuple p.xs p.k p.p|9=>.List p.xs p.p|10=>.Subscript p.a p.b p.p|11=>.Call p.a p.xs p.kw p.p|12=>.Attribute p.a p.s p.p
 |13=>.ListComp p.a p.gs p.sc p.p|14=>.Dict p.ks p.xs p.p|15=>.Constant p.v p.k p.p|_=>p.a
def rb(e):mkE (tgE e) (prt e)=e:=by cases e<;>rfl
def bL{a b}(h:(a&&b)=Ws):a=Ws:=by simp_all
def bR{a b}(h:(a&&b)=Ws):b=Ws:=by simp_all
def bO{a b}{P:Prop}(h:(a||b)=Ws)(l:a=Ws->P)(r:b=Ws->P):P:=by cases a with|true=>exact l rfl|false=>exact r h
def ff{P:Prop}(h:Wt=Ws):P:=by cases h
def dS{α:Type}{P:α->Prop}{a b}[Decidable<|a=b](h:Wu (a=b)=Ws)(k:P b):P a:=of_decide_eq_true h▸k
def an(n:Nat)(e:Expr)(f:Pt->Bool):Bool:=Wu (tgE e=n)&&f (prt e)
section
variable {P:Expr->Prop}{e:Expr}
def ZaS(h:an n e f=Ws)(k:∀p,f p=Ws->P (mkE n p)):P e:=rb e▸dS (P:=λm=>P<|mkE m<|prt e) (bL h) (k _<|bR h)
noncomputable def l1{α:Type}(xs:List α)(f:α->Bool):Bool:=match xs with
 |[y]=>f y
 |_=>Wt
@[elab_as_elim] theorem Zaf{α}{P:List α->Prop}{xs}{f}(h:l1 xs f=Ws)(k:∀y,f y=Ws->P [y]):P xs:=by
 cases xs with
 |nil=>cases h
 |cons y r=>
  cases r with
  |nil=>exact k y h
  |cons _ _=>cases h
noncomputable def l2{α:Type}(xs:List α)(f:α->α->Bool):Bool:=match xs with
 |[x,y]=>f x y
 |_=>Wt
@[elab_as_elim] theorem Ziq{α}{P:List α->Prop}{xs}{f}(h:l2 xs f=Ws)(k:∀x y,f x y=Ws->P [x,y]):P xs:=by
 cases xs with
 |nil=>cases h
 |cons x r=>
  cases r with
  |nil=>cases h
  |cons y r=>
   cases r with
   |nil=>exact k x y h
   |cons _ _=>cases h
noncomputable def l0{α:Type}(xs:List α)(b:Bool):Bool:=xs.isEmpty&&b
def Zir{α}{P:List α->Prop}{xs}(h:l0 xs b=Ws)(k:b=Ws->P []):P xs:=by
 cases xs with
 |nil=>exact k h
 |cons _ _=>cases h
@[irreducible] def aN(e:Expr)(f:Str->Bool):Bool:=an 6 e λp=>f p.s
@[elab_as_elim] theorem Zx0(h:aN e f=Ws)(k:∀x q,f x=Ws->P (.Name x q)):P e:=by unfold aN at h;exact ZaS h λ_ h=>k _ _ h
@[irreducible] def aX(x:Str)(e:Expr)(b:Bool):Bool:=an 6 e λp=>Wu (p.s=x)&&b
@[elab_as_elim] theorem Zgt(h:aX x e b=Ws)(k:∀q,b=Ws->P (.Name x q)):P e:=by unfold aX at h;exact ZaS h λp h=>dS (P:=λs=>P<|.Name s p.p) (bL h) (k _<|bR h)
@[irreducible] def aB2(o:Operator)(e:Expr)(f:Expr->Expr->Bool):Bool:=an 7 e λp=>Wu (p.op=o)&&f p.a p.b
@[elab_as_elim] theorem ZyL(h:aB2 o e f=Ws)(k:∀l r q,f l r=Ws->P (.BinOp l o r q)):P e:=by unfold aB2 at h;exact ZaS h λp h=>dS (P:=λs=>P<|.BinOp p.a s p.b p.p) (bL h) (k _ _ _<|bR h)
@[irreducible] def aC1(o:CmpOp)(e:Expr)(f:Expr->Expr->Bool):Bool:=an 4 e λp=>Wu (p.cs=[o])&&l1 p.xs λr=>f p.a r
@[elab_as_elim] theorem ZiA(h:aC1 o e f=Ws)(k:∀l r q,f l r=Ws->P (.Compare l [o] [r] q)):P e:=by unfold aC1 at h;exact ZaS h λp h=>dS (P:=λs=>P<|.Compare p.a s p.xs p.p) (bL h) (Zaf (bR h) λ_ h=>k _ _ _ h)
@[irreducible] def aU(u:UnaryOp)(e:Expr)(f:Expr->Bool):Bool:=an 2 e λp=>Wu (p.u=u)&&f p.a
@[elab_as_elim] theorem Zrl(h:aU u e f=Ws)(k:∀x q,f x=Ws->P (.UnaryOp u x q)):P e:=by unfold aU at h;exact ZaS h λp h=>dS (P:=λs=>P<|.UnaryOp s p.a p.p) (bL h) (k _ _<|bR h)
@[irreducible] def aO(o:BoolOp)(e:Expr)(f:List Expr->Bool):Bool:=an 1 e λp=>Wu (p.bo=o)&&f p.xs
@[elab_as_elim] theorem ZpW(h:aO o e f=Ws)(k:∀xs q,f xs=Ws->P (.BoolOp o xs q)):P e:=by unfold aO at h;exact ZaS h λp h=>dS (P:=λs=>P<|.BoolOp s p.xs p.p) (bL h) (k _ _<|bR h)
@[irreducible] def aI(e:Expr)(f:Expr->Expr->Expr->Bool):Bool:=an 3 e λp=>f p.a p.b p.c
@[elab_as_elim] theorem ZzR(h:aI e f=Ws)(k:∀t x y q,f t x y=Ws->P (.IfExp t x y q)):P e:=by unfold aI at h;exact ZaS h λ_ h=>k _ _ _ _ h
@[irreducible] def aT(e:Expr)(f:List Expr->Bool):Bool:=an 8 e λp=>f p.xs
@[elab_as_elim] theorem ZiK(h:aT e f=Ws)(k:∀xs j q,f xs=Ws->P (.Tuple xs j q)):P e:=by unfold aT at h;exact ZaS h λ_ h=>k _ _ _ h
@[irreducible] def aLs(e:Expr)(f:List Expr->Bool):Bool:=an 9 e λp=>f p.xs
@[elab_as_elim] theorem Zx6(h:aLs e f=Ws)(k:∀xs q,f xs=Ws->P (.List xs q)):P e:=by unfold aLs at h;exact ZaS h λ_ h=>k _ _ h
@[irreducible] def aS(e:Expr)(f:Expr->Expr->Bool):Bool:=an 10 e λp=>f p.a p.b
@[elab_as_elim] theorem Zo7(h:aS e f=Ws)(k:∀x y q,f x y=Ws->P (.Subscript x y q)):P e:=by unfold aS at h;exact ZaS h λ_ h=>k _ _ _ h
@[irreducible] def aSl(e:Expr)(f:Expr->Option Expr->Option Expr->Bool):Bool:=aS e λx y=>an 5 y λp=>p.st.isNone&&f x p.l p.h
@[elab_as_elim] theorem Zxf(h:aSl e f=Ws)(k:∀x l u q r,f x l u=Ws->P (.Subscript x (.Slice l u M q) r)):P e:=by
 unfold aSl at h;exact Zo7 h λx _ r h=>ZaS (P:=λy=>P<|.Subscript x y r) h λp h=>by
  show P (.Subscript x (.Slice p.l p.h p.st p.p) r)
  simp_all
@[irreducible] def aCN(n:Str)(e:Expr)(f:List Expr->Bool):Bool:=an 11 e λp=>aX n p.a (l0 p.kw<|f p.xs)
@[elab_as_elim] theorem Zbl(h:aCN n e f=Ws)(k:∀p ys q,f ys=Ws->P (.Call (.Name n p) ys [] q)):P e:=by unfold aCN at h;exact ZaS h λp h=>Zgt (P:=λa=>P<|.Call a p.xs p.kw p.p) h λq h=>Zir (P:=λw=>P<|.Call (.Name n q) p.xs w p.p) h λh=>k _ _ _ h
@[irreducible] def aCk(n w:Str)(e:Expr)(f:List Expr->Expr->Bool):Bool:=an 11 e λp=>aX n p.a (l1 p.kw λy=>match y with|⟨a,z,_⟩=>Wu (a=J w)&&f p.xs z)
@[elab_as_elim] theorem Zt8(h:aCk n w e f=Ws)(k:∀p ys z r q,f ys z=Ws->P (.Call (.Name n p) ys [⟨J w,z,r⟩] q)):P e:=by
 unfold aCk at h;exact ZaS h λp h=>Zgt (P:=λa=>P<|.Call a p.xs p.kw p.p) h λq h=>Zaf h λy h=>match y,h with
  |⟨_,z,r⟩,h=>dS (P:=λs=>P<|.Call (.Name n q) p.xs [⟨s,z,r⟩] p.p) (bL h) (k _ _ _ _ _<|bR h)
@[irreducible] def aA(n:Str)(e:Expr)(f:Expr->Pos->Bool):Bool:=an 12 e λp=>Wu (p.s=n)&&f p.a p.p
@[elab_as_elim] theorem Ztw(h:aA n e f=Ws)(k:∀x q,f x q=Ws->P (.Attribute x n q)):P e:=by unfold aA at h;exact ZaS h λp h=>dS (P:=λs=>P<|.Attribute p.a s p.p) (bL h) (k _ _<|bR h)
@[irreducible] def aCA(n:Str)(e:Expr)(f:Expr->Pos->List Expr->Pos->Bool):Bool:=an 11 e λp=>aA n p.a λx ap=>l0 p.kw (f x ap p.xs p.p)
@[elab_as_elim] theorem Zud(h:aCA n e f=Ws)(k:∀x ap ys cp,f x ap ys cp=Ws->P (.Call (.Attribute x n ap) ys [] cp)):P e:=by unfold aCA at h;exact ZaS h λp h=>Ztw (P:=λa=>P<|.Call a p.xs p.kw p.p) h λx q h=>Zir (P:=λw=>P<|.Call (.Attribute x n q) p.xs w p.p) h λh=>k _ _ _ _ h
@[irreducible] def aLC(e:Expr)(f:Expr->Expr->Expr->List Expr->Scope->Bool):Bool:=an 13 e λp=>l1 p.gs λg=>match g with|⟨t,i,c,n⟩=>Wu (n=0)&&f p.a t i c p.sc
@[elab_as_elim] theorem ZtW(h:aLC e f=Ws)(k:∀x t i c sc q,f x t i c sc=Ws->P (.ListComp x [⟨t,i,c,0⟩] sc q)):P e:=by
 unfold aLC at h;exact ZaS h λp h=>Zaf (P:=λg=>P<|.ListComp p.a g p.sc p.p) h λg h=>match g,h with
  |⟨t,i,c,_⟩,h=>dS (P:=λs=>P<|.ListComp p.a [⟨t,i,c,s⟩] p.sc p.p) (bL h) (k _ _ _ _ _ _<|bR h)
@[irreducible] def aD(e:Expr)(f:List (Option Expr)->List Expr->Bool):Bool:=an 14 e λp=>f p.ks p.xs
@[elab_as_elim] theorem ZyD(h:aD e f=Ws)(k:∀ks vs q,f ks vs=Ws->P (.Dict ks vs q)):P e:=by unfold aD at h;exact ZaS h λ_ h=>k _ _ _ h
@[irreducible] def aK(e:Expr)(f:Const->Bool):Bool:=an 15 e λp=>f p.v
@[elab_as_elim] theorem Zyi(h:aK e f=Ws)(k:∀c j q,f c=Ws->P (.Constant c j q)):P e:=by unfold aK at h;exact ZaS h λ_ h=>k _ _ _ h
end
noncomputable def Zz2:D->Const->Bool
 |.int i,.int j=>Wu (i=j)
 |.str x,.str y=>Wu (x=y)&&Yp y
 |.bl b,.bool c=>Wu (b=c)
 |.non,.none=>Ws
 |_,_=>Wt
def ZyG(Γ:Gm)(d:D)(e:Expr):Bool:=(aK e λc=>Zz2 d c)||match d with
 |.ty n=>aX (Str.ofString n) e (Wu (n∈Zmr)&&glb Γ (Str.ofString n))
 |_=>Wt
def ZqN(NC N:List Str)(js:List (Option Nat))(sc scope:Scope):Bool:=
 Wu (scope.kind=.function)&&Wu (sc.kind=.function)&&(scope.names.all λy=>Wu<|y.2≠.cell)&&(scope.names.all λy=>!Wu (y.2=.local)||Wu (scope.names.lookup y.1=J .local)) &&
  (scope.names.all λy=>!Wu (y.2=.free)||Wu (sc.names.lookup y.1=J .cell))&&decide NC.Nodup&&Wu (js.length=NC.length) &&
  ((NC.zip js).all λp=>p.2.all λj=>Wu (N[j]?=J p.1)&&Wu (scope.names.lookup p.1=J .free))
def Zks(h:ZqN NC N js sc scope=Ws):CompSc NC N js sc scope:=by
 unfold ZqN at h;rw[Oa,Oa,Oa,Oa,Oa,Oa,Oa]at h;obtain⟨⟨⟨⟨⟨⟨⟨a,b⟩,c⟩,d⟩,e⟩,f⟩,g⟩,i⟩:=h;rw[OC]at c d e;refine⟨of_decide_eq_true a,of_decide_eq_true b,λy hy=>of_decide_eq_true<|c y hy,λy hy e1=>?_,λy hy e1=>?_,of_decide_eq_true f,of_decide_eq_true g,i⟩
 . have:=d y hy
   simp_all
 . have:=e y hy
   simp_all
noncomputable def Zll(N:List Str)(own:Str->Bool)(i:Nat)(e:Expr):Bool:=aN e λx=>Wu (N[i]?=J x)&&own x
def Zno(N:List Str)(own:Str->Bool):List Nat->List Expr->Bool
 |[],es=>es.isEmpty
 |i::is,es=>match es with
  |e::es=>Zll N own i e&&Zno N own is es
  |[]=>Wt
def ZqQ(N:List Str)(own:Str->Bool)(i j:Nat)(e:Expr):Bool:=aT e λes=>l2 es λa b=>Zll N own i a&&Zll N own j b
def ZqP(N:List Str)(own:Str->Bool)(is:List Nat)(e:Expr):Bool:=aT e λes=>Zno N own is es
def Ztb(N:List Str)(own:Str->Bool)(g:Tg)(e:Expr):Bool:=match g with
 |.nm i=>Zll N own i e
 |.two i j=>ZqQ N own i j e
 |.many is=>ZqP N own is e
@[elab_as_elim] theorem Zbx{P:Expr->Prop}(h:Zll N own i e=Ws)(k:∀x p,N[i]?=J x->own x=Ws->P (.Name x p)):P e:=Zx0 h λ_ _ h=>k _ _ (of_decide_eq_true<|bL h) (bR h)
def isTup(e:Expr):Bool:=Wu (tgE e=8)
@[elab_as_elim] theorem Zqo{P:Expr->Prop}(h:isTup e=Ws)(k:∀xs j q,P<|.Tuple xs j q):P e:=ZiK (P:=P) (f:=λ_=>Ws) (by unfold aT an;rw[show Wu (tgE e=8)=Ws from h];rfl) λ_ _ _ _=>k _ _ _
noncomputable def tgk:Tg->Nat
 |.nm i=>i+1
 |.two i j=>max i j+1
 |.many is=>is.foldr max 0+1
noncomputable def ZxI(sc:Scope)(x:Str):Bool:=Wu (sc.names.lookup x=J .local)
noncomputable def ownD(sc:Scope)(x:Str):Bool:=Wu (sc.names.lookup x=J .local)||Wu (sc.names.lookup x=J .cell)
def Zck(e:Expr):Bool:=Wu (tgE e≠18)
def Zdf(e:Expr):Bool:=Wu (tgE e≠5)
def Z3(e:Expr):Bool:=Wu (tgE e≠0)
def Zcu(e:Expr):Bool:=!(Wu (tgE e=11)&&(prt e).xs.isEmpty)
def Zlc(e:Expr):Bool:=Wu (6<=tgE e)&&Wu (tgE e<=16)
mutual
noncomputable def chk(Γ:Gm):Ex->Expr->Bool
 |.var i,e=>aN e λx=>Wu (Γ.N[i]?=J x)&&(ZoP Γ.sc x&&(!(x==("__debug__" : Str))&&!(x==("__classdict__" : Str))))
 |.cst d,e=>ZyG Γ d e
 |.glo x,e=>aX x e (glb Γ x)
 |.bin op a b,e=>aB2 op e λl r=>chk Γ a l&&chk Γ b r
 |.cmp op a b,e=>aC1 op e λl r=>chk Γ a l&&(chk Γ b r&&Zck r)
 |.neg a,e=>aU .USub e λx=>chk Γ a x
 |.nt a,e=>aU .Not e λx=>chk Γ a x
 |.ands es,e=>aO .And e λxs=>chks Γ es xs
 |.ors es,e=>aO .Or e λxs=>chks Γ es xs
 |.ite c a b,e=>aI e λt x y=>chkt Γ c t&&(chk Γ a x&&chk Γ b y)
 |.tupl es,e=>aT e λxs=>chks Γ es xs
 |.lstl es,e=>aLs e λxs=>chks Γ es xs
 |.ix a i,e=>aS e λx y=>chk Γ a x&&(chk Γ i y&&Zdf y)
 |.sl a lo hi,e=>aSl e λx l u=>chk Γ a x&&(chko Γ lo l&&chko Γ hi u)
 |.blt f es,e=>aCN (Znt f) e λys=>(bok f&&glb Γ (Znt f))&&(chks Γ es ys&&!ys.isEmpty)
 |.call f es,e=>aCN f e λys=>Wu (f∈Γ.fs)&&(glb Γ f&&(chks Γ es ys&&!ys.isEmpty))
 |.meth m o es,e=>aCA (Zp4 m) e λx ap ys cp=>chk Γ o x&&(Zcu x&&(chks Γ es ys&&(Wu (ys.length<29)&&(ap.endLine==cp.line))))
 |.lrv e,x=>aCN "list" x λys=>l1 ys λz=>aCN "reversed" z λys=>l1 ys λy=>glb Γ "list" && (glb Γ "reversed" && (chk Γ e y&&Z3 y))
 |.nin n a b,e=>aC1 (if n then .NotIn else .In) e λl r=>chk Γ a l&&(chk Γ b r&&Zck r)
 |.nix a i,e=>aS e λx y=>chk Γ a x&&(chk Γ i y&&Zdf y)
 |.ndl,e=>aD e λkeys values=>keys.isEmpty&&values.isEmpty
 |.rpn o a b,e=>aC1 (bif o then .NotEq else .Eq) e λl r=>aCN "repr" l λys=>l1 ys λy=>aCN "repr" r λzs=>l1 zs λz=>glb Γ "repr" && (chk Γ a y&&(Z3 y&&(chk Γ b z&&Z3 z)))
 |.comp NC js it g c e,x=>aLC x λaE tg iter a9 scope=>Γ.top&&(ZqN NC Γ.N js Γ.sc scope&&(chki Γ it tg iter&&(Zck iter&&(Ztb NC (ZxI scope) g tg&&(((List.range<|tgk g).all λj=>Wu<|js[j]?=J M) &&
  (chkf ⟨NC,scope,Γ.fs,Wt,Γ.kl⟩ c a9&&chk ⟨NC,scope,Γ.fs,Wt,Γ.kl⟩ e aE))))))
 |.maxd a d,e=>aCk "max" "default" e λys z=>l1 ys λy=>glb Γ "max" && (chk Γ a y&&(Z3 y&&chk Γ d z))
 |.dictl ps,e=>aD e λkeys values=>Wu (keys.length<=15)&&chkp Γ ps keys values
 |.att Cs o f,e=>aA f e λx _=>chk Γ o x&&(Zcu x&&((Cs.all λC=>Wu<|C∈Γ.kl.cs)&&Wu (f∈Γ.kl.ats)))
 |.mk C es,e=>aCN C e λys=>Wu (C∈Γ.kl.is)&&(glb Γ C&&chks Γ es ys)
 |.mcl C m o es,e=>aCA m e λx ap ys cp=>chk Γ o x&&(Zcu x&&(chks Γ es ys&&(Wu ((C,m)∈Γ.kl.ms)&&(Wu (ys.length<29)&&(ap.endLine==cp.line)))))
 |.any,_=>Ws
noncomputable def chks(Γ:Gm):Exs->List Expr->Bool
 |.nil,es=>es.isEmpty
 |.cons e r,es=>match es with
  |x::xs=>chk Γ e x&&(Z3 x&&chks Γ r xs)
  |[]=>Wt
noncomputable def chkp(Γ:Gm):Exs->List (Option Expr)->List Expr->Bool
 |.nil,ks,vs=>ks.isEmpty&&vs.isEmpty
 |.cons k r,ks,vs=>match r with
  |.cons v r'=>match ks,vs with
   |some kx::ks,vx::vs=>chk Γ k kx&&(chk Γ v vx&&chkp Γ r' ks vs)
   |_,_=>Wt
  |.nil=>Wt
noncomputable def chko(Γ:Gm):Option Ex->Option Expr->Bool
 |none,x=>x.isNone
 |some a,x=>match x with
  |some x=>chk Γ a x
  |none=>Wt
noncomputable def chkf(Γ:Gm):Option Tx->List Expr->Bool
 |none,x=>x.isEmpty
 |some a,x=>l1 x λx=>chkt Γ a x
noncomputable def Zz1(Γ:Gm):Ex->Expr->Bool
 |.cmp op a b,e=>aC1 op e λl r=>chk Γ a l&&(chk Γ b r&&Zck r)
 |.nin n a b,e=>aC1 (if n then .NotIn else .In) e λl r=>chk Γ a l&&(chk Γ b r&&Zck r)
 |.rpn o a b,e=>aC1 (bif o then .NotEq else .Eq) e λl r=>aCN "repr" l λys=>l1 ys λy=>aCN "repr" r λzs=>l1 zs λz=>glb Γ "repr" && (chk Γ a y&&(Z3 y&&(chk Γ b z&&Z3 z)))
 |_,_=>Wt
noncomputable def chkt(Γ:Gm):Tx->Expr->Bool
 |.ex e,x=>(Zlc x&&chk Γ e x)||Zz1 Γ e x
 |.ands ts,x=>aO .And x λxs=>chkts Γ ts xs
 |.ors ts,x=>aO .Or x λxs=>chkts Γ ts xs
 |.nt t,x=>aU .Not x λy=>chkt Γ t y
noncomputable def chkts(Γ:Gm):Txs->List Expr->Bool
 |.one t,xs=>l1 xs λx=>chkt Γ t x
 |.cons t ts,xs=>match xs with
  |x::r=>chkt Γ t x&&(!r.isEmpty&&chkts Γ ts r)
  |_=>Wt
noncomputable def chki(Γ:Gm):Ix->Expr->Expr->Bool
 |.pl e,_,x=>chk Γ e x
 |.rng e,_,x=>aCN "range" x λys=>l1 ys λy=>glb Γ "range" && (chk Γ e y&&Z3 y)
 |.enu e,tg,x=>aCN "enumerate" x λys=>l1 ys λy=>glb Γ "enumerate" && (chk Γ e y&&(Z3 y&&isTup tg))
 |.rev e,_,x=>aCN "reversed" x λys=>l1 ys λy=>glb Γ "reversed" && (chk Γ e y&&Z3 y)
 |.en1 e,tg,x=>aCk "enumerate" "start" x λys z=>l1 ys λy=>glb Γ "enumerate" && (chk Γ e y&&(Z3 y&&(isTup tg&&aK z λc=>Wu<|c=.int 1)))
 |.dk e,_,x=>chk Γ e x
end
def leS(a b:Str):Prop:=¬ b.cps.toList<a.cps.toList
def Zip(h:leS a b)(q:leS b c):leS a c:=List.le_trans h q
def Zqe(h:leS a b)(q:leS b a):a=b:=by have e:=List.le_antisymm h q;obtain⟨⟨b⟩⟩:=b;subst e;rfl
def ZjK:∀{ss},sortedS ss=Ws->ss.Pairwise leS:=by
 have gen:∀(r) (p),risingS p r=Ws->(∀x∈r,leS p x)/\r.Pairwise leS:=by
  intro r;induction r with
  |nil=>simp
  |cons x r ih=>
   intro p h;rw[risingS,Oa]at h;obtain⟨R,h2⟩:=ih x h.2;have hx:leS p x:=by
    have:=h.1;rw[ltCps_eq]at this;unfold leS
    simp_all
   refine⟨λy hy=>?_,.cons R h2⟩;rcases O2.mp hy with rfl|hy
   . trivial
   . exact Zip hx (R y hy)
 intro ss h;cases ss with
 |nil=>simp
 |cons x r=>obtain⟨R,h2⟩:=gen r x h;exact .cons R h2
theorem ZgN(x):∀r ,(ZnU x r).Perm (x::r)
 |[]=>.refl _
 |y::r=>by
  unfold ZnU;split
  . exact((ZgN x r).cons y).trans (.swap x y r)
  simp
theorem ZdT:∀r ,(ZcZ r).Perm r
 |[]=>.refl _
 |x::r=>(ZgN x _).trans ((ZdT r).cons x)
theorem ZjU(x):∀r ,r.Pairwise leS->(ZnU x r).Pairwise leS
 |[],_=>.cons (by simp) .nil
 |y::r,h=>by
  cases h with
  |cons R h2=>
   unfold ZnU;split
   . rename_i aC;rw[ltCps_eq]at aC;refine .cons (λz hz=>?_)<|ZjU x r h2;rcases O2.mp ((ZgN x r).mem_iff.mp hz)with rfl|hz
     . exact List.le_of_lt (of_decide_eq_true aC)
     simp_all
   . rename_i aC;have i6:leS x y:=by
      unfold leS;rw[ltCps_eq]at aC
      simp_all
     refine .cons (λz hz=>?_)<|.cons R h2;rcases O2.mp hz with rfl|hz
     . trivial
     . exact Zip i6 (R z hz)
theorem Zig:∀r ,(ZcZ r).Pairwise leS
 |[]=>.nil
 |x::r=>ZjU x _ (Zig r)
def ZnN(hp:bq.Perm ss)(hs:sortedS bq=Ws):bq=ZcZ ss:=(hp.trans (ZdT ss).symm).eq_of_pairwise (λ_ _ _ _ h q=>Zqe h q) (ZjK hs) (Zig ss)
section
variable {X:Cx}{Y:Yx}{E:XK}{T:Tb}{H:Hp}{B:List Yj}{h:Hd}
theorem Zdk:∀{ds:List (Key×D)}{vs:List (Key×V)}{ss:List Str},RKs Y H B ds vs->Zan ds=J ss->vs.map (·.1)=ss.map YE
 |_,_,_,.nil,e=>by cases e;rfl
 |_,_,_,.cons (k:=k) a s,e=>by
  cases k with
  |inl i=>cases e
  |inr x=>rw[Zan]at e;obtain⟨z,e1,rfl⟩:=Oo.mp e;rw[Op,Op,Zdk s e1]
theorem Zmz:∀(ss:List Str),(∀x∈ss,Yp x=Ws)->RDs Y H B (ss.map D.str) (ss.map V.str)
 |[],_=>.nil
 |x::r,h=>.cons (.str x<|h x<|by simp) (Zmz r λy hy=>h y<|by simp_all)
def Ztj(hc:X.A.handled=M)(G:Gk X Y T):Z4 X (.builtin "sorted") (rF Y E<|Zfp T.GD):=by
 intro ac s Z H xs us Q I r hh;obtain⟨ds,h,B,rh,rs,f⟩:=hh;unfold Zfp at f;split at f
 . split at f
   . rename_i ss e2;obtain⟨hz,f⟩:=f.iff;obtain⟨kvs,e3,e4⟩:=Option.bind_eq_some_iff.mp e2;obtain⟨x,rfl,r1⟩:=rs.one;obtain⟨a,aj,rfl,hd,rk⟩:=r1.dicOf G rh e3;obtain⟨hz,hok⟩:=hz;refine Zji hc ac s Z H _ us Q I r ⟨a,aj,ss,rfl,hd,Zdk rk e4,hz,λp bq hp R h2=>?_⟩;rw[ZnN R h2];refine f.new rh hp ⟨_,Zh,Zmz _ λy hy=>?_⟩;rw[OC]at hok;exact hok y ((ZdT ss).mem_iff.mp hy)
   trivial
 trivial
def Zlm(r:RD Y H B d v)(e:nkD d=J k):∃b,v=.ref b/\KyS Y.K H b k:=by
 unfold nkD at e;split at e
 . obtain⟨ss,e1,e2⟩:=Oo.mp e;subst e2;obtain⟨a,vs,rfl,t,rs⟩:=r.tup_inv;obtain⟨x,y,rfl,ra,rb⟩:=rs.two;cases ra.int_inv;obtain⟨c,ws,rfl,t2,fh⟩:=rb.tup_inv;rw[Zie fh e1]at t2;exact⟨a,rfl,c,t,t2⟩
 trivial
def RD.dn(rh:RH Y H B h)(r:RD Y H B d v)(e:Zoo d h=J kvs):∃a aj xs,v=.ref a/\H a=J (.dT xs)/\KN Y.K H aj xs/\RKs Y H B kvs aj:=by
 unfold Zoo at e;split at e
 . split at e
   . rename_i i lE q;cases e;cases r with
     |ref hi=>obtain⟨aj,xs,R,h2,h3⟩:=rh.ob _ _ _ q hi;exact⟨_,aj,xs,rfl,R,h2,h3⟩
   trivial
 trivial
def ZjF(s:RKs Y H B ds vs)(k):(valN ds k=M/\ZbB vs k=M)\/∃d v,valN ds k=J d/\ZbB vs k=J v/\RD Y H B d v:=by
 unfold valN ZbB;rcases s.val k with⟨R,h2⟩|⟨d,v,R,h2,r⟩
 . exact .inl ⟨by rw[R];rfl,by rw[h2];rfl⟩
 . exact .inr ⟨d,v,by rw[R];rfl,by rw[h2];rfl,r⟩
def Zj1(n:Bool)(hr:Room k X.A)(hY:Y.K=X.K):OpR X (YM<|if n then .NotIn else .In) (rB Y E<|Zmg n):=by
 intro ac s Z H x y v u Q I rx ry hh;obtain⟨dx,dy,h,B,rh,r1,r2,f⟩:=hh;unfold Zmg at f;split at f
 . rename_i kvs e1;split at f
   . rename_i k e2;obtain⟨a,aj,xs,rfl,ha,kn,rk⟩:=r2.dn rh e1;obtain⟨b,rfl,kb⟩:=Zlm r1 e2;rw[hY]at kn kb;have e:(valN kvs k).isSome=(ZbB aj k).isSome:=by rcases ZjF rk k with⟨q1,q2⟩|⟨_,_,q1,q2,_⟩<;>rw[q1,q2]<;>rfl
     rw[e]at f;cases n with
     |true=>exact Zn2 hr ac s Z H _ _ v u Q I rx ry ⟨a,b,aj,xs,k,rfl,rfl,kb,ha,kn,f.ok rh<|.bl _⟩
     |false=>exact Zvb hr ac s Z H _ _ v u Q I rx ry ⟨a,b,aj,xs,k,rfl,rfl,kb,ha,kn,f.ok rh<|.bl _⟩
   trivial
 trivial
def ZvK(hr:Room k X.A)(hY:Y.K=X.K):IxR X (rB Y E Zq4):=by
 intro value slice ac s Z H x y v u Q I rx ry hh hs;obtain⟨dx,dy,h,B,rh,r1,r2,f⟩:=hh;unfold Zq4 at f;split at f
 . rename_i kvs e1;split at f
   . rename_i k e2;obtain⟨d,e3,f⟩:=f.ofO;obtain⟨a,aj,xs,rfl,ha,kn,rk⟩:=r1.dn rh e1;obtain⟨b,rfl,kb⟩:=Zlm r2 e2;rw[hY]at kn kb;rcases ZjF rk k with⟨q1,_⟩|⟨d',w,q1,q2,q3⟩
     . simp_all
     . rw[q1]at e3;cases e3;exact Zyj hr value slice ac s Z H _ _ v u Q I rx ry ⟨a,b,aj,xs,k,w,rfl,rfl,kb,ha,kn,q2,f.ok rh q3⟩ hs
   trivial
 trivial
theorem RKs.putN{ds}{vs}(s:RKs Y H B ds vs)(k)(r:RD Y H B d v):RKs Y H B (putN ds k d) (putK vs k v):=by
 unfold IV.putN putK;rw[s.any_rel k];split
 . exact s.map_rel k r
 . exact s.append (.cons r .nil)
def rPN(Y:Yx)(E:XK):ZoF:=λo i v H Q=>∃a b c h B,RH Y H B h/\RD Y H B a o/\RD Y H B b i/\RD Y H B c v/\Fin Y (λ_ _ (_:Unit) (_:Unit)=>True) H B (Zq3 a b c h) (λ_ H'=>Q H') E
def Zvm(hr:Room k X.A)(hY:Y.K=X.K):ZoH X (rPN Y E):=by
 intro ac s Z H o i v ov iv u Q I ro ri rv hh;obtain⟨a,b,c,h,B,rh,ra,rb,rc,f⟩:=hh;unfold Zq3 at f;split at f
 . split at f
   . rename_i j kvs e;split at f
     . rename_i k e2;obtain⟨hz,f⟩:=f.iff;obtain⟨b',rfl,kb⟩:=Zlm rb e2;cases ra with
       |ref hi=>obtain⟨aj,xs,ha,kn,rk⟩:=rh.ob _ _ _ e hi;have cE:=kn;have j4:=kb;rw[hY]at cE j4;exact ZuG hr ac s Z H _ _ v ov iv u Q I ro ri rv ⟨_,b',aj,xs,k,rfl,rfl,j4,ha,cE,by rw[<-rk.length];trivial,λr l7=>f.wrote (b:=()) rh hi ⟨putK aj k v,storedH xs k b' r,Zh,KN.tr ((Gr.write (O1 hi) (by rw[ha];trivial)).tr rh)<|kn.put k kb l7,(rk.putN k rc).mono rh<|Gr.write (O1 hi) (by rw[ha];trivial)⟩ trivial (by rw[ha];trivial)⟩
     trivial
   trivial
 trivial
def Zto(hc:X.calm=Ws)(hY:Y.K=X.K):Z4 X (.builtin "any") (rF Y E Zwp):=by
 intro ac s Z H xs us Q I r hh;obtain⟨ds,h,B,rh,rs,f⟩:=hh;unfold Zwp at f;split at f
 . obtain⟨e,e1,f⟩:=f.ofO;obtain⟨ns,e2,rfl⟩:=Oo.mp e1;obtain⟨zs,e3,e4⟩:=Option.bind_eq_some_iff.mp e2;obtain⟨x,rfl,r1⟩:=rs.one;obtain⟨a,vs,rfl,hl,rv⟩:=r1.lstOf rh e3;rw[Znv rv e4]at hl;exact Zow hc ac s Z H _ us Q I r ⟨a,ns,rfl,hY▸hl,f.ok rh<|.bl _⟩
 trivial
def Zth(hc:X.A.handled=M)(G:Gk X Y T):Z4 X (.type "tuple") (rF Y E<|Zq1 T.GD):=by
 intro ac s Z H xs us Q I r hh;obtain⟨ds,h,B,rh,rs,f⟩:=hh;unfold Zq1 at f;split at f
 . split at f
   . rename_i ss e2;obtain⟨kvs,e3,e4⟩:=Option.bind_eq_some_iff.mp e2;obtain⟨x,rfl,r1⟩:=rs.one;obtain⟨a,aj,rfl,hd,rk⟩:=r1.dicOf G rh e3;exact Zkz hc ac s Z H _ us Q I r ⟨a,aj,ss,rfl,hd,Zdk rk e4,λp hp=>f.iff.2.tup rh hp<|ZjI _ λy hy=>OC.mp f.iff.1 y hy⟩
   trivial
 trivial
end
set_option tactic.hygienic false
def RS(Y:Yx)(H:Hp)(B:List Yj)(S:Ev)(Z:L2.St):Prop:=Z.length=S.length/\∀(i:Nat) (d:D),S[i]?=J (J d)->∃v,Z[i]?=J (J v)/\RD Y H B d v
section
variable {Y:Yx}{H H':Hp}{B μ':List Yj}{h:Hd}{S:Ev}{Z:L2.St}
theorem RS.mono(rh:RH Y H B h)(g:Gr H B H' μ')(r:RS Y H B S Z):RS Y H' μ' S Z:=⟨r.1,λi d e=>let⟨v,R,h2⟩:=r.2 i d e;⟨v,R,h2.mono rh g⟩⟩
def RS.var(r:RS Y H B S Z){i:Nat}{d}(e:(S[i]?).join=J d):∃v,Z[i]?=J (J v)/\RD Y H B d v:=by
 refine r.2 i d ?_;cases q:S[i]? with
 |none=>simp_all
 |some o=>simp_all
theorem RS.set(r:RS Y H B S Z){i}{d}{v}(q:RD Y H B d v):RS Y H B (S.set i<|J d) (Z.set i<|J v):=by
 refine⟨by simp[r.1],λj e he=>?_⟩;by_cases hj:i=j
 . subst hj;have hl:=by simpa using (Ob.mp he).1
   rw[Ol hl]at he;cases he;exact⟨v,by rw[Ol<|r.1▸hl],q⟩
 . rw[Oc hj]at he;obtain⟨w,R,h2⟩:=r.2 j e he;exact⟨w,(Oc hj).trans R,h2⟩
theorem RS.capt(r:RS Y H B S Z)(js):RS Y H B (Za7 js S) (capt js Z):=by
 refine⟨by simp[Za7,L2.capt],λi d e=>?_⟩;unfold Za7 at e;unfold L2.capt;rw[On]at e ⊢;cases q:js[i]? with
 |none=>simp_all
 |some o=>
  rw[q]at e;cases o with
  |none=>cases e
  |some j=>obtain⟨v,R,h2⟩:=r.var (by simpa using e);exact⟨v,by simp_all,h2⟩
end
inductive Sm(Y:Yx)(E:XK){α β:Type}(rel:Hp->List Yj->α->β->Prop)(m:Ev->Hd->qd α)(Z:L2.St)(H:Hp)(Q:β->Hp->Prop):Prop
 |mk (S:Ev) (h:Hd) (B:List Yj) (rh:RH Y H B h) (rs:RS Y H B S Z) (f:Fin Y rel H B (m S h) Q E):Sm Y E rel m Z H Q
def eqR{α:Type}:Hp->List Yj->α->α->Prop:=λ_ _ a b=>a=b
theorem Sm.bind{α β γ δ}{Q}{rel}{aW:Hp->List Yj->α->β->Prop}{m}{k:Ev->γ->Hd->qd α}(s:Sm Y E aW (λS h=>(m S h).bind<|k S) Z H Q)
 {Q1:δ->Hp->Prop}
 (hk:∀S d R v H1 μ1,RH Y H1 μ1 R->RS Y H1 μ1 S Z->rel H1 μ1 d v->Fin Y aW H1 μ1 (k S d R) Q E->Q1 v H1):Sm Y E rel m Z H Q1:=by
 cases s with
 |mk S h B rh rs f=>exact⟨S,h,B,rh,rs,f.bind λd R x H1 μ1 _ g ah rd f1=>hk S d R x H1 μ1 ah (rs.mono rh g) rd f1⟩
section
variable (T:Tb)(Y:Yx)(E:XK)
def Zah(e:Ex):TE:=Sm Y E (RD Y) (ev T e)
def Zk5(e:Exs):TA:=Sm Y E (RDs Y) (evs T e)
def Zk4(e:Tx):TT:=Sm Y E eqR (tst T e)
def Zzr(e:Option Ex):TO:=Sm Y E eqR (evo T e)
def Zzs(e:Ix):TI:=Sm Y E (WJ Y) (evi T e)
def Zfs(f:Str):Sp:=λvs H Q E=>∃ds h B,RH Y H B h/\RDs Y H B ds vs/\Fin Y (RD Y) H B (T.C f ds h) Q E
end
structure Gd(T:Tb)(Γ:Gm)(X:Cx)(Y:Yx)(E:XK)(k:Nat):Prop where
 gk:Gk X Y T
 N:X.N=Γ.N
 sc:Γ.top=Ws->X.env.scope=Γ.sc
 vis:∀x,ZoP Γ.sc x=Ws->Vis X.env.scope x
 glo:∀x,Γ.sc.names.lookup x=J .globalImplicit->Gl X x
 nd:X.N.Nodup
 calm:X.calm=Ws
 room:Room k X.A
 h60:60<=k
 pass:ZbR (CXF X.prog X.w) X E
 defs:∀f∈Γ.fs,∃ps,Def X.prog X.w X.K X.mg X.base k f ps (Zfs T Y f)
 blt:∀x∈Znu,X.mg x=M
 room1:Room (k+1) X.A
 cls:∀C∈Γ.kl.cs,∃a,X.mg C=J (.ref a)/\Cls X.K a/\∀f∈Γ.kl.ats,ZaZ X.K a f
 mts:∀p∈Γ.kl.ms,∃a f fd ps,X.mg p.1=J (.ref a)/\Cls X.K a/\Meth X.K a p.2 f/\FnOk X.prog X.w X.K X.mg X.base (CXF X.prog X.w) k f fd ps (Zfs T Y<|mnm p.1 p.2)/\Binds X.K fd ps []
 mks:∀C∈Γ.kl.is,∃a f fd ps,X.mg C=J (.ref a)/\Mk X.K a f/\FnOk X.prog X.w X.K X.mg X.base (CXF X.prog X.w) k f fd ps (Zfs T Y<|mnm C<|O "__init__")/\Binds X.K fd ps []
def _root_.L2.PE.imp(h:PE X e t)(i:∀Z H Q,t' Z H Q->t Z H Q):PE X e t':=λac s Z H Q I q=>h ac s Z H Q I (i Z H Q q)
def _root_.L2.PT.imp(h:PT X e t)(i:∀Z H Q,t' Z H Q->t Z H Q):PT X e t':=λac s Z H Q I q=>h ac s Z H Q I (i Z H Q q)
def _root_.L2.PW.imp(h:PW X e t)(i:∀Z H Q,t' Z H Q->t Z H Q):PW X e t':=λw ac s Z H Q I q=>h w ac s Z H Q I (i Z H Q q)
def _root_.L2.PA.imp(h:PA X e t)(i:∀Z H Q,t' Z H Q->t Z H Q):PA X e t':=λp ac s Z H Q I q=>h p ac s Z H Q I (i Z H Q q)
def _root_.L2.PO.imp(h:PO X e t)(i:∀Z H Q,t' Z H Q->t Z H Q):PO X e t':=λac s Z H Q I q=>h ac s Z H Q I (i Z H Q q)
def _root_.L2.PI.imp(h:PI X tg e t)(i:∀Z H Q,t' Z H Q->t Z H Q):PI X tg e t':=λac s Z H Q I q=>h ac s Z H Q I (i Z H Q q)
structure Kd(x:Expr):Prop where
 star:tgE x≠0->∀xs env,YA (x::xs) env=(Wt,eval x env)::YA xs env
 set:tgE x≠18->∀env v,foldedSetIterable x env v=pure v
 mark:tgE x≠18->∀op,behindInMarks op x=Wt
 ix:tgE x≠5->ZjA x
 put:tgE x≠5->∀o pos env v,assign (.Subscript o x pos) env v=(do
  let ov <- holding [v] (eval o env);let iv <- holding [v,ov] (eval x env)
  standAt pos
  holding [v,ov,iv] (setItem ov iv v)
  release [v,ov,iv] [])
 tr:Zlc x=Ws->∀env aL,isTrue x env aL=(do let v <- aL;standAt x.pos;holding [v]<|truthy v)
 sw:tgE x≠13->tgE x≠19->∀t n env,swapsWith x t n env=pure Wt
 st:tgE x≠8->∀es j q env,swappedStores [.Tuple es j q] x env=pure M
def kdE(x):Kd x:=by
 cases x<;>exact⟨by first|exact λ_ _ _=>rfl|exact λh=>absurd rfl h,by first|exact λ_ _ _=>rfl|exact λh=>absurd rfl h,by first|exact λ_ _=>rfl|exact λh=>absurd rfl h,by first|exact λ_ _ _=>rfl|exact λh=>absurd rfl h,
  by first|exact λ_ _ _ _ _=>rfl|exact λh=>absurd rfl h,
  by first|exact λ_ _ _=>rfl|exact λh=>ff h,by first|exact λ_ _ _ _ _=>rfl|exact λh=>absurd rfl h|exact λ_ h=>absurd rfl h,by first|exact λ_ _ _ _ _=>rfl|exact λh=>absurd rfl h⟩
def Zy(env)(h:Z3 x=Ws):YA (x::xs) env=(Wt,eval x env)::YA xs env:=(kdE x).star (of_decide_eq_true h) _ _
def Zk2(env)(h:Zck x=Ws):∀v,foldedSetIterable x env v=pure v:=(kdE x).set (of_decide_eq_true h) _
def Zgo(h:Zck x=Ws):behindInMarks op x=Wt:=(kdE x).mark (of_decide_eq_true h) _
def ZjL(h:Zdf x=Ws):ZjA x:=(kdE x).ix (of_decide_eq_true h)
def Zgr(h:Zcu x=Ws):attributeBase x n env (eval x env)=eval x env:=by
 cases x with
 |Call f as ks p=>
  cases as with
  |nil=>cases h
  |cons a as=>cases f<;>rfl
 |_=>rfl
theorem ZeT(Γ)(env):∀(es) (xs:List Expr),chks Γ es xs=Ws->∀pos,(YR pos<|YA xs env).any (·.1)=Wt/\(YR pos<|YA xs env).all (λx=>!x.1)=Ws
 |.nil,[],_,_=>⟨rfl,rfl⟩
 |.nil,_::_,h,_=>ff h
 |.cons _ _,[],h,_=>ff h
 |.cons _ r,x::xs,h,pos=>Zy env (bL<|bR h)▸ZeT Γ env r xs (bR<|bR h) pos
def Zc2(env)(h:chks Γ es (y::r)=Ws):YA (y::r) env=(Wt,eval y env)::YA r env/\∀pos,(YR pos<|YA r env).any (·.1)=Wt:=by
 cases es with
 |nil=>exact ff h
 |cons e s=>exact⟨Zy env<|bL<|bR h,λpos=>(ZeT Γ env s r (bR<|bR h) pos).1⟩
@[elab_as_elim] theorem Zt7{P:List Expr->Prop}(h:chks Γ es ys=Ws)(R:(!ys.isEmpty)=Ws)(k:∀y r,chks Γ es (y::r)=Ws->P (y::r)):P ys:=by
 cases ys with
 |nil=>trivial
 |cons y r=>exact k y r h
def Gd.gl{T}{Γ}{X}{Y}{E}{k}(G:Gd T Γ X Y E k){x}(h:glb Γ x=Ws):Gl X x/\(x==("__debug__"))=Wt:=by unfold glb at h;rw[Oa]at h;exact⟨G.glo x<|of_decide_eq_true h.1,by simpa using h.2⟩
theorem ZgZ{f:Str->NameKind->NameKind}(x):∀names:List (Str×NameKind),(names.map λp=>(p.1,f p.1 p.2)).lookup x=(names.lookup x).map (f x)
 |[]=>rfl
 |(n,k)::r=>by
  rw[Op,OF,OF];by_cases e:x=n
  . simp_all
  . have:(x==n)=Wt:=by simpa using e
    simp[this];exact ZgZ x r
def ZaC(scope)(env)(x):(relabel scope env).names.lookup x=(scope.names.lookup x).map λk=>if (k==Yo&&env.scope.kind==.function&&env.kindOf x==J .cell)then NameKind.cell else k:=by
 have e:(relabel scope env).names=scope.names.map λp=>(p.1,(λ(n) (k)=>if (k==Yo&&env.scope.kind==.function&&env.kindOf n==J .cell)then NameKind.cell else k) p.1 p.2):=by refine List.map_congr_left λp _=>?_;simp only;split<;>rfl
 rw[e];exact ZgZ (f:=λ(n) (k)=>if (k==Yo&&env.scope.kind==.function&&env.kindOf n==J .cell)then NameKind.cell else k) x scope.names
def Gd.comp{T}{Γ}{X}{Y}{E}{k}(G:Gd T Γ X Y E k)(NC)(scope)(C)(s3)(H3)(fp)(nd:NC.Nodup):Gd T ⟨NC,scope,Γ.fs,Wt,Γ.kl⟩ (ZB X NC scope C s3 H3 fp) Y E0 k:=by
 refine⟨⟨G.gk.K,G.gk.mg,G.gk.gd,G.gk.g,G.gk.bare⟩,rfl,(λh=>by cases h),λx hx=>?_,λx hx=>?_,nd,rfl,G.room,G.h60,Zil,G.defs,G.blt,G.room1,G.cls,G.mts,G.mks⟩
 . show Vis (relabel scope X.env) x;unfold Vis;rw[ZaC];unfold ZoP at hx;rw[Wo,Wo]at hx;rcases hx with (hx|hx)|hx
   . rw[of_decide_eq_true hx];exact .inl rfl
   . rw[of_decide_eq_true hx];exact .inr (.inl rfl)
   . rw[of_decide_eq_true hx];by_cases q:(X.env.scope.kind==.function&&X.env.kindOf x==J .cell)=Ws
     . simp_all
     simp_all
 . show(relabel scope X.env).names.lookup x=J .globalImplicit;rw[ZaC,hx];rfl
section
variable {T:Tb}{Y:Yx}{E:XK}{Z:L2.St}{H:Hp}{Q:VK}
def ZnP{a b}{f}(s:Sm Y E (RD Y) (λS h=>(ev T a S h).bind λx R=>(ev T b S R).bind λy h2=>f x y h2) Z H Q):Zah T Y E a Z H λx H1=>Zah T Y E b Z H1 λy H2=>rB Y E f x y H2 Q:=s.bind λS d R x H1 μ1 ah al rd f1=>⟨S,R,μ1,ah,al,f1.bind λe h2 y H2 μ2 _ g2 au re f2=>⟨d,e,h2,μ2,au,rd.mono ah g2,re,f2⟩⟩
end
def Zwh{T}{Γ}{X:Cx}{Y:Yx}{E:XK}{k:Nat}(G:Gd T Γ X Y E k)(f:Bf)(hb:bok f=Ws){e:Expr}{es:List Expr}{t:TA}{p pos:Pos}(hg:Gl X (Znt f))(ha:PA X (e::es) t)
 (he:YA (e::es) X.env=(Wt,eval e X.env)::YA es X.env) (aG:(YR pos<|YA es X.env).any (·.1)=Wt):PE X (.Call (.Name (Znt f) p) (e::es) [] pos) (tCB (rF Y E<|Zaj T.GD f) t):=by
 have hY:=G.gk.K;cases f with
 |len=>exact Za2 (Ztl hY) hg (G.blt _<|by decide) (by decide +kernel) ha (by decide) (by decide) he aG
 |isi=>exact Za2 (Ztm hY) hg (G.blt _<|by decide) (by decide +kernel) ha (by decide) (by decide) he aG
 |int=>exact ZdY Ztn hg (G.blt _<|by decide) (by decide +kernel) ha (by decide) (by decide) he aG
 |tup=>exact ZdY (Ztg hY) hg (G.blt _<|by decide) (by decide +kernel) ha (by decide) (by decide) he aG
 |lst=>exact ZdY (Ztk hY) hg (G.blt _<|by decide) (by decide +kernel) ha (by decide) (by decide) he aG
 |sum=>exact Za2 (Zti G.room.hd hY) hg (G.blt _<|by decide) (by decide +kernel) ha (by decide) (by decide) he aG
 |anb=>exact Za2 (Zto G.calm hY) hg (G.blt _<|by decide) (by decide +kernel) ha (by decide) (by decide) he aG
 |tdk=>exact ZdY (Zth G.room.hd G.gk) hg (G.blt _<|by decide) (by decide +kernel) ha (by decide) (by decide) he aG
 |srt=>exact Za2 (Ztj G.room.hd G.gk) hg (G.blt _<|by decide) (by decide +kernel) ha (by decide) (by decide) he aG
set_option tactic.hygienic true
def Zhu{v}(rd:∀H B,RD Y H B d v)(p:PE X x (tC v)):PE X x (Zah T Y E<|.cst d):=PE.imp p λZ H Q s=>by
 cases s with
 |mk S h B rh rs f=>exact Fin.ok (r:=rd H B) (f) rh
def ZqM(G:Gd T Γ X Y E k)(h:ZyG Γ d x=Ws):PE X x (Zah T Y E<|.cst d):=by
 refine bO h (λh=>Zyi (P:=λx=>PE X x _) h λc j q h=>?_) λh=>?_
 . cases d with
   |int i=>cases c with
    |int j=>exact dS (P:=λi=>PE X _<|Zah T Y E<|.cst<|.int i) h (Zhu (λ_ _=>.int _) ZpH)
    |_=>exact ff h
   |str i=>cases c with
    |str j=>exact dS (P:=λi=>PE X _<|Zah T Y E<|.cst<|.str i) (bL h) (Zhu (λ_ _=>.str _<|bR h) Zu1)
    |_=>exact ff h
   |bl i=>cases c with
    |bool j=>exact dS (P:=λi=>PE X _<|Zah T Y E<|.cst<|.bl i) h (Zhu (λ_ _=>.bl _) ZxH)
    |_=>exact ff h
   |non=>cases c with
    |none=>exact Zhu (λ_ _=>.non) Zu2
    |_=>exact ff h
   |_=>exact ff h
 . cases d with
   |ty n=>
    refine Zgt (P:=λx=>PE X x _) h λp h=>?_;obtain⟨g1,g2⟩:=G.gl<|bR h;have all:(Zmr.all λn=>Wu (bootBuiltins (Str.ofString n)=J (.type n))&&(Wu (Str.ofString n ≠ "__name__")&&Wu (Str.ofString n∈Znu)))=Ws:=by decide +kernel
    have a:=OC.mp all n<|of_decide_eq_true<|bL h;exact Zhu (λ_ _=>.ty _) (Zr8 g1 (G.blt _<|of_decide_eq_true<|bR<|bR a) (of_decide_eq_true<|bL a) rfl (of_decide_eq_true<|bL<|bR a) g2)
   |_=>exact ff h
def qd.bind_eq{α β}{r:qd α}{k}{b:β}{h}(e:r.bind k=.ok b h):∃a R,r=.ok a R/\k a R=.ok b h:=by
 cases r with
 |bad=>cases e
 |ok a R=>exact⟨a,R,rfl,e⟩
 |exc c R=>cases e
def qd.bind_assoc{α β γ}{r:qd α}{k}{l:β->Hd->qd γ}:(r.bind k).bind l=r.bind λa h=>(k a h).bind l:=by cases r<;>rfl
def Zvg(e:opC GD op x y h=.ok r h'):∃b,r=.bl b:=by
 have i2:∀{f},ZiV f x y h=.ok r h'->∃b,r=.bl b:=λe=>by
  unfold ZiV at e;split at e
  . cases e;exact⟨_,rfl⟩
  trivial
 have eq:∀{n},Zd3 n x y h=.ok r h'->∃b,r=.bl b:=λe=>by
  unfold IV.Zd3 at e;split at e
  . split at e
    . cases e;exact⟨_,rfl⟩
    trivial
  trivial
 have inn:∀{n},ZbV GD n x y h=.ok r h'->∃b,r=.bl b:=λe=>by
  unfold ZbV at e;split at e
  . split at e
    . cases e;exact⟨_,rfl⟩
    trivial
  . split at e
    . cases e;exact⟨_,rfl⟩
    . cases e
 have n1:∀{n:Bool},opN n x y h=.ok r h'->∃b,r=.bl b:=λe=>by
  unfold opN at e;split at e
  . cases e;exact⟨_,rfl⟩
  . cases e
 unfold opC at e;split at e
 . exact eq e
 . exact eq e
 . exact i2 e
 . exact i2 e
 . exact i2 e
 . exact i2 e
 . exact inn e
 . exact inn e
 . exact n1 e
 . exact n1 e
def Zx2(m):Slot "list" (Zp4 m) (mid m)/\typeOf (.builtin<|mid m)=pure (.type "method_descriptor"):=by
 cases m with
 |app=>exact⟨PySem.F.slot_list_append,PySem.F.type_list_append⟩
 |ext=>exact⟨PySem.F.slot_list_extend,PySem.F.type_list_extend⟩
 |pop=>exact⟨PySem.F.slot_list_pop,PySem.F.type_list_pop⟩
 |rev=>exact⟨PySem.F.slot_list_reverse,PySem.F.type_list_reverse⟩
 |clr=>exact⟨PySem.F.slot_list_clear,PySem.F.type_list_clear⟩
section
variable {Y:Yx}{α β α' β':Type}{rel:Hp->List Yj->α->β->Prop}{aW:Hp->List Yj->α'->β'->Prop}{H0 H H1:Hp}{μ0 B μ1:List Yj}{E:XK}
def Fin.bindB(g0:Gr H0 μ0 H B)(f:Fin Y aW H0 μ0 (r.bind k) Q E)
 (hk:∀a R b H1 μ1,r=.ok a R->Gr H B H1 μ1->RH Y H1 μ1 R->rel H1 μ1 a b->Fin Y aW H0 μ0 (k a R) Q E->Q1 b H1):Fin Y rel H B r Q1 E:=by
 cases r with
 |bad=>exact f
 |ok a h=>exact λb H' μ' g' rh rl=>hk a h b H' μ' rfl g' rh rl f
 |exc c h=>exact λH' μ' C g'=>f H' μ' C (g0.trans g')
theorem Fin.plain(f:Fin Y aW H0 μ0 (r.plain.bind k) Q E)
 (hk:∀a R b H1 μ1,r=.ok a R->Gr H B H1 μ1->RH Y H1 μ1 R->rel H1 μ1 a b->Fin Y aW H0 μ0 (k a R) Q E->Q1 b H1):Fin Y rel H B r Q1 E0:=by
 cases r with
 |bad=>exact f
 |ok a h=>exact λb H' μ' g' rh rl=>hk a h b H' μ' rfl g' rh rl f
 |exc c h=>exact f.elim
end
def Zkf:List Nat->TGs
 |[]=>ZsV
 |i::is=>Zkg (Zc0 i) (Zkf is)
def tgR(K:Yl):Tg->TG
 |.nm i=>Zc0 i
 |.two i j=>ZsU K 2 (Zkg (Zc0 i)<|Zkg (Zc0 j) ZsV)
 |.many is=>ZsU K is.length (Zkf is)
theorem ZjH:∀is ,is.foldr max 0<k->ZkW k (Zkf is)
 |[],_=>Zmu
 |i::is,h=>by simp at h;exact ZgB (by lia) (ZjH is<|by lia)
def Zw0(K)(g):Zmi (tgk g) (tgR K g):=by
 cases g with
 |nm i=>exact Zrr (OH i)
 |two i j=>exact ZoY (ZgB (show i<max i j+1 by lia)<|ZgB (show j<max i j+1 by lia) Zmu)
 |many is=>exact ZoY (ZjH is<|OH _)
theorem ZfH:∀(is) (es),Zno N own is es=Ws->(assignEach es env).length=is.length/\List.findIdx? (λx=>x.fst) (assignEach es env)=M
 |[],[],_=>⟨rfl,rfl⟩
 |i::is,e::es,h=>by
  obtain⟨a,b⟩:=ZfH is _<|bR h;refine Zbx (bL h) λx p _ _=>⟨congrArg (·+1) a,?_⟩
  simp only[assignEach,List.findIdx?_cons,b];rfl
 |[],_::_,h=>ff h
 |_::_,[],h=>ff h
theorem ZjZ(hN:X.N=N)(nd:X.N.Nodup)(ho:∀x,own x=Ws->Loc X.env.scope x/\(X.fn x=Ws\/X.env.scope.names.lookup x=J .local)):∀(is) (es),Zno N own is es=Ws->PGs X es (Zkf is)
 |[],[],_=>ZmL
 |i::is,e::es,h=>Zbx (bL h) λx p e1 e2=>ZgR (ZmN nd (by rw[hN];trivial) (ho _ e2).1 (ho _ e2).2) (ZjZ hN nd ho is _<|bR h)
 |[],_::_,h=>ff h
 |_::_,[],h=>ff h
def ZmM(hN:X.N=N)(nd:X.N.Nodup)(hc:X.calm=Ws)(ho:∀x,own x=Ws->Loc X.env.scope x/\(X.fn x=Ws\/X.env.scope.names.lookup x=J .local))(h:Ztb N own g tg=Ws):PG X tg (tgR X.K g):=by
 have nm:∀{i x p},N[i]?=J x->own x=Ws->PG X (.Name x p) (Zc0 i):=λe1 e2=>ZmN nd (by rw[hN];trivial) (ho _ e2).1 (ho _ e2).2;cases g with
 |nm i=>exact Zbx h λx p e1 e2=>nm e1 e2
 |two i j=>exact ZiK (h) λxs k q h=>Ziq h λa b h=>Zbx (bL h) λx p e1 e2=>Zbx (bR h) λy r e3 e4=>ZpA hc (ZgR (nm e1 e2)<|ZgR (nm e3 e4) ZmL)
 |many is=>exact ZiK (h) λxs k q h=>ZpA (hn:=(ZfH _ _ h).1) (hst:=(ZfH _ _ h).2) hc (ZjZ hN nd ho _ _ h)
theorem ZmW:∀(is) {ds}{vs}{S}{Z},RDs Y H B ds vs->RS Y H B S Z->ds.length=is.length->(∀σ1,RS Y H B (Zk3 is ds S) σ1->Q σ1 H)->Zkf is vs Z H Q
 |[],ds,vs,S,Z,r,rs,hl,q=>by
  cases r with
  |nil=>exact⟨rfl,q _ rs⟩
  |cons a s=>trivial
 |i::is,ds,vs,S,Z,r,rs,hl,q=>by
  cases r with
  |nil=>trivial
  |cons a s=>exact⟨_,_,rfl,ZmW is s (rs.set a) (by simpa using hl) q⟩
def Zjp{Y}{K}{Q}(hY:Y.K=K)(r:RD Y H B d v)(rs:RS Y H B S Z)(e:ZbI g d S=J ρ1)(q:∀σ1,RS Y H B ρ1 σ1->Q σ1 H):tgR K g v Z H Q:=by
 cases g with
 |nm i=>cases e;exact q _ (rs.set r)
 |two i j=>
  unfold ZbI at e;simp at e;split at e
  . cases e;obtain⟨a,vs,rfl,t,s⟩:=r.tup_inv;obtain⟨x,y,rfl,r1,r2⟩:=s.two;exact⟨a,_,rfl,hY▸t,rfl,x,_,rfl,y,_,rfl,rfl,q _<|(rs.set r1).set r2⟩
  trivial
 |many is=>
  unfold ZbI at e;simp at e;split at e
  . split at e
    . rename_i hl;cases e;obtain⟨a,vs,rfl,t,s⟩:=r.tup_inv;exact⟨a,vs,rfl,hY▸t,by rw[<-s.length,hl],ZmW is s rs hl q⟩
    trivial
  trivial
section
variable {Y:Yx}{H:Hp}{B:List Yj}{h:Hd}{Dd:Yj}{ys zs:List V}
def Zo2{K}(hD:H Dd=J (.lst ys))(t:SqT K H a vs):SqT K (upd H Dd<|.lst zs) a vs:=by
 rcases t with t|t
 . rcases t with t|⟨o,t⟩
   . exact .inl (.inl<|(Zl<|λz=>by simp_all).trans t)
   . exact .inl (.inr ⟨o,(Zl<|λz=>by simp_all).trans t⟩)
 . exact .inr t
def Zqu{K}(hD:H Dd=J (.lst ys))(t:FzL K H a vs):FzL K (upd H Dd<|.lst zs) a vs:=by
 rcases t with⟨o,t⟩|t
 . exact .inl ⟨o,(Zl<|λz=>by simp_all).trans t⟩
 . exact .inr t
def Tr.swap(hD:H Dd=J (.lst ys)):Tr Y H B (upd H Dd<|.lst zs) B:=⟨Zo2 hD,Zqu hD,id⟩
theorem RH.swap(hD:H Dd=J (.lst ys))(hn:Dd ∉ B)(r:RH Y H B h):RH Y (upd H Dd<|.lst zs) B h:=r.tr (.swap hD) λ_ ha=>Zl λz=>hn (z▸ha)
def Gr.out(g:Gr H B H' μ')(hD:H Dd=J o)(hn:Dd ∉ B):H' Dd=J o/\Dd ∉ μ':=⟨g.keep _ _ hn hD,λhm=>(g.new _ hm).elim hn λz=>by simp_all⟩
end
inductive CwS(Y:Yx)(H1:Hp)(μ1:List Yj)(xs:List D)(Dd:Yj)(F:List D->List D->Hd->Prop)(i m:Nat)(ys:List V)(H:Hp):Prop
 |mk (ai:List D) (h:Hd) (B:List Yj) (hi:i<=xs.length) (hm:m=xs.length-i) (g:Gr H1 μ1 H B) (rh:RH Y H B h) (ra:RDs Y H B ai ys) (nd:Dd ∉ B) (f:F (xs.drop i) ai h):CwS Y H1 μ1 xs Dd F i m ys H
def Znm{T}{Y}{E}{K}(hY:Y.K=K){js}{g}{c}{e}{tc:TT}{qa}{w}{H1}{μ1}{R}{S}{Z}{Q:VK}{Dd}
 (lY:∀Z H Q,Sm Y E0 eqR (tsto T c) Z H Q->tc Z H Q)
 (rh:RH Y H1 μ1 R) (rs:RS Y H1 μ1 S Z) (wj:WJ Y H1 μ1 w qa) (f:Fin Y (RD Y) H1 μ1 ((Zx w.src g (tsto T c) (ev T e) w.xs (Za7 js S) [] R).bind λxs h2=>Zdb (.lst xs) h2) Q E) (hD:H1 Dd=M) :
 ∃W:Nat->Nat->List V->Hp->Prop,(∃m,W 0 m []<|upd H1 Dd<|.lst []) /\
  ∀i m ys H,W i m ys H->H Dd=J (.lst ys)->(qa.stop i H/\Q (.ref Dd) H) \/
   (qa.go i H/\ys.length<Yc/\∀x H',qa.yld i H x H'->tgR K g x (capt js Z) H' λσ2 H2=>tc σ2 H2 λb H3=>
    if b=Ws then Zah T Y E0 e σ2 H3 λy H4=>H4 Dd=J (.lst ys)/\∃m',m'<m/\W (i+1) m' (ys++[y]) (upd H4 Dd<|.lst<|ys++[y])
    else H3 Dd=J (.lst ys)/\∃m',m'<m/\W (i+1) m' ys H3):=by
 refine⟨CwS Y H1 μ1 w.xs Dd λxs ai h=>Fin Y (RD Y) H1 μ1 ((Zx w.src g (tsto T c) (ev T e) xs (Za7 js S) ai h).bind λxs h2=>Zdb (.lst xs) h2) Q E,⟨w.xs.length,[],R,μ1,Yy _,(Nat.sub_zero _).symm,Gr.lay0 hD,rh.lay0 hD,.nil,rh.fr hD,f⟩,?_⟩;rintro i m ys H ⟨ai,h,B,hi,rfl,g1,ah,ra,nD,f1⟩ hl;by_cases aC:i<w.xs.length
 . obtain⟨d,hd⟩:∃d,w.xs[i]?=J d:=⟨_,Og aC⟩
   have fS:w.xs.drop i=d::w.xs.drop (i+1):=by rw[List.drop_eq_getElem_cons aC];have:=Og aC;rw[hd]at this;rw[<-YF this]
   rw[fS,Zx]at f1;by_cases hs:Wk.stays w.src h=Ws/\ai.length<Yc
   . rw[if_pos hs]at f1;obtain⟨go,yl⟩:=(wj H B h g1 ah hs.1).1 i d hd;refine .inr ⟨go,ra.length▸hs.2,λx H' hy=>?_⟩;obtain⟨g2,au,rx⟩:=yl x H' hy;obtain⟨bX,ls⟩:=g2.out hl nD;split at f1
     . exact f1.elim
     . rename_i ρ1 hb;refine Zjp hY rx ((rs.mono rh<|g1.trans g2).capt js) hb λσ1 al=>lY σ1 H' _ ⟨ρ1,h,B,au,al,?_⟩;rw[qd.bind_assoc]at f1;refine Fin.plain f1 λb h3 b' H3 μ3 _ g3 aM eb f3=>?_;subst eb;obtain⟨km,j0⟩:=g3.out bX ls;have kH:=(g1.trans g2).trans g3;cases b with
       |true=>rw[if_pos rfl]at f3 ⊢;rw[qd.bind_assoc]at f3;refine⟨ρ1,h3,μ3,aM,al.mono au g3,Fin.plain f3 λy h4 y' H4 μ4 _ g4 cY ry f4=>?_⟩;obtain⟨jr,jZ⟩:=g4.out km j0;refine⟨jr,_,Nat.sub_lt_sub_left aC<|OH i,ai++[y],h4,μ4,aC,rfl,(kH.trans g4).put hD,cY.swap jr jZ,((((ra.mono ah g2).mono au g3).mono aM g4).append<|.cons ry .nil).tr<|.swap jr,jZ,f4⟩
       |false=>rw[if_neg<|by decide]at f3 ⊢;exact⟨km,_,Nat.sub_lt_sub_left aC<|OH i,ai,h3,μ3,aC,rfl,kH,aM,(ra.mono ah g2).mono au g3,j0,f3⟩
   . rw[if_neg hs]at f1;exact f1.elim
 . have he:i=w.xs.length:=by lia
   subst he;rw[List.drop_eq_nil_of_le<|Oq _,Zx]at f1;by_cases hs:Wk.stays w.src h=Ws
   . rw[if_pos hs]at f1;exact .inl ⟨(wj H B h g1 ah hs).2,f1.at (g1.add hD) (ah.add nD ⟨ys,hl,ra.tr .more⟩)<|.ref (by rw[ah.len];simp)⟩
   . rw[if_neg hs]at f1;exact f1.elim
section
variable {Y:Yx}{H:Hp}{B:List Yj}{h:Hd}
theorem RKs.look:∀{fs}{gs:List (Str×V)},RKs Y H B fs gs->(∀d,fs.lookup f=J d->∃v,gs.lookup f=J v/\RD Y H B d v)/\(fs.lookup f=M->gs.lookup f=M)
 |_,_,.nil=>⟨λd e=>by trivial,λ_=>rfl⟩
 |_,_,.cons (k:=k) a s=>by
  by_cases e:f=k
  . simp_all
  . have b:(f==k)=Wt:=by simpa using e
    obtain⟨q1,q2⟩:=RKs.look s;refine⟨λd z=>?_,λz=>?_⟩
    . rw[OF,b]at z ⊢;exact q1 d z
    . rw[OF,b]at z ⊢;exact q2 z
theorem RKs.putAF(r:RD Y H B d v):∀{fs}{gs},RKs Y H B fs gs->RKs Y H B (ZgO f d fs) (Zct f v gs)
 |_,_,.nil=>.cons r .nil
 |_,_,.cons (k:=k) a s=>by
  unfold ZgO Zct;by_cases e:k=f
  . rw[if_pos e,if_pos e];exact .cons r s
  . rw[if_neg e,if_neg e];exact .cons a (RKs.putAF r s)
def Zg7(rh:RH Y H B h)(r:RD Y H B d v)(e:ZT d h=J (C,fs)):∃i a Ca dx gs,d=.ref i/\v=.ref a/\B[i]?=J a/\h[i]?=J (.ins C fs)/\H a=J (.ins Ca dx gs)/\Y.mg C=J (.ref Ca)/\RKs Y H B fs gs:=by
 unfold ZT at e;split at e
 . rename_i i;split at e
   . rename_i C' br hi;cases e;cases r with
     |ref q=>rename_i a;obtain⟨Ca,dx,gs,z,m,s⟩:=rh.ob i _ a hi q;exact⟨i,a,Ca,dx,gs,rfl,rfl,q,hi,z,m,s⟩
   trivial
 trivial
def Zsy(rh:RH Y H B h)(hx:H x=M)(hd:H dx=M)(ne:dx≠x)(m:Y.mg C=J (.ref Ca)):RH Y (upd (upd H dx<|.own x) x<|.ins Ca dx []) (B++[x]) (h++[.ins C []])/\Gr H B (upd (upd H dx<|.own x) x<|.ins Ca dx []) (B++[x]):=⟨(rh.lay0 hd).lay (by rw[Zl<|λz=>ne z.symm];trivial) ⟨Ca,dx,[],Zh,m,.nil⟩,(Gr.lay0 hd).trans<|Gr.lay (by rw[Zl<|λz=>ne z.symm];trivial)⟩
end
def Zoa(bp:attributeBase o name env (eval o env)=eval o env)
 (fP:methodCallForm (args.length+([]:List Keyword).length) (YR pos<|YA args env) (backToKw pos<|YY [] env)=Ws) (bi:(aB.endLine==pos.line)=Ws) :
 eval (.Call (.Attribute o name aB) args [] pos) env=(do
  let ov <- eval o env
  standAt aB.atName
  let (f,first) <- holding [ov] (getMethod ov name<|do return (<- importBound o env).getD Ws)
  callWith pos f first (YR pos<|YA args env) (backToKw pos<|YY [] env)):=by
 have cq:methodCallPos Ws o env aB pos=pure pos:=by unfold methodCallPos;simp[bi]
 rw[arm_eval_Call,bp];unfold methodCall;simp only[fP,cq];rfl
section
variable {T:Tb}{Γ:Gm}{X:Cx}{Y:Yx}{E:XK}{k:Nat}
def Zwr(G:Gd T Γ X Y E k)(hc:(Cs.all λC=>Wu<|C∈Γ.kl.cs)=Ws)(hf:f∈Γ.kl.ats)(rh:RH Y H B h)(rd:RD Y H B d x)(ff:Fin Y (RD Y) H B (ZeC Cs f d h) Q E):
 ∃a C dx fs v,x=.ref a/\H a=J (.ins C dx fs)/\Cls X.K C/\ZaZ X.K C f/\fs.lookup f=J v/\Q v H:=by
 unfold ZeC at ff;split at ff
 . rename_i C fs e;obtain⟨hC,ff⟩:=ff.iff;obtain⟨i,a,Ca,dx,gs,rfl,rfl,q,hi,z,m,s⟩:=Zg7 rh rd e;obtain⟨w,e1,ff⟩:=ff.ofO;obtain⟨v,l,rv⟩:=(s.look).1 w e1;rw[OC]at hc;obtain⟨kQ,m',cl,na⟩:=G.cls C<|of_decide_eq_true<|hc C hC;rw[G.gk.mg,m']at m;cases m;exact⟨a,Ca,dx,gs,v,rfl,z,cl,na f hf,l,ff.ok rh rv⟩
 trivial
def Zo5(G:Gd T Γ X Y E k)(hc:(Cs.all λC=>Wu<|C∈Γ.kl.cs)=Ws)(hf:f∈Γ.kl.ats)(rh:RH Y H B h)(rd:RD Y H B d x)(re:RD Y H B e y)(ff:Fin Y (RD Y) H B (ZhX Cs f d e h) Q E):
 ∃a C dx fs,x=.ref a/\H a=J (.ins C dx fs)/\Cls X.K C/\ZaZ X.K C f/\fs.length<1000/\Q .non (upd H a<|.ins C dx<|Zct f y fs):=by
 unfold ZhX at ff;split at ff
 . rename_i i;split at ff
   . rename_i C fs hi;obtain⟨⟨hC,hl⟩,ff⟩:=ff.iff;obtain⟨i',a,Ca,dx,gs,e1,rfl,q,bY,z,m,s⟩:=Zg7 rh rd (show ZT (.ref i) h=J (C,fs) by simp[ZT,hi]);cases e1;rw[OC]at hc;obtain⟨kQ,m',cl,na⟩:=G.cls C<|of_decide_eq_true<|hc C hC;have m0:=m;rw[G.gk.mg,m']at m;cases m;exact⟨a,Ca,dx,gs,rfl,z,cl,na f hf,by rw[<-s.length];trivial,ff.at (Gr.write (O1 q) (by rw[z];trivial)) (rh.write q ⟨Ca,dx,_,Zh,m0,(RKs.putAF re s).mono rh<|Gr.write (O1 q) (by rw[z];trivial)⟩ (by rw[z];trivial)) .non⟩
   trivial
 trivial
def Zx3(G:Gd T Γ X Y E k)(h2:C∈Γ.kl.is)(h3:glb Γ C=Ws)(h4:chks Γ es ys=Ws)(ha:PA X ys (Zk5 T Y E es)):PE X (.Call (.Name C p) ys [] pos) (Zah T Y E<|.mk C es):=by
 obtain⟨a,f,fd,ps,m,qb,F,B_⟩:=G.mks _ h2;obtain⟨g1,g2⟩:=G.gl h3;have key:∀(ds) (R) (xs) (H1) (μ1) (Q),RH Y H1 μ1 R->RDs Y H1 μ1 ds xs->Fin Y (RD Y) H1 μ1 (Zlp T.C C ds R) Q E->∀x dx,H1 x=M->H1 dx=M->dx≠x ->
  Zfs T Y (mnm C<|O "__init__") (.ref x::(xs++[])) (upd (upd H1 dx<|.own x) x<|.ins a dx []) (λv H2=>v=.non/\Q (.ref x) H2) E:=by
  intro ds R xs H1 μ1 Q ah bN f1 x dx hx hd ne;obtain⟨au,g2⟩:=Zsy ah hx hd ne<|G.gk.mg▸m;have px:(μ1++[x])[R.length]?=J x:=by rw[ah.len];simp
  refine⟨.ref R.length::ds,R++[.ins C []],μ1++[x],au,.cons (.ref px) (by rw[Yt];exact bN.mono ah g2),Fin.bind (Fin.mono g2 f1) λd h3 v H3 μ3 _ g3 aM fi f3=>?_⟩;cases d with
  |non=>cases fi;exact⟨rfl,f3.ok aM<|.ref<|g3.pre _ _ px⟩
  |_=>exact f3.elim
 cases ys with
 |nil=>
  cases es with
  |nil=>
   exact(ZpG qb F G.room1 g1 m B_ .nil G.pass g2).imp λZ H Q s=>by
    cases s with
    |mk S h B rh rs f=>exact key [] h [] H B Q rh .nil f
  |cons e r=>exact ff h4
 |cons y ys=>exact(Zr4 qb F G.room1 g1 m B_ .nil G.pass ha g2 (Zc2 X.env h4).1<|(Zc2 X.env h4).2 _).imp λZ H Q s=>Sm.bind s λS ds R xs H1 μ1 ah _ bN f1=>key ds R xs H1 μ1 Q ah bN f1
theorem Zvr(G:Gd T Γ X Y E k)(h5:(C,n)∈Γ.kl.ms)(h3:Zcu xo=Ws)(h4:chks Γ es ys=Ws)(h6:ys.length<29)(h7:(ap.endLine==cp.line)=Ws)(ho:PE X xo (Zah T Y E o))(ha:PA X ys (Zk5 T Y E es)) :
   PE X (.Call (.Attribute xo n ap) ys [] cp) (Zah T Y E<|.mcl C n o es):=by
 obtain⟨a,f,fd,ps,mm,c,hm,F,B_⟩:=G.mts _ h5;have ht:=Zoa (name:=n) (args:=ys) (env:=X.env) (Zgr h3) (by
   unfold methodCallForm;rw [(ZeT Γ X.env es ys h4 _).2];have m9:Wu (ys.length+([]:List Keyword).length+(if (backToKw cp<|YY [] X.env).isEmpty then 0 else 1)<30)=Ws:=by
     rw [decide_eq_true_eq];show ys.length+0+0<30
     lia
   trivial) h7
 have key:∀ (d:D) (R:Hd) (x:V) (H1:Hp) (μ1:List Yj) (S:Ev) (Z:L2.St) (Q:VK),RH Y H1 μ1 R->RS Y H1 μ1 S Z->RD Y H1 μ1 d x->Fin Y (RD Y) H1 μ1 (match ZT d R with
       |some (C',fs)=>if C'=C/\fs.lookup n=M then(evs T es S R).bind λxs h2=>T.C (mnm C n) (d::xs) h2 else .bad
       |none=>.bad) Q E->∃ b dx fs,x=.ref b/\H1 b=J (.ins a dx fs)/\fs.lookup n=M/\Zk5 T Y E es Z H1 λvs H2=>Zfs T Y (mnm C n) (x::(vs++[])) H2 Q E:=by
   intro d R x H1 μ1 S Z Q ah al rd f1;split at f1
   . rename_i C' fs e;obtain⟨⟨e1,e2⟩,f1⟩:=f1.iff;subst e1;obtain⟨i,b,Ca,dx,gs,rfl,rfl,q,hi,z,m',s⟩:=Zg7 ah rd e;rw [G.gk.mg,mm] at m';cases m';refine⟨b,dx,gs,rfl,z,(s.look (f:=n)).2 e2,S,R,μ1,ah,al,f1.bind λds h2 vs H2 μ2 _ g2 au bN f2=>⟨_,h2,μ2,au,.cons (rd.mono ah g2) (by rw [Yt];exact bN),f2⟩⟩
   . exact f1.elim
 cases ys with
 |nil =>
   cases es with
   |nil =>
     exact(ZpF ho c hm F G.room B_ .nil G.pass ht).imp λZ H Q s=>Sm.bind s λS d R x H1 μ1 ah al rd f1=>by
       obtain⟨b,dx,fs,e1,e2,e3,s⟩:=key d R x H1 μ1 S Z Q ah al rd f1;cases s with
       |mk ρ' h' μ' rh' bJ f'=>exact⟨b,dx,fs,e1,e2,e3,f'.ok rh' .nil⟩
   |cons e r=>exact ff h4
 |cons y ys=>exact(Zr2 ho c hm F G.room B_ .nil G.pass ha (Zc2 X.env h4).1 ((Zc2 X.env h4).2 _) ht).imp λZ H Q s=>Sm.bind s λS d R x H1 μ1 ah al rd f1=>key d R x H1 μ1 S Z Q ah al rd f1
end
def ZmQ{q}(X:Cx)(hx:ZxI scope x=Ws):Loc (relabel scope X.env) x/\(q\/(relabel scope X.env).names.lookup x=J .local):=⟨.inl (by rw[ZaC,of_decide_eq_true hx];rfl),.inr (by rw[ZaC,of_decide_eq_true hx];rfl)⟩
def ZoN(e:Zgw (.ref i) h=J w):∃xs,h[i]?=J (.lst xs)/\w=⟨[(i,xs)],xs⟩:=by
 unfold Zgw at e;simp at e;split at e
 . simp_all
 trivial
def ZwP{X:Cx}{R}(K:Y.K=X.K)(rh:RH Y H1 μ1 R)(r:RD Y H1 μ1 d v)(il:ZfW d R=Ws):tyV X.K "list" v H1:=by
 cases r with
 |ref q=>
  rename_i i a;have:∃xs,R[i]?=J (.lst xs):=by
   unfold ZfW at il;simp at il;split at il
   . exact⟨_,by trivial⟩
   trivial
  obtain⟨xs,hx⟩:=this;obtain⟨vs,hl,_⟩:=rh.ob i _ a hx q;exact .inl ⟨rfl,vs,.of hl⟩
 |_=>trivial
def Zsv(G:Gd T Γ X Y E k)(ho:PE X xo (Zah T Y E o))(h3:Zcu xo=Ws)(h4:chks Γ es ys=Ws)(h5:ys.length<29)(h6:(ap.endLine==cp.line)=Ws)(ha:PA X ys (Zk5 T Y E es)):
 PE X (.Call (.Attribute xo (Zp4 m) ap) ys [] cp) (Zah T Y E<|.meth m o es):=by
 obtain⟨sl,ty⟩:=Zx2 m;cases ys with
 |nil=>
  cases es with
  |nil=>exact(Zu6 PySem.F.plainAttrs_list sl ty (ZmV G.gk.K m) ho (Zgr h3) h6).imp λZ H Q s=>Sm.bind s λS d R x H1 μ1 ah al rd f1=>⟨ZwP G.gk.K ah rd f1.iff.1,d,[],R,μ1,ah,rd,.nil,f1.iff.2⟩
  |cons e r=>exact ff h4
 |cons y ys=>
  refine(ZxG PySem.F.plainAttrs_list sl ty (ZmV G.gk.K m) ho ha (Zgr h3) ?_ h6 (Zc2 X.env h4).1<|(Zc2 X.env h4).2 _).imp λZ H Q s=>Sm.bind s λS d R x H1 μ1 ah al rd f1=>⟨ZwP G.gk.K ah rd f1.iff.1,S,R,μ1,ah,al,f1.iff.2.bind λds h2 xs H2 μ2 _ g2 au bN f2=>⟨d,ds,h2,μ2,au,rd.mono ah g2,bN,f2⟩⟩
  rw[(ZeT Γ X.env es (y::ys) h4 _).2];have m9:Wu ((y::ys).length+([]:List Keyword).length+(if ([]:List Keyword).isEmpty then 0 else 1)<30)=Ws:=by rw[decide_eq_true_eq];exact Nat.lt_succ_of_lt h5
  trivial
def Zz4(hb:∀d h',e=.ok d h'->∃c,d=.bl c)(f:Fin Y eqR H B (e.bind λx R=>qd.ofO (Zev GD x R) R) Q E):Fin Y (RD Y) H B e (λv H'=>∃c,v=.bl c/\Q c H') E:=
 f.bind λd R x H1 μ1 er g ah rd f1=>by obtain⟨c,rfl⟩:=hb d R er;cases rd;exact⟨c,rfl,Fin.ok (f1) ah rfl⟩
def ZyO{f}(hf:∀x y h d h',f x y h=.ok d h'->∃c,d=.bl c)(s:Sm Y E eqR (λS h=>((ev T a S h).bind λx R=>(ev T b S R).bind λy h2=>f x y h2).bind λx R=>qd.ofO (Zev T.GD x R) R) Z H Q):
 Zah T Y E a Z H λx H1=>Zah T Y E b Z H1 λy H2=>rB Y E f x y H2 λv H3=>∃c,v=.bl c/\Q c H3:=by
 cases s with
 |mk S h B rh rs q=>refine ZnP ⟨S,h,B,rh,rs,Zz4 (λd h' er=>?_) q⟩;obtain⟨_,_,_,er⟩:=qd.bind_eq er;obtain⟨_,_,_,er⟩:=qd.bind_eq er;exact hf _ _ _ _ _ er
def Zs9(G:Gd T Γ X Y E k)(ha:PE X l (Zah T Y E a))(hb:PE X r (Zah T Y E b))(hm:Zck r=Ws):PT X (.Compare l [op] [r] pos) (Zk4 T Y E<|.ex<|.cmp op a b):=(ZiR (ZpQ G.room G.h60 G.gk op) ha hb<|Zgo hm).imp λ_ _ _ s=>ZyO (λ_ _ _ _ _=>Zvg) s
def Zvo(e:Zmg n x y h=.ok r h'):∃b,r=.bl b:=by
 unfold Zmg at e;split at e
 . split at e
   . cases e;exact⟨_,rfl⟩
   trivial
 trivial
def Zst(G:Gd T Γ X Y E k)(ha:PE X l (Zah T Y E a))(hb:PE X r (Zah T Y E b))(hm:Zck r=Ws):PT X (.Compare l [if n then .NotIn else .In] [r] pos) (Zk4 T Y E<|.ex<|.nin n a b):=(ZiR (Zj1 n G.room G.gk.K) ha hb<|Zgo hm).imp λ_ _ _ s=>ZyO (λ_ _ _ _ _=>Zvo) s
def Zwi{r:qd α}:r.bind qd.ok=r:=by cases r<;>rfl
def ZtL{X:Cx}(hY:Y.K=X.K)(rh:RH Y H B h)(r:RD Y H B d v)(f:Fin Y rel H B ((shD d h).bind k) Q E):∃p,Dp X.K H v p/\L2.ZnO p=Ws/\Fin Y rel H B (k p.shown h) Q E:=by
 unfold shD at f;split at f
 . rename_i p ep;split at f
   . rename_i ok;exact⟨p,hY▸ZeW rh r ep,ok,f⟩
   trivial
 trivial
def rpE{X}(G:Gd T Γ X Y E k)(hg:glb Γ (O "repr")=Ws)(ha:PE X y t)(hy:Z3 y=Ws):PE X (.Call (.Name (O "repr") p) [y] [] q) (tCB (ZmH X.K)<|Zmw t ZnJ):=Za2 (Zov G.room) (G.gl hg).1 (G.blt _<|by decide) (rfl) (Z7 ha Zci<|Zy X.env hy) (by decide) (by decide) (Zy X.env hy) rfl
def rp2{X:Cx}(hY:Y.K=X.K){Q':VK}(s:Sm Y E rel (λS h=>(ev T (.rpn o a b) S h).bind k) Z H Q)(hq:∀c R H1 μ1,RH Y H1 μ1 R->Fin Y rel H1 μ1 (k (.bl c) R) Q E->Q' (.bl c) H1):
 tOp (Zxu o) (tCB (ZmH X.K)<|Zmw (Zah T Y E a) ZnJ) (tCB (ZmH X.K)<|Zmw (Zah T Y E b) ZnJ) Z H Q':=by
 cases s with
 |mk S h B rh rs f=>
  have f:=by have q:=f;rw[show ev T (.rpn o a b) S h=(ev T a S h).bind λx R=>(shD x R).bind λp R=>(ev T b S R).bind λy h2=>(shD y h2).bind λq h3=>.ok (.bl<|bif o then !Wu (p=q)else Wu (p=q)) h3 from rfl]at q;simpa only[qd.bind_assoc,qd.bind_ok]using q
  refine⟨S,h,B,rh,rs,f.bind λd R x H1 μ1 _ g ah rd f1=>?_⟩;obtain⟨p,dp,ok,f1⟩:=ZtL hY ah rd f1;refine⟨x,p,rfl,dp,ok,S,R,μ1,ah,rs.mono rh g,f1.bind λe h2 y H2 μ2 _ g2 au re f2=>?_⟩;obtain⟨q,dq,lg,f2⟩:=ZtL hY au re f2;exact⟨y,q,rfl,dq,lg,_,_,rfl,rfl,hq _ h2 H2 μ2 au f2⟩
def ZnX(G:Gd T Γ X Y E k)(he:PE X x (Zah T Y E e))(R:Zlc x=Ws):PT X x (Zk4 T Y E<|.ex e):=
 (Zps he<|(kdE x).tr R _).imp λZ H Q s=>Sm.bind s λS d R x H1 μ1 ah al rd f1=>by obtain⟨b,eb,f1⟩:=f1.ofO;exact⟨b,Zro G.gk.K ah rd eb,f1.ok ah rfl⟩
def Zms(T:Tb)(Y:Yx)(E:XK):Exs->List (TE×TE)
 |.nil=>[]
 |.cons k r=>match r with
  |.nil=>[]
  |.cons v r'=>(Zah T Y E k,Zah T Y E v)::Zms T Y E r'
section
variable {Y:Yx}{H:Hp}{B:List Yj}{Dd:Yj}{ys zs:List (Key×V)}
def ZnM{K}(hD:H Dd=J (.dK ys))(t:SqT K H a vs):SqT K (upd H Dd<|.dK zs) a vs:=by
 rcases t with t|t
 . rcases t with t|⟨o,t⟩
   . exact .inl (.inl<|(Zl<|λz=>by simp_all).trans t)
   . exact .inl (.inr ⟨o,(Zl<|λz=>by simp_all).trans t⟩)
 . exact .inr t
def Zol{K}(hD:H Dd=J (.dK ys))(t:FzL K H a vs):FzL K (upd H Dd<|.dK zs) a vs:=by
 rcases t with⟨o,t⟩|t
 . exact .inl ⟨o,(Zl<|λz=>by simp_all).trans t⟩
 . exact .inr t
def Tr.swapD(hD:H Dd=J (.dK ys)):Tr Y H B (upd H Dd<|.dK zs) B:=⟨ZnM hD,Zol hD,id⟩
end
inductive RPs(Y:Yx)(H:Hp)(B:List Yj):List D->List (V×V)->Prop
 |nil:RPs Y H B [] []
 |cons {k v:D}{r:List D}{x y:V}{ps:List (V×V)}:RD Y H B k x->RD Y H B v y->RPs Y H B r ps->RPs Y H B (k::v::r) ((x,y)::ps)
theorem RPs.pairs:∀{ds}{ps}{kvs},RPs Y H B ds ps->Zch ds=J kvs->∃aj:List (Key×V),ps=aj.map (λkv=>(kV kv.1,kv.2))/\RKs Y H B kvs aj
 |_,_,_,.nil,e=>by cases e;exact⟨[],rfl,.nil⟩
 |_,_,_,.cons a b s,e=>by
  rw[Zch]at e;split at e
  . rename_i k r e1 e2;cases e;obtain⟨aj,rfl,rk⟩:=s.pairs e2;have:=Zd0 a e1;subst this;exact⟨(k,_)::aj,rfl,.cons b rk⟩
  trivial
theorem RPs.keysOk:∀{ds}{ps}{kvs},RPs Y H B ds ps->Zch ds=J kvs->ZbS kvs
 |_,_,_,.nil,e=>by cases e;intro p hp;trivial
 |_,_,_,.cons a b s,e=>by
  rw[Zch]at e;split at e
  . rename_i k r e1 e2;cases e;intro p hp x z;rcases O2.mp hp with rfl|hp
    . exact Zql a e1 x z
    . exact s.keysOk e2 p hp x z
  trivial
theorem Ze4:∀{more kvs},ZbS more->ZbS kvs->ZbS (ZbC kvs more)
 |[],kvs,_,h=>h
 |(k,d)::r,kvs,hm,h=>Ze4 (kvs:=putD kvs k d) (λp hp=>hm p<|Oh _ hp) (Zg3 h<|λx e=>hm (k,d) Oi x e)
theorem RKs.merge:∀{more}{cC}{kvs}{aj},RKs Y H B more cC->RKs Y H B kvs aj->RKs Y H B (ZbC kvs more) (ZgY aj cC)
 |_,_,_,_,.nil,s=>s
 |_,_,_,_,.cons (k:=k) a r,s=>by have z:=RKs.merge r<|s.put k a;exact z
theorem ZpM:∀ (n) (ps) {K}{H}{B}{h}{Q1}{Γ}{ks}{vs},ks.length<=n->chkp Γ ps ks vs=Ws ->
   Gr H0 μ0 H B->RH Y H B h->RS Y H B S Z->Fin Y (RD Y) H0 μ0 ((evs T ps S h).bind K) Q E ->
   (∀ ds R qs H1 μ1,Gr H B H1 μ1->RH Y H1 μ1 R->RPs Y H1 μ1 ds qs->Fin Y (RD Y) H0 μ0 (K ds R) Q E->Q1 qs H1)->ZiL (Zms T Y E ps) Z H Q1:=by
 intro n;induction n with
 |zero =>
   intro ps K H B h Q1 Γ ks vs hl hc g0 rh rs f hq;cases ps with
   |nil=>exact hq [] h [] H B Gr.refl rh .nil f
   |cons k r =>
     cases r with
     |nil=>trivial
     |cons v r' =>
       unfold chkp at hc
       simp_all
 |succ n ih =>
   intro ps K H B h Q1 Γ ks vs hl hc g0 rh rs f hq;cases ps with
   |nil=>exact hq [] h [] H B Gr.refl rh .nil f
   |cons k r =>
     cases r with
     |nil=>trivial
     |cons v r' =>
       unfold chkp at hc;simp at hc;split at hc
       . rw [Oa] at hc;exact⟨S,h,B,rh,rs,Fin.bindB g0 (by
           have e:(evs T (.cons k<|.cons v r') S h).bind K=(ev T k S h).bind λx R=>(ev T v S R).bind λy h2=>(evs T r' S h2).bind λxs h3=>K (x::y::xs) h3:=by
             show ((ev T k S h).bind λx R=>((ev T v S R).bind λy h2=>(evs T r' S h2).bind λxs h3=>qd.ok (y::xs) h3).bind λxs h2=>qd.ok (x::xs) h2).bind K=_;simp only [qd.bind_assoc,qd.bind_ok]
           rw [<-e];exact f) λd R x H1 μ1 _ g1 ah rd f2=>⟨S,R,μ1,ah,rs.mono rh g1,Fin.bindB (g0.trans g1) f2 λe h2 y H2 μ2 _ g2 au re f3=>ih r' (by simpa using hl) (bR hc.2) ((g0.trans g1).trans g2) au ((rs.mono rh g1).mono ah g2) f3 λds h3 qs H3 μ3 g3 aM rp f4=>hq (d::e::ds) h3 ((x,y)::qs) H3 μ3 ((g1.trans g2).trans g3) aM (.cons ((rd.mono ah g2).mono au g3) (re.mono au g3) rp) f4⟩⟩
       trivial
def Zs6(ps)(G:Gd T Γ X Y E k)(jI:ks.length<=15)(hc:chkp Γ ps ks vs=Ws)(hp:PPs X pos ks vs (Zms T Y E ps))(aY:ks.all (·.isSome)=Ws)(hl:ks.length=vs.length):PE X (.Dict ks vs pos) (Zah T Y E<|.dictl ps):=by
 by_cases h0:ks=[]
 . subst h0;cases vs with
   |cons a b=>trivial
   |nil=>
    cases ps with
    |cons k r=>
     cases r with
     |nil=>trivial
     |cons v r'=>trivial
    |nil=>exact ZpK.imp λZ H Q ⟨S,h,B,rh,rs,f⟩ p hp=>f.new rh hp ⟨[],Zh,.nil⟩ (λp hp=>by cases hp)
 . refine(Zr5 hp aY hl h0 jI).imp λZ H Q ⟨S,h,B,rh,rs,f⟩ p hp=>ZpM ks.length ps (Oq _) hc (Gr.lay0 hp) (rh.lay0 hp) (rs.mono rh<|Gr.lay0 hp) f λds R qs H1 μ1 g1 ah rp f1=>?_;obtain⟨gM,nD⟩:=g1.out (Zh (H:=H))<|rh.fr hp;split at f1
   . rename_i kvs ek;obtain⟨aj,rfl,rk⟩:=rp.pairs ek;exact⟨gM,aj,rfl,rk.length▸f1.iff.1,f1.iff.2.at ((((Gr.lay0 hp).trans g1).put hp).add hp) ((ah.tr (.swapD gM) λ_ ha=>Zl λz=>nD<|z▸ha).add nD ⟨_,Zh,((rk.merge .nil).tr<|.swapD gM).tr .more⟩<|show ZbS (ZbC [] kvs)from Ze4 (rp.keysOk ek) (λp hp=>by cases hp))<|.ref (by rw[ah.len];simp)⟩
   trivial
mutual
theorem Zj(e:Ex){Γ:Gm}{X:Cx}{E:XK}{k:Nat}{x:Expr}(G:Gd T Γ X Y E k)(h:chk Γ e x=Ws):PE X x (Zah T Y E e):=match e,h with
 |.var i,h=>Zx0 h λx q h=>(Zlf (by rw [G.N];exact of_decide_eq_true<|bL h) (G.vis _<|bL<|bR h) (by simpa using bL (bR<|bR h))<|by simpa using bR (bR<|bR h)).imp λZ H Q s=>by
   cases s with
   |mk S h B rh rs f =>
     obtain⟨d,e,f⟩:=Fin.ofO<|show Fin Y (RD Y) H B (qd.ofO (S[i]?).join h) Q E from f;obtain⟨v,e1,rd⟩:=rs.var e;exact⟨v,e1,f.ok rh rd⟩
 |.cst d,h=>ZqM G h
 |.glo y,h=>Zgt h λq h ac s Z H Q I sm=>by
   cases sm with
   |mk S h' B rh rs f =>
     obtain⟨d,e,f⟩:=Fin.ofO<|show Fin Y (RD Y) H B (qd.ofO (T.G y) h') Q E from f;obtain⟨v,u,hm,rv,rd⟩:=G.gk.g y d e;exact Zgm (G.gl h).1 hm rv (G.gl h).2 ac s Z H Q I (f.ok rh<|rd H B)
 |.bin op a b,h=>ZyL h λl r q h=>(ZxF (Zvh G.gk.K op) (Zj a G<|bL h)<|Zj b G<|bR h).imp λ_ _ _ s=>ZnP s
 |.cmp op a b,h=>ZiA h λl r q h=>(ZiT (ZpQ G.room G.h60 G.gk op) (Zj a G<|bL h) (Zj b G<|bL<|bR h)<|Zgo<|bR<|bR h).imp λ_ _ _ s=>ZnP s
 |.neg a,h=>Zrl h λx q h=>(ZxD Zum<|Zj a G h).imp λZ H Q s=>Sm.bind s λS d R x H1 μ1 ah al rd f1=>by
   cases rd with
   |int i=>exact⟨i,rfl,Fin.ok f1 ah<|.int _⟩
   |_=>exact f1.elim
 |.nt a,h=>Zrl h λx q h=>(ZpE<|Zj a G h).imp λZ H Q s=>Sm.bind s λS d R x H1 μ1 ah al rd f1=>by
   cases rd with
   |bl i=>exact⟨i,rfl,Fin.ok f1 ah<|.bl _⟩
   |_=>exact f1.elim
 |.ands es,h=>ZpW h λxs q h=>and_ok es G h
 |.ors es,h=>ZpW h λxs q h=>or_ok es G h
 |.ite c a b,h=>ZzR h λt x y q h=>(ZpI (tst_ok c G<|bL h) (Zj a G<|bL<|bR h)<|Zj b G<|bR<|bR h).imp λZ H Q s=>Sm.bind s λS d R v H1 μ1 ah al rd f1=>by
   cases rd;cases d with
   |true=>exact ZlD ⟨S,R,μ1,ah,al,f1⟩
   |false=>exact ZlE ⟨S,R,μ1,ah,al,f1⟩
 |.tupl es,h=>ZiK h λxs j q h=>(ZpC<|evs_ok es G h).imp λZ H Q s=>Sm.bind s λS d R x H1 μ1 ah al rd f1=>⟨by rw [<-rd.length];exact f1.iff.1,λp hp=>f1.iff.2.tup ah hp rd⟩
 |.lstl es,h=>Zx6 h λxs q h=>(Zu3<|evs_ok es G h).imp λZ H Q s=>Sm.bind s λS d R x H1 μ1 ah al rd f1=>⟨by rw [<-rd.length];exact f1.iff.1,λp hp=>f1.iff.2.new ah hp ⟨_,Zh,rd.mono ah<|Gr.lay hp⟩⟩
 |.ix a i,h=>Zo7 h λx y q h=>(ZtT (Zsj G.gk) (Zj a G<|bL h) (Zj i G<|bL<|bR h)<|ZjL<|bR<|bR h).imp λ_ _ _ s=>ZnP s
 |.sl a lo hi,h=>Zxf h λx l u q r h=>(ZpD (Zsh (E:=E) G.gk.K) (Zj a G<|bL h) (evo_ok lo G<|bL<|bR h)<|evo_ok hi G<|bR<|bR h).imp λZ H Q s=>Sm.bind s λS d R x H1 μ1 ah al rd f1 =>
   ⟨S,R,μ1,ah,al,Fin.bind f1 λl h2 l' H2 μ2 _ g2 au rl f2=>⟨S,h2,μ2,au,al.mono ah g2,Fin.bind f2 λu h3 u' H3 μ3 _ g3 aM ru f3=>by
     cases rl;cases ru;exact⟨d,h3,μ3,aM,(rd.mono ah g2).mono au g3,f3⟩⟩⟩
 |.blt f es,h=>Zbl h λp ys q h=>Zt7 (bL<|bR h) (bR<|bR h) λy r hs=>(Zwh G f (bL<|bL h) (G.gl<|bR<|bL h).1 (evs_ok es G hs) (Zc2 X.env hs).1<|(Zc2 X.env hs).2 _).imp λZ H Q s=>Sm.bind s λS d R x H1 μ1 ah al rd f1=>⟨d,R,μ1,ah,rd,f1⟩
 |.call f es,h=>Zbl h λp ys q h=>Zt7 (bL<|bR<|bR h) (bR<|bR<|bR h) λy r hs=>by
   obtain⟨ps,hd⟩:=G.defs _<|of_decide_eq_true<|bL h;exact(Zu5 hd G.room (G.gl<|bL<|bR h).1 G.pass (evs_ok es G hs) (G.gl<|bL<|bR h).2 (Zc2 X.env hs).1<|(Zc2 X.env hs).2 _).imp λZ H Q s=>Sm.bind s λS d R x H1 μ1 ah al rd f1=>⟨d,R,μ1,ah,rd,f1⟩
 |.meth m o es,h=>Zud h λxo ap ys cp h=>Zsv G (Zj o G<|bL h) (bL<|bR h) (bL<|bR<|bR h) (of_decide_eq_true<|bL<|bR<|bR<|bR h) (bR<|bR<|bR<|bR h) (evs_ok es G<|bL<|bR<|bR h)
 |.comp NC js it g c e,h=>ZtW h λaE tg iter a9 scope q h=>by
   have S_:=Zks<|bL<|bR h;rw [<-G.N,<-G.sc (bL h)] at S_;have h:=bR<|bR h;have Gc:=λC s3 H3 fp=>G.comp NC scope C s3 H3 fp S_.nd;refine(Zr6 (g:=tgR X.K g) (tc:=Sm Y E0 eqR<|tsto T c) (te:=Zah T Y E0 e) S_ rfl G.calm (evi_ok it G<|bL h) (λC s3 H3 fp=>⟨ZmM rfl S_.nd rfl (λx hx=>ZmQ (scope:=scope) X hx)<|bL<|bR<|bR h,ifs_ok c (Gc C s3 H3 fp)<|bL<|bR<|bR<|bR<|bR h,Zj e (Gc C s3 H3 fp)<|bR<|bR<|bR<|bR<|bR h⟩) (Zw0 X.K g) (λj hj=>of_decide_eq_true<|OC.mp (bL<|bR<|bR<|bR h) j<|List.mem_range.mpr hj)<|Zk2 X.env<|bL<|bR h).imp
     λZ H Q s=>Sm.bind s λS w R qa H1 μ1 ah al wj f1 D hD=>Znm G.gk.K (λ_ _ _ z=>z) ah al wj f1 hD
 |.lrv e,h=>Zbl h λp ys q h=>Zaf h λz h=>Zbl h λp' ys q' h=>Zaf h λy h =>
   (Zn0 G.calm (G.gl<|bL h).1 (G.blt _<|by decide) (G.gl<|bL<|bR h).1 (G.blt _<|by decide) (Z7 (Zj e G<|bL<|bR<|bR h) Zci<|Zy X.env<|bR<|bR<|bR h)<|Zy X.env<|bR<|bR<|bR h).imp λZ H Q s=>Sm.bind s λS d R x H1 μ1 ah al rd f1=>by
     cases d with
     |tup xs =>
       obtain⟨a,vs,rfl,t,s⟩:=rd.tup_inv;exact⟨a,vs,rfl,G.gk.K▸t,λp hp=>f1.new ah hp ⟨_,Zh,s.reverse.mono ah<|Gr.lay hp⟩⟩
     |_=>exact f1.elim
 |.nin n a b,h=>ZiA h λl r q h=>(ZiT (Zj1 n G.room G.gk.K) (Zj a G<|bL h) (Zj b G<|bL<|bR h)<|Zgo<|bR<|bR h).imp λ_ _ _ s=>ZnP s
 |.nix a i,h=>Zo7 h λx y q h=>(ZtT (ZvK G.room G.gk.K) (Zj a G<|bL h) (Zj i G<|bL<|bR h)<|ZjL<|bR<|bR h).imp λ_ _ _ s=>ZnP s
 |.ndl,h=>ZyD h λks vs q h=>by
   cases List.isEmpty_iff.mp (bL h);cases List.isEmpty_iff.mp (bR h);refine ZpJ.imp λZ H Q ⟨S,h,B,rh,rs,f⟩ p hp=>?_;have f:Fin Y (RD Y) H B (Zdb (.dnk []) h) Q E:=f;exact f.new rh hp ⟨[],[],Zh,.nil,.nil⟩
 |.rpn o a b,h=>ZiA h λl r q h=>Zbl h λp ys q' h=>Zaf h λy h=>Zbl h λp2 zs q2 h=>Zaf h λz h=>(ZiT ZpO (rpE G (bL h) (Zj a G<|bL<|bR h)<|bL<|bR<|bR h) (rpE G (bL h) (Zj b G<|bL<|bR<|bR<|bR h)<|bR<|bR<|bR<|bR h) rfl).imp λZ H Q s =>
   rp2 G.gk.K (k:=qd.ok) (rel:=RD Y) (Q:=Q) (by simp only [Zwi];exact s) λc R H1 μ1 ah f1=>f1.ok ah (.bl _)
 |.any,h=>λac s Z H Q I sm=>by
   cases sm with
   |mk S h B rh rs f=>exact f.elim
 |.att Cs o f,h=>Ztw h λx q h=>(Zu4 (Zj o G<|bL h)<|Zgr<|bL<|bR h).imp λZ H Q s=>Sm.bind s λS d R x H1 μ1 ah al rd f1=>Zwr G (bL<|bR<|bR h) (of_decide_eq_true<|bR<|bR<|bR h) ah rd f1
 |.mk C es,h=>Zbl h λp ys q h=>Zx3 G (of_decide_eq_true<|bL h) (bL<|bR h) (bR<|bR h) (evs_ok es G<|bR<|bR h)
 |.mcl C m o es,h=>Zud h λxo ap ys cp h=>Zvr G (of_decide_eq_true<|bL<|bR<|bR<|bR h) (bL<|bR h) (bL<|bR<|bR h) (of_decide_eq_true<|bL<|bR<|bR<|bR<|bR h) (bR<|bR<|bR<|bR<|bR h) (Zj o G<|bL h) (evs_ok es G<|bL<|bR<|bR h)
 |.maxd a d,h=>Zt8 h λp ys z r q h=>Zaf h λy h=>(Zr3 (G.gl<|bL h).1 (G.blt _<|by decide) G.calm (Zj a G<|bL<|bR h) (Zj d G<|bR<|bR<|bR h)<|Zy X.env<|bL<|bR<|bR h).imp λZ H Q s=>Sm.bind s λS x R v H1 μ1 ah al rx f1 =>
   ⟨S,R,μ1,ah,al,Fin.bind f1 λy h2 u H2 μ2 _ g2 au ry f2=>by
     cases ry with
     |int d =>
       obtain⟨r,er,f2⟩:=Fin.ofO<|show Fin Y (RD Y) H2 μ2 (qd.ofO (((lstOf x h2).bind intsOf).map λns=>.int<|Zfw ns d) h2) Q E from f2;obtain⟨ns,e2,rfl⟩:=Oo.mp er;obtain⟨zs,e3,e4⟩:=Option.bind_eq_some_iff.mp e2;obtain⟨a,vs,rfl,hl,rv⟩:=(rx.mono ah g2).lstOf au e3;rw [Zg6 rv e4] at hl;exact⟨a,ns,d,rfl,rfl,G.gk.K▸hl,f2.ok au<|.int _⟩
     |_=>exact f2.elim⟩
 |.dictl ps,h=>ZyD h λks vs q h=>Zs6 ps G (of_decide_eq_true<|bL h) (bR h) (pairs_ok ps G<|bR h).1 (pairs_ok (pos:=q) ps G<|bR h).2.1 (pairs_ok (pos:=q) ps G<|bR h).2.2
theorem evs_ok(e:Exs){Γ:Gm}{X:Cx}{E:XK}{k:Nat}{x:List Expr}(G:Gd T Γ X Y E k)(h:chks Γ e x=Ws):PA X x (Zk5 T Y E e):=match e,x,h with
 |.nil,[],h=>Zci.imp λZ H Q s=>by
  cases s with
  |mk S h B rh rs f=>exact Fin.ok (show Fin Y (RDs Y) H B (.ok [] h) Q E from f) rh .nil
 |.nil,_::_,h=>ff h
 |.cons e r,[],h=>ff h
 |.cons e r,y::ys,h=>(Z7 (Zj e G<|bL h) (evs_ok r G<|bR<|bR h)<|Zy X.env<|bL<|bR h).imp λZ H Q s=>Sm.bind s λS d R x H1 μ1 ah al rd f1=>⟨S,R,μ1,ah,al,f1.bind λds h2 xs H2 μ2 _ g2 au bN f2=>f2.ok au<|.cons (rd.mono ah g2) bN⟩
theorem and_ok(e:Exs){Γ:Gm}{X:Cx}{E:XK}{k:Nat}{x:List Expr}{pos:Pos}(G:Gd T Γ X Y E k)(h:chks Γ e x=Ws):PE X (.BoolOp .And x pos) (Zah T Y E<|.ands e):=match e,x,h with
 |.nil,x,h=>λac s Z H Q I sm=>by
  cases sm with
  |mk S h B rh rs f=>exact f.elim
 |.cons e r,[],h=>ff h
 |.cons e .nil,[y],h=>(Zlg<|Zj e G<|bL h).imp λZ H Q q=>q
 |.cons e .nil,y::z::zs,h=>ff (bR<|bR h)
 |.cons e (.cons e' r'),[y],h=>ff (bR<|bR h)
 |.cons e (.cons e' r'),y::z::zs,h=>(ZpL (Zj e G<|bL h)<|and_ok (.cons e' r') G<|bR<|bR h).imp λZ H Q s=>Sm.bind s λS d R x H1 μ1 ah al rd f1=>by
  cases rd with
  |bl c=>
   refine⟨c,rfl,?_⟩;cases c with
   |true=>exact ZlD ⟨S,R,μ1,ah,al,f1⟩
   |false=>exact ZlE (Fin.ok f1 ah<|.bl _)
  |_=>exact f1.elim
theorem or_ok(e:Exs){Γ:Gm}{X:Cx}{E:XK}{k:Nat}{x:List Expr}{pos:Pos}(G:Gd T Γ X Y E k)(h:chks Γ e x=Ws):PE X (.BoolOp .Or x pos) (Zah T Y E<|.ors e):=match e,x,h with
 |.nil,x,h=>λac s Z H Q I sm=>by
  cases sm with
  |mk S h B rh rs f=>exact f.elim
 |.cons e r,[],h=>ff h
 |.cons e .nil,[y],h=>(Zlg<|Zj e G<|bL h).imp λZ H Q q=>q
 |.cons e .nil,y::z::zs,h=>ff (bR<|bR h)
 |.cons e (.cons e' r'),[y],h=>ff (bR<|bR h)
 |.cons e (.cons e' r'),y::z::zs,h=>(ZxE (Zj e G<|bL h)<|or_ok (.cons e' r') G<|bR<|bR h).imp λZ H Q s=>Sm.bind s λS d R x H1 μ1 ah al rd f1=>by
  cases rd with
  |bl c=>
   refine⟨c,rfl,?_⟩;cases c with
   |true=>exact ZlD (Fin.ok f1 ah<|.bl _)
   |false=>exact ZlE ⟨S,R,μ1,ah,al,f1⟩
  |_=>exact f1.elim
theorem evo_ok(e:Option Ex){Γ:Gm}{X:Cx}{E:XK}{k:Nat}{x:Option Expr}(G:Gd T Γ X Y E k)(h:chko Γ e x=Ws):PO X x (Zzr T Y E e):=match e,x,h with
 |none,M,h=>ZrX.imp λZ H Q s=>by
  cases s with
  |mk S h B rh rs f=>exact Fin.ok (show Fin Y _ H B (.ok M h) Q E from f) rh rfl
 |none,J _,h=>ff h
 |some e,M,h=>ff h
 |some e,J a,h=>(ZrW<|Zj e G h).imp λZ H Q s=>Sm.bind s λS d R x H1 μ1 ah al rd f1=>by
  cases rd with
  |int i=>exact⟨i,rfl,Fin.ok f1 ah rfl⟩
  |_=>exact f1.elim
theorem tst_ok(e:Tx){Γ:Gm}{X:Cx}{E:XK}{k:Nat}{x:Expr}(G:Gd T Γ X Y E k)(h:chkt Γ e x=Ws):PT X x (Zk4 T Y E e):=match e,h with
 |.ex e,h=>bO h (λh=>ZnX G (Zj e G<|bR h)<|bL h) λh=>by
  cases e with
  |cmp op a b=>exact ZiA h λl r q h=>Zs9 G (Zj a G<|bL h) (Zj b G<|bL<|bR h) (bR<|bR h)
  |rpn o a b=>exact ZiA h λl r q h=>Zbl h λp ys q' h=>Zaf h λy h=>Zbl h λp2 zs q2 h=>Zaf h λz h=>(ZiR ZpO (rpE G (bL h) (Zj a G<|bL<|bR h)<|bL<|bR<|bR h) (rpE G (bL h) (Zj b G<|bL<|bR<|bR<|bR h)<|bR<|bR<|bR<|bR h) rfl).imp λZ H Q s=>rp2 G.gk.K s λc R H1 μ1 ah f1=>⟨c,rfl,Fin.ok (show Fin Y eqR H1 μ1 (.ok c R) Q E from f1) ah rfl⟩
  |nin n a b=>exact ZiA h λl r q h=>Zst G (Zj a G<|bL h) (Zj b G<|bL<|bR h) (bR<|bR h)
  |_=>exact ff h
 |.ands ts,h=>ZpW h λxs q h=>(tand_ok ts G h).pt
 |.ors ts,h=>ZpW h λxs q h=>(tor_ok ts G h).pt
 |.nt t,h=>Zrl h λy q h=>(ZuT<|tst_ok t G h).imp λZ H Q s=>Sm.bind s λS d R x H1 μ1 ah al rd f1=>by cases rd;exact Fin.ok f1 ah rfl
theorem tand_ok(e:Txs){Γ:Gm}{X:Cx}{E:XK}{k:Nat}{x:List Expr}{pos:Pos}(G:Gd T Γ X Y E k)(h:chkts Γ e x=Ws):PW X (.BoolOp .And x pos) (Zk4 T Y E<|.ands e):=match e,x,h with
 |.one t,x,h=>Zaf h λy h=>(ZrQ<|tst_ok t G h).imp λZ H Q q=>q
 |.cons t ts,[],h=>ff h
 |.cons t ts,[_],h=>ff (bL<|bR h)
 |.cons t ts,x::y::r,h=>(ZuR (tst_ok t G<|bL h)<|tand_ok ts G<|bR<|bR h).imp λZ H Q s=>Sm.bind s λS d R x H1 μ1 ah al rd f1=>by
  cases rd;cases d with
  |true=>exact ZlD ⟨S,R,μ1,ah,al,f1⟩
  |false=>exact ZlE (Fin.ok f1 ah rfl)
theorem tor_ok(e:Txs){Γ:Gm}{X:Cx}{E:XK}{k:Nat}{x:List Expr}{pos:Pos}(G:Gd T Γ X Y E k)(h:chkts Γ e x=Ws):PW X (.BoolOp .Or x pos) (Zk4 T Y E<|.ors e):=match e,x,h with
 |.one t,x,h=>Zaf h λy h=>(ZuQ<|tst_ok t G h).imp λZ H Q q=>q
 |.cons t ts,[],h=>ff h
 |.cons t ts,[_],h=>ff (bL<|bR h)
 |.cons t ts,x::y::r,h=>(ZxA (tst_ok t G<|bL h)<|tor_ok ts G<|bR<|bR h).imp λZ H Q s=>Sm.bind s λS d R x H1 μ1 ah al rd f1=>by
  cases rd;cases d with
  |true=>exact ZlD (Fin.ok f1 ah rfl)
  |false=>exact ZlE ⟨S,R,μ1,ah,al,f1⟩
theorem ifs_ok(c:Option Tx){Γ:Gm}{X:Cx}{E:XK}{k:Nat}{x:List Expr}(G:Gd T Γ X Y E k)(h:chkf Γ c x=Ws):PIf X x (Sm Y E eqR<|tsto T c):=match c,x,h with
 |none,[],h=>λac s Z H Q I sm=>by
  cases sm with
  |mk S h B rh rs f=>exact ZrZ ac s Z H Q I (Fin.ok (show Fin Y eqR H B (.ok Ws h) Q E from f) rh rfl)
 |none,_::_,h=>ff h
 |some t,x,h=>Zaf h λy h=>ZrY (tst_ok t G h)
theorem evi_ok(e:Ix){Γ:Gm}{X:Cx}{E:XK}{k:Nat}{x tg:Expr}(G:Gd T Γ X Y E k)(h:chki Γ e tg x=Ws):PI X tg x (Zzs T Y E e):=match e,h with
 |.pl e,h=>(Zu0<|Zj e G h).imp λZ H Q s=>Sm.bind s λS d R x H1 μ1 ah al rd f1=>by obtain⟨w,ew,f1⟩:=f1.ofO;exact Zrj G.gk.K ah rd ew λqa wj=>f1.ok ah wj
 |.rng e,h=>Zbl h λp ys q h=>Zaf h λy h=>(ZnZ (G.gl<|bL h).1 (G.blt _<|by decide) (Z7 (Zj e G<|bL<|bR h) Zci<|Zy X.env<|bR<|bR h)<|Zy X.env<|bR<|bR h).imp λZ H Q s=>Sm.bind s λS d R x H1 μ1 ah al rd f1=>by
  cases rd with
  |int j=>obtain⟨hz,f1⟩:=Fin.iff<|show Fin Y (WJ Y) H1 μ1 (if ZdU j=Ws then .ok ⟨[],Zbe 0 j.toNat⟩ R else .bad) Q E from f1;exact⟨j,rfl,of_decide_eq_true<|bL hz,of_decide_eq_true<|bR hz,f1.ok ah Zui⟩
  |_=>exact f1.elim
 |.enu e,h=>Zbl h λp ys q h=>Zaf h λy h=>Zqo (bR<|bR<|bR h) λts j r=>(Zr1 (G.gl<|bL h).1 (G.blt _<|by decide) (Z7 (Zj e G<|bL<|bR h) Zci<|Zy X.env<|bL<|bR<|bR h)<|Zy X.env<|bL<|bR<|bR h).imp λZ H Q s=>Sm.bind s λS d R x H1 μ1 ah al rd f1=>by
  obtain⟨w,ew,f1⟩:=f1.ofO;obtain⟨w0,eE,rfl⟩:=Oo.mp ew;cases d with
  |ro xs=>
   cases eE;cases rd with
   |ro t s=>exact⟨_,rfl,⟨_,G.gk.K▸t.sq⟩,f1.ok ah<|Zmm (ZtA G.gk.K ah t s) λH2 μ2 h2 g2 au st=>⟨_,G.gk.K▸(g2.rdF ah t).sq,s.mono ah g2⟩⟩
  |ref i=>obtain⟨xs,hi,rfl⟩:=ZoN eE;obtain⟨a,vs,rfl,hm,hl,s⟩:=rd.lst ah hi;refine⟨a,rfl,⟨vs,.of hl⟩,f1.ok ah<|Zmm (ZoO hm) λH2 μ2 h2 g2 au st=>?_⟩;obtain⟨kT,bX,s2⟩:=au.ob i _ a (ZgC st)<|g2.pre i a hm;exact⟨kT,.of bX,s2⟩
  |_=>cases eE
 |.rev e,h=>Zbl h λp ys q h=>Zaf h λy h=>(Zr0 (G.gl<|bL h).1 (G.blt _<|by decide) (Z7 (Zj e G<|bL<|bR h) Zci<|Zy X.env<|bR<|bR h)<|Zy X.env<|bR<|bR h).imp λZ H Q s=>Sm.bind s λS d R x H1 μ1 ah al rd f1=>by
  obtain⟨w,ew,f1⟩:=f1.ofO;obtain⟨w0,eE,rfl⟩:=Oo.mp ew;cases d with
  |tup xs=>cases eE;obtain⟨a,vs,rfl,t,s⟩:=rd.tup_inv;exact⟨a,vs,rfl,.inl ⟨G.gk.K▸t,f1.ok ah<|Zuj G.gk.K ah t s⟩⟩
  |ref i=>obtain⟨xs,hi,rfl⟩:=ZoN<|show Zgw (.ref i) R=J w0 from eE;obtain⟨a,vs,rfl,hm,hl,s⟩:=rd.lst ah hi;exact⟨a,vs,rfl,.inr ⟨.of hl,by rw[<-s.length];exact f1.ok ah<|Zrg hm⟩⟩
  |_=>cases eE
 |.en1 e,h=>Zt8 h λp ys z r q h=>Zaf h λy h=>Zqo (bL<|bR<|bR<|bR h) λts j tp=>Zyi (bR<|bR<|bR<|bR h) λc jc qc hc=>dS (P:=λc=>PI X _ (.Call _ _ [⟨_,.Constant c _ _,_⟩] _) _) hc <|
  (ZuZ (G.gl<|bL h).1 (G.blt _<|by decide) (Zj e G<|bL<|bR h) ZpH<|Zy X.env<|bL<|bR<|bR h).imp λZ H Q s=>Sm.bind s λS d R x H1 μ1 ah al rd f1=>by
   cases d with
   |tup xs=>obtain⟨a,vs,rfl,t,s⟩:=rd.tup_inv;exact⟨a,rfl,rfl,⟨vs,G.gk.K▸t⟩,f1.ok ah<|Zuk G.gk.K ah t s⟩
   |_=>exact f1.elim
 |.dk e,h=>(ZxC<|Zj e G h).imp λZ H Q s=>Sm.bind s λS d R x H1 μ1 ah al rd f1=>ZvS ah rd f1
theorem pairs_ok(ps:Exs){Γ:Gm}{X:Cx}{E:XK}{k:Nat}{ks:List (Option Expr)}{vs:List Expr}{pos:Pos}(G:Gd T Γ X Y E k)(h:chkp Γ ps ks vs=Ws):PPs X pos ks vs (Zms T Y E ps)/\ks.all (·.isSome)=Ws/\ks.length=vs.length:=match ps,ks,vs,h with
 |.nil,[],[],h=>⟨ZrV,rfl,rfl⟩
 |.nil,[],_::_,h=>ff h
 |.nil,_::_,_,h=>ff h
 |.cons e .nil,ks,vs,h=>ff h
 |.cons e (.cons v r'),[],vs,h=>ff h
 |.cons e (.cons v r'),M::_,vs,h=>ff h
 |.cons e (.cons v r'),J _::_,[],h=>ff h
 |.cons e (.cons v r'),J kx::ks,vx::vs,h=>
  let z:=pairs_ok r' (pos:=pos) G (bR<|bR h)
  ⟨Zpy (Zj e G<|bL h) (Zj v G<|bL<|bR h) z.1,z.2.1,congrArg (·+1) z.2.2⟩
end
def ZcI(e:Expr):Bool:=Wu (tgE e≠13)&&Wu (tgE e≠19)
def ZpY(e:Expr):Bool:=Wu (tgE e≠8)
structure PsS where
 a:Expr:=default
 b:Expr:=default
 o:Option Expr:=M
 c:Option Expr:=M
 ts:List Expr:=[]
 xs:List Stmt:=[]
 ys:List Stmt:=[]
 zs:List Stmt:=[]
 hs:List ExceptHandler:=[]
 op:Operator:=.Add
 p:Pos:=default
 s:Stmt:=default
noncomputable def tgS:Stmt->Nat
 |.Return _ _=>1|.Assign _ _ _=>2|.AugAssign _ _ _ _=>3|.Expr _ _=>4|.If _ _ _ _=>5|.While _ _ _ _=>6|.For _ _ _ _ _=>7|.Pass _=>8|.Break _=>9|.Continue _=>10|.Raise _ _ _=>11|.Try _ _ _ _ _=>12|_=>0
noncomputable def prS(s:Stmt):PsS:=match s with
 |.Return o p=>{o:=o,p:=p}
 |.Assign ts a p=>{ts:=ts,a:=a,p:=p}
 |.AugAssign a op b p=>{a:=a,op:=op,b:=b,p:=p}
 |.Expr a p=>{a:=a,p:=p}
 |.If a xs ys p=>{a:=a,xs:=xs,ys:=ys,p:=p}
 |.While a xs ys p=>{a:=a,xs:=xs,ys:=ys,p:=p}
 |.For a b xs ys p=>{a:=a,b:=b,xs:=xs,ys:=ys,p:=p}
 |.Pass p=>{p:=p}
 |.Break p=>{p:=p}
 |.Continue p=>{p:=p}
 |.Raise o c p=>{o:=o,c:=c,p:=p}
 |.Try xs hs ys zs p=>{xs:=xs,hs:=hs,ys:=ys,zs:=zs,p:=p}
 |_=>{s:=s}
noncomputable def mkS(n:Nat)(p:PsS):Stmt:=match n with
 |1=>.Return p.o p.p|2=>.Assign p.ts p.a p.p|3=>.AugAssign p.a p.op p.b p.p|4=>.Expr p.a p.p|5=>.If p.a p.xs p.ys p.p|6=>.While p.a p.xs p.ys p.p|7=>.For p.a p.b p.xs p.ys p.p
 |8=>.Pass p.p|9=>.Break p.p|10=>.Continue p.p|11=>.Raise p.o p.c p.p|12=>.Try p.xs p.hs p.ys p.zs p.p|_=>p.s
def rbS(s):mkS (tgS s) (prS s)=s:=by cases s<;>rfl
@[irreducible] def anS(n:Nat)(s:Stmt)(f:PsS->Bool):Bool:=Wu (tgS s=n)&&f (prS s)
section
variable {P:Stmt->Prop}{s:Stmt}
def Zau(h:anS n s f=Ws)(k:∀p,f p=Ws->P (mkS n p)):P s:=by unfold anS at h;exact rbS s▸dS (P:=λm=>P<|mkS m<|prS s) (bL h) (k _<|bR h)
noncomputable def oSm{α:Type}(o:Option α)(f:α->Bool):Bool:=match o with
 |some x=>f x
 |none=>Wt
def ZgU{α}{P:Option α->Prop}{o}{f}(h:oSm o f=Ws)(k:∀x,f x=Ws->P (J x)):P o:=by
 cases o with
 |none=>exact ff h
 |some x=>exact k x h
noncomputable def oNo{α:Type}(o:Option α)(b:Bool):Bool:=o.isNone&&b
def Zvk{α}{P:Option α->Prop}{o}(h:oNo o b=Ws)(k:b=Ws->P M):P o:=by
 cases o with
 |none=>exact k h
 |some x=>exact ff h
@[irreducible] def aAs(s:Stmt)(f:Expr->Expr->Bool):Bool:=anS 2 s λp=>l1 p.ts λg=>f g p.a
def ZkV(h:aAs s f=Ws)(k:∀g x q,f g x=Ws->P (.Assign [g] x q)):P s:=by unfold aAs at h;exact Zau h λp h=>Zaf (P:=λts=>P<|.Assign ts p.a p.p) h λ_ h=>k _ _ _ h
end
@[irreducible] def Zub(Γ:Gm)(C:Str)(x:Expr)(f:Expr->Bool):Bool:=aCN C x λys=>l1 ys λy=>Wu (C∈Γ.kl.xs)&&(glb Γ C&&(Z3 y&&f y))
def aTb(N:List Str)(own:Str->Bool)(i:Nat)(b:List Stmt)(f:Expr->Bool):Bool:=l1 b λs=>aAs s λg x=>Zll N own i g&&f x
def Zw1{P:List Stmt->Prop}(h:aTb N own i b f=Ws)(k:∀n p x q,N[i]?=J n->own n=Ws->f x=Ws->P [.Assign [.Name n p] x q]):P b:=Zaf h λ_ h=>ZkV (P:=λs=>P [s]) h λ_ x q h=>Zbx (bL h) λ_ _ e1 e2=>k _ _ _ _ e1 e2 (bR h)
noncomputable def Zyk:Ex->Bool
 |.comp _ _ _ _ _ _|.any=>Ws
 |_=>Wt
def Zrp(Γ:Gm)(n:Nat)(C c W A B_ y m:Str):Bool:=
 Wu ((C,c)∈Γ.kl.xa)&&(Wu ((c,W,Ws)∈Γ.kl.xi)&&(Wu ((c,A,Wt)∈Γ.kl.xi)&&(Wu ((c,B_,Wt)∈Γ.kl.xi)&&(([W,A,B_].all λw=>glb Γ w&&!Wu (w=O "ValueError"))&&(glb Γ C&&(glb Γ (O "isinstance") &&
  (Wu (Γ.N[n]?=J m)&&(Wu (Γ.sc.names.lookup m=J .local)&&(Wu ((m==("__debug__" : Str))=Wt)&&(Wu ((m==("__classdict__" : Str))=Wt)&&(ZoP Γ.sc y&&(Wu ((y==("__debug__" : Str))=Wt)&&(Wu ((y==("__classdict__" : Str))=Wt)&&Wu (y≠m))))))))))))))
noncomputable def yAt(Γ:Gm)(i:Nat):Str:=(Γ.N[i]?).getD (O "")
def Zt9(Γ:Gm)(i n:Nat)(C c W A B_:Str)(hs:List ExceptHandler):Bool:=l1 hs λh=>match h with
 |.ExceptHandler t m b _=>oSm m λm=>oSm t λt=>aX C t (Zrp Γ n C c W A B_ (yAt Γ i) m&&aTb Γ.N (ownD Γ.sc) i b λx=>aX m x Ws)
def ZwW{P:List ExceptHandler->Prop}(h:Zt9 Γ i n C c W A B_ hs=Ws)(k:∀np m y p q z mp,Zrp Γ n C c W A B_ y m=Ws->Γ.N[i]?=J y->ownD Γ.sc y=Ws->P [.ExceptHandler (J<|.Name C np) (J m) [.Assign [.Name y p] (.Name m mp) q] z]):P hs:=
 Zaf h λy h=>match y,h with
  |.ExceptHandler t m b z,h=>ZgU (P:=λm=>P [.ExceptHandler t m b z]) h λm h=>ZgU (P:=λt=>P [.ExceptHandler t (J m) b z]) h λt h=>Zgt h λnp h=>Zw1 (P:=λb=>P [.ExceptHandler (J _) (J m) b z]) (bR h) λy p x q e1 e2 h5=>Zgt h5 λmp _=>k np m y p q z mp (by have t:=bL h;unfold yAt at t;rw[e1]at t;exact t) e1 e2
def Zua(y W A B_:Str)(s:Stmt):Bool:=anS 1 s λp=>oSm p.o λx=>aO .And x λxs=>l2 xs λu v=>aCN (O "isinstance") u (λys=>l2 ys λa b=>aX y a<|aX W b Ws)&&aU .Not v λw=>aCN (O "isinstance") w λys=>l2 ys λa b=>aX y a (aT b λzs=>l2 zs λc d=>aX A c<|aX B_ d Ws)
def Zxj{P:Stmt->Prop}(h:Zua y W A B_ s=Ws)(k:∀p1 p2 p3 p4 p5 p6 p7 p8 x1 p9 df de c9 fu,P<|.Return (J<|.BoolOp .And [.Call (.Name (O "isinstance") p1) [.Name y p2,.Name W p3] [] p4,.UnaryOp .Not (.Call (.Name (O "isinstance") p5) [.Name y p6,.Tuple [.Name A p7,.Name B_ p8] x1 p9] [] df) de] c9) fu):P s:=
 Zau h λp h=>ZgU (P:=λo=>P<|.Return o p.p) h λx h=>ZpW h λxs c9 h=>Ziq h λu v h=>
  Zbl (bL h) λp1 ys p4 R=>Ziq R λa b R=>
  Zgt R λp2 R=>Zgt R λp3 _=>
  Zrl (bR h) λw de h=>Zbl h λp5 ys df h=>
  Ziq h λa b h=>Zgt h λp6 h=>
  ZiK h λzs x1 p9 h=>Ziq h λc d h=>
  Zgt h λp7 h=>Zgt h λp8 _=>k p1 p2 p3 p4 p5 p6 p7 p8 x1 p9 df de c9 p.p
mutual
noncomputable def ZyF(Γ:Gm):Sx->Stmt->Bool
 |.ret e,s=>anS 1 s λp=>oSm p.o λx=>chk Γ e x
 |.set g e,s=>aAs s λtg x=>Ztb Γ.N (ownD Γ.sc) g tg&&(chk Γ e x&&((ZcI x&&(!isTup tg||ZpY x))||(Wu (tgE tg=6)&&Zyk e)))
 |.put o i e,s=>aAs s λtg x=>aS tg λxo xi=>chk Γ o xo&&(chk Γ i xi&&(chk Γ e x&&(Zdf xi&&ZcI x)))
 |.npt o i e,s=>aAs s λtg x=>aS tg λxo xi=>chk Γ o xo&&(chk Γ i xi&&(chk Γ e x&&(Zdf xi&&ZcI x)))
 |.aug i op e,s=>anS 3 s λp=>Zll Γ.N (ownD Γ.sc) i p.a&&(Wu (p.op=.Add)&&(Wu (op=.Add)&&chk Γ e p.b))
 |.drp e,s=>anS 4 s λp=>chk Γ e p.a&&ZcI p.a
 |.iff c a b,s=>anS 5 s λp=>chkt Γ c p.a&&(chkSs Γ a p.xs&&chkSs Γ b p.ys)
 |.whl c b,s=>anS 6 s λp=>l0 p.ys (chkt Γ c p.a&&chkSs Γ b p.xs)
 |.forr g it b,s=>anS 7 s λp=>l0 p.ys (chki Γ it p.a p.b&&(Zck p.b&&(Ztb Γ.N (ownD Γ.sc) g p.a&&chkSs Γ b p.xs)))
 |.pas,s=>anS 8 s λ_=>Ws
 |.brk,s=>anS 9 s λ_=>Ws
 |.cnt,s=>anS 10 s λ_=>Ws
 |.seta Cs o f e,s=>aAs s λtg x=>aA f tg λxo _=>chk Γ o xo&&(chk Γ e x&&(ZcI x&&((Cs.all λC=>Wu<|C∈Γ.kl.cs)&&Wu (f∈Γ.kl.ats))))
 |.auga Cs o f e,s=>anS 3 s λp=>Wu (p.op=.Add)&&aA f p.a λxo _=>chk Γ o xo&&(chk Γ e p.b&&((Cs.all λC=>Wu<|C∈Γ.kl.cs)&&Wu (f∈Γ.kl.ats)))
 |.any,_=>Ws
 |.rai C e,s=>anS 11 s λp=>oNo p.c (oSm p.o λx=>Zub Γ C x λy=>chk Γ e y)
noncomputable def chkSs(Γ:Gm):Sxs->List Stmt->Bool
 |.nil,ss=>ss.isEmpty
 |.trq i n f es C c W A B_,ss=>l2 ss λs r=>Zua (yAt Γ i) W A B_ r&&anS 12 s λp=>l0 p.ys (l0 p.zs<|Zt9 Γ i n C c W A B_ p.hs&&l1 p.xs λs=>anS 4 s λp=>aCN f p.a λys=>Wu (f∈Γ.fs)&&(glb Γ f&&(chks Γ es ys&&!ys.isEmpty)))
 |.cons s r,ss=>match ss with
  |x::xs=>ZyF Γ s x&&chkSs Γ r xs
  |[]=>Wt
end
def ZS(Y:Yx)(H:Hp)(B:List Yj)(r:qd (Fl×Ev))(D:Ends)(E:XK):Prop:=match r with
 |.bad=>False
 |.ok p h'=>∀H' μ',Gr H B H' μ'->RH Y H' μ' h'->match p.1 with
  |.nx=>∀σ',RS Y H' μ' p.2 σ'->D.nx σ' H'
  |.bk=>∀σ',RS Y H' μ' p.2 σ'->D.bk σ' H'
  |.ct=>∀σ',RS Y H' μ' p.2 σ'->D.ct σ' H'
  |.rt d=>∀v,RD Y H' μ' d v->D.rt v H'
 |.exc c h'=>∀H' μ' C,Gr H B H' μ'->RH Y H' μ' h'->Y.mg c=J (.ref C)->E (.ref C) M H'
section
variable {Y:Yx}{α β:Type}{rel:Hp->List Yj->α->β->Prop}{H H1:Hp}{B μ1:List Yj}{E:XK}{D:Ends}
def ZS.mono(g:Gr H B H1 μ1)(f:ZS Y H B r D E):ZS Y H1 μ1 r D E:=by
 cases r with
 |bad=>exact f
 |ok a h=>exact λH' μ' g'=>f H' μ' (g.trans g')
 |exc c h=>exact λH' μ' C g'=>f H' μ' C (g.trans g')
theorem ZS.bind(f:ZS Y H B (r.bind k) D E)
 (hk:∀a R b H1 μ1,r=.ok a R->Gr H B H1 μ1->RH Y H1 μ1 R->rel H1 μ1 a b->ZS Y H1 μ1 (k a R) D E->Q1 b H1):Fin Y rel H B r Q1 E:=by
 cases r with
 |bad=>exact f
 |ok a h=>exact λb H' μ' g' rh rl=>hk a h b H' μ' rfl g' rh rl (ZS.mono g' f)
 |exc c h=>exact f
theorem ZS.ofO(f:ZS Y H B ((qd.ofO o h).bind k) D E):∃a,o=J a/\ZS Y H B (k a h) D E:=by
 cases o with
 |none=>exact f.elim
 |some a=>exact⟨a,rfl,f⟩
theorem ZS.nx(f:ZS Y H B (.ok (.nx,S) h) D E)(rh:RH Y H B h)(rs:RS Y H B S Z):D.nx Z H:=f H B Gr.refl rh Z rs
def ZS.part(f:ZS Y H B (r.bind k) D E)
 (hk:∀p R H1 μ1,r=.ok p R->Gr H B H1 μ1->RH Y H1 μ1 R->ZS Y H1 μ1 (k p R) D E->match p.1 with
  |.nx=>∀σ',RS Y H1 μ1 p.2 σ'->D1.nx σ' H1
  |.bk=>∀σ',RS Y H1 μ1 p.2 σ'->D1.bk σ' H1
  |.ct=>∀σ',RS Y H1 μ1 p.2 σ'->D1.ct σ' H1
  |.rt d=>∀v,RD Y H1 μ1 d v->D1.rt v H1):ZS Y H B r D1 E:=by
 cases r with
 |bad=>exact f
 |ok p h=>exact λH' μ' g' rh=>hk p h H' μ' rfl g' rh (ZS.mono g' f)
 |exc c h=>exact f
end
inductive SmS(Y:Yx)(E:XK)(m:Ev->Hd->qd (Fl×Ev))(D:Ends)(Z:L2.St)(H:Hp):Prop
 |mk (S:Ev) (h:Hd) (B:List Yj) (rh:RH Y H B h) (rs:RS Y H B S Z) (f:ZS Y H B (m S h) D E):SmS Y E m D Z H
def Zrz(T:Tb)(Y:Yx)(E:XK)(s:Sx):TS:=SmS Y E (xs1 T s)
def ZjN(T:Tb)(Y:Yx)(E:XK)(s:Sxs):TS:=SmS Y E (xs2 T s)
theorem SmS.bind{D}{γ δ}{rel}{m}{k:Ev->γ->Hd->qd (Fl×Ev)}{Q1:δ->Hp->Prop}(s:SmS Y E (λS h=>(m S h).bind<|k S) D Z H)
 (hk:∀S d R v H1 μ1,RH Y H1 μ1 R->RS Y H1 μ1 S Z->rel H1 μ1 d v->ZS Y H1 μ1 (k S d R) D E->Q1 v H1):Sm Y E rel m Z H Q1:=by
 cases s with
 |mk S h B rh rs f=>exact⟨S,h,B,rh,rs,f.bind λd R x H1 μ1 _ g ah rd f1=>hk S d R x H1 μ1 ah (rs.mono rh g) rd f1⟩
def Sm.at{α β}{rel}{m:Ev->Hd->qd α}{Q1:β->Hp->Prop}{Q:Prop}(s:Sm Y E rel m Z H Q1)(hk:∀S h B,RH Y H B h->RS Y H B S Z->Fin Y rel H B (m S h) Q1 E->Q):Q:=by
 cases s with
 |mk S h B rh rs f=>exact hk S h B rh rs f
def SmS.at{D}{Q:Prop}(s:SmS Y E m D Z H)(hk:∀S h B,RH Y H B h->RS Y H B S Z->ZS Y H B (m S h) D E->Q):Q:=by
 cases s with
 |mk S h B rh rs f=>exact hk S h B rh rs f
def _root_.L2.PS.imp(h:PS X s t)(i:∀D Z H,t' D Z H->t D Z H):PS X s t':=λac s Z H D I q=>h ac s Z H D I (i D Z H q)
def _root_.L2.PSs.imp(h:PSs X s t)(i:∀D Z H,t' D Z H->t D Z H):PSs X s t':=λac s Z H D I q=>h ac s Z H D I (i D Z H q)
structure XOk(K:Yl)(a:Yj):Prop extends ExcN K a where
 own:PySem.W.excIn K a [.type "ValueError",.type "Exception",.type "BaseException",.type "object"] "ValueError.__new__"=Ws
 sub:YT K (.ref a) (.ref a)=J Ws
structure GdS(T:Tb)(Γ:Gm)(X:Cx)(Y:Yx)(E:XK)(k:Nat):Prop extends Gd T Γ X Y E k where
 top:Γ.top=Ws
 fnt:∀x,X.fn x=Ws
 own:PassesOwn (model X.prog X.w) X.A X.env X.xe
 bk:X.env.blockKind=.function
 rz:Zjz X E
 stk:X.stack=X.env::X.outer
 frm:X.env.frame=J X.env.locals
 xcs:∀C∈Γ.kl.xs,∃a,X.mg C=J (.ref a)/\XOk X.K a
 xas:∀p∈Γ.kl.xa,∃a b,X.mg p.1=J (.ref a)/\X.mg p.2=J (.ref b)/\XAs X.K a b
 xis:∀p∈Γ.kl.xi,∃b v,X.mg p.1=J (.ref b)/\ClV X.mg p.2.1 v/\PySem.W.kitOne X.K (.ref b) v=J p.2.2
theorem GdS.ownD(G:GdS T Γ X Y E k):∀x,ownD Γ.sc x=Ws->Loc X.env.scope x/\(X.fn x=Ws\/X.env.scope.names.lookup x=J .local):=by intro x h;refine⟨?_,.inl<|G.fnt x⟩;unfold IV.ownD at h;rw[G.sc G.top];rw[Wo]at h;exact h.imp of_decide_eq_true of_decide_eq_true
def ZdQ(h:ZcI x=Ws):swapsWith x t n env=pure Wt:=(kdE x).sw (of_decide_eq_true<|bL h) (of_decide_eq_true<|bR h) _ _ _
def Zo6(G:GdS T Γ X Y E k)(hi:Γ.N[i]?=J y)(ho:ownD Γ.sc y=Ws)(hx:Zyk e=Ws)(h:chk Γ e x=Ws):PS X (.Assign [.Name y py] x spos) (ZnK (Zah T Y E e)<|Zc0 i):=by
 obtain⟨o1,o2⟩:=G.ownD y ho;cases e with
 |comp NC js it g c e=>
  refine ZtW h (λaE tg iter a9 scope q h pe=>?_)<|Zj _ G.toGd h;cases sw:(X.env.blockKind==.function&&X.env.kindOf y==J .local&&py.line==q.line&&!(scope.names.any λ(n,k)=>n==y&&(k==.local||k==.cell)))with
  |true=>
   have S_:=Zks<|bL<|bR h;rw[<-G.N,<-G.sc (bL h)]at S_;have Gc:=λC s3 H3 fp=>G.toGd.comp NC scope C s3 H3 fp S_.nd;have h':=bR<|bR h;exact(Zk9 (g:=tgR X.K g) (tc:=Sm Y E0 eqR<|tsto T c) (te:=Zah T Y E0 e) G.nd (G.N▸hi) o1 o2 S_ rfl G.calm (evi_ok it G.toGd<|bL h') (λC s3 H3 fp=>⟨ZmM rfl S_.nd rfl (λx hx=>ZmQ (scope:=scope) X hx)<|bL<|bR<|bR h',ifs_ok c (Gc C s3 H3 fp)<|bL<|bR<|bR<|bR<|bR h',Zj e (Gc C s3 H3 fp)<|bR<|bR<|bR<|bR<|bR h'⟩) (Zw0 X.K g) (λj hj=>of_decide_eq_true<|OC.mp (bL<|bR<|bR<|bR h') j<|List.mem_range.mpr hj) (Zk2 X.env<|bL<|bR h')<|congrArg pure sw).imp
    λD Z H s=>Sm.bind s λS w R qa H1 μ1 ah al wj f1 D hD=>Znm G.gk.K (λ_ _ _ z=>z) ah al wj f1 hD
  |false=>exact Zla G.nd (G.N▸hi) o1 pe (congrArg pure sw) o2
 |any=>exact λac s Z H D I s=>Sm.at s λ_ _ _ _ _ f=>f.elim
 |_=>exact ff hx
def ZmD(ht:isTup tg=Ws)(pg:PG X tg g)(he:PE X x te)(h3:(ZcI x&&(!isTup tg||ZpY x))=Ws):PS X (.Assign [tg] x pos) (ZnK te g):=Zqo ht (λ_ _ _ pg h3=>Zlb he pg (by unfold swapsWithSole;exact ZdQ<|bL ‹_›) ((kdE x).st (of_decide_eq_true h3) _ _ _ _) rfl) pg (bR h3)
def Zwq{T}(G:Gd T Γ X Y E k)(hc:(Cs.all λC=>Wu<|C∈Γ.kl.cs)=Ws)(hf:f∈Γ.kl.ats){D}(ah:RH Y H1 μ1 R)(al:RS Y H1 μ1 S Z)(rd:RD Y H1 μ1 d x)
 (f1:ZS Y H1 μ1 ((ZeC Cs f d R).bind λv h2=>(ev T e S h2).bind λy h3=>match v,y with
  |.int a,.int b=>if (ZT d R).map (·.1)=(ZT d h3).map (·.1)then(ZhX Cs f d (.int<|a+b) h3).bind λ_ h4=>.ok (.nx,S) h4 else .bad
  |_,_=>.bad) D E) :
 ∃a C dx fs v,x=.ref a/\H1 a=J (.ins C dx fs)/\Cls X.K C/\ZaZ X.K C f/\fs.lookup f=J v /\
  Zah T Y E e Z H1 λy H2=>Zxz v y H2 λz H3=>∃cM br,H3 a=J (.ins C cM br)/\br.length<1000/\D.nx Z (upd H3 a<|.ins C cM<|Zct f z br):=by
 unfold ZeC at f1;cases ei:ZT d R with
 |none=>rw[ei]at f1;trivial
 |some p=>
  obtain⟨C,fs⟩:=p;rw[ei]at f1;simp only at f1;by_cases hC:C∈Cs
  . rw[if_pos hC]at f1;obtain⟨w,e1,f1⟩:=f1.ofO;obtain⟨i,a,Ca,dx,gs,rfl,rfl,q,hi,z,m,s⟩:=Zg7 ah rd ei;obtain⟨v,l,rv⟩:=(s.look (f:=f)).1 w e1;have dO:=hc;rw[OC]at dO;obtain⟨kQ,m',cl,na⟩:=G.cls C<|of_decide_eq_true<|dO C hC;have m0:=m;rw[G.gk.mg,m']at m;cases m;refine⟨a,Ca,dx,gs,v,rfl,z,cl,na f hf,l,S,R,μ1,ah,al,ZS.bind f1 λy h3 u H3 μ3 _ g3 aM ry f3=>?_⟩;cases w with
    |int p=>
     cases y with
     |int r=>
      cases rv;cases ry;refine⟨p,r,rfl,rfl,?_⟩;simp only at f3;by_cases hk:Option.map (·.1) (J (C,fs))=(ZT (.ref i) h3).map (·.1)
      . rw[if_pos hk]at f3;obtain⟨a',C',cM,br,e4,z',_,_,l',nx⟩:=Zo5 (Q:=λ_ H'=>D.nx Z H') G hc hf aM (rd.mono ah g3) (.int _)<|ZS.bind f3 λ_ h4 _ H4 μ4 _ g4 cY _ f4=>f4.nx cY<|(al.mono ah g3).mono aM g4;cases e4;cases e5:ZT (.ref i) h3 with
        |none=>rw[e5]at hk;cases hk
        |some p3=>obtain⟨C3,ou⟩:=p3;rw[e5]at hk;cases hk;obtain⟨i3,a3,oH,oC,oo,e6,e7,_,_,z3,m3,_⟩:=Zg7 aM (rd.mono ah g3) e5;cases e7;rw[m0]at m3;cases m3;rw[z']at z3;cases z3;exact⟨cM,br,z',l',nx⟩
      . rw[if_neg hk]at f3;exact f3.elim
     |_=>exact f3.elim
    |_=>exact f3.elim
  . rw[if_neg hC]at f1;exact f1.elim
theorem _root_.IV.Gd.nox(G:Gd T Γ X Y E k):Gd T Γ X.nox Y E0 k:=⟨⟨G.gk.K,G.gk.mg,G.gk.gd,G.gk.g,G.gk.bare⟩,G.N,G.sc,G.vis,G.glo,G.nd,G.calm,G.room,G.h60,Zil,G.defs,G.blt,G.room1,G.cls,G.mts,G.mks⟩
def ZoJ(f:Fin Y rel H B r.plain Q E):Fin Y rel H B r Q E0:=by
 cases r with
 |bad=>trivial
 |ok a h=>exact f
 |exc c h=>trivial
def ZmO{D D1:Ends}{k:Ev->Hd->qd (Fl×Ev)}(f:ZS Y H B (r.bind λp h2=>match p with
 |(.nx,ρ2)=>k ρ2 h2
 |(.ct,ρ2)=>k ρ2 h2
 |(.bk,ρ2)=>.ok (.nx,ρ2) h2
 |(.rt d,ρ2)=>.ok (.rt d,ρ2) h2) D E) (hn:∀ρ2 h2 H2 μ2 σ',Gr H B H2 μ2->RH Y H2 μ2 h2->RS Y H2 μ2 ρ2 σ'->ZS Y H2 μ2 (k ρ2 h2) D E->D1.nx σ' H2) (hc:D1.ct=D1.nx) (hb:D1.bk=D.nx) (hr:D1.rt=D.rt):ZS Y H B r D1 E:=
 ZS.part f λp h2 H2 μ2 _ g2 au f2=>by
  obtain⟨fl,ρ2⟩:=p;cases fl with
  |nx=>exact λσ' bJ=>hn ρ2 h2 H2 μ2 σ' g2 au bJ f2
  |ct=>rw[hc];exact λσ' bJ=>hn ρ2 h2 H2 μ2 σ' g2 au bJ f2
  |bk=>rw[hb];exact λσ' bJ=>ZS.nx f2 au bJ
  |rt d=>rw[hr];exact λv rv=>f2 H2 μ2 Gr.refl au v rv
def Zul{D}(s:Zrz T Y E (.whl c b) D Z H):ZoZ (Zk4 T Y E c) (ZjN T Y E b) D Z H:=by
 refine⟨λm=>SmS Y E (ZE (tst T c) (xs2 T b) m) D,⟨T.L,s⟩,λm Z H s=>?_⟩;cases m with
 |zero=>exact SmS.at s λ_ _ _ _ _ f=>f.elim
 |succ m=>
  refine SmS.bind s λS t R v H1 μ1 ah al rd f1=>?_;cases rd;cases t with
  |false=>exact ZlE (ZS.nx f1 ah al)
  |true=>exact ZlD ⟨SmS Y E (ZE (tst T c) (xs2 T b) m) D,λσ' H' q=>⟨m,OH m,q⟩,S,R,μ1,ah,al,ZmO f1 (λρ2 h2 H2 μ2 σ' _ au fh f2=>⟨ρ2,h2,μ2,au,fh,f2⟩) rfl rfl rfl⟩
inductive FwS(Y:Yx)(E:XK)(H1:Hp)(μ1:List Yj)(n i:Nat)(F:Ev->Hd->qd (Fl×Ev))(D:Ends)(m:Nat)(Z:L2.St)(H:Hp):Prop
 |mk (S:Ev) (h:Hd) (B:List Yj) (hi:i<=n) (hm:m=n-i) (g:Gr H1 μ1 H B) (rh:RH Y H B h) (rs:RS Y H B S Z) (f:ZS Y H B (F S h) D E):FwS Y E H1 μ1 n i F D m Z H
def ZvU{K}{g}{D}(hY:Y.K=K)(ah:RH Y H1 μ1 R)(al:RS Y H1 μ1 S Z)(wj:WJ Y H1 μ1 w qa)(f1:ZS Y H1 μ1 (ZW w.src g (xs2 T b) w.xs S R) D E):∃W:Nat->Nat->L2.St->Hp->Prop,(∃m,W 0 m Z H1)/\∀i m Z H,W i m Z H ->
 (qa.stop i H/\D.nx Z H)\/(qa.go i H/\∃B_:L2.St->Hp->Prop,(∀σ' H',B_ σ' H'->∃m',m'<m/\W (i+1) m' σ' H')/\∀x H',qa.yld i H x H'->tgR K g x Z H' λσ' jP=>ZjN T Y E b {D with nx:=B_,ct:=B_,bk:=D.nx} σ' jP):=by
 refine⟨λi=>FwS Y E H1 μ1 w.xs.length i (λS=>ZW w.src g (xs2 T b) (w.xs.drop i) S) D,⟨w.xs.length,S,R,μ1,Yy _,(Nat.sub_zero _).symm,Gr.refl,ah,al,f1⟩,λi m Z H s=>?_⟩;cases s with
 |mk S h B hi hm g0 rh rs f=>
  subst hm;by_cases hs:Wk.stays w.src h=Ws
  . by_cases aC:i<w.xs.length
    . rw[List.drop_eq_getElem_cons aC,ZW,if_pos hs]at f;obtain⟨go,yl⟩:=(wj H B h g0 rh hs).1 i _<|Og aC;refine .inr ⟨go,FwS Y E H1 μ1 w.xs.length (i+1) (λS=>ZW w.src g (xs2 T b) (w.xs.drop<|i+1) S) D<|w.xs.length-(i+1),λσ' H' q=>⟨_,Nat.sub_lt_sub_left aC<|OH i,q⟩,λx H' hy=>?_⟩;obtain⟨g2,au,rx⟩:=yl x H' hy;split at f
      . trivial
      . rename_i ρ1 hb;exact Zjp hY rx (rs.mono rh g2) hb λσ1 al=>⟨ρ1,h,B,au,al,ZmO (ZS.mono g2 f) (λρ2 h3 H3 μ3 σ' g3 aM kX f3=>⟨ρ2,h3,μ3,aC,rfl,(g0.trans g2).trans g3,aM,kX,f3⟩) rfl rfl rfl⟩
    . have he:=Nat.le_antisymm hi<|Nat.le_of_not_lt aC;subst he;rw[List.drop_eq_nil_of_le<|Oq _,ZW,if_pos hs]at f;exact .inl ⟨(wj H B h g0 rh hs).2,ZS.nx f rh rs⟩
  . cases e:w.xs.drop i with
    |nil=>rw[e,ZW,if_neg hs]at f;exact f.elim
    |cons _ _=>rw[e,ZW,if_neg hs]at f;exact f.elim
def Zur{X:Cx}{D}(hb:Y.mg c=J (.ref wc)/\YT X.K (.ref wc) (.ref ca)=J Ws/\ExcA X.K wc)(k1:PySem.W.kitOne X.K (.ref wc) (.ref wa)=J Ws)(k2:PySem.W.kitOne X.K (.ref wc) (.ref aa)=J Wt)(k3:PySem.W.kitOne X.K (.ref wc) (.ref ba)=J Wt)(s:ZjN T Y E (.trq i n f es C c W A B_) D Z H):
 ZtG X.K (Zfs T Y f) ca i n (λa oe D Z H=>∃c,oe.cls=.ref c/\ExcA X.K c/\Z[i]?=J (J<|.ref a)/\PySem.W.kitOne X.K (.ref c) (.ref wa)=J Ws/\PySem.W.kitOne X.K (.ref c) (.ref aa)=J Wt/\PySem.W.kitOne X.K (.ref c) (.ref ba)=J Wt/\∀p,H p=M->D.rt (.bl Ws) (upd H p<|.tup [.ref aa,.ref ba])) (Zk5 T Y E0 es) D Z H:=by
 cases s with
 |mk S h B rh rs ff=>
  refine⟨S,h,B,rh,rs,ZoJ<|ZS.bind ff λds R vs H1 μ1 _ g1 ah bN f1=>⟨ds,R,μ1,ah,bN,?_⟩⟩;cases q:T.C f ds R with
  |bad=>rw[q]at f1;trivial
  |ok w h2=>rw[q]at f1;trivial
  |exc w h2=>
   rw[q]at f1;unfold ZlT at f1;by_cases e:w=c
   . subst e;simp only at f1;intro H' μ' C' g2 au mc;rw[hb.1]at mc;cases mc;exact⟨wc,rfl,hb.2.1,λa oe σ' R hs=>⟨wc,R,hb.2.2,hs,k1,k2,k3,λp hp=>f1 _ _ (g2.trans<|Gr.lay0 hp) (au.lay0 hp) _<|.bl Ws⟩⟩
   . simp only[if_neg e]at f1;exact f1.elim
def Zus(G:GdS T Γ X Y E k)(hf:f∈Γ.fs)(mL:glb Γ f=Ws)(tq:Zrp Γ n C c W A B_ y m=Ws)(hn:Γ.N[i]?=J y)(jk:ownD Γ.sc y=Ws)(h4:chks Γ es (x::xs)=Ws)(ha:PA X.nox (x::xs) (Zk5 T Y E0 es)):
 PSs X [.Try [.Expr (.Call (.Name f fp) (x::xs) [] cp) ep] [.ExceptHandler (J<|.Name C np) (J m) [.Assign [.Name y px] (.Name m mp) q] z] [] [] pos,.Return (J<|.BoolOp .And [.Call (.Name (O "isinstance") p1) [.Name y p2,.Name W p3] [] p4,.UnaryOp .Not (.Call (.Name (O "isinstance") p5) [.Name y p6,.Tuple [.Name A p7,.Name B_ p8] x1 p9] [] df) de] c9) fu] (ZjN T Y E<|.trq i n f es C c W A B_):=by
 unfold Zrp at tq;obtain⟨ps,fa,aq,hm,hk,hb,F⟩:=G.defs _ hf;obtain⟨g1,g2⟩:=G.gl mL;obtain⟨ca,wc,m1,m2,xo⟩:=G.xas _ (of_decide_eq_true<|bL tq)
 replace tq:=bR tq
 have one:∀{w b},(c,w,b)∈Γ.kl.xi->(glb Γ w&&!Wu (w=O "ValueError"))=Ws->∃wa,X.mg w=J (.ref wa)/\PySem.W.kitOne X.K (.ref wc) (.ref wa)=J b/\Gl X w/\(w==("__debug__"))=Wt:=λ{w b} hx hg=>by
  obtain⟨b',v,e1,cv,ko⟩:=G.xis _ hx;rw[show X.mg c=J (.ref wc)from m2]at e1;cases e1;rcases cv with⟨e,a,rfl⟩|⟨e,_⟩
  . exact⟨a,e,ko,(G.gl<|bL hg).1,(G.gl<|bL hg).2⟩
  . have:=bR hg;rw[show w=O "ValueError" from e]at this;simp at this
 have all:=bL<|bR<|bR<|bR tq;obtain⟨wa,mw,kw,gw,dw⟩:=one (of_decide_eq_true<|bL tq)<|OC.mp all W<|.head _;obtain⟨aa,ma,ka,ga,da⟩:=one (of_decide_eq_true<|bL<|bR tq)<|OC.mp all A<|.tail _<|.head _;obtain⟨ba,mb,kb,gb,db⟩:=one (of_decide_eq_true<|bL<|bR<|bR tq)<|OC.mp all B_<|.tail _<|.tail _<|.head _;have t5:=bR<|bR<|bR<|bR tq;obtain⟨c1,c2⟩:=G.gl<|bL t5;have gi:=(G.gl<|bL<|bR t5).1
 replace t5:=bR (bR t5)
 obtain⟨o1,o2⟩:=G.ownD _ jk;have hi:X.N[i]?=J y:=by rw[G.N];exact hn
 have ju:X.N[n]?=J m:=by rw[G.N];exact of_decide_eq_true (bL t5)
 have hl:X.env.scope.names.lookup m=J .local:=by rw[G.sc G.top];exact of_decide_eq_true (bL<|bR t5)
 replace t5:=bR (bR t5)
 exact(ZjW F G.room g1 hm hk hb ha c1 m1 xo.toExcN G.nd ju hl G.stk G.frm hi (of_decide_eq_true<|bR<|bR<|bR<|bR<|bR t5) o1 o2 (of_decide_eq_true<|bL t5) (of_decide_eq_true<|bL<|bR t5) (λa oe=>ZsN gi (G.blt _<|by decide) hi (G.vis y<|bL<|bR<|bR t5) (of_decide_eq_true<|bL<|bR<|bR<|bR t5) (of_decide_eq_true<|bL<|bR<|bR<|bR<|bR t5) gw mw dw ga ma da gb mb db) g2 c2 (Zc2 X.env h4).1 ((Zc2 X.env h4).2 _) rfl).imp λD Z H s=>Zur ⟨by rw[G.gk.mg];exact m2,xo.sub,xo.at'⟩ kw ka kb s
mutual
theorem Zxd(s:Sx){Γ:Gm}{X:Cx}{E:XK}{k:Nat}{x:Stmt}(G:GdS T Γ X Y E k)(h:ZyF Γ s x=Ws):PS X x (Zrz T Y E s):=match s,h with
 |.ret e,h=>Zau (P:=λx=>PS X x _) h λp h=>ZgU (P:=λo=>PS X (.Return o p.p) _) h λy h=>(Zpv<|Zj e G.toGd h).imp λD Z H s=>SmS.bind s λS d R v H1 μ1 ah al rd f1=>f1 H1 μ1 Gr.refl ah v rd
 |.set g e,h=>ZkV (P:=λx=>PS X x _) h λtg xe pos h=>by
  have fin:∀{D:Ends}{Z:L2.St}{H:Hp},Zrz T Y E (.set g e) D Z H->ZnK (Zah T Y E e) (tgR X.K g) D Z H:=λ{D Z H} s=>SmS.bind s λS d R v H1 μ1 ah al rd f1=>by obtain⟨ρ1,eb,f1⟩:=f1.ofO;exact Zjp G.gk.K rd al eb λσ1 fh=>f1.nx ah fh
  have pg:=ZmM (X:=X) G.N G.nd G.calm G.ownD<|bL h;refine bO (bR<|bR h) (λh3=>?_) λh3=>?_
  . cases g with
    |nm i=>exact Zbx (P:=λt=>PS X (.Assign [t] _ _) _) (bL h) λy py e1 e2=>(Zla G.nd (by rw[G.N];exact e1) (G.ownD y e2).1 (Zj e G.toGd<|bL<|bR h) (ZdQ<|bL h3) (G.ownD y e2).2).imp λD Z H q=>fin q
    |two i j=>exact(ZmD (ZiK (P:=λt=>isTup t=Ws) (show ZqQ Γ.N (ownD Γ.sc) i j tg=Ws from bL h) λ_ _ _ _=>rfl) pg (Zj e G.toGd<|bL<|bR h) h3).imp λD Z H q=>fin q
    |many is=>exact(ZmD (ZiK (P:=λt=>isTup t=Ws) (show ZqP Γ.N (ownD Γ.sc) is tg=Ws from bL h) λ_ _ _ _=>rfl) pg (Zj e G.toGd<|bL<|bR h) h3).imp λD Z H q=>fin q
  . cases g with
    |nm i=>exact Zbx (P:=λt=>PS X (.Assign [t] _ _) _) (bL h) λy py e1 e2=>(Zo6 G e1 e2 (bR h3)<|bL<|bR h).imp λD Z H q=>fin q
    |two i j=>exact ff (ZiK (P:=λt=>Wu (tgE t=6)=Ws->Wt=Ws) (show ZqQ Γ.N (ownD Γ.sc) i j tg=Ws from bL h) (λ_ _ _ _ z=>z)<|bL h3)
    |many is=>exact ff (ZiK (P:=λt=>Wu (tgE t=6)=Ws->Wt=Ws) (show ZqP Γ.N (ownD Γ.sc) is tg=Ws from bL h) (λ_ _ _ _ z=>z)<|bL h3)
 |.put o i e,h=>ZkV (P:=λx=>PS X x _) h λtg xe p2 h=>Zo7 (P:=λt=>PS X (.Assign [t] _ _) _) h λxo xi p1 h=>
  (Zlb (pos:=p2) (Zj e G.toGd<|bL<|bR<|bR h) (ZpB (pos:=p1) (Zj o G.toGd<|bL h) (Zj i G.toGd<|bL<|bR h) (ZuS (Y:=Y) (E:=E))<|(kdE xi).put (of_decide_eq_true<|bL<|bR<|bR<|bR h) _ _ _) (by unfold swapsWithSole;exact ZdQ<|bR<|bR<|bR<|bR h) rfl rfl).imp λD Z H s=>SmS.bind s λS d R v H1 μ1 ah al rd f1=>
   ⟨S,R,μ1,ah,al,f1.bind λd2 h2 v2 H2 μ2 _ g2 au cZ f2=>⟨S,h2,μ2,au,al.mono ah g2,f2.bind λd3 h3 v3 H3 μ3 _ g3 aM fi f3=>⟨d2,d3,d,h3,μ3,aM,cZ.mono au g3,fi,(rd.mono ah g2).mono au g3,f3.bind λ_ h4 _ H4 μ4 _ g4 cY _ f4=>f4.nx cY<|((al.mono ah g2).mono au g3).mono aM g4⟩⟩⟩
 |.npt o i e,h=>ZkV (P:=λx=>PS X x _) h λtg xe p2 h=>Zo7 (P:=λt=>PS X (.Assign [t] _ _) _) h λxo xi p1 h=>
  (Zlb (pos:=p2) (Zj e G.toGd<|bL<|bR<|bR h) (ZpB (pos:=p1) (Zj o G.toGd<|bL h) (Zj i G.toGd<|bL<|bR h) (Zvm (Y:=Y) (E:=E) G.room G.gk.K)<|(kdE xi).put (of_decide_eq_true<|bL<|bR<|bR<|bR h) _ _ _) (by unfold swapsWithSole;exact ZdQ<|bR<|bR<|bR<|bR h) rfl rfl).imp λD Z H s=>SmS.bind s λS d R v H1 μ1 ah al rd f1=>
   ⟨S,R,μ1,ah,al,f1.bind λd2 h2 v2 H2 μ2 _ g2 au cZ f2=>⟨S,h2,μ2,au,al.mono ah g2,f2.bind λd3 h3 v3 H3 μ3 _ g3 aM fi f3=>⟨d2,d3,d,h3,μ3,aM,cZ.mono au g3,fi,(rd.mono ah g2).mono au g3,f3.bind λ_ h4 _ H4 μ4 _ g4 cY _ f4=>f4.nx cY<|((al.mono ah g2).mono au g3).mono aM g4⟩⟩⟩
 |.aug i op e,h=>Zau (P:=λx=>PS X x _) h λp h=>Zbx (P:=λa=>PS X (.AugAssign a _ _ _) _) (bL h) λy py e1 e2=>dS (P:=λo=>PS X (.AugAssign _ o _ _) _) (bL<|bR h) <| dS (P:=λo=>PS X _<|Zrz T Y E<|.aug i o e) (bL<|bR<|bR h) <|
  (ZuW G.nd (by rw[G.N];exact e1) (G.ownD _ e2).1 (Zj e G.toGd<|bR<|bR<|bR h) ZvM (G.ownD _ e2).2).imp λD Z H s=>SmS.at s λS h B rh rs f=>by
   obtain⟨d,ed,f⟩:=ZS.ofO f;obtain⟨v,ev,rd⟩:=rs.var ed;refine⟨v,ev,S,h,B,rh,rs,ZS.bind f λd2 h2 v2 H2 μ2 _ g2 au cZ f2=>?_⟩;cases rd with
   |int a=>
    cases cZ with
    |int b=>exact⟨a,b,rfl,rfl,ZS.nx f2 au<|(rs.mono rh g2).set<|.int _⟩
    |_=>exact f2.elim
   |_=>exact f2.elim
 |.drp e,h=>Zau (P:=λx=>PS X x _) h λp h=>(ZrU (Zj e G.toGd<|bL h)<|ZdQ<|bR h).imp λD Z H s=>SmS.bind s λS d R v H1 μ1 ah al rd f1=>f1.nx ah al
 |.iff c a b,h=>Zau (P:=λx=>PS X x _) h λp h=>(ZxB (tst_ok c G.toGd<|bL h) (sts_ok a G<|bL<|bR h)<|sts_ok b G<|bR<|bR h).imp λD Z H s=>SmS.bind s λS t R v H1 μ1 ah al rd f1=>by
  cases rd;cases t with
  |true=>exact ZlD ⟨S,R,μ1,ah,al,f1⟩
  |false=>exact ZlE ⟨S,R,μ1,ah,al,f1⟩
 |.whl c b,h=>Zau (P:=λx=>PS X x _) h λp h=>Zir (P:=λys=>PS X (.While _ _ ys _) _) h λh=>(Zpu G.own (tst_ok c G.toGd<|bL h)<|sts_ok b G<|bR h).imp λD Z H s=>Zul s
 |.forr g it b,h=>Zau (P:=λx=>PS X x _) h λp h=>Zir (P:=λys=>PS X (.For _ _ _ ys _) _) h λh=>(ZuU G.own G.calm (evi_ok it G.toGd<|bL h) (ZmM (X:=X) G.N G.nd G.calm G.ownD<|bL<|bR<|bR h) (sts_ok b G<|bR<|bR<|bR h)<|Zk2 X.env<|bL<|bR h).imp λD Z H s=>SmS.bind s λS w R qa H1 μ1 ah al wj f1=>ZvU G.gk.K ah al wj f1
 |.pas,h=>Zau (P:=λx=>PS X x _) h λp h=>ZrT.imp λD Z H s=>SmS.at s λS h B rh rs f=>ZS.nx f rh rs
 |.brk,h=>Zau (P:=λx=>PS X x _) h λp h=>Zpx.imp λD Z H s=>SmS.at s λS h B rh rs f=>f H B Gr.refl rh Z rs
 |.cnt,h=>Zau (P:=λx=>PS X x _) h λp h=>ZjX.imp λD Z H s=>SmS.at s λS h B rh rs f=>f H B Gr.refl rh Z rs
 |.any,h=>λac s Z H D I s=>SmS.at s λS h B rh rs f=>f.elim
 |.rai C e,h=>Zau (P:=λx=>PS X x _) h λp h=>Zvk (P:=λc=>PS X (.Raise _ c _) _) h λh=>ZgU (P:=λo=>PS X (.Raise o _ _) _) h λx h=>by
  unfold Zub at h;exact Zbl (P:=λx=>PS X (.Raise (J x) _ _) _) h λnp ys q h=>Zaf (P:=λys=>PS X (.Raise (J<|.Call _ ys _ _) _ _) _) h λy h=>by obtain⟨ca,m,xo⟩:=G.xcs _<|of_decide_eq_true<|bL h;have st:=Zy (xs:=[]) X.env<|bL<|bR<|bR h;exact(Zpw G.rz G.calm PySem.F.excBase_ValueError (G.gl<|bL<|bR h).1 m xo.own (Z7 (Zj e G.toGd<|bR<|bR<|bR h) Zci st) (G.gl<|bL<|bR h).2 st rfl).imp λD Z H s=>SmS.bind s λS d R v H1 μ1 ah al rd f1=>⟨by show 1<=Yc;decide,f1 H1 μ1 ca Gr.refl ah (by rw[G.gk.mg];exact m)⟩
 |.seta Cs o f e,h=>ZkV (P:=λx=>PS X x _) h λtg xe pos h=>Ztw (P:=λt=>PS X (.Assign [t] _ _) _) h λxo q h=>(ZuV (Zj o G.toGd<|bL h) (Zj e G.toGd<|bL<|bR h)<|ZdQ<|bL<|bR<|bR h).imp λD Z H s=>SmS.bind s λS d R v H1 μ1 ah al rd f1=>⟨S,R,μ1,ah,al,ZS.bind f1 λd2 h2 v2 H2 μ2 _ g2 au cZ f2=>Zo5 (Q:=λ_ H'=>D.nx Z H') G.toGd (bL<|bR<|bR<|bR h) (of_decide_eq_true<|bR<|bR<|bR<|bR h) au cZ (rd.mono ah g2)<|ZS.bind f2 λ_ h3 _ H3 μ3 _ g3 aM _ f3=>f3.nx aM<|(al.mono ah g2).mono au g3⟩
 |.auga Cs o f e,h=>Zau (P:=λx=>PS X x _) h λp h=>dS (P:=λo=>PS X (.AugAssign _ o _ _) _) (bL h) <| Ztw (P:=λt=>PS X (.AugAssign t _ _ _) _) (bR h) λxo q h=>(ZnV (Zj o G.toGd<|bL h) (Zj e G.toGd<|bL<|bR h) ZvN).imp λD Z H s=>SmS.bind s λS d R x H1 μ1 ah al rd f1=>Zwq G.toGd (bL<|bR<|bR h) (of_decide_eq_true<|bR<|bR<|bR h) ah al rd f1
theorem sts_ok(s:Sxs){Γ:Gm}{X:Cx}{E:XK}{k:Nat}{x:List Stmt}(G:GdS T Γ X Y E k)(h:chkSs Γ s x=Ws):PSs X x (ZjN T Y E s):=match s,x,h with
 |.nil,[],h=>ZrS.imp λD Z H s=>SmS.at s λS h B rh rs f=>ZS.nx f rh rs
 |.nil,_::_,h=>ff h
 |.trq i n f es C c W A B_,x,h=>Ziq (P:=λx=>PSs X x _) h λs1 s2 h=>Zxj (P:=λr=>PSs X [s1,r] _) (bL h) λp1 p2 p3 p4 p5 p6 p7 p8 x1 p9 df de c9 fu=>Zau (P:=λx=>PSs X [x,_] _) (bR h) λp h=>Zir (P:=λys=>PSs X [.Try p.xs p.hs ys p.zs p.p,_] _) h λh=>Zir (P:=λzs=>PSs X [.Try p.xs p.hs [] zs p.p,_] _) h λh =>
     ZwW (P:=λhs=>PSs X [.Try p.xs hs [] [] p.p,_] _) (bL h) λnp m y px q z mp tq e1 e2=>Zaf (P:=λxs=>PSs X [.Try xs _ [] [] p.p,_] _) (bR h) λs h=>Zau (P:=λs=>PSs X [.Try [s] _ [] [] p.p,_] _) h λp' h=>Zbl (P:=λa=>PSs X [.Try [.Expr a p'.p] _ [] [] p.p,_] _) h λfp ys cp h=>by
       rw [show yAt Γ i=y by unfold yAt;rw [e1];rfl];cases ys with
       |nil=>exact ff (bR<|bR<|bR h)
       |cons y0 ys=>exact Zus G (of_decide_eq_true<|bL h) (bL<|bR h) tq e1 e2 (bL<|bR<|bR h) (evs_ok es G.toGd.nox<|bL<|bR<|bR h)
 |.cons s r,[],h=>ff h
 |.cons s r,x::xs,h=>(Zpt (Zxd s G<|bL h)<|sts_ok r G<|bR h).imp λD Z H s=>SmS.at s λS h B rh rs f=>⟨S,h,B,rh,rs,ZS.part f λp R H1 μ1 _ g1 ah f1=>by
     obtain⟨fl,ρ1⟩:=p;cases fl with
     |nx=>exact λσ' bJ=>⟨ρ1,R,μ1,ah,bJ,f1⟩
     |bk=>exact λσ' bJ=>f1 H1 μ1 Gr.refl ah σ' bJ
     |ct=>exact λσ' bJ=>f1 H1 μ1 Gr.refl ah σ' bJ
     |rt d=>exact λv rv=>f1 H1 μ1 Gr.refl ah v rv⟩
end
set_option tactic.hygienic false
structure BodyOk(K:Yl)(kl:Kl)(fs:List Str)(x q:Str)(fd:Fd)(st:Stmt)(f:Yj)(aq:FuncData):Prop where
 fn:Fun K x q st f aq
 sc:FnScope fd.N fd.ps (ZX st)
 hb:∀(kV aJ pm:Yk) (an:Option Yj) (aH ct:Yk) (us:List Yk),us.length=fd.ps.length->bindArgs (PySem.W.fnOf x q (Zd2 st) (Zb3 st) (ZX st) .none kV aJ pm an aH ct) ⟨us,[]⟩=pure (fd.ps.zip us)
 ck:chkSs ⟨fd.N,ZX st,fs,Ws,kl⟩ fd.body (Zb3 st)=Ws
structure DefOk(K:Yl)(mg:Str->Option Yk)(kl:Kl)(fs:List Str)(x z:Str)(fd:Fd)(st:Stmt)(f:Yj)(aq:FuncData):Prop where
 bd:BodyOk K kl fs z z fd st f aq
 mg:mg x=J (.ref f)
structure Md(Pr:Yi)(w:Yh)(K:Yl)(mg:Str->Option Yk)(P:Pg)(kl:Kl):Prop where
 bare:Zgz K=Ws
 gd:∀x kvs,P.GD x=J kvs->∃a aj,mg x=J (.ref a)/\DkK Pr w K a aj/\∀H B,RKs ⟨K,mg⟩ H B kvs aj
 g:∀x d,P.G x=J d->∃v u,mg x=J u/\RelV v u/\∀H B,RD ⟨K,mg⟩ H B d v
 blt:∀x∈Znu,mg x=M
 defs:∀x fd,P.tb.lookup x=J fd->∃z st f aq,DefOk K mg kl (P.tb.map (·.1)) x z fd st f aq
 cls:∀C∈kl.cs,∃a,mg C=J (.ref a)/\Cls K a/\∀f∈kl.ats,ZaZ K a f
 mts:∀p∈kl.ms,∃a f aq fd st q,mg p.1=J (.ref a)/\Cls K a/\Meth K a p.2 f/\P.look (mnm p.1 p.2)=J fd/\BodyOk K kl (P.tb.map (·.1)) p.2 q fd st f aq
 mks:∀C∈kl.is,∃a f aq fd st q,mg C=J (.ref a)/\Mk K a f/\P.look (mnm C<|O "__init__")=J fd/\BodyOk K kl (P.tb.map (·.1)) (O "__init__") q fd st f aq
 xcs:∀C∈kl.xs,∃a,mg C=J (.ref a)/\XOk K a
 xas:∀p∈kl.xa,∃a b,mg p.1=J (.ref a)/\mg p.2=J (.ref b)/\XAs K a b
 xis:∀p∈kl.xi,∃b v,mg p.1=J (.ref b)/\ClV mg p.2.1 v/\PySem.W.kitOne K (.ref b) v=J p.2.2
def Zo1(r:RDs Y H B ds vs):RS Y H B (Zw N ds) (L2.start N vs):=by
 refine⟨by simp[Zw,L2.start,r.length],λi d e=>?_⟩;unfold Zw at e;unfold L2.start;by_cases hi:i<ds.length
 . rw[Oe<|by simp_all,On]at e;rw[Oe<|by simpa[<-r.length]using hi];obtain⟨d',e1,e2⟩:=Oo.mp e;cases e2;obtain⟨v,R,h2⟩:=r.get e1;exact⟨v,by simp_all,h2⟩
 . rw[Om<|by simp_all]at e;have:=O1 e
   simp_all
def ZrC(f:Fin Y (RD Y) H B (Ze r) Q E):ZS Y H B r {nx:=λ_ H'=>Q .non H',rt:=Q} E:=by
 cases r with
 |bad=>trivial
 |exc c h=>exact f
 |ok p h=>
  obtain⟨fl,S⟩:=p;cases fl with
  |nx=>exact λH' μ' g rh σ' _=>f .non H' μ' g rh .non
  |bk=>trivial
  |ct=>trivial
  |rt d=>exact λH' μ' g rh v rv=>f v H' μ' g rh rv
section
variable {Pr:Yi}{w:Yh}{K:Yl}{mg:Str->Option Yk}{base:YG}{P:Pg}{kl:Kl}
def Zi1(h:P.tb.lookup x=J fd):P.look x=J fd:=by unfold Pg.look;rw[h]
def Zo3(hl:P.look x=J fd)(h:Zfs (P.tbl n) ⟨K,mg⟩ x vs H Q E):vs.length=fd.ps.length:=by
 obtain⟨ds,h,B,rh,rs,f⟩:=h;cases n with
 |zero=>exact f.elim
 |succ n=>have f:Fin ⟨K,mg⟩ (RD ⟨K,mg⟩) H B (run P (n+1) x ds h) Q E:=f;rw[run,hl]at f;obtain⟨hz,_⟩:=f.iff;rw[<-rs.length];trivial
structure Lev(Pr:Yi)(w:Yh)(K:Yl)(mg:Str->Option Yk)(base:YG)(P:Pg)(kl:Kl)(n:Nat):Prop where
 defs:∀y∈P.tb.map (·.1),∃ps,Def Pr w K mg base (2*n+61) y ps (Zfs (P.tbl n) ⟨K,mg⟩ y)
 mts:∀p∈kl.ms,∃a f fd ps,mg p.1=J (.ref a)/\Cls K a/\Meth K a p.2 f/\FnOk Pr w K mg base (CXF Pr w) (2*n+61) f fd ps (Zfs (P.tbl n) ⟨K,mg⟩<|mnm p.1 p.2)/\Binds K fd ps []
 mks:∀C∈kl.is,∃a f fd ps,mg C=J (.ref a)/\Mk K a f/\FnOk Pr w K mg base (CXF Pr w) (2*n+61) f fd ps (Zfs (P.tbl n) ⟨K,mg⟩<|mnm C<|O "__init__")/\Binds K fd ps []
def Zje(qb:Md Pr w K mg P kl){x nm q}{fd}{st}{f}{aq}(hl:P.look x=J fd)(o:BodyOk K kl (P.tb.map (·.1)) nm q fd st f aq):
 ∀n,Lev Pr w K mg base P kl n->FnOk Pr w K mg base (CXF Pr w) (2*(n+1)+61) f aq fd.ps (Zfs (P.tbl<|n+1) ⟨K,mg⟩ x):=by
 intro n ih;obtain⟨oc,od,kV,aJ,pm,an,aH,ct,bP,rfl,lk,b7⟩:=o.fn.ex;refine Zyu lk b7 o.sc (λvs H Q E h=>Zo3 hl h) λA outer s H vs Q E hr bK=>Ztf (sts_ok fd.body (k:=2*n+61) (Γ:=⟨fd.N,ZX st,P.tb.map (·.1),Ws,kl⟩) ⟨⟨⟨rfl,rfl,qb.gd,qb.g,qb.bare⟩,rfl,λ_=>rfl,λy hy=>?_,λy hy=>hy,o.sc.nd,rfl,hr.mono<|by lia,by lia,Zr9 λ_ _ z=>z,ih.defs,qb.blt,hr,qb.cls,ih.mts,ih.mks⟩,rfl,λ_=>rfl,PassesOwn.leaving,?_,Zpb,rfl,rfl,qb.xcs,qb.xas,qb.xis⟩ o.ck) ?_
 . unfold ZoP at hy;rw[Wo,Wo]at hy;rcases hy with (hy|hy)|hy
   . exact .inl (of_decide_eq_true hy)
   . exact .inr (.inl<|of_decide_eq_true hy)
   . exact .inr (.inr<|of_decide_eq_true hy)
 . show(if (ZX st).kind.isAnnotationScope then ScopeKind.function else(ZX st).kind)=.function;rw[o.sc.kind];rfl
 . obtain⟨ds,h,B,rh,rs,f⟩:=bK;have f:Fin ⟨K,mg⟩ (RD ⟨K,mg⟩) H B (run P (n+1) x ds h) Q E:=f;rw[run,hl]at f;exact⟨Zw fd.N ds,h,B,rh,Zo1 rs,ZrC f.iff.2⟩
def mem_lookup{α:Type}{l:List (Str×α)}{x}(h:x∈l.map (·.1)):∃a,l.lookup x=J a:=by
 induction l with
 |nil=>simp_all
 |cons p r ih=>
  rw[OF];by_cases e:x=p.1
  . simp_all
  . have:(x==p.1)=Wt:=by simpa using e
    rw[this];exact ih (by simp_all)
def Zi7{x}{fd}{f}{aq}(hl:P.look x=J fd):FnOk Pr w K mg base (CXF Pr w) (2*0+61) f aq fd.ps (Zfs (P.tbl 0) ⟨K,mg⟩ x):=⟨λvs H Q E h=>Zo3 hl h,λA outer s H args us vs Q E _ _ _ _ h=>by obtain⟨ds,h,B,rh,rs,f⟩:=h;exact f.elim⟩
def Zrc(qb:Md Pr w K mg P kl):∀n,Lev Pr w K mg base P kl n:=by
 intro n;induction n with
 |zero=>
  refine⟨λy hy=>?_,λp hp=>?_,λC hC=>?_⟩
  . obtain⟨fd,hl⟩:=mem_lookup hy;obtain⟨_,st,f,aq,o⟩:=qb.defs y fd hl;exact⟨fd.ps,f,aq,o.mg,o.bd.fn.kp,o.bd.fn.binds o.bd.hb,Zi7<|Zi1 hl⟩
  . obtain⟨a,f,aq,fd,st,q,m,c,me,hl,o⟩:=qb.mts p hp;exact⟨a,f,aq,fd.ps,m,c,me,Zi7 hl,o.fn.binds o.hb⟩
  . obtain⟨a,f,aq,fd,st,q,m,me,hl,o⟩:=qb.mks C hC;exact⟨a,f,aq,fd.ps,m,me,Zi7 hl,o.fn.binds o.hb⟩
 |succ n ih=>
  refine⟨λy hy=>?_,λp hp=>?_,λC hC=>?_⟩
  . obtain⟨fd,hl⟩:=mem_lookup hy;obtain⟨_,st,f,aq,o⟩:=qb.defs y fd hl;exact⟨fd.ps,f,aq,o.mg,o.bd.fn.kp,o.bd.fn.binds o.bd.hb,Zje qb (Zi1 hl) o.bd n ih⟩
  . obtain⟨a,f,aq,fd,st,q,m,c,me,hl,o⟩:=qb.mts p hp;exact⟨a,f,aq,fd.ps,m,c,me,Zje qb hl o n ih,o.fn.binds o.hb⟩
  . obtain⟨a,f,aq,fd,st,q,m,me,hl,o⟩:=qb.mks C hC;exact⟨a,f,aq,fd.ps,m,me,Zje qb hl o n ih,o.fn.binds o.hb⟩
def Zvz(qb:Md Pr w K mg P kl){x}{a}{fd}{fa}(n)(hl:P.tb.lookup x=J fd)(fN:fd.ps=[a])(hm:mg x=J (.ref fa)):
 ∃aq:FuncData,(∀(s) (v),BindsTo s aq ⟨[v],[]⟩ [(a,v)])/\∀base ,FnOk Pr w K mg base (CXF Pr w) (2*(n+1)+61) fa aq [a] (Zfs (P.tbl<|n+1) ⟨K,mg⟩ x):=by
 obtain⟨_,st,f,aq,o⟩:=qb.defs x fd hl;have e:=hm.symm.trans o.mg;cases e;refine⟨aq,λs v=>?_,λbase=>fN▸Zje qb (Zi1 hl) o.bd n (Zrc qb n)⟩;obtain⟨oc,od,kV,aJ,pm,an,aH,ct,bP,rfl,lk,b7⟩:=o.bd.fn.ex;have:=o.bd.hb kV aJ pm an aH ct [v] (by rw[fN];rfl);rw[fN]at this;exact BindsTo.of_eq this
end
def ZwN{α:Type}{us:List α}(h:us.length=0):us=[]:=List.length_eq_zero_iff.mp h
def ZnD{α:Type}{us:List α}{n}(h:us.length=n+1):∃a r,us=a::r/\r.length=n:=by
 cases us with
 |nil=>cases h
 |cons a r=>exact⟨a,r,rfl,Nat.succ.inj h⟩
def ZwM{α:Type}{us:List α}(h:us.length=1):∃a0,us=[a0]:=by obtain⟨a0,r,rfl,h2⟩:=ZnD h;exact⟨a0,by rw[ZwN h2]⟩
def ZwL{α:Type}{us:List α}(h:us.length=2):∃a0 a1,us=[a0,a1]:=by obtain⟨a0,r,rfl,h2⟩:=ZnD h;obtain⟨a1,rfl⟩:=ZwM h2;exact⟨a0,a1,rfl⟩
def ZwK{α:Type}{us:List α}(h:us.length=3):∃a0 a1 a2,us=[a0,a1,a2]:=by obtain⟨a0,r,rfl,h2⟩:=ZnD h;obtain⟨a1,a2,rfl⟩:=ZwL h2;exact⟨a0,a1,a2,rfl⟩
def ZwJ{α:Type}{us:List α}(h:us.length=4):∃a0 a1 a2 a3,us=[a0,a1,a2,a3]:=by obtain⟨a0,r,rfl,h2⟩:=ZnD h;obtain⟨a1,a2,a3,rfl⟩:=ZwK h2;exact⟨a0,a1,a2,a3,rfl⟩
def ZwI{α:Type}{us:List α}(h:us.length=5):∃a0 a1 a2 a3 a4,us=[a0,a1,a2,a3,a4]:=by obtain⟨a0,r,rfl,h2⟩:=ZnD h;obtain⟨a1,a2,a3,a4,rfl⟩:=ZwJ h2;exact⟨a0,a1,a2,a3,a4,rfl⟩
def Zy9{α:Type}{us:List α}(h:us.length=6):∃a0 a1 a2 a3 a4 a5,us=[a0,a1,a2,a3,a4,a5]:=by obtain⟨a0,r,rfl,h2⟩:=ZnD h;obtain⟨a1,a2,a3,a4,a5,rfl⟩:=ZwI h2;exact⟨a0,a1,a2,a3,a4,a5,rfl⟩
set_option tactic.hygienic true
def All(p:α->Prop):List α->Prop
 |[]=>True
 |a::l=>p a/\All p l
theorem All.mem:∀{l:List α},All p l->∀a∈l,p a
 |[],_,a,h=>by simp_all
 |b::l,⟨R,h2⟩,a,h=>by
  rcases O2.mp h with rfl|h
  . trivial
  . exact All.mem h2 a h
def lookup_mem{α:Type}{l:List (Str×α)}{a}(h:l.lookup x=J a):(x,a)∈l:=by
 induction l with
 |nil=>cases h
 |cons p r ih=>
  rw[OF]at h;by_cases e:x=p.1
  . have:(x==p.1)=Ws:=by simpa using e
    rw[this]at h;cases h
    simp_all
  . have:(x==p.1)=Wt:=by simpa using e
    simp_all
noncomputable def spL(K:Yl):Sp:=λvs H Q _=>∃(a:Yj) (ns:List Int),vs=[.ref a]/\SqL K H a (ns.map V.int)/\ns.length<=63/\Ztx H/\∀H',Q (.bl Ws) H'
theorem Zna:∀ns:List Int,RDs Y H B (ns.map D.int) (ns.map V.int)
 |[]=>.nil
 |n::r=>.cons (.int n) (Zna r)
def ZwH{l:PySem.W.OpenLaw}{q}{a7}{XP}{YP}{d}{K:Params->Yl}{P}{kl}{fd}(n)(hn:l.most=J 63)(fT:d.params.defaults=[])(hd:d.name=O "law")(hr:Room (2*(n+1)+61) callerA)
 (hY:∀(w) (h),YP w h->(K w.params).In h) (hl:P.tb.lookup (O "law")=J fd) (fN:fd.ps=[O "_law_script"])
 (jg:∀ns:List Int,ns.length<=63->∃h',run P (n+1) (O "law") [.ro<|ns.map .int] []=.ok (.bl Ws) h')
 (qb:∀(w) (mg) (h),(K w.params).In h->h.Ns Ye mg->Md l.prog w (K w.params) mg P kl) :
 PySem.W.WalkO q a7 XP YP l.row.toRowW d [] (λf vs=>PySem.call f vs):=by
 refine L2.Zrk (x := "_law_script") (CX:=λw=>CXF l.prog w) (sp:=λw=>spL<|K w.params) hn (by decide) fT hr hY (λw mg fa h KX G eO=>?_) (λ_ _ a ns hl hO hS=>⟨a,ns,rfl,hS,hl,hO,λ_=>rfl⟩) λ_ _ _ _ _ z=>by obtain⟨_,_,_,_,_,_,_,_,_,_,_,_,_,z⟩:=z;exact z
 rw[hd]at eO;obtain⟨aq,hb,F⟩:=Zvz (qb w mg h KX G) n hl fN eO;refine⟨aq,hb,λbase _ _=>(F base).imp λvs H Q E bK=>?_⟩;obtain⟨a,ns,rfl,hS,hz,hO,hq⟩:=bK;obtain⟨h',e⟩:=jg ns hz;refine⟨[.ro<|ns.map .int],[],[],⟨rfl,.nil,λi o a e=>by trivial,λi o e=>by trivial⟩,.cons (.ro ?_<|Zna ns) .nil,?_⟩
 . rcases hS with hS|hS
   . rcases hS with hS|hS
     . rcases hO a with z|⟨o,xs,z⟩<;>(simp_all)
     . exact .inl hS
   . exact .inr hS
 . show Fin _ _ H [] (run P (n+1) (O "law") [.ro<|ns.map .int] []) Q E;rw[e];exact λb H' μ' _ _ r=>by cases r;exact hq H'
def ZtK{K:Yl}(h:K.lookup a=J ⟨.type "tuple",od,.seq its n,sl⟩)(hz:its.size<=Yc)(r:Zn vs its.toList):SqT K H a vs:=
 .inr ⟨_,its,n,h,rfl,rfl,hz,r⟩
end IV
namespace IV
open PySem L2 PyProof.Rows
section
structure Chk(kl:Kl)(fs:List Str)(x q:Str)(fd:Fd)(st:Stmt):Prop where
 sc:FnScope fd.N fd.ps (ZX st)
 hb:∀(kV aJ pm:Yk) (an:Option Yj) (aH ct:Yk) (us:List Yk),us.length=fd.ps.length->bindArgs (PySem.W.fnOf x q (Zd2 st) (Zb3 st) (ZX st) .none kV aJ pm an aH ct) ⟨us,[]⟩=pure (fd.ps.zip us)
 ck:chkSs ⟨fd.N,ZX st,fs,Ws,kl⟩ fd.body (Zb3 st)=Ws
variable {K:Yl}{h:YG}{mg:Str->Option Yk}{kl:Kl}{fs:List Str}{x z q C:Str}{fd:Fd}{st:Stmt}{ca:Yj}{P:Pg}
def Chk.bd(c:Chk kl fs x q fd st)(F:Fun K x q st f aq):BodyOk K kl fs x q fd st f aq:=⟨F,c.sc,c.hb,c.ck⟩
def Zwx(K:Yl)(x z:Str)(st:Stmt):Prop:=∃f aq,Ym K Ye x=J (J<|.ref f)/\Fun K z z st f aq
def Zmj(K:Yl)(ca:Yj)(x q:Str)(st:Stmt):Prop:=∃f aq,YJ K (.ref ca) x=J (J<|.ref f)/\PySem.W.isFn K (.ref f)=Ws/\Wb K (.ref f)=Ws/\Fun K x q st f aq
def Zs7(X:K.In h)(G:h.Ns Ye mg)(d:Zwx K x z st)(c:Chk kl fs z z fd st):∃z st f aq,DefOk K mg kl fs x z fd st f aq:=by obtain⟨f,aq,a,F⟩:=d;exact⟨z,st,f,aq,c.bd F,YO X G a⟩
def Zsw(X:K.In h)(G:h.Ns Ye mg)(y:Ym K Ye C=J (J<|.ref ca))(cl:Cls K ca)(d:Zmj K ca x q st)(c:Chk kl (P.tb.map (·.1)) x q fd st)(e:P.look (mnm C x)=J fd):∃a f aq fd st q,mg C=J (.ref a)/\Cls K a/\Meth K a x f/\P.look (mnm C x)=J fd/\BodyOk K kl (P.tb.map (·.1)) x q fd st f aq:=by obtain⟨f,aq,u1,u2,u3,F⟩:=d;exact⟨ca,f,aq,fd,st,q,YO X G y,cl,⟨u1,u2,u3⟩,e,c.bd F⟩
def Zp5(X:K.In h)(G:h.Ns Ye mg)(y:Ym K Ye C=J (J<|.ref ca))(m:PySem.W.makesIn K ca=Ws)(k:Wb K (.ref ca)=Ws)(d:Zmj K ca (O "__init__") q st)(c:Chk kl (P.tb.map (·.1)) (O "__init__") q fd st)(e:P.look (mnm C<|O "__init__")=J fd):∃a f aq fd st q,mg C=J (.ref a)/\Mk K a f/\P.look (mnm C<|O "__init__")=J fd/\BodyOk K kl (P.tb.map (·.1)) (O "__init__") q fd st f aq:=by obtain⟨f,aq,u1,u2,u3,F⟩:=d;exact⟨ca,f,aq,fd,st,q,YO X G y,⟨m,u1,u2,k⟩,e,c.bd F⟩
end
section
noncomputable abbrev Ml:=Str×Str×Fd×Nat×Nat
variable {K:Yl}{h:YG}{mg:Str->Option Yk}{kl:Kl}{fs:List Str}{C:Str}{ca:Yj}{P:Pg}
theorem All.app{α:Type}{p}{b}:∀{a:List α},All p a->All p b->All p (a++b)
 |[],_,hb=>hb
 |_::_,ha,hb=>⟨ha.1,ha.2.app hb⟩
theorem Znk(X:K.In h)(G:h.Ns Ye mg){top:Nat->Stmt}:∀{l:List (Str×Str×Fd×Nat)},All (λp=>Zwx K p.1 p.2.1<|top p.2.2.2) l->All (λp=>Chk kl fs p.2.1 p.2.1 p.2.2.1<|top p.2.2.2) l->All (λp=>∃z st f aq,DefOk K mg kl fs p.1 z p.2 st f aq) (l.map λp=>(p.1,p.2.2.1))
 |[],_,_=>trivial
 |_::_,d,c=>⟨Zs7 X G d.1 c.1,Znk X G d.2 c.2⟩
theorem Zi0(X:K.In h)(G:h.Ns Ye mg)(y:Ym K Ye C=J (J<|.ref ca))(cl:Cls K ca){mt:Nat->Nat->Stmt}:∀{l:List Ml},All (λp=>Zmj K ca p.1 p.2.1<|mt p.2.2.2.1 p.2.2.2.2) l->All (λp=>Chk kl (P.tb.map (·.1)) p.1 p.2.1 p.2.2.1<|mt p.2.2.2.1 p.2.2.2.2) l->All (λp=>P.look (mnm C p.1)=J p.2.2.1) l->All (λp:Str×Str=>∃a f aq fd st q,mg p.1=J (.ref a)/\Cls K a/\Meth K a p.2 f/\P.look (mnm p.1 p.2)=J fd/\BodyOk K kl (P.tb.map (·.1)) p.2 q fd st f aq) (l.map λp=>(C,p.1))
 |[],_,_,_=>trivial
 |_::_,d,c,e=>⟨Zsw X G y cl d.1 c.1 e.1,Zi0 X G y cl d.2 c.2 e.2⟩
theorem Zj3(X:K.In h)(G:h.Ns Ye mg):∀{l},All (λx=>Ym K Ye x=J M) l->All (λx=>mg x=M) l
 |[],_=>trivial
 |_::_,d=>⟨PySem.W.mg_none_of X G d.1,Zj3 X G d.2⟩
end
end IV
namespace IV
open PySem L2
set_option tactic.hygienic false
theorem ZiX(h:Str.ofString a=Str.ofString b):a=b:=by
 have e:∀ s ,(Str.ofString s).cps.toList=s.toList.map Char.toNat:=λs=>by
   show (cpsOfBytes 0 0 s.toByteArray.data.toList).toArray.toList=_;rw [cpsOfBytes_string]
 have R:=congrArg (λs=>s.cps.toList) h;simp [e] at R;exact String.toList_inj.mp (by
   have inj:∀ {x y:Char},x.toNat=y.toNat->x=y:=λ{x y} q=>Char.ext<|UInt32.toNat_inj.mp q;exact(List.map_inj_right λx y q=>inj q).mp R)
@[simp]def ofString_eq(a b):(Str.ofString a=Str.ofString b)↔a=b:=⟨ZiX,λh=>h▸rfl⟩
@[simp]def Zss(a b):(Str.ofString a==Str.ofString b)=(a==b):=by rw[Bool.eq_iff_iff];simp
def Un(k:γ):Type:=Unit
noncomputable def un:Un k:=()
def qd.bnd(r:qd α)(k:α->Hd->qd β)(u:Un k:=un):qd β:=r.bind k
@[simp]def Zu:qd.bnd (.ok a h) k u=k a h:=rfl
@[simp]def Zy3:qd.bnd (qd.bad:qd α) k u=.bad:=rfl
section
variable {T:Tb}{S:Ev}{h:Hd}
@[simp]def bind_ok:(qd.ok a h).bind k=k a h:=rfl
@[simp]def bind_bad:(qd.bad:qd α).bind k=.bad:=rfl
@[simp]def ofO_some:qd.ofO (J a) h=.ok a h:=rfl
@[simp]def ZnY:(qd.ok a h).plain=.ok a h:=rfl
@[simp]def ZqB{i}:ev T (.var i) S h=qd.ofO (S[i]?).join h:=rfl
@[simp]def Zv3{d}:ev T (.cst d) S h=.ok d h:=rfl
@[simp]def ZqF{x}:ev T (.glo x) S h=qd.ofO (T.G x) h:=rfl
@[simp]def Zv5{op a b}:ev T (.bin op a b) S h=(ev T a S h).bnd λx R=>(ev T b S R).bnd λy h2=>opB op x y h2:=rfl
@[simp]def ZzX{op a b}:ev T (.cmp op a b) S h=(ev T a S h).bnd λx R=>(ev T b S R).bnd λy h2=>opC T.GD op x y h2:=rfl
@[simp] theorem ZzV{a}:ev T (.neg a) S h=(ev T a S h).bnd λx R=>match x with
 |.int i=>.ok (.int<|-i) R
 |_=>.bad:=rfl
@[simp] theorem ZAc{a}:ev T (.nt a) S h=(ev T a S h).bnd λx R=>match x with
 |.bl b=>.ok (.bl<|!b) R
 |_=>.bad:=rfl
@[simp]def Zjd{es}:ev T (.ands es) S h=evAnd T es S h:=rfl
@[simp]def ZqD{es}:ev T (.ors es) S h=evOr T es S h:=rfl
@[simp]def Zon{e}:evAnd T (.cons e .nil) S h=ev T e S h:=rfl
@[simp] theorem ZfE{e e' r}:evAnd T (.cons e<|.cons e' r) S h=(ev T e S h).bnd λx R=>match x with
 |.bl Ws=>evAnd T (.cons e' r) S R
 |.bl Wt=>.ok (.bl Wt) R
 |_=>.bad:=rfl
@[simp]def Zyy{e}:evOr T (.cons e .nil) S h=ev T e S h:=rfl
@[simp] theorem Zko{e e' r}:evOr T (.cons e<|.cons e' r) S h=(ev T e S h).bnd λx R=>match x with
 |.bl Ws=>.ok (.bl Ws) R
 |.bl Wt=>evOr T (.cons e' r) S R
 |_=>.bad:=rfl
@[simp]def ZzW{c a b}:ev T (.ite c a b) S h=(tst T c S h).bnd λc R=>if c then ev T a S R else ev T b S R:=rfl
@[simp]def Zy1{es}:ev T (.tupl es) S h=(evs T es S h).bnd λxs R=>if xs.length<=Yc then .ok (.tup xs) R else .bad:=rfl
@[simp]def Zs4{es}:ev T (.lstl es) S h=(evs T es S h).bnd λxs R=>if xs.length<=Yc then Zdb (.lst xs) R else .bad:=rfl
@[simp]def Zni{a i}:ev T (.ix a i) S h=(ev T a S h).bnd λx R=>(ev T i S R).bnd λy h2=>ZaM T.GD x y h2:=rfl
@[simp]def ZAb{a lo hi}:ev T (.sl a lo hi) S h=(ev T a S h).bnd λx R=>(evo T lo S R).bnd λl h2=>(evo T hi S h2).bnd λu h3=>ZhY x l u h3:=rfl
@[simp]def ZzY{f es}:ev T (.blt f es) S h=(evs T es S h).bnd λxs R=>Zaj T.GD f xs R:=rfl
@[simp]def Znj{f es}:ev T (.call f es) S h=(evs T es S h).bnd λxs R=>T.C f xs R:=rfl
@[simp]def Zs3{m o es}:ev T (.meth m o es) S h=(ev T o S h).bnd λx R=>if ZfW x R then(evs T es S R).bnd λxs h2=>Zax m x xs h2 else .bad:=rfl
@[simp]def Zgp{NC js it g c e}:ev T (.comp NC js it g c e) S h=(evi T it S h).bnd λw R=>(Zx w.src g (tsto T c) (ev T e) w.xs (Za7 js S) [] R).bnd λxs h2=>Zdb (.lst xs) h2:=rfl
@[simp]def Zy2{e d}:ev T (.maxd e d) S h=(ev T e S h).bnd λx R=>(ev T d S R).bnd λy h2=>Znz x y h2:=rfl
@[simp] theorem Zkn{ps}:ev T (.dictl ps) S h=(evs T ps S h).bnd λxs R=>match Zch xs with
 |some kvs=>if kvs.length<=15 then Zdb (.dic<|ZbC [] kvs) R else .bad
 |none=>.bad:=rfl
@[simp]def Zhs{Cs o f}:ev T (.att Cs o f) S h=(ev T o S h).bnd λx R=>ZeC Cs f x R:=rfl
@[simp]def Zt1{C es}:ev T (.mk C es) S h=(evs T es S h).bnd λxs R=>Zlp T.C C xs R:=rfl
@[simp] theorem Zv1{C m o es}:ev T (.mcl C m o es) S h=(ev T o S h).bnd λx R=>match ZT x R with
 |some (C',fs)=>if C'=C/\fs.lookup m=M then(evs T es S R).bnd λxs h2=>T.C (mnm C m) (x::xs) h2 else .bad
 |none=>.bad:=rfl
@[simp]def Zv2{e}:ev T (.lrv e) S h=(ev T e S h).bnd λx R=>ZyK x R:=rfl
@[simp]def ZoL{Cs o f e}:xs1 T (.seta Cs o f e) S h=(ev T e S h).bnd λd R=>(ev T o S R).bnd λx h2=>(ZhX Cs f x d h2).bnd λ_ h3=>.ok (.nx,S) h3:=rfl
@[simp] theorem ZwE{Cs o f e}:xs1 T (.auga Cs o f e) S h=(ev T o S h).bnd λx R=>(ZeC Cs f x R).bnd λv h2=>(ev T e S h2).bnd λy h3=>match v,y with
 |.int a,.int b=>if (ZT x R).map (·.1)=(ZT x h3).map (·.1)then(ZhX Cs f x (.int<|a+b) h3).bnd λ_ h4=>.ok (.nx,S) h4 else .bad
 |_,_=>.bad:=rfl
@[simp]def Znf:evs T .nil S h=.ok [] h:=rfl
@[simp]def Zkm{e es}:evs T (.cons e es) S h=(ev T e S h).bnd λx R=>(evs T es S R).bnd λxs h2=>.ok (x::xs) h2:=rfl
@[simp]def Zyx:evo T M S h=.ok M h:=rfl
@[simp] theorem Zyw{e}:evo T (J e) S h=(ev T e S h).bnd λx R=>match x with
 |.int i=>.ok (J i) R
 |_=>.bad:=rfl
@[simp]def ZoW{e}:tst T (.ex e) S h=(ev T e S h).bnd λx R=>qd.ofO (Zev T.GD x R) R:=rfl
@[simp]def ZwS{ts}:tst T (.ands ts) S h=tstAnd T ts S h:=rfl
@[simp]def ZyW{ts}:tst T (.ors ts) S h=tstOr T ts S h:=rfl
@[simp]def ZoV{a}:tst T (.nt a) S h=(tst T a S h).bnd λc R=>.ok (!c) R:=rfl
@[simp]def Zup{t}:tstAnd T (.one t) S h=tst T t S h:=rfl
@[simp]def ZtE{t ts}:tstAnd T (.cons t ts) S h=(tst T t S h).bnd λc R=>if c then tstAnd T ts S R else .ok Wt R:=rfl
@[simp]def ZwA{t}:tstOr T (.one t) S h=tst T t S h:=rfl
@[simp]def Zuo{t ts}:tstOr T (.cons t ts) S h=(tst T t S h).bnd λc R=>if c then .ok Ws R else tstOr T ts S R:=rfl
@[simp]def ZnH:tsto T M S h=.ok Ws h:=rfl
@[simp]def Zwz{t}:tsto T (J t) S h=tst T t S h:=rfl
@[simp]def ZlO{e}:evi T (.pl e) S h=(ev T e S h).bnd λx R=>qd.ofO (ZaA x R) R:=rfl
@[simp] theorem Zs0{e}:evi T (.rng e) S h=(ev T e S h).bnd λx R=>match x with
 |.int j=>if ZdU j then .ok ⟨[],Zbe 0 j.toNat⟩ R else .bad
 |_=>.bad:=rfl
@[simp]def ZzU{a b}:ev T (.rpn o a b) S h=(ev T a S h).bnd λx R=>(shD x R).bnd λp R=>(ev T b S R).bnd λy h2=>(shD y h2).bnd λq h3=>.ok (.bl<|bif o then !Wu (p=q)else Wu (p=q)) h3:=rfl
@[simp]def Znh{e}:evi T (.enu e) S h=(ev T e S h).bnd λx R=>qd.ofO ((Zgw x R).map λw=>⟨w.src,Zdv w.xs⟩) R:=rfl
@[simp]def Zs1{e}:evi T (.rev e) S h=(ev T e S h).bnd λx R=>qd.ofO ((Zgv x R).map λw=>⟨w.src,w.xs.reverse⟩) R:=rfl
@[simp] theorem Zs2{e}:evi T (.en1 e) S h=(ev T e S h).bnd λx R=>match x with
 |.tup xs=>.ok ⟨[],ZeE xs⟩ R
 |_=>.bad:=rfl
@[simp]def ZyU{e}:xs1 T (.ret e) S h=(ev T e S h).bnd λx R=>.ok (.rt x,S) R:=rfl
@[simp]def Zgi{g e}:xs1 T (.set g e) S h=(ev T e S h).bnd λx R=>(qd.ofO (ZbI g x S) R).bnd λρ1 h2=>.ok (.nx,ρ1) h2:=rfl
@[simp]def Zmk{o i e}:xs1 T (.put o i e) S h=(ev T e S h).bnd λx R=>(ev T o S R).bnd λy h2=>(ev T i S h2).bnd λz h3=>(ZaD y z x h3).bnd λ_ h4=>.ok (.nx,S) h4:=rfl
@[simp]def Zre{e}:xs1 T (.drp e) S h=(ev T e S h).bnd λ_ R=>.ok (.nx,S) R:=rfl
@[simp]def ZyV{c a b}:xs1 T (.iff c a b) S h=(tst T c S h).bnd λt R=>if t then xs2 T a S R else xs2 T b S R:=rfl
@[simp]def ZeO{c b}:xs1 T (.whl c b) S h=ZE (tst T c) (xs2 T b) T.L S h:=rfl
@[simp]def ZjB{g it b}:xs1 T (.forr g it b) S h=(evi T it S h).bnd λw R=>ZW w.src g (xs2 T b) w.xs S R:=rfl
@[simp]def ZyT:xs2 T .nil S h=.ok (.nx,S) h:=rfl
@[simp] theorem ZoK{s r}:xs2 T (.cons s r) S h=(xs1 T s S h).bnd λp R=>match p with
 |(.nx,ρ1)=>xs2 T r ρ1 R
 |p=>.ok p R:=rfl
def Za(e:xs1 T s S h=.ok (.nx,ρ1) R):xs2 T (.cons s r) S h=xs2 T r ρ1 R:=by simp_all
def Zb(e:xs1 T s S h=.ok (.rt d,ρ1) R):xs2 T (.cons s r) S h=.ok (.rt d,ρ1) R:=by simp_all
@[simp]def Zy4{i d}:ZbI (.nm i) d S=J (S.set i<|J d):=rfl
@[simp]def ZkF{i j a b}:ZbI (.two i j) (.tup [a,b]) S=J ((S.set i<|J a).set j<|J b):=rfl
@[simp]def Zzv:Ze (.ok (.rt d,S) h)=.ok d h:=rfl
@[simp]def Zzw:Ze (.ok (.nx,S) h)=.ok .non h:=rfl
end
@[simp]def Zii:seqOf (.tup xs) h=J xs:=rfl
@[simp]def ZxR:ZiV f (.int i) (.int j) h=.ok (.bl<|f i j) h:=rfl
section
variable {GD:Str->Option (List<|Key×D)}{h:Hd}
@[simp]def Zlk{x y}:opC GD .Eq x y h=Zd3 Wt x y h:=rfl
@[simp]def Zvf{x y}:opC GD .NotEq x y h=Zd3 Ws x y h:=rfl
@[simp]def ZzK{i j}:opC GD .Lt (.int i) (.int j) h=.ok (.bl<|Wu<|i<j) h:=rfl
@[simp]def ZzL{i j}:opC GD .LtE (.int i) (.int j) h=.ok (.bl<|Wu<|i<=j) h:=rfl
@[simp]def ZzN{i j}:opC GD .Gt (.int i) (.int j) h=.ok (.bl<|Wu<|j<i) h:=rfl
@[simp]def ZzO{i j}:opC GD .GtE (.int i) (.int j) h=.ok (.bl<|Wu<|j<=i) h:=rfl
@[simp]def ZzM{x}:opC GD .Is x .non h=.ok (.bl<|Wu<|x=.non) h:=rfl
@[simp]def ZpR{x}:opC GD .IsNot x .non h=.ok (.bl<|!Wu (x=.non)) h:=rfl
@[simp] theorem ZiW{s n}:opC GD .NotIn (.str s) (.kd n) h=match GD n with
 |some kvs=>.ok (.bl<|!(ZH kvs<|.inr s).isSome) h
 |none=>.bad:=by
 show ZbV GD Ws (.str s) (.kd n) h=_;unfold ZbV;simp only[dicOf];cases GD n<;>rfl
def Zgu(ss:List Str):(ss.map D.str).all D.flat=Ws:=by rw[OC];intro x hx;obtain⟨s,_,rfl⟩:=List.mem_map.mp hx;rfl
def any_words(ss:List Str)(x):((ss.map D.str).any λz=>eqF z<|.str x)=Wu (x∈ss):=by
 induction ss with
 |nil=>rfl
 |cons s r ih=>
  rw[Op,Wa,ih];show((s==x)||Wu (x∈r))=_;by_cases e:s=x
  . simp_all
  . have e':¬ x=s:=λq=>e q.symm
    simp_all
def ZcG{ss:List Str}{x}:opC GD .In (.str x) (.tup<|ss.map .str) h=.ok (.bl<|Wu<|x∈ss) h:=by show ZbV GD Wt (.str x) (.tup<|ss.map .str) h=_;unfold ZbV;rw[Zii];simp only[Zgu,any_words];rfl
def Zf9{ss:List Str}{x}:opC GD .NotIn (.str x) (.tup<|ss.map .str) h=.ok (.bl<|!Wu (x∈ss)) h:=by show ZbV GD Ws (.str x) (.tup<|ss.map .str) h=_;unfold ZbV;rw[Zii];simp only[Zgu,any_words];rfl
@[simp]def ZxQ{xs i}:ZaM GD (.tup xs) (.int i) h=qd.ofO (atI xs i) h:=rfl
@[simp]def ZyY{xs i}:ZaM GD (.ro xs) (.int i) h=qd.ofO (atI xs i) h:=rfl
@[simp] theorem Zsk{n s}:ZaM GD (.kd n) (.str s) h=match GD n with
 |some kvs=>qd.ofO (ZH kvs<|.inr s) h
 |none=>.bad:=rfl
def ZA{i k xs}(e:h[i]?=J (.lst xs)):ZaM GD (.ref i) (.int k) h=qd.ofO (atI xs k) h:=by unfold ZaM;simp[seqOf,lstOf,e]
@[simp]def ZAg{α:Type}{x}{l:List α}:atI (x::l) 0=J x:=by simp[atI,ixN]
def Zcd{α:Type}{l:List α}{k:Nat}:atI l k=l[k]? := by
 unfold atI ixN;by_cases hk:k<l.length
 . simp_all
 . simp[hk]
@[simp]def ZAf{α:Type}{x y}{l:List α}:atI (x::y::l) 1=J y:=Zcd
@[simp]def ZAe{α:Type}{x y z}{l:List α}:atI (x::y::z::l) 2=J z:=Zcd
@[simp]def ZAd{α:Type}{x y z w}{l:List α}:atI (x::y::z::w::l) 3=J w:=Zcd
def ZkU{α:Type}{l}{x:α}:atI (l++[x]) (-1)=J x:=by
 unfold atI ixN;rw[if_neg<|by decide,if_pos (by simp;lia)];have:(-1+((l++[x]).length:Int)).toNat=l.length:=by simp;lia
 simp_all
@[simp]def ZxP{xs l u}:ZhY (.tup xs) l u h=.ok (.tup<|cutD xs l u) h:=rfl
@[simp]def ZyX{b}:Zev GD (.bl b) h=J b:=rfl
@[simp]def ZwV{i}:Zev GD (.int i) h=J (i != 0):=rfl
@[simp]def ZwT{xs}:Zev GD (.tup xs) h=J (!xs.isEmpty):=rfl
@[simp]def ZwU:Zev GD .non h=J Wt:=rfl
@[simp]def Zso{i j}:opB .Add (.int i) (.int j) h=.ok (.int<|i+j) h:=rfl
@[simp]def ZyZ{i j}:opB .Sub (.int i) (.int j) h=.ok (.int<|i-j) h:=rfl
def ZU(hj:0<j):opB .Mod (.int i) (.int j) h=.ok (.int<|i%j) h:=if_pos hj
def ZcH(hj:0<j/\j<1073741824):opB .FloorDiv (.int i) (.int j) h=.ok (.int<|i/j) h:=if_pos hj
def Ze1(hj:i.natAbs<2^2000/\j.natAbs<2^2000):opB .Mult (.int i) (.int j) h=.ok (.int<|i*j) h:=if_pos hj
def Ze0(hl:xs.length+ys.length<=Yc):opB .Add (.tup xs) (.tup ys) h=.ok (.tup<|xs++ys) h:=if_pos hl
@[simp]def ZeZ:Zd3 n (.str x) (.str y) h=.ok (.bl<|if n then !Wu (x=y)else Wu (x=y)) h:=rfl
@[simp]def ZxT:Zd3 n (.int x) (.int y) h=.ok (.bl<|if n then !Wu (x=y)else Wu (x=y)) h:=rfl
end
@[simp]def ZwB{xs:List D}(h:xs.length<=1000):xs.length<=Yc:=OE h (by decide)
def Zd(e:P.tb.lookup f=J fd)(hl:ds.length=fd.ps.length):run P (n+1) f ds h=Ze (xs2 ⟨P.G,P.GD,run P n,P.L⟩ fd.body (Zw fd.N ds) h):=by
 rw[run,show P.look f=J fd by unfold Pg.look;rw[e]]
 simp_all
def Zde(hn:P.tb.lookup f=M)(e:P.ms.lookup f=J fd)(hl:ds.length=fd.ps.length):run P (n+1) f ds h=Ze (xs2 ⟨P.G,P.GD,run P n,P.L⟩ fd.body (Zw fd.N ds) h):=by
 rw[run,show P.look f=J fd by unfold Pg.look;rw[hn];exact e]
 simp_all
section
variable {h:Hd}{x y z:DO}{r:List DO}
@[simp]def Z0:(h++x::r)[h.length]?=J x:=by simp
@[simp]def Zq7:(h++x::y::r)[h.length+1]?=J y:=by simp
@[simp]def ZyN:(h++x::y::z::r)[h.length+2]?=J z:=by simp
@[simp]def Zpq:(h++x::r).set h.length o=h++o::r:=by simp
end
@[simp]def Zsu:Zdb o h=.ok (.ref h.length) (h++[o]):=rfl
section
variable {h:Hd}
def Z5(e:h[i]?=J (.lst ys))(hz:ys.length<Yc):Zax .app (.ref i) [d] h=.ok .non (h.set i<|.lst<|ys++[d]):=by
 simp only[Zax,e,Zfv,Zp9]
 simp_all
def Zdg(e:h[i]?=J (.lst<|ys++[d])):Zax .pop (.ref i) [] h=.ok d (h.set i<|.lst ys):=by simp only[Zax,e,Zfv,Zsz];simp
def Zbz(e:h[i]?=J (.lst ys)):ZfW (.ref i) h=Ws:=by simp[ZfW,e]
def Zrn(e:h[i]?=J (.lst ys)):Zev GD (.ref i) h=J (!ys.isEmpty):=by simp[Zev,e]
@[simp]def Zys:ZW [] g body [] S h=.ok (.nx,S) h:=rfl
def Zcv:ZW [] g body (d::ds) S h=match ZbI g d S with
 |none=>.bad
 |some ρ1=>(body ρ1 h).bnd λp h2=>match p with
  |(.nx,ρ2)=>ZW [] g body ds ρ2 h2
  |(.ct,ρ2)=>ZW [] g body ds ρ2 h2
  |(.bk,ρ2)=>.ok (.nx,ρ2) h2
  |(.rt d,ρ2)=>.ok (.rt d,ρ2) h2:=rfl
def ZY:Zx src g test aE (d::ds) S ai h=if Wk.stays src h/\ai.length<Yc then match ZbI g d S with
 |none=>.bad
 |some ρ1=>(test ρ1 h).plain.bnd λb R=>if b then(aE ρ1 R).plain.bnd λx h2=>Zx src g test aE ds S (ai++[x]) h2 else Zx src g test aE ds S ai R
 else .bad:=rfl
def Zav:ZE test body (n+1) S h=(test S h).bnd λb R=>if b then(body S R).bnd λp h2=>match p with
 |(.nx,ρ2)=>ZE test body n ρ2 h2
 |(.ct,ρ2)=>ZE test body n ρ2 h2
 |(.bk,ρ2)=>.ok (.nx,ρ2) h2
 |(.rt d,ρ2)=>.ok (.rt d,ρ2) h2
 else .ok (.nx,S) R:=rfl
end
inductive Wd where
 |add|sub|mul|lt
 deriving DecidableEq
noncomputable def Wd.s:Wd->Str
 |.add=>O "+"
 |.sub=>O "-"
 |.mul=>O "*"
 |.lt=>O "<"
inductive T where
 |num (n:Int)|name (x:Str)|fn (x:Str) (e:T)|rcc (f x:Str) (e:T)|call (f a:T)|iff (c t e:T)|op (w:Wd) (a b:T)
noncomputable def T.d:T->D
 |.num n=>.tup [.str<|O "num",.int n]
 |.name x=>.tup [.str<|O "name",.str x]
 |.fn x e=>.tup [.str<|O "fn",.str x,e.d]
 |.rcc f x e=>.tup [.str<|O "rec",.str f,.str x,e.d]
 |.call f a=>.tup [.str<|O "call",f.d,a.d]
 |.iff c t e=>.tup [.str<|O "if",c.d,t.d,e.d]
 |.op w a b=>.tup [.str w.s,a.d,b.d]
noncomputable def T.parts:T->List T
 |.num _|.name _=>[]
 |.fn _ e|.rcc _ _ e=>[e]
 |.call f a=>[f,a]
 |.iff c t e=>[c,t,e]
 |.op _ a b=>[a,b]
noncomputable def T.places:T->List T
 |.num n=>[.num n]
 |.name x=>[.name x]
 |.fn x e=>.fn x e::e.places
 |.rcc f x e=>.rcc f x e::e.places
 |.call f a=>.call f a::(f.places++a.places)
 |.iff c t e=>.iff c t e::(c.places++(t.places++e.places))
 |.op w a b=>.op w a b::(a.places++b.places)
noncomputable def T.size(t:T):Nat:=t.places.length
def T.places_parts(t:T):t.places=t::t.parts.flatMap T.places:=by cases t<;>simp[T.places,T.parts]
set_option tactic.hygienic true
section
variable {U:Tb}{S:Ev}{h R:Hd}{f:Str}{as:List D}{r:qd D}
noncomputable abbrev Tb.say(U:Tb)(r:qd D):Tb:=⟨U.G,U.GD,λ_ _ _=>r,U.L⟩
def ZK(e:U.C f as R=r)(q:xs1 U s S h=xs1 (U.say<|U.C f as R) s S h)(z:xs1 (U.say r) s S h=y):xs1 U s S h=y:=by rw[q,e,z]
def Zq(e:tst U c S h=.ok Ws R):xs1 U (.iff c a b) S h=xs2 U a S R:=by simp_all
def Zo(e:tst U c S h=.ok Wt R):xs1 U (.iff c a b) S h=xs2 U b S R:=by simp_all
def Zk(q:ev U e S h=.ok d R):xs1 U (.ret e) S h=.ok (.rt d,S) R:=by simp_all
def Zg(q:ev U e S h=.ok d R):xs1 U (.set (.nm i) e) S h=.ok (.nx,S.set i<|J d) R:=by simp_all
def Zdl(q:evi U it S h=.ok w R):xs1 U (.forr g it b) S h=ZW w.src g (xs2 U b) w.xs S R:=by simp_all
def Zr(p:ev U a S h=.ok x R)(q:ev U b S R=.ok y h2):ev U (.bin op a b) S h=opB op x y h2:=by simp_all
def Zt(p:ev U a S h=.ok x R)(q:ev U b S R=.ok y h2):ev U (.cmp op a b) S h=opC U.GD op x y h2:=by simp_all
def ZbF(q:ev U e S h=.ok (.bl b) R):tst U (.ex e) S h=.ok b R:=by simp_all
def Zm{b c}{y:qd Bool}(q:y=.ok b R)(e:b=c):y=.ok c R:=e▸q
noncomputable def hdS:Sxs->Sx
 |.cons s _=>s
 |_=>.pas
noncomputable def tlS:Sxs->Sxs
 |.cons _ r=>r
 |_=>.nil
def rt1(e:xs1 U (hdS ss) S h=.ok (.rt d,ρ1) h2)(hs:ss=.cons (hdS ss) (tlS ss)):Ze (xs2 U ss S h)=.ok d h2:=by rw[hs,Zb e];rfl
def nx1(e:xs1 U (hdS ss) S h=.ok (.nx,ρ1) h2)(hs:ss=.cons (hdS ss) (tlS ss)):xs2 U ss S h=xs2 U (tlS ss) ρ1 h2:=by rw[hs,Za e];rfl
def Zc(p:ev U a S h=.ok x R)(q:evs U es S R=.ok xs h2):evs U (.cons a es) S h=.ok (x::xs) h2:=by simp_all
def Zv4(p:evs U es S h=.ok xs R):ev U (.call g es) S h=U.C g xs R:=by simp_all
def ZkE(a:atI xs z=J d)(p:evs U es S h=.ok xs h)(q:ev U e S (h++[.lst xs])=.ok (.int z) (h++[.lst xs]))(hz:xs.length<=1000):ev U (.ix (.lstl es) e) S h=.ok d (h++[.lst xs]):=by rw[Zni,Zs4,p,Zu,if_pos<|OE hz<|by decide,Zsu,Zu,q,Zu,ZA (xs:=xs)<|by simp,a];rfl
def Zi(e:U.C g xs R=y)(p:evs U es S h=.ok xs R):ev U (.call g es) S h=y:=(Zv4 p).trans e
def Zak(p:evs U es S h=.ok xs R)(hz:xs.length<=1000):ev U (.tupl es) S h=.ok (.tup xs) R:=by simp_all
def ZsO(p:ev U e S h=.ok x R)(n:x≠.non):tst U (.ex<|.cmp .Is e<|.cst .non) S h=.ok Wt R:=ZbF ((Zt p rfl).trans<|by simp_all)
def Zqq(p:ev U e S h=.ok .non R):tst U (.ex<|.cmp .Is e<|.cst .non) S h=.ok Ws R:=ZbF ((Zt p rfl).trans<|by simp)
def ZaN(p:ev U a S h=.ok (.str x) R)(q:ev U b S R=.ok (.str y) h2):tst U (.ex<|.cmp .Eq a b) S h=.ok (Wu<|x=y) h2:=ZbF ((Zt p q).trans<|rfl)
def ZfF(p:ev U a S h=.ok (.int x) R)(q:ev U b S R=.ok (.int y) h2):tst U (.ex<|.cmp .Eq a b) S h=.ok (Wu<|x=y) h2:=ZbF ((Zt p q).trans<|rfl)
def Zs(p:ev U a S h=.ok x R)(q:ev U b S R=.ok y h2):ev U (.ix a b) S h=ZaM U.GD x y h2:=by simp_all
def Zrb(p:tst U a S h=.ok Ws R)(q:tst U b S R=.ok c h2):tst U (.ands<|.cons a<|.one b) S h=.ok c h2:=by simp_all
def Zuf(p:tst U a S h=.ok Wt R):tst U (.ands<|.cons a<|.one b) S h=.ok Wt R:=by simp_all
def ZxJ(p:tst U a S h=.ok Ws R):tst U (.ors<|.cons a<|.one b) S h=.ok Ws R:=by simp_all
def Zn1(p:tst U a S h=.ok Wt R)(q:tst U b S R=.ok c h2):tst U (.ors<|.cons a<|.one b) S h=.ok c h2:=by simp_all
def ZhC(A:Tb->β)(e:U.C f as R=r)(q:A U=A (U.say<|U.C f as R))(z:A (U.say r)=y):A U=y:=by simp_all
def ZyI(A:Tb->β)(eg:U.G x=J d)(q:A U=A ⟨λ_=>U.G x,U.GD,U.C,U.L⟩)(z:A ⟨λ_=>J d,U.GD,U.C,U.L⟩=y):A U=y:=by rw[q,eg,z]
end
end IV
namespace Gn
open PySem L2 IV
set_option tactic.hygienic false
def ZbJ:Sxs:=.w (.iff (.x .NotIn (.ix V0 F0)<|.glo<|O "FORMS") (.o<|.ret<|.tupl .n) .n) (.ret<|.sl V0 (J<|.bin .Add F1<|.ix (.ix (.glo<|O "FORMS")<|.ix V0 F0) F0) M)
def Zhm:Fd:=fd_ 1 ["E"] ZbJ
def ZkK:Sxs:=.z (.s 1<|.lstl .n) (.s 2<|.lstl<|.o V0) (.whl (.ex V2)<|.u (.s 3<|.meth .pop V2 .n) (.drp<|.meth .app V1<|.o V3)<|.forr (.nm 4) (.rev<|.f "parts_of"<|.o V3)<|.o<|.drp<|.meth .app V2<|.o V4) (.ret V1)
def Zdo:Fd:=fd_ 1 ["E","found","waiting","place","part"] ZkK
def Zeu:Sxs:=.w (.iff (.x .Lt V1<|.blt .len<|.o V0) (.o<|.ret<|.ix V0 V1) .n) (.ret F0)
def Za0:Fd:=fd_ 2 ["_law_script","_law_k"] Zeu
def Zf7:Sxs:=.z (.s 2<|.bin .Add (.bin .Pow F10 F30)<|.ci 57) (.s 3<|.bin .Mult (.bin .Mod V0 V2)<|.ci 271828182845904523536028747135) (.s 3<|.bin .Add V3<|.bin .Mult (.bin .Mult V1 V1)<|.ci 314159265358979323846264338327) (.ret<|.bin .Mod (.bin .Add V3<|.ci 577215664901532860606512090082) V2)
def Zb0:Fd:=fd_ 2 ["_law_cell","_law_k","_law_big","_law_number_here"] Zf7
def Zl6:Sxs:=.z (.s 1<|.ix V0 F1) (.put V0 F1<|.bin .Add V1 F1) (.iff (.x .Lt V1<|.blt .len<|.o<|.ix V0 F0) (.o<|.ret<|.ix (.ix V0 F0) V1) .n) (.ret<|.f "_law_mixed"<|.w V1 F7)
def Zhn:Fd:=fd_ 1 ["_law_state","_law_at"] Zl6
def Zf6:Sxs:=.c (.s 1<|.Ci_ "abcdefghijklmnopqrstuvwxyz") (.c (.s 2<|.bin .Add F1<|.bin .Mod V0 F8)<|.c (.s 3<|.bin .Mod (.bin .FloorDiv V0 F8) V2)<|.c (.s 4<|.bin .FloorDiv V0<|.ci 64)<|.y (.s 5<|.Ci_ "") (.forr (.nm 6) (.rng F8)<|.w (.s 5<|.bin .Add V5<|.ix V1<|.bin .Mod V4 F26)<|.s 4<|.bin .FloorDiv V4 F26) (.s 7<|.lstl .n) (.forr (.nm 6) (.rng F5)<|.y (.s 8<|.ix V1<|.bin .Mod (.bin .Add V4<|.bin .Mult F5 V6) F26) (.s 9<|.bin .Add (.bin .Add (.sl V5 M<|J V3) V8)<|.sl V5 (J<|.bin .Add V3 F1)<|J V2) (.iff (.q (.bin .Mod (.bin .FloorDiv V4 F26) F4) F1) (.o<|.s 9<|.sl V5 M<|J<|.bin .Sub F8 V6) .n) (.iff (.x .In V9<|.tupl<|.z (.Ci_ "fn") (.Ci_ "rec") (.Ci_ "call")<|.Ci_ "if") (.o<|.s 9<|.bin .Mult (.Ci_ "q")<|.blt .len<|.o V9) .n)<|.drp<|.meth .app V7<|.o V9)<|.ret V7)
def ZbZ:Fd:=fd_ 1 ["_law_number_here","_law_letters","_law_long","_law_place","_law_rest","_law_base","_law_k","_law_found","_law_sign","_law_word"] Zf6
def Zf5:Sxs:=.u (.s 2<|.dictl .n) (.forr (.two 3 4) (.pl V0)<|.o<|.put V2 V3 V4) (.ret<|.comp [O "_law_name",O "_law_wish",O "_law_known"] [M,J 1,J 2] (.pl<|.blt .srt<|.o V2) (.nm 0) (J<|.q (.ix V2 V0) V1) V0)
def Zdp:Fd:=fd_ 2 ["_law_scope","_law_wish","_law_known","_law_name","_law_held"] Zf5
def Zb7:Sxs:=.u (.iff (.q V0<|.Ci_ "n") (.o<|.ret<|.tupl<|.w (.Ci_ "num")<|.ix (.lstl<|.z F0 F1 F2<|.bin .Mod (.bin .FloorDiv V1 F7)<|.ci 1000000)<|.bin .Mod V1 F4) .n) (.iff (.q V0<|.Ci_ "f") (.o<|.ret<|.tupl<|.u (.Ci_ "fn") (.Ci_ "w")<|.tupl<|.u (.Ci_ "-") (.tupl<|.w (.Ci_ "name")<|.Ci_ "w")<|.tupl<|.w (.Ci_ "num")<|.bin .Mod V1 F3) .n) (.ret<|.tupl<|.u (.Ci_ "fn") (.Ci_ "w")<|.tupl<|.u (.Ci_ "call") (.tupl<|.w (.Ci_ "name")<|.Ci_ "w")<|.tupl<|.w (.Ci_ "num")<|.bin .Mod V1 F5)
def ZfY:Fd:=fd_ 2 ["_law_wish","_law_number_here"] Zb7
def ZaY:Sx:=.s 6 (.ix V4<|.bin .Mod V1 F5)
def Zad:Sx:=.iff (.q V0<|.Ci_ "g") (.o<|.ret<|.tupl<|.u (.Ci_ "fn") V6<|.f "_law_any"<|.y (.Ci_ "n") (.bin .Add V2<|.lstl<|.o<|.tupl<|.w V6<|.Ci_ "f") V3 V4 V5) .n
def Zac:Sx:=.iff (.q (.bin .Mod (.bin .FloorDiv V1 F5) F3) F0) (.o<|.ret<|.tupl<|.u (.Ci_ "fn") V6<|.f "_law_any"<|.y (.Ci_ "n") (.bin .Add V2<|.lstl<|.o<|.tupl<|.w V6<|.Ci_ "n") V3 V4 V5) .n
def ZaX:Sx:=.s 7 (.ix V4<|.bin .Mod (.bin .Add (.bin .Add (.bin .Mod V1 F5) F1)<|.bin .Mod (.bin .FloorDiv V1 F15) F4) F5)
def ZaW:Sx:=.s 8 (.bin .Add V2<|.lstl<|.w (.tupl<|.w V7<|.Ci_ "f")<|.tupl<|.w V6<|.Ci_ "n")
def ZaV:Sx:=.s 9 (.tupl<|.u (.Ci_ "call") (.tupl<|.w (.Ci_ "name") V7)<|.tupl<|.u (.Ci_ "-") (.tupl<|.w (.Ci_ "name") V6)<|.tupl<|.w (.Ci_ "num") F1)
def Zab:Sx:=.iff (.q (.bin .Mod (.bin .FloorDiv V1<|.ci 60) F3) F0) (.o<|.s 9<|.f "_law_any"<|.y (.Ci_ "n") V8 V3 V4 V5) (.o<|.iff (.q (.bin .Mod (.bin .FloorDiv V1<|.ci 60) F3) F1) (.o<|.s 9<|.tupl<|.u (.ix (.lstl<|.w (.Ci_ "+")<|.Ci_ "*")<|.bin .Mod (.bin .FloorDiv V1<|.ci 180) F2) (.f "_law_any"<|.y (.Ci_ "n") V8 V3 V4<|.bin .Sub V5 F1) V9) .n)
def Zaa:Sx:=.ret (.tupl<|.z (.Ci_ "rec") V7 V6<|.tupl<|.z (.Ci_ "if") (.tupl<|.w (.Ci_ "name") V6) V9<|.f "_law_any"<|.y (.Ci_ "n") V8 V3 V4<|.bin .Sub V5 F1)
def ZhI:Sxs:=.c ZaY (.c Zad<|.c Zac<|.y ZaX ZaW ZaV Zab Zaa)
def Zdq:Fd:=fd_ 6 ["_law_wish","_law_rest","_law_scope","_law_state","_law_names_here","_law_room","_law_x","_law_f","_law_inner","_law_again"] ZhI
def ZdF:Sx:=.s 5 (.bin .Mod V0 F6)
def ZbL:Sx:=.iff (.q V5 F0) (.o<|.ret<|.f "_law_plain"<|.w (.Ci_ "n")<|.bin .FloorDiv V0 F6) .n
def ZbK:Sx:=.iff (.x .Lt V5 F3) (.w (.s 6<|.f "_law_any"<|.y (.Ci_ "n") V1 V2 V3 V4)<|.ret<|.tupl<|.u (.ix (.lstl<|.z (.Ci_ "+") (.Ci_ "-") (.Ci_ "*")<|.Ci_ "<")<|.bin .Mod (.bin .FloorDiv V0 F6) F4) V6<|.f "_law_any"<|.y (.Ci_ "n") V1 V2 V3 V4) .n
def ZdE:Sx:=.s 7 (.ix (.lstl<|.u (.Ci_ "f") (.Ci_ "f")<|.Ci_ "g")<|.bin .Sub V5 F3)
def ZdD:Sx:=.s 8 (.f "_law_any"<|.y V7 V1 V2 V3 V4)
def ZdC:Sx:=.ret (.tupl<|.u (.Ci_ "call") V8<|.f "_law_any"<|.y (.ix (.dictl<|.z (.Ci_ "f") (.Ci_ "n") (.Ci_ "g")<|.Ci_ "f") V7) V1 V2 V3 V4)
def ZcQ:Sxs:=.c ZdF (.y ZbL ZbK ZdE ZdD ZdC)
def Ze9:Fd:=fd_ 5 ["_law_rest","_law_scope","_law_state","_law_names_here","_law_room","_law_way","_law_one","_law_wish","_law_fun"] ZcQ
def Zbc:Sx:=.put V2 F2 (.bin .Sub (.ix V2 F2) F1)
def Zca:Sx:=.s 5 (.f "_law_next"<|.o V2)
def Zbb:Sx:=.iff (.q (.bin .Mod V5 F29) F0) (.o<|.s 0<|.ix (.lstl<|.u (.Ci_ "n") (.Ci_ "f")<|.Ci_ "g")<|.bin .Mod (.bin .FloorDiv V5 F29) F3) .n
def Zb9:Sx:=.s 6 (.bin .FloorDiv V5<|.ci 87)
def Zba:Sx:=.s 7 (.f "_law_there"<|.w V1 V0)
def Za9:Sx:=.iff (.ands<|.c (.nq V7<|.lstl .n)<|.one<|.q (.bin .Mod V6 F3) F0) (.o<|.ret<|.tupl<|.w (.Ci_ "name")<|.ix V7<|.bin .Mod (.bin .FloorDiv V6 F3)<|.blt .len<|.o V7) .n
def Zay:Sx:=.iff (.ors<|.c (.x .Lt V4 F1)<|.one<|.x .Lt (.ix V2 F2) F0) (.o<|.ret<|.f "_law_plain"<|.w V0<|.bin .FloorDiv V6 F3) .n
def Zb8:Sx:=.s 6 (.bin .FloorDiv V6 F30)
def Za8:Sx:=.iff (.q (.bin .Mod V6 F8) F0) (.u (.s 8<|.f "_law_any"<|.y (.Ci_ "n") V1 V2 V3<|.bin .Sub V4 F1) (.s 9<|.f "_law_any"<|.y V0 V1 V2 V3<|.bin .Sub V4 F1)<|.ret<|.tupl<|.z (.Ci_ "if") V8 V9<|.f "_law_any"<|.y V0 V1 V2 V3<|.bin .Sub V4 F1) .n
def ZaJ:Sx:=.iff (.q V0<|.Ci_ "n") (.o<|.ret<|.f "_law_number"<|.y (.bin .FloorDiv V6 F8) V1 V2 V3<|.bin .Sub V4 F1) .n
def Zby:Sx:=.ret (.f "_law_function"<|.c V0<|.y (.bin .FloorDiv V6 F8) V1 V2 V3<|.bin .Sub V4 F1)
def ZoA:Sxs:=.c Zbc (.c Zca<|.c Zbb<|.c Zb9<|.c Zba<|.c Za9<|.y Zay Zb8 Za8 ZaJ Zby)
def Zd1:Fd:=fd_ 5 ["_law_wish","_law_scope","_law_state","_law_names_here","_law_room","_law_number_here","_law_rest","_law_there_here","_law_asked_of","_law_first"] ZoA
def ZdB:Sxs:=.o (.ret<|.bin .Add F1<|.blt .sum<|.o<|.comp [O "_law_part"] [M] (.pl V0) (.nm 0) (J<|.ex<|.blt .isi<|.w V0<|.cst<|.ty "tuple")<|.f "_law_width"<|.o V0)
def ZbY:Fd:=fd_ 1 ["_law_told"] ZdB
def ZeJ:Sxs:=.o (.ret<|.maxd (.comp [O "_law_part"] [M] (.pl V0) (.nm 0) (J<|.ex<|.blt .isi<|.w V0<|.cst<|.ty "tuple")<|.bin .Add F1<|.f "_law_deep"<|.o V0) F0)
def ZcN:Fd:=fd_ 1 ["_law_told"] ZeJ
def Zao:Sx:=.s 2 (.comp [O "_law_k",O "_law_cell"] [M,M] (.enu<|.sl V0 (J V1) M) (.two 0 1) M<|.f "_law_mixed"<|.w V1<|.bin .Add V0 F2)
def Zc8:Sx:=.s 3 (.lstl<|.u V2 F0 F26)
def Zc7:Sx:=.s 4 (.f "_law_names"<|.o<|.f "_law_next"<|.o V3)
def Zc6:Sx:=.s 5 (.f "_law_any"<|.y (.Ci_ "n") (.lstl .n) V3 V4 F7)
def Zc5:Sx:=.forr (.nm 6) (.rng F2) (.o<|.iff (.x .Lt (.f "_law_width"<|.o V5)<|.ci 50) (.w (.put V3 F2 F12)<|.s 5<|.tupl<|.u (.Ci_ "+") V5<|.f "_law_any"<|.y (.Ci_ "n") (.lstl .n) V3 V4 F6) .n)
def Zbg:Sx:=.iff (.ors<|.c (.x .Gt (.f "_law_width"<|.o V5)<|.ci 100)<|.one<|.x .Gt (.f "_law_deep"<|.o V5) F20) (.o<|.s 5<|.f "_law_plain"<|.w (.Ci_ "n")<|.f "_law_next"<|.o V3) .n
def Zc4:Sx:=.ret V5
def Zh7:Sxs:=.c Zao (.c Zc8<|.y Zc7 Zc6 Zc5 Zbg Zc4)
def Zen:Fd:=fd_ 2 ["_law_script","_law_start","_law_cells","_law_state","_law_names_here","_law_told","_law_k"] Zh7
noncomputable def Za4:List (Key×D):=[(.inr<|O "fn",.tup [.int 1,.int 1]),(.inr<|O "rec",.tup [.int 2,.int 1]),(.inr<|O "call",.tup [.int 0,.int 2]),(.inr<|O "if",.tup [.int 0,.int 3]),(.inr<|O "+",.tup [.int 0,.int 2]),(.inr<|O "-",.tup [.int 0,.int 2]),(.inr<|O "*",.tup [.int 0,.int 2]),(.inr<|O "<",.tup [.int 0,.int 2])]
structure Tre(P:Pg):Prop where
 parts:P.tb.lookup (O "parts_of")=J Zhm
 g:P.G (O "FORMS")=J (.kd<|O "FORMS")
 gd:P.GD (O "FORMS")=J Za4
 big:1000000<=P.L
theorem Zam (H:Tre P) (hU:U.G=P.G/\U.GD=P.GD) (q:ev U e S h=.ok (.str w) h) (f:ZH Za4 (.inr w)=x):tst U (.ex<|.cmp .NotIn e<|.glo<|O "FORMS") S h=.ok (!x.isSome) h:=by
 refine ZbF ((Zt q (by
   rw [ZqF,hU.1,H.g];rfl)).trans ?_)
 rw [ZiW,hU.2,H.gd];simp only [f]
def Znd(H:Tre P)(hU:U.G=P.G/\U.GD=P.GD)(q:ev U e S h=.ok (.str w) h)(f:ZH Za4 (.inr w)=J x):ev U (.ix (.glo<|O "FORMS") e) S h=.ok x h:=by
 have g:ev U (.glo<|O "FORMS") S h=.ok (.kd<|O "FORMS") h:=by rw[ZqF,hU.1,H.g];rfl
 rw[Zni,g,Zu,q,Zu,Zsk,hU.2,H.gd]
 simp_all
def ZbX:ev U (.ix (.var 0)<|.ci 0) (J (.tup (.str w::ds))::S) h=.ok (.str w) h:=by show qd.ofO (atI (D.str w::ds) 0) h=_;simp
def Zhd(H:Tre P)(hU:U.G=P.G/\U.GD=P.GD)(e:ZH Za4 (.inr w)=J (.tup [.int a,.int b])):ev U (.bin .Add (.ci 1)<|.ix (.ix (.glo<|O "FORMS")<|.ix (.var 0)<|.ci 0)<|.ci 0) [J<|.tup (.str w::ds)] h=.ok (.int<|1+a) h:=by refine(Zr (y:=.int a) rfl ?_).trans rfl;rw[Zni,Znd H hU ZbX e];rfl
def Zfd(q:ev U e S h=.ok (.int l) h):evo U (J e) S h=.ok (J l) h:=by simp_all
def Zih(p:ev U a S h=.ok x h)(q:evo U lo S h=.ok l h)(r:evo U hi S h=.ok u h):ev U (.sl a lo hi) S h=ZhY x l u h:=by simp_all
def ZeX(H:Tre P)(n)(h)(w)(ds)(e:ZH Za4 (.inr w)=M):run P (n+1) (O "parts_of") [.tup (.str w::ds)] h=.ok (.tup []) h:=by rw[Zd H.parts rfl];show Ze (xs2 (P.tbl n) ZbJ [J<|.tup (.str w::ds)] h)=_;rw[ZbJ,Zb<|(Zq<|Zam H ⟨rfl,rfl⟩ ZbX e).trans<|Zb<|Zk rfl];rfl
def Z2(H:Tre P)(n)(h)(w)(ds)(a b)(e:ZH Za4 (.inr w)=J (.tup [.int a,.int b])):run P (n+1) (O "parts_of") [.tup (.str w::ds)] h=.ok (.tup<|cutD (.str w::ds) (J<|1+a) M) h:=by rw[Zd H.parts rfl];show Ze (xs2 (P.tbl n) ZbJ [J<|.tup (.str w::ds)] h)=_;rw[ZbJ,Za<|(Zo<|Zam H ⟨rfl,rfl⟩ ZbX e).trans rfl,Zb<|Zk<|(Zih rfl (Zfd<|Zhd H (U:=P.tbl n) ⟨rfl,rfl⟩ (ds:=ds) (h:=h) e) rfl).trans rfl];rfl
def Zgl(H:Tre P)(n)(t:T)(h):run P (n+1) (O "parts_of") [t.d] h=.ok (.tup<|t.parts.map T.d) h:=by
 cases t with
 |num z=>exact ZeX H n h (O "num") _ rfl
 |name x=>exact ZeX H n h (O "name") _ rfl
 |fn x e=>exact Z2 H n h (O "fn") _ 1 1 rfl
 |rcc f x e=>exact Z2 H n h (O "rec") _ 2 1 rfl
 |call f a=>exact Z2 H n h (O "call") _ 0 2 rfl
 |iff c a b=>exact Z2 H n h (O "if") _ 0 3 rfl
 |op w a b=>exact Z2 H n h w.s _ 0 2 (by cases w<;>rfl)
theorem ZfV(p):∀(ps) (W) (q),W.length+ps.length<=1000000->∃q',
 ZW [] (.nm 4) (xs2 U<|.cons (.drp<|.meth .app (.var 2)<|.cons (.var 4) .nil) .nil) ps [J E,J<|.ref h.length,J<|.ref<|h.length+1,p,q] (h++[.lst F,.lst W])
  = .ok (.nx,[J E,J<|.ref h.length,J<|.ref<|h.length+1,p,q']) (h++[.lst F,.lst<|W++ps])
 |[],W,q,hz=>⟨q,by simp⟩
 |d::ds,W,q,hz=>by
  obtain⟨q',e⟩:=ZfV (U:=U) (h:=h) (F:=F) (E:=E) p ds (W++[d]) (J d) (by simp at hz ⊢;lia);refine⟨q',?_⟩;have fI:W.length<Yc:=by simp at hz;rw[YC];lia
  rw[Zcv];simp[ZfW,Zax,Zfv,Zp9,fI,e]
def Zld(t:T):1<=t.places.length:=by rw[T.places_parts];simp
theorem Zei:∀W:List T,W.length<=(W.flatMap T.places).length
 |[]=>by simp
 |t::W=>by
  have:=Zld t;have:=Zei W;rw[List.flatMap_cons,OA,Os]
  lia
theorem Zj9(H:Tre P)(n):∀(fuel) (W:List T) (F) (p q),(W.flatMap T.places).length<fuel->F.length+(W.flatMap T.places).length<=900000->∃p' q',
 ZE (tst ⟨P.G,P.GD,run P<|n+1,P.L⟩<|.ex<|.var 2) (xs2 ⟨P.G,P.GD,run P<|n+1,P.L⟩<|.cons (.set (.nm 3)<|.meth .pop (.var 2) .nil)<|.cons (.drp<|.meth .app (.var 1)<|.cons (.var 3) .nil)<|.cons (.forr (.nm 4) (.rev<|.call (O "parts_of")<|.cons (.var 3) .nil)<|.cons (.drp<|.meth .app (.var 2)<|.cons (.var 4) .nil) .nil) .nil)
  fuel [J E,J<|.ref h.length,J<|.ref<|h.length+1,p,q] (h++[.lst F,.lst (W.map T.d).reverse])
  = .ok (.nx,[J E,J<|.ref h.length,J<|.ref<|h.length+1,p',q']) (h++[.lst<|F++(W.flatMap T.places).map T.d,.lst []])
 |0,W,F,p,q,R,h2=>by lia
 |fuel+1,[],F,p,q,R,h2=>⟨p,q,by rw[Zav];simp[Zev]⟩
 |fuel+1,t::W,F,p,q,R,h2=>by
  have e0:((t::W).flatMap T.places)=t::((t.parts++W).flatMap T.places):=by rw[List.flatMap_cons,T.places_parts t,List.flatMap_append];simp
  rw[e0]at R h2 ⊢;have hp:t.parts.length<=3:=by cases t<;>simp[T.parts]
  simp only[Os]at R h2;have h3:=Zei<|t.parts++W;rw[OA]at h3;obtain⟨q1,e1⟩:=ZfV (U:=⟨P.G,P.GD,run P<|n+1,P.L⟩) (h:=h) (F:=F++[t.d]) (E:=E) (J t.d) (t.parts.map T.d).reverse (W.map T.d).reverse q (by simp;lia);obtain⟨p',q',e2⟩:=Zj9 H (h:=h) (E:=E) n fuel (t.parts++W) (F++[t.d]) (J t.d) q1 (by lia) (by rw[OA,List.length_singleton];lia);refine⟨p',q',?_⟩;have fI:F.length<Yc:=by rw[YC];lia
  rw[Zav];simp[Zev,ZfW,Zax,Zfv,Zp9,Zsz,fI,Zgl H,Zgv,e1];simpa using e2
def ZjT(H:Tre P)(hp:P.tb.lookup (O "places")=J Zdo)(n)(t:T)(h)(hz:t.size<=800000):run P (n+2) (O "places") [t.d] h=.ok (.ref h.length) (h++[.lst<|t.places.map T.d,.lst []]):=by rw[Zd hp<|rfl];obtain⟨p',q',e⟩:=Zj9 H (h:=h) (E:=t.d) n P.L [t] [] M M (by have:=H.big;unfold T.size at hz;simp;lia) (by unfold T.size at hz;simp;lia);simp at e;simp[Zdo,ZkK,Zw,YC,e]
end Gn
namespace IV
open PySem L2
section
variable {U:Tb}{S:Ev}{h R h2:Hd}
def Zdu(p:ev U o S h=.ok (.ref i) R)(l:R[i]?=J (.lst ys))(q:evs U es S R=.ok xs h2)(e:Zax m (.ref i) xs h2=r):ev U (.meth m o es) S h=r:=by rw[Zs3,p,Zu,Zbz l,q];exact e
def Zb2(q:ev U e S h=.ok d R):xs1 U (.drp e) S h=.ok (.nx,S) R:=by simp_all
def ZfZ(p:ev U o S h=.ok (.ref i) R)(l:R[i]?=J (.ins C fs))(f:fs.lookup m=M)(q:evs U es S R=.ok xs h2)(e:U.C (mnm C m) (.ref i::xs) h2=r):ev U (.mcl C m o es) S h=r:=by rw[Zv1,p,Zu,show ZT (.ref i) R=J (C,fs) by simp[ZT,l]];simp[f,q];exact e
def Zf0(p:evi U it S h=.ok w R)(q:Zx w.src g (tsto U c) (ev U e) w.xs (Za7 js S) [] R=.ok xs h2):ev U (.comp NC js it g c e) S h=.ok (.ref h2.length) (h2++[.lst xs]):=by simp_all
def Zv0(p:ev U e S h=.ok (.tup xs) R):evi U (.rev e) S h=.ok ⟨[],xs.reverse⟩ R:=by rw[Zs1,p];rfl
def ZfD(p:ev U e S h=.ok (.tup xs) R):evi U (.pl e) S h=.ok ⟨[],xs⟩ R:=by rw[ZlO,p];rfl
def Zh1(p:evs U es S h=.ok xs R)(hz:xs.length<=1000):ev U (.lstl es) S h=.ok (.ref R.length) (R++[.lst xs]):=by simp_all
def Zhr(p:evs U es S h=.ok xs R)(q:Zaj U.GD f xs R=r):ev U (.blt f es) S h=r:=by simp_all
def Zm0(e:h[i]?=J (.lst ys)):Zaj GD .len [.ref i] h=.ok (.int ys.length) h:=by simp only[Zaj,Zjw,seqOf,lstOf,e];rfl
def ZtD(e:h[i]?=J (.lst ys)):Zaj GD .tup [.ref i] h=.ok (.tup ys) h:=by simp only[Zaj,ZkS,lstOf,e];rfl
def ZgA(p:ev U e S h=.ok (.ref i) R)(l:R[i]?=J (.lst ys)):tst U (.ex e) S h=.ok (!ys.isEmpty) R:=by rw[ZoW,p,Zu,Zrn l];rfl
def Zaz(e:test S h=.ok Ws R)(q:body S R=.ok (.nx,ρ1) h2):ZE test body (n+1) S h=ZE test body n ρ1 h2:=by rw[Zav,e,Zu,q];rfl
def ZcC(e:test S h=.ok Wt R):ZE test body (n+1) S h=.ok (.nx,S) R:=by rw[Zav,e];rfl
def ZsS(p:ev U a S h=.ok (.int x) R)(q:ev U b S R=.ok (.int y) h2):tst U (.ex<|.cmp .Gt a b) S h=.ok (Wu<|y<x) h2:=ZbF (Zt p q)
def ZsC(p:ev U a S h=.ok (.int x) R)(q:ev U b S R=.ok (.int y) h2):tst U (.ex<|.cmp .Lt a b) S h=.ok (Wu<|x<y) h2:=ZbF (Zt p q)
def Zhe(b:ZbI g d S=J ρ1)(q:body ρ1 h=.ok (.nx,ρ2) h2):ZW [] g body (d::ds) S h=ZW [] g body ds ρ2 h2:=by rw[Zcv,b];simp ;rw[q];rfl
def ZjD(e:test S h=.ok Ws R)(q:body S R=.ok (.rt d,ρ1) h2):ZE test body (n+1) S h=.ok (.rt d,ρ1) h2:=by rw[Zav,e,Zu,q];rfl
def ZlF(p:ev U e S h=.ok x R):tst U (.ex<|.cmp .IsNot e<|.cst .non) S h=.ok (!Wu (x=.non)) R:=ZbF ((Zt p rfl).trans ZpR)
def Zqy(b:ZbI g d S=J ρ1)(q:body ρ1 h=.ok (.rt x,ρ2) h2):ZW [] g body (d::ds) S h=.ok (.rt x,ρ2) h2:=by rw[Zcv,b];simp ;rw[q];rfl
variable {c:Str}
def Zgs(q:xs1 U s S h=.exc c R):xs2 U (.cons s r) S h=.exc c R:=by rw[xs2,q];rfl
def Zt4(q:ev U e S h=.exc c R):xs1 U (.drp e) S h=.exc c R:=by rw[Zre,q];rfl
def Zxl(q:ev U e S h=.ok d R):xs1 U (.rai c e) S h=.exc c R:=by rw[xs1,q];rfl
def Zmn(e:test S h=.ok Ws R)(q:body S R=.exc c h2):ZE test body (n+1) S h=.exc c h2:=by rw[Zav,e,Zu,q];rfl
end
end IV
section
set_option tactic.hygienic false
set_option exponentiation.threshold 3000
namespace Gn
open PySem L2 IV
def Up(i:Nat)(h h':Hd):Prop:=h.length<=h'.length/\∀m,m<h.length->m≠i->h'[m]?=h[m]?
def Up.refl:Up i h h:=⟨Oq _,λ_ _ _=>rfl⟩
theorem Up.trans(x:Up i a b)(y:Up i b c):Up i a c:=⟨OE x.1 y.1,λm R h2=>(y.2 m (Ot R x.1) h2).trans<|x.2 m R h2⟩
theorem Up.set:Up i h (h.set i o):=⟨by simp,λm _ h2=>by rw[Oc<|YL h2]⟩
def Up.app:Up i h (h++g):=⟨by simp,λm R _=>Oe R⟩
def ZM{h:Hd}(e:h[i]?=J o):i<h.length:=(Ob.mp e).1
def Up.at{i m}(u:Up i h h')(e:h[m]?=J o)(ne:m≠i):h'[m]?=J o:=(u.2 m (ZM e) ne).trans e
def Alk(P:Pg)(f:Str)(fd:Fd):Prop:=∃ps N,ps.length=fd.ps.length/\N.length=fd.N.length/\P.tb.lookup f=J ⟨ps,N,fd.body⟩
def Alk.same(e:P.tb.lookup f=J fd):Alk P f fd:=⟨fd.ps,fd.N,rfl,rfl,e⟩
def ZdW(e:Alk P f fd)(hl:ds.length=fd.ps.length):run P (n+1) f ds h=Ze (xs2 ⟨P.G,P.GD,run P n,P.L⟩ fd.body (Zw fd.N ds) h):=by obtain⟨ps,N,R,h2,e⟩:=e;rw[Zd e<|hl.trans R.symm];unfold Zw;rw[h2]
structure Mk0(P:Pg):Prop where
 mixed:P.tb.lookup (O "_law_mixed")=J Zb0
 next:P.tb.lookup (O "_law_next")=J Zhn
 names:P.tb.lookup (O "_law_names")=J ZbZ
 there:P.tb.lookup (O "_law_there")=J Zdp
 plain:P.tb.lookup (O "_law_plain")=J ZfY
 function:Alk P (O "_law_function") Zdq
 number:Alk P (O "_law_number") Ze9
 any:Alk P (O "_law_any") Zd1
 width:P.tb.lookup (O "_law_width")=J ZbY
structure Mkr(P:Pg):Prop extends Mk0 P where
 deep:P.tb.lookup (O "_law_deep")=J ZcN
 program:Alk P (O "_law_program") Zen
noncomputable def big:Int:=1000000000000000000000000000057
def mixed(c k:Int):Int:=(c%big*271828182845904523536028747135+k*k*314159265358979323846264338327+577215664901532860606512090082)%big
def Z1(h:-(2^128)<i)(h2:i<2^128):i.natAbs<2^2000:=by
 have:i.natAbs<2^128:=by lia
 exact Ot this (Nat.pow_le_pow_right (by decide)<|by simp)
def ZnL(hk:-(2^60)<k/\k<2^60):0<=k*k/\k*k<2^120:=by
 have a:k.natAbs<2^60:=by lia
 have b:=Nat.mul_lt_mul'' a a;rw[<-Int.natAbs_mul_self];constructor
 . lia
 . exact Int.ofNat_lt.mpr b
def ZgJ(H:Alk P (O "_law_mixed") Zb0)(n)(c k)(h)(hk:-(2^60)<k/\k<2^60):run P (n+1) (O "_law_mixed") [.int c,.int k] h=.ok (.int<|mixed c k) h:=by rw[ZdW H rfl];have hp:opB .Pow (.int 10) (.int 30) h=.ok (.int 1000000000000000000000000000000) h:=rfl;have oh:=ZnL hk;have e1:opB .Mod (.int c) (.int 1000000000000000000000000000057) h=.ok (.int<|c%1000000000000000000000000000057) h:=ZU (by decide);have e2:opB .Mult (.int<|c%1000000000000000000000000000057) (.int 271828182845904523536028747135) h=.ok (.int<|c%1000000000000000000000000000057*271828182845904523536028747135) h:=Ze1 ⟨Z1 (by lia)<|by lia,Z1 (by decide)<|by simp⟩;have e3:opB .Mult (.int k) (.int k) h=.ok (.int<|k*k) h:=Ze1 ⟨Z1 (by lia)<|by lia,Z1 (by lia)<|by lia⟩;have e4:opB .Mult (.int<|k*k) (.int 314159265358979323846264338327) h=.ok (.int<|k*k*314159265358979323846264338327) h:=Ze1 ⟨Z1 (by lia)<|by lia,Z1 (by simp)<|by decide⟩;have e5:opB .Mod (.int<|c%1000000000000000000000000000057*271828182845904523536028747135+k*k*314159265358979323846264338327+577215664901532860606512090082) (.int 1000000000000000000000000000057) h=.ok (.int<|mixed c k) h:=ZU (by decide);simp[Zb0,Zf7,Zw,hp,e1,e2,e3,e4,e5]
def ZrJ(H:Mkr P)(n)(c k)(h)(hk:-(2^60)<k/\k<2^60):run P (n+1) (O "_law_mixed") [.int c,.int k] h=.ok (.int<|mixed c k) h:=ZgJ (.same H.mixed) n c k h hk
def St3(h:Hd)(i j:Nat)(cs:List Int)(at' b:Int):Prop:=h[i]?=J (.lst [.ref j,.int at',.int b])/\h[j]?=J (.lst<|cs.map .int)/\i≠j
def Zk7{P}(H:Mk0 P)(n)(st:St3 h i j cs a b)(ha:0<=a/\a<2^50):∃v,run P (n+2) (O "_law_next") [.ref i] h=.ok (.int v) (h.set i<|.lst [.ref j,.int<|a+1,.int b])/\(v∈cs\/v=mixed a 7):=by
 obtain⟨R,h2,ne⟩:=st;rw[Zd H.next<|rfl];have i2:(h.set i<|.lst [.ref j,.int<|a+1,.int b])[i]?=J (.lst [.ref j,.int<|a+1,.int b]):=by rw[Ol<|ZM R]
 have i3:(h.set i<|.lst [.ref j,.int<|a+1,.int b])[j]?=J (.lst<|cs.map .int):=by simp_all
 have ji:ZaD (.ref i) (.int 1) (.int<|a+1) h=.ok () (h.set i<|.lst [.ref j,.int<|a+1,.int b]):=by simp only[ZaD,R];rfl
 have x2:xs1 (P.tbl<|n+1) (.put (.var 0) (.ci 1)<|.bin .Add (.var 1)<|.ci 1) [J<|.ref i,J<|.int a] h=.ok (.nx,[J<|.ref i,J<|.int a]) (h.set i<|.lst [.ref j,.int<|a+1,.int b]):=by rw[Zmk];show(ZaD (.ref i) (.int 1) (.int<|a+1) h).bnd _=_;rw[ji];rfl
 generalize h.set i (.lst [.ref j,.int<|a+1,.int b])=h' at *;have tt:tst (P.tbl<|n+1) (.ex<|.cmp .Lt (.var 1)<|.blt .len<|.cons (.ix (.var 0)<|.ci 0) .nil) [J<|.ref i,J<|.int a] h'=.ok (Wu<|a<(cs.map D.int).length) h':=ZsC rfl<|Zhr (Zc ((Zs rfl rfl).trans<|(ZA i2).trans rfl) rfl)<|Zm0 i3;rw[Yu]at tt;by_cases hc:a<cs.length
 . obtain⟨k,rfl⟩:∃k:Nat,a=k:=⟨a.toNat,by lia⟩
   have hk:k<cs.length:=by lia
   have fW:atI (cs.map D.int) (k)=J (.int cs[k]):=by rw[IV.Zcd,On,Og hk];rfl
   exact⟨cs[k],(congrArg Ze<|(nx1 (Zg<|(Zs rfl rfl).trans<|(ZA R).trans rfl) rfl).trans<|nx1 x2 rfl).trans<|rt1 ((Zq<|Zm tt<|decide_eq_true hc).trans<|Zb<|Zk<|(Zs ((Zs rfl rfl).trans<|(ZA i2).trans rfl) rfl).trans<|(ZA i3).trans (by rw[fW];rfl)) rfl,.inl<|List.getElem_mem hk⟩
 . exact⟨mixed a 7,(congrArg Ze<|((nx1 (Zg<|(Zs rfl rfl).trans<|(ZA R).trans rfl) rfl).trans<|nx1 x2 rfl).trans<|nx1 ((Zo<|Zm tt<|decide_eq_false hc).trans rfl) rfl).trans<|rt1 (Zk<|Zi (ZgJ (.same H.mixed) n a 7 _<|by decide) rfl) rfl,.inr rfl⟩
def Wl(n:Nat)(x:Str):Prop:=Yp x=Ws/\x.length<=n
def Cl:List Str->T->Prop
 |_,.num n=>0<=n/\n<1000000
 |sc,.name x=>x∈sc
 |sc,.fn x e=>Cl (x::sc) e/\Wl 20 x
 |sc,.rcc f x e=>Cl (x::f::sc) e/\f≠x/\Wl 20 f/\Wl 20 x
 |sc,.call f a=>Cl sc f/\Cl sc a
 |sc,.iff c t e=>Cl sc c/\Cl sc t/\Cl sc e
 |sc,.op _ a b=>Cl sc a/\Cl sc b
noncomputable def dep:T->Nat
 |.num _|.name _=>0
 |.fn _ e|.rcc _ _ e=>dep e+1
 |.call f a=>max (dep f) (dep a)+1
 |.iff c t e=>max (dep c) (max (dep t)<|dep e)+1
 |.op _ a b=>max (dep a) (dep b)+1
noncomputable def fw:T->Int
 |.num _|.name _=>-1
 |.fn _ e|.rcc _ _ e=>fw e+3
 |.call f a=>fw f+fw a-1
 |.iff c t e=>fw c+fw t+fw e-1
 |.op _ a b=>fw a+fw b-1
noncomputable def nb:T->Nat
 |.num _|.name _=>0
 |.fn _ e=>nb e+1
 |.rcc _ _ e=>nb e+2
 |.call f a=>max (nb f) (nb a)
 |.iff c t e=>max (nb c) (max (nb t)<|nb e)
 |.op _ a b=>max (nb a) (nb b)
def at4(k)(h0:0<=k)(h4:k<4):∃v,atI [D.int a,.int b,.int c,.int d] k=J (.int v)/\(v=a\/v=b\/v=c\/v=d):=by
 have:k=0\/k=1\/k=2\/k=3:=by lia
 rcases this with rfl|rfl|rfl|rfl
 . simp
 . simp
 . simp
 simp
def ZiP(H:Mk0 P)(n)(w)(v)(h)(sc):∃t g,run P (n+1) (O "_law_plain") [.str w,.int v] h=.ok (T.d t) (h++g)/\Cl sc t/\(nb t<=dep t/\dep t<=2)/\t.size<=4/\fw t<=0:=by
 rw[Zd H.plain<|rfl];by_cases w1:w=O "n"
 . obtain⟨u,e,hu⟩:=at4 (a:=0) (b:=1) (c:=2) (d:=v/7%1000000) (v%4) (by lia) (by lia);exact⟨.num u,[.lst [.int 0,.int 1,.int 2,.int<|v/7%1000000]],rt1 (U:=P.tbl n) (ss:=Zb7) ((Zq<|Zm (ZaN rfl rfl)<|decide_eq_true w1).trans<|Zb<|Zk<|Zak (Zc rfl<|Zc (ZkE e (Zc rfl<|Zc rfl<|Zc rfl<|Zc ((Zr (x:=.int<|v/7) ((Zr rfl rfl).trans<|ZcH<|by decide) rfl).trans<|ZU<|by decide) rfl) ((Zr rfl rfl).trans<|ZU<|by decide)<|Nat.le_of_ble_eq_true rfl) rfl)<|Nat.le_of_ble_eq_true rfl) rfl,by show 0<=u/\u<1000000;lia,⟨Oq _,by show 0<=2;lia⟩,by show 1<=4;lia,by show(-1)<=0;decide⟩
 . by_cases w2:w=O "f"
   . refine⟨.fn (O "w")<|.op .sub (.name<|O "w")<|.num<|v%3,[],?_,?_,by simp only[dep,nb];lia,by show 4<=4;lia,by simp only[fw];lia⟩
     . rw[Yt];exact(congrArg Ze<|nx1 ((Zo<|Zm (ZaN rfl rfl)<|decide_eq_false w1).trans rfl) rfl).trans (rt1 (U:=P.tbl n) (ss:=tlS Zb7) ((Zq<|Zm (ZaN rfl rfl)<|decide_eq_true w2).trans<|Zb<|Zk<|Zak (Zc rfl<|Zc rfl<|Zc (Zak (Zc rfl<|Zc rfl<|Zc (Zak (Zc rfl<|Zc ((Zr rfl rfl).trans<|ZU<|by decide) rfl)<|Nat.le_of_ble_eq_true rfl) rfl)<|Nat.le_of_ble_eq_true rfl) rfl)<|Nat.le_of_ble_eq_true rfl) rfl)
     . exact⟨⟨Oi,by show 0<=v%3/\v%3<1000000;lia⟩,by unfold Wl;decide +kernel⟩
   . refine⟨.fn (O "w")<|.call (.name<|O "w")<|.num<|v%5,[],?_,?_,by simp only[dep,nb];lia,by show 4<=4;lia,by simp only[fw];lia⟩
     . rw[Yt];exact(congrArg Ze<|(nx1 ((Zo<|Zm (ZaN rfl rfl)<|decide_eq_false w1).trans rfl) rfl).trans<|nx1 ((Zo<|Zm (ZaN rfl rfl)<|decide_eq_false w2).trans rfl) rfl).trans (rt1 (U:=P.tbl n) (ss:=tlS<|tlS Zb7) (Zk<|Zak (Zc rfl<|Zc rfl<|Zc (Zak (Zc rfl<|Zc rfl<|Zc (Zak (Zc rfl<|Zc ((Zr rfl rfl).trans<|ZU<|by decide) rfl)<|Nat.le_of_ble_eq_true rfl) rfl)<|Nat.le_of_ble_eq_true rfl) rfl)<|Nat.le_of_ble_eq_true rfl) rfl)
     . exact⟨⟨Oi,by show 0<=v%5/\v%5<1000000;lia⟩,by unfold Wl;decide +kernel⟩
noncomputable def ZJ:Str:=O "abcdefghijklmnopqrstuvwxyz"
def Zlw:Yp ZJ=Ws:=by decide +kernel
noncomputable def ltr(k:Int):Nat:=ZJ.cps.toList.getD k.toNat 0
def lt1(k:Int):Str:=⟨#[ltr k]⟩
def Zlx(k)(h0:0<=k)(R:k<26):ZaM GD (.str ZJ) (.int k) h=.ok (.str<|lt1 k) h/\Wl 1 (lt1 k):=by
 obtain⟨m,rfl⟩:∃m:Nat,k=m:=⟨k.toNat,by lia⟩
 have hl:ZJ.cps.toList.length=26:=rfl;have hm:m<ZJ.cps.toList.length:=by lia
 have el:ltr m=ZJ.cps.toList[m]:=by show ZJ.cps.toList.getD (m:Int).toNat 0=_;rw[Int.toNat_natCast,List.getD_eq_getElem?_getD,Og hm];rfl
 have e:atI ZJ.cps.toList m=J ZJ.cps.toList[m]:=by rw[IV.Zcd,Og hm]
 unfold lt1;rw[el];refine⟨?_,ZpV Zlw<|List.getElem_mem hm,by show #[ZJ.cps.toList[m]].size<=1;simp⟩;have q:ZaM GD (.str ZJ) (.int m) h=if ZJ.length<=Yc then qd.ofO ((atI ZJ.cps.toList m).map λc=>.str ⟨#[c]⟩) h else .bad:=rfl;rw[q,e];rfl
def len_cat{x y:Str}:(x++y).length=x.length+y.length:=by show(x.cps++y.cps).size=_;rw[Array.size_append];rfl
def Zfg{x y}(hx:Wl a x)(hy:Wl b y)(hz:a+b<=1000):opB .Add (.str x) (.str y) h=.ok (.str<|x++y) h/\Wl (a+b) (x++y):=by refine⟨if_pos (by rw[YC];have:=hx.2;have:=hy.2;lia),Zim hx.1 hy.1,by rw[len_cat];have:=hx.2;have:=hy.2;lia⟩
theorem Zqi{U}:∀(ks:List Int) (r) (x) (m) (k),Wl m x->x.length=m->m+ks.length<=100->∃r' x' k',Wl (m+ks.length) x'/\x'.length=m+ks.length /\
 ZW [] (.nm 6) (xs2 U<|.cons (.set (.nm 5)<|.bin .Add (.var 5)<|.ix (.var 1)<|.bin .Mod (.var 4)<|.ci 26)<|.cons (.set (.nm 4)<|.bin .FloorDiv (.var 4)<|.ci 26) .nil) (ks.map D.int) [a,J<|.str ZJ,l,p,J<|.int r,J<|.str x,k,f,sg,wd] h
  = .ok (.nx,[a,J<|.str ZJ,l,p,J<|.int r',J<|.str x',k',f,sg,wd]) h
 |[],r,x,m,k,hx,hn,hm=>⟨r,x,k,hx,hn,rfl⟩
 |c::cs,r,x,m,k,hx,hn,hm=>by
  obtain⟨e1,hy⟩:=Zlx (GD:=U.GD) (h:=h) (r%26) (by lia) (by lia);obtain⟨e2,i6⟩:=Zfg (h:=h) hx hy (by lia);obtain⟨r',x',k',R,h2,e3⟩:=Zqi (U:=U) (h:=h) (a:=a) (l:=l) (p:=p) (f:=f) (sg:=sg) (wd:=wd) cs (r/26) (x++lt1 (r%26)) (m+1) (J<|.int c) i6 (by rw[len_cat,hn];rfl) (by simp at hm ⊢;lia);have jD:m+(c::cs).length=m+1+cs.length:=by rw[Os];lia
  refine⟨r',x',k',jD▸R,jD▸h2,?_⟩;have e4:opB .Mod (.int r) (.int 26) h=.ok (.int<|r%26) h:=ZU (by decide);have e5:opB .FloorDiv (.int r) (.int 26) h=.ok (.int<|r/26) h:=ZcH (by decide);rw[Op,Zcv]
  simp_all
def ZuF(x)(l u):(Yq x l u).length<=x.length:=by
 unfold Yq;split
 . simp
 . refine OE (List.length_filterMap_le _ _) (PySem.sliceRange_length_le _ _ _ _ (λ_=>?_)<|λz=>absurd (by simp) z);cases l<;>cases u<;>simp<;>lia
def ZdV(hx:Wl m x)(hm:m<=1000)(l u):ZhY (.str x) l u h=.ok (.str<|Yq x l u) h/\Wl m (Yq x l u):=by
 refine⟨if_pos (by rw[YC];have:=hx.2;lia),ZpT hx.1<|ZgF _ _ _,?_⟩;have:=hx.2;have q:=ZuF x l u
 lia
def in4:opC GD .In (.str x) (.tup [.str<|O "fn",.str<|O "rec",.str<|O "call",.str<|O "if"]) h=.ok (.bl<|Wu<|x∈[O "fn",O "rec",O "call",O "if"]) h:=ZcG (ss:=[O "fn",O "rec",O "call",O "if"])
def len_str(hx:Wl m x)(hm:m<=1000):Zaj GD .len [.str x] h=.ok (.int x.length) h:=if_pos (by rw[YC];have:=hx.2;lia)
def ZtM(hx:Wl m x)(hm:m<=1000):opB .Mult (.str<|O "q") (.int x.length) h=.ok (.str<|Zf8 (O "q") x.length) h/\Wl m (Zf8 (O "q") x.length):=by
 have hq:(O "q").length=1:=rfl;have:=hx.2;refine⟨if_pos ⟨by lia,by lia,by trivial⟩,ZpU (by decide +kernel) _,?_⟩;rw[ZeU,hq]
 lia
def nmW(b:Str)(l p r c:Int):Str:=if r/26%4=1 then Yq b M (J<|8-c)else Yq b M (J p)++lt1 ((r+5*c)%26)++Yq b (J<|p+1) (J l)
def nmQ(w:Str):Str:=if w∈[O "fn",O "rec",O "call",O "if"]then Zf8 (O "q") w.length else w
def nm(b:Str)(l p r c:Int):Str:=nmQ (nmW b l p r c)
def Zp0(hb:Wl 8 b)(l p r c):Wl 20 (nmW b l p r c):=by
 unfold nmW;split
 . have q:=(ZdV (h:=[]) hb (by decide) M<|J<|8-c).2;exact⟨q.1,by have:=q.2;lia⟩
 . have q:=(Zfg (h:=[]) (Zfg (h:=[]) (ZdV (h:=[]) hb (by decide) M<|J p).2 (Zlx (GD:=λ_=>M) (h:=[]) ((r+5*c)%26) (by lia)<|by lia).2<|by decide).2 (ZdV (h:=[]) hb (by decide) (J<|p+1)<|J l).2<|by decide).2;exact⟨q.1,by have:=q.2;lia⟩
def ZxX(hb:Wl 8 b)(l p r c):Wl 20 (nm b l p r c):=by
 unfold nm nmQ;split
 . exact(ZtM (h:=[]) (Zp0 hb l p r c)<|by simp).2
 . exact Zp0 hb l p r c
def Zvy:Sx:=.s 8 (.ix V1<|.bin .Mod (.bin .Add V4<|.bin .Mult F5 V6) F26)
def Zvx:Sx:=.s 9 (.bin .Add (.bin .Add (.sl V5 M<|J V3) V8)<|.sl V5 (J<|.bin .Add V3 F1)<|J V2)
def Zvt:Tx:=.q (.bin .Mod (.bin .FloorDiv V4 F26) F4) F1
def Zx8:Sx:=.s 9 (.sl V5 M<|J<|.bin .Sub F8 V6)
def Zx7:Exs:=.z (.Ci_ "fn") (.Ci_ "rec") (.Ci_ "call") (.Ci_ "if")
def Zx9:Sx:=.s 9 (.bin .Mult (.Ci_ "q")<|.blt .len<|.o V9)
def Zvv:Sx:=.drp (.meth .app V7<|.o V9)
def Zvu:Sxs:=.w (.iff (.x .In V9<|.tupl Zx7) (.o Zx9) .n) Zvv
def Zvw:Sxs:=.c Zvy (.c Zvx<|.c (.iff Zvt (.o Zx8) .n) Zvu)
def vn(a:Option D)(l p r:Int)(b:Str)(q:Nat)(k sg wd:Option D):Ev:=[a,J<|.str ZJ,J<|.int l,J<|.int p,J<|.int r,J<|.str b,k,J<|.ref q,sg,wd]
def Zqd(hw:Wl 20 wd)(hz:ds.length<16777216):xs2 U Zvu (vn a l p r b h.length k sg<|J<|.str wd) (h++[.lst ds])=.ok (.nx,vn a l p r b h.length k sg<|J<|.str<|nmQ wd) (h++[.lst<|ds++[.str<|nmQ wd]]):=by
 have ap:∀w:Str,xs1 U Zvv (vn a l p r b h.length k sg<|J<|.str w) (h++[.lst ds])=.ok (.nx,vn a l p r b h.length k sg<|J<|.str w) (h++[.lst<|ds++[.str w]]):=λw=>by have e:=Zb2<|Zdu (U:=U) (S:=vn a l p r b h.length k sg<|J<|.str w) (o:=.var 7) (es:=.cons (.var 9) .nil) rfl Z0 rfl<|Z5 (d:=.str w) (Z0 (h:=h) (x:=.lst ds) (r:=[]))<|YC▸hz;rw[show(h++[DO.lst ds]).set h.length (.lst<|ds++[.str w])=h++[.lst<|ds++[.str w]] by simp]at e;exact e
 unfold nmQ;by_cases eP:wd∈[O "fn",O "rec",O "call",O "if"]
 . rw[if_pos eP];exact(Za<|(Zq<|Zm (ZbF<|(Zt (x:=.str wd) rfl<|Zak (xs:=[.str<|O "fn",.str<|O "rec",.str<|O "call",.str<|O "if"]) rfl<|by decide).trans in4)<|decide_eq_true eP).trans<|(Za<|Zg<|(Zr rfl<|Zhr rfl<|len_str hw<|by decide).trans (ZtM hw<|by decide).1).trans rfl).trans ((Za<|ap _).trans rfl)
 . rw[if_neg eP];exact(Za<|(Zo<|Zm (ZbF<|(Zt (x:=.str wd) rfl<|Zak (xs:=[.str<|O "fn",.str<|O "rec",.str<|O "call",.str<|O "if"]) rfl<|by decide).trans in4)<|decide_eq_false eP).trans rfl).trans ((Za<|ap _).trans rfl)
def Zya(hb:Wl 8 b)(hc:0<=c/\c<100)(hz:ds.length<16777216):xs2 U Zvw (vn a l p r b h.length (J<|.int c) sg wd) (h++[.lst ds])=.ok (.nx,vn a l p r b h.length (J<|.int c) (J<|.str<|lt1<|(r+5*c)%26)<|J<|.str<|nm b l p r c) (h++[.lst<|ds++[.str<|nm b l p r c]]):=by
 obtain⟨e1,hy⟩:=Zlx (GD:=U.GD) (h:=h++[.lst ds]) ((r+5*c)%26) (by lia) (by lia);obtain⟨f1,w1⟩:=ZdV (h:=h++[.lst ds]) hb (by decide) M<|J p;obtain⟨f2,w2⟩:=ZdV (h:=h++[.lst ds]) hb (by decide) (J<|p+1)<|J l;obtain⟨f3,w3⟩:=ZdV (h:=h++[.lst ds]) hb (by decide) M<|J<|8-c;obtain⟨c1,v1⟩:=Zfg (h:=h++[.lst ds]) w1 hy (by decide);obtain⟨c2,v2⟩:=Zfg (h:=h++[.lst ds]) v1 w2 (by decide);unfold nm nmW;generalize lt1 ((r+5*c)%26)=y at *;have x8:xs1 U Zvy (vn a l p r b h.length (J<|.int c) sg wd) (h++[.lst ds])=.ok (.nx,vn a l p r b h.length (J<|.int c) (J<|.str y) wd) (h++[.lst ds]):=Zg ((Zs (x:=.str ZJ) rfl<|(Zr (x:=.int<|r+5*c) ((Zr rfl<|(Zr rfl rfl).trans<|Ze1 ⟨Z1 (by decide)<|by decide,Z1 (by lia)<|by lia⟩).trans rfl) rfl).trans<|ZU<|by decide).trans e1);have g1:ev U (.sl (.var 5) M<|J<|.var 3) (vn a l p r b h.length (J<|.int c) (J<|.str y) wd) (h++[.lst ds])=.ok (.str<|Yq b M<|J p) (h++[.lst ds]):=f1;have g2:ev U (.sl (.var 5) (J<|.bin .Add (.var 3)<|.ci 1)<|J<|.var 2) (vn a l p r b h.length (J<|.int c) (J<|.str y) wd) (h++[.lst ds])=.ok (.str<|Yq b (J<|p+1)<|J l) (h++[.lst ds]):=f2;have g3:∀w,ev U (.sl (.var 5) M<|J<|.bin .Sub (.ci 8)<|.var 6) (vn a l p r b h.length (J<|.int c) (J<|.str y) w) (h++[.lst ds])=.ok (.str<|Yq b M<|J<|8-c) (h++[.lst ds]):=λ_=>f3;have x9:xs1 U Zvx (vn a l p r b h.length (J<|.int c) (J<|.str y) wd) (h++[.lst ds])=.ok (.nx,vn a l p r b h.length (J<|.int c) (J<|.str y)<|J<|.str<|Yq b M (J p)++y++Yq b (J<|p+1) (J l)) (h++[.lst ds]):=Zg<|(Zr ((Zr g1 rfl).trans c1) g2).trans c2;have tt:tst U Zvt (vn a l p r b h.length (J<|.int c) (J<|.str y)<|J<|.str<|Yq b M (J p)++y++Yq b (J<|p+1) (J l)) (h++[.lst ds])=.ok (Wu<|r/26%4=1) (h++[.lst ds]):=ZfF ((Zr (x:=.int<|r/26) ((Zr rfl rfl).trans<|ZcH<|by decide) rfl).trans<|ZU<|by decide) rfl;refine(Za x8).trans<|(Za x9).trans ?_;by_cases hr:r/26%4=1
 . rw[if_pos hr];exact(Za<|(Zq<|Zm tt<|decide_eq_true hr).trans<|(Za<|Zg<|g3 _).trans rfl).trans (Zqd ⟨w3.1,by have:=w3.2;lia⟩ hz)
 . rw[if_neg hr];exact(Za<|(Zo<|Zm tt<|decide_eq_false hr).trans rfl).trans (Zqd ⟨v2.1,by have:=v2.2;lia⟩ hz)
theorem Zm3(hb:Wl 8 b):∀(ks:List Int) (fo) (k sg wd),fo.length+ks.length<=100->(∀c∈ks,0<=c/\c<100)->∃k' gy gm,
 ZW [] (.nm 6) (xs2 U Zvw) (ks.map D.int) (vn a l p r b h.length k sg wd) (h++[.lst<|fo.map .str])
  = .ok (.nx,vn a l p r b h.length k' gy gm) (h++[.lst<|(fo++ks.map (nm b l p r)).map .str])
 |[],fo,k,sg,wd,h2,h3=>⟨k,sg,wd,by simp⟩
 |c::cs,fo,k,sg,wd,h2,h3=>by rw[Os]at h2;obtain⟨k',gy,gm,e3⟩:=Zm3 (U:=U) (h:=h) (a:=a) (l:=l) (p:=p) (r:=r) hb cs (fo++[nm b l p r c]) (J<|.int c) (J<|.str<|lt1<|(r+5*c)%26) (J<|.str<|nm b l p r c) (by rw[OA,List.length_singleton];lia)<|λz hz=>h3 z<|.tail _ hz;refine⟨k',gy,gm,(Zhe rfl<|Zya hb (h3 c<|.head _) (by rw[Yu];lia)).trans ?_⟩;rw[List.map_append,Oz]at e3;exact e3
def ZvB:∀k∈[[102,110],[114,101,99],[99,97,108,108],[105,102]],∀l∈[[102,110],[114,101,99],[99,97,108,108],[105,102],YK k.length 113],k=l\/k.length≠l.length\/∀i,i<4->∃j,j<4/\j≠i/\k[j]?≠l[j]? := by trivial
def Zm5(ne:x≠y)(a)(h:a++x::b∈[[102,110],[114,101,99],[99,97,108,108],[105,102]]):a++y::b ∉ [[102,110],[114,101,99],[99,97,108,108],[105,102]]/\a++y::b≠YK (a++x::b).length 113:=by
 have l4:=by
  have:∀k∈[[102,110],[114,101,99],[99,97,108,108],[105,102]],k.length<=4:=by decide
  exact this _ h
 have sl:(a++x::b).length=(a++y::b).length:=by simp
 have no:∀l∈[[102,110],[114,101,99],[99,97,108,108],[105,102],YK (a++x::b).length 113],a++y::b≠l:=λl hl e=>by
  rcases ZvB _ h l hl with q|q|q
  . rw[<-e]at q;exact ne (List.cons.inj<|List.append_cancel_left q).1
  . exact q (by rw[<-e];trivial)
  . obtain⟨j,_,nj,d⟩:=q a.length (by simp at l4;lia);rw[<-e]at d;rcases Nat.lt_or_ge j a.length with z|z
    . exact d (by rw[Oe z,Oe z])
    . rw[Om z,Om z]at d;obtain⟨m,hm⟩:∃m,j-a.length=m+1:=⟨j-a.length-1,by lia⟩
      rw[hm]at d;exact d rfl
 refine⟨λm=>no _ (Ys [YK (a++x::b).length 113] m) rfl,no _<|Ov [[102,110],[114,101,99],[99,97,108,108],[105,102]]<|Ox.mpr rfl⟩
def Zqk:w∈[O "fn",O "rec",O "call",O "if"]↔w.cps.toList∈[[102,110],[114,101,99],[99,97,108,108],[105,102]]:=by
 have e:[[102,110],[114,101,99],[99,97,108,108],[105,102]]=[O "fn",O "rec",O "call",O "if"].map (·.cps.toList):=rfl;rw[e];refine⟨λh=>List.mem_map_of_mem h,λh=>?_⟩;obtain⟨v,hv,q⟩:=List.mem_map.mp h;have:v=w:=by obtain⟨⟨w⟩⟩:=w;cases q;rfl
 exact this▸hv
def ZjP:∀n,(Zf8 (O "q") n).cps.toList=YK n 113
 |n=>by
  have:∀(n) (a),((YK n (O "q").cps).foldl (·++·) a).toList=a.toList++YK n 113:=by
   intro n;induction n with
   |zero=>simp
   |succ n ih=>intro a;rw[List.replicate_succ,List.foldl_cons,ih,Array.toList_append,Oz];rfl
  have q:=this n #[];trivial
def nq(hv:v.cps.toList=a++x::b)(hw:w.cps.toList=a++y::b)(ne:x≠y):nmQ v≠nmQ w:=by
 have hl:v.length=(a++x::b).length/\w.length=(a++y::b).length:=by rw[<-hv,<-hw];trivial
 unfold nmQ;intro e;have e':=congrArg (·.cps.toList) e;simp only[Zqk]at e';split at e'
 . rename_i kv;rw[hv]at kv;obtain⟨k1,k2⟩:=Zm5 ne a kv;rw[if_neg (by rw[hw];trivial),ZjP,hw,hl.1]at e';exact k2 e'.symm
 . split at e'
   . rename_i kw;rw[hw]at kw;obtain⟨k1,k2⟩:=Zm5 (YL ne) a kw;rw[ZjP,hv,hl.2]at e';trivial
   simp_all
def ZmT(w):(nmQ w).length=w.length:=by
 unfold nmQ;split
 . rw[ZeU,show(O "q").length=1 by trivial,Nat.mul_one]
 . rfl
def ZsB:∀i j:Fin 26,ltr i.val=ltr j.val->i=j:=by trivial
theorem ZxY(hb:b.length=8)(hc:0<=c/\c<5)(hd:0<=d/\d<5)(ne:c≠d):nm b l p r c≠nm b l p r d:=by
 unfold nm nmW;split
 . intro e;have e':=congrArg Str.length e;have len:∀ z ,0<=z/\z<5->(Yq b M<|J<|8-z).length=(8-z).toNat:=λz hz=>by
     have h8:b.cps.toList.length=8:=by simpa [Str.length] using hb
     rw [StrLaws.sliceText_to ⟨by lia,by lia⟩];show (List.take (8-z-0).toNat<|List.drop 0 b.cps.toList).toArray.size=_;rw [Of,List.length_take,List.drop_zero,h8]
     lia
   rw [ZmT,ZmT,len c hc,len d hd] at e'
   lia
 . refine nq (a:=(Yq b M<|J p).cps.toList) (b:=(Yq b (J<|p+1)<|J l).cps.toList) (x:=ltr<|(r+5*c)%26) (y:=ltr<|(r+5*d)%26) ?_ ?_ ?_
   . show (_++#[ltr<|(r+5*c)%26]++_).toList=_;simp
   . show (_++#[ltr<|(r+5*d)%26]++_).toList=_;simp
   . intro e;have q:=ZsB ⟨((r+5*c)%26).toNat,by lia⟩ ⟨((r+5*d)%26).toNat,by lia⟩ (by
       show ltr (((r+5*c)%26).toNat)=ltr (((r+5*d)%26).toNat);rw [Int.toNat_of_nonneg<|by lia,Int.toNat_of_nonneg<|by lia];exact e)
     have q:=Fin.mk.inj q
     lia
def ZpZ(hb:b.length=8):([0,1,2,3,4].map<|nm b l p r).Nodup:=by
 refine List.pairwise_map.mpr (List.Pairwise.imp_of_mem (λ{x y} hx hy ne=>ZxY hb ?_ ?_ ne)<|by decide)
 . simp at hx;lia
 . simp at hy;lia
def ZrI(H:Alk P (O "_law_names") ZbZ)(n)(v)(h):∃ns:List Str,ns.length=5/\(∀x∈ns,Wl 20 x)/\ns.Nodup/\run P (n+1) (O "_law_names") [.int v] h=.ok (.ref h.length) (h++[.lst<|ns.map .str]):=by
 rw[ZdW H rfl];have u8:Zbe 0 8=[0,1,2,3,4,5,6,7].map D.int:=by rfl
 have u5:Zbe 0 5=[0,1,2,3,4].map D.int:=by rfl
 have m8:opB .Mod (.int v) (.int 8) h=.ok (.int<|v%8) h:=ZU (by decide);have d8:opB .FloorDiv (.int v) (.int 8) h=.ok (.int<|v/8) h:=ZcH (by decide);have mp:opB .Mod (.int<|v/8) (.int<|1+v%8) h=.ok (.int<|v/8%(1+v%8)) h:=ZU (by lia);have nF:opB .FloorDiv (.int v) (.int 64) h=.ok (.int<|v/64) h:=ZcH (by decide);obtain⟨r',b,k',hb,mX,e1⟩:=Zqi (U:=⟨P.G,P.GD,run P n,P.L⟩) (h:=h) (a:=J<|.int v) (l:=J<|.int<|1+v%8) (p:=J<|.int<|v/8%(1+v%8)) (f:=M) (sg:=M) (wd:=M) [0,1,2,3,4,5,6,7] (v/64) (O "") 0 M ⟨by decide +kernel,by decide +kernel⟩ (by decide +kernel) (by decide);obtain⟨k2,gy,gm,e2⟩:=Zm3 (U:=⟨P.G,P.GD,run P n,P.L⟩) (h:=h) (a:=J<|.int v) (l:=1+v%8) (p:=v/8%(1+v%8)) (r:=r') hb [0,1,2,3,4] [] k' M M (by decide) (by decide);refine⟨[0,1,2,3,4].map<|nm b (1+v%8) (v/8%(1+v%8)) r',rfl,λx hx=>?_,ZpZ mX,?_⟩
 . obtain⟨c,_,rfl⟩:=List.mem_map.mp hx;exact ZxX hb _ _ _ _
 generalize nm b (1+v%8) (v/8%(1+v%8)) r'=F at e2 ⊢;simp only[Oy,OB]at e2;have s8:ZdU 8=Ws:=by decide
 have s5:ZdU 5=Ws:=by decide
 unfold ZJ at e1;unfold vn Zvw Zvu Zvy Zvx Zvt Zx8 Zx7 Zx9 Zvv ZJ at e2;rw[<-u8]at e1;rw[<-u5]at e2
 try simp at e1
 try simp at e2
 simp[ZbZ,Zf6,Zw,m8,d8,mp,nF,s8,s5,e1,e2,YC]
end Gn
end
namespace Gn
open PySem L2 IV
set_option tactic.hygienic false
noncomputable abbrev Scp:=List (Str×Str)
noncomputable def pairOf(p:Str×Str):D:=.tup [.str p.1,.str p.2]
def ZoG(h:Hd)(k:Nat)(sc:Scp):Prop:=h[k]?=J (.lst<|sc.map pairOf)
structure KnOk(sc:Scp)(kn:List (Key×D)):Prop where
 key:∀p∈kn,∃x,p.1=YE x/\x∈sc.map (·.1)
 val:∀p∈kn,∃s,p.2=D.str s
def ZjV(h:p∈putD kn k v):p∈kn\/p=(k,v):=by
 unfold putD at h;split at h
 . obtain⟨q,hq,e⟩:=List.mem_map.mp h;split at e
   . simp_all
   simp_all
 simp_all
def Zpr:(putD kn k v).length<=kn.length+1:=by unfold putD;split<;>simp
def ZrR(hz:kn.length<1000):ZaD (.ref h.length) (.str x) v (h++[.dic kn])=.ok () (h++[.dic<|putD kn (.inr x) v]):=by simp only[ZaD,Z0,keyOf];rw[if_pos (by rw[YC];lia)];simp
theorem Zm1(hs:ZoG h k sc0):∀ (sc:Scp) (kn) (a b),(∀ p∈sc,p∈sc0)->KnOk sc0 kn->kn.length+sc.length<=500->∃ cE a' b',KnOk sc0 cE/\cE.length<=kn.length+sc.length /\
   ZW [(k,sc0.map pairOf)] (.two 3 4) (xs2 U<|.cons (.put (.var 2) (.var 3)<|.var 4) .nil) (sc.map pairOf) [J<|.ref k,w,J<|.ref h.length,a,b] (h++[.dic kn])
     = .ok (.nx,[J<|.ref k,w,J<|.ref h.length,a',b']) (h++[.dic cE])
 |[],kn,a,b,R,h2,h3=>by
   refine⟨kn,a,b,h2,by simp,?_⟩;simp [ZW,Wk.stays,(Oe<|ZM hs).trans hs]
 | (x,s)::sc,kn,a,b,R,h2,h3=>by
   simp only [Os] at h3;have pl:=Zpr (kn:=kn) (k:=.inr x) (v:=.str s);obtain⟨cE,a',b',q1,q2,e⟩:=Zm1 (U:=U) (w:=w) hs sc (putD kn (.inr x)<|.str s) (J<|.str x) (J<|.str s) (λp hp=>R p<|by simp [hp]) (by
     refine⟨λp hp=>?_,λp hp=>?_⟩
     . rcases ZjV hp with z|rfl
       . exact h2.key p z
       . exact⟨x,rfl,List.mem_map.mpr ⟨(x,s),R _<|by simp,rfl⟩⟩
     . rcases ZjV hp with z|rfl
       . exact h2.val p z
       . exact⟨s,rfl⟩) (by lia)
   refine⟨cE,a',b',q1,by simp only [Os];lia,?_⟩;rw [Op,ZW];simp only [Wk.stays,(Oe<|ZM hs).trans hs,decide_true,if_true];simp [pairOf,ZrR (h:=h) (kn:=kn) (x:=x) (v:=.str s)<|by lia];simpa [pairOf] using e
def find_key(hx:YE x∈kn.map (·.1)):∃v,ZH kn (.inr x)=J v/\(YE x,v)∈kn:=by
 induction kn with
 |nil=>simp_all
 |cons p r ih=>
  unfold ZH;by_cases e:p.1=YE x
  . refine⟨p.2,?_,?_⟩
    . simp_all
    . rw[<-e];exact Oi
  . obtain⟨v,R,h2⟩:=ih (by simpa[YL e]using hx);refine⟨v,?_,Oh _ h2⟩;simpa[Wm,e,ZH]using R
theorem Zm8{sc:Scp}:∀{kn:List (Key×D)},(∀p∈kn,∃x,p.1=YE x/\x∈sc.map (·.1))->∃ss,Zan kn=J ss/\ss.length=kn.length/\(∀x∈ss,x∈sc.map (·.1)/\YE x∈kn.map (·.1))
 |[],_=>⟨[],rfl,rfl,by simp⟩
 |(k,v)::r,h=>by
  obtain⟨x,e,hx⟩:=h (k,v) (by simp);cases e;obtain⟨ss,e1,e2,e3⟩:=Zm8 (kn:=r) λp hp=>h p (by simp_all);refine⟨x::ss,by rw[Zan,e1];rfl,by simp_all,λy hy=>?_⟩;rcases O2.mp hy with rfl|hy
  . exact⟨hx,by simp⟩
  . exact⟨(e3 y hy).1,by simp[(e3 y hy).2]⟩
theorem Zlz{U}{so:List Str}(hv:∀p∈kn,∃s,p.2=D.str s):∀(xs:List Str) (ai:List Str),(∀x∈xs,YE x∈kn.map (·.1))->ai.length+xs.length<=1000->∃ys,(∀y∈ys,y∈xs) /\
 Zx [(h.length+1,so.map D.str)] (.nm 0) (tsto U<|J<|.ex<|.cmp .Eq (.ix (.var 2)<|.var 0)<|.var 1) (ev U<|.var 0) (xs.map D.str) [M,J<|.str w,J<|.ref h.length] (ai.map .str) (h++[.dic kn,.lst<|so.map .str])
  = .ok ((ai++ys).map .str) (h++[.dic kn,.lst<|so.map .str])
 |[],ai,R,h2=>⟨[],by simp,by simp[Zx,Wk.stays]⟩
 |x::xs,ai,R,h2=>by
  simp only[Os]at h2;obtain⟨v,e1,hm⟩:=find_key (R x<|by simp);obtain⟨s,rfl⟩:∃s,v=D.str s:=hv _ hm;have ix:ZaM U.GD (.ref h.length) (.str x) (h++[.dic kn,.lst<|so.map .str])=.ok (.str s) (h++[.dic kn,.lst<|so.map .str]):=by simp[ZaM,dicOf,e1]
  have hz:ai.length<Yc:=by rw[YC];lia
  by_cases hw:s=w
  . obtain⟨ys,q1,q2⟩:=Zlz (U:=U) (h:=h) (w:=w) (so:=so) hv xs (ai++[x]) (λy hy=>R y<|by simp[hy]) (by simp;lia);refine⟨x::ys,λy hy=>?_,?_⟩
    . rcases O2.mp hy with rfl|hy
      . simp
      . simp[q1 y hy]
    . rw[Op,ZY];simp at q2;simp[Wk.stays,hz,ix,hw,q2]
  . obtain⟨ys,q1,q2⟩:=Zlz (U:=U) (h:=h) (w:=w) (so:=so) hv xs ai (λy hy=>R y<|by simp[hy]) (by lia);refine⟨ys,λy hy=>by simp[q1 y hy],?_⟩;rw[Op,ZY];simp at q2;simp[Wk.stays,hz,ix,hw,q2]
theorem ZrF{P}(H:Mk0 P)(n){sc}(w)(hs:ZoG h k sc)(hl:sc.length<=60)(hok:∀ p∈sc,Yp p.1=Ws):∃ (ys:List Str) (g:Hd),(∀ y∈ys,y∈sc.map (·.1))/\g.length=2 /\
   run P (n+1) (O "_law_there") [.ref k,.str w] h=.ok (.ref<|h.length+2) (h++g++[.lst<|ys.map .str]):=by
 rw [Zd H.there rfl];obtain⟨kn,a',b',hk,kq,e1⟩:=Zm1 (U:=⟨P.G,P.GD,run P n,P.L⟩) (w:=J<|.str w) hs sc [] M M (λ_ hp=>hp) ⟨by simp,by simp⟩ (by simp;lia);obtain⟨ss,e2,e3,e4⟩:=Zm8 hk.key;have perm:=ZdT ss;obtain⟨ys,q1,q2⟩:=Zlz (U:=⟨P.G,P.GD,run P n,P.L⟩) (h:=h) (kn:=kn) (w:=w) (so:=ZcZ ss) hk.val (ZcZ ss) [] (λx hx=>(e4 x<|perm.mem_iff.mp hx).2) (by rw [perm.length_eq];simp at kq ⊢;lia);refine⟨ys,[.dic kn,.lst<|(ZcZ ss).map .str],λy hy=>(e4 y<|perm.mem_iff.mp<|q1 y hy).1,rfl,?_⟩;have je:Zaj P.GD .srt [.ref h.length] (h++[.dic kn])=.ok (.ref<|h.length+1) (h++[.dic kn,.lst<|(ZcZ ss).map .str]):=by
   show Zfp P.GD [.ref h.length] (h++[.dic kn])=_;simp only [Zfp,dicOf,Z0,Yz,e2];rw [if_pos ⟨by simp at kq;lia,by
   rw [OC];intro x hx;obtain⟨p,hp,rfl⟩:=List.mem_map.mp (e4 x hx).1;exact hok p hp⟩]
   simp
 have lU:ZaA (.ref k) (h++[DO.dic []])=J ⟨[(k,sc.map pairOf)],sc.map pairOf⟩:=by
   have:(h++[DO.dic []])[k]?=J (.lst<|sc.map pairOf):=(Oe<|ZM hs).trans hs;simp [ZaA,this]
 have lT:ZaA (.ref<|h.length+1) (h++[DO.dic kn,.lst<|(ZcZ ss).map .str])=J ⟨[(h.length+1,(ZcZ ss).map .str)],(ZcZ ss).map .str⟩:=by
   simp [ZaA]
 simp at q2 e1;simp [Zdp,Zf5,Zw,Zch,ZbC,lU,e1,je,lT,Za7,q2]
set_option tactic.hygienic true
section
structure Ctx(cs:List Int)(ns:List Str)(h:Hd)(i j m k:Nat)(sc:Scp)(a b:Int):Prop where
 st:St3 h i j cs a b
 nm:h[m]?=J (.lst<|ns.map .str)
 n5:ns.length=5
 nok:∀x∈ns,Wl 20 x
 nd:ns.Nodup
 sca:ZoG h k sc
 sco:∀p∈sc,Wl 20 p.1
 im:i≠m
 ik:i≠k
 ab:0<=a
variable {P:Pg}{cs:List Int}{ns:List Str}{h h':Hd}{i j m k:Nat}{sc:Scp}{a b a' b':Int}
def Ctx.up(c:Ctx cs ns h i j m k sc a b)(u:Up i h h')(st:St3 h' i j cs a' b')(ab:0<=a'):Ctx cs ns h' i j m k sc a' b':=⟨st,u.at c.nm<|YL c.im,c.n5,c.nok,c.nd,u.at c.sca<|YL c.ik,c.sco,c.im,c.ik,ab⟩
def St3.app(s:St3 h i j cs a b):St3 (h++g) i j cs a b:=⟨(Oe<|ZM s.1).trans s.1,(Oe<|ZM s.2.1).trans s.2.1,s.2.2⟩
theorem Ctx.app(c:Ctx cs ns h i j m k sc a b):Ctx cs ns (h++g) i j m k sc a b:=c.up Up.app c.st.app c.ab
def Ctx.name(c:Ctx cs ns h i j m k sc a b)(v)(h0:0<=v)(h5:v<5):∃x,ZaM GD (.ref m) (.int v) h=.ok (.str x) h/\Wl 20 x/\ns[v.toNat]?=J x:=by
 obtain⟨q,rfl⟩:∃q:Nat,v=q:=⟨v.toNat,by lia⟩
 have hq:q<ns.length:=by have:=c.n5;lia
 refine⟨ns[q],?_,c.nok _<|List.getElem_mem hq,Og hq⟩;rw[ZA c.nm,IV.Zcd,On,Og hq];rfl
noncomputable def A(r:Nat):Int:=4^(r+1)
def ZkX(r:Nat):0<A r:=Int.pow_pos (by decide)
def Zwy(r):A (r+1)=4*A r:=by unfold A;rw[Int.pow_succ];lia
noncomputable def pz(x:Int):Int:=max x 0
inductive Made(cs:List Int)(h:Hd)(i j:Nat)(sc:Scp)(a b ex mx:Int)(dm:Nat)(r:qd D):Prop
 |mk (t:T) (h':Hd) (a' b':Int) (e:r=.ok (T.d t) h') (u:Up i h h') (s:St3 h' i j cs a' b') (l1:a<=a') (l2:a'<=a+mx) (c:Cl (sc.map (·.1)) t) (p:nb t<=dep t/\dep t<=dm) (z:fw t<=3*(pz b-pz b')+ex)
def ZnB(P:Pg)(r n0:Nat):Prop:=∀(n:Nat) (cs:List Int) (ns:List Str) (h:Hd) (i j m k:Nat) (sc:Scp) (a b:Int) (w:Str) (room:Int),room<=r->Ctx cs ns h i j m k sc a b->sc.length+2*r<=50->a+A r<2^50 ->
 Made cs h i j sc a b 0 (A r) (3*r+3) (run P (n+n0) (O "_law_any") [.str w,.ref k,.ref i,.ref m,.int room] h)
def Zq9(H:Mk0 P)(n)(c:Ctx cs ns h i j m k sc a b)(w)(room)(hl:sc.length<=50)(ha:a<2^50)(T1 T2 T3:Option D):∃(v:Int) (w':Str) (ys:List Str) (h':Hd) (l:Nat),
 xs2 ⟨P.G,P.GD,run P<|n+2,P.L⟩ (.cons Zbc<|.cons Zca<|.cons Zbb<|.cons Zb9<|.cons Zba .nil) [J<|.str w,J<|.ref k,J<|.ref i,J<|.ref m,J<|.int room,T1,T2,T3,M,M] h
  = .ok (.nx,[J<|.str w',J<|.ref k,J<|.ref i,J<|.ref m,J<|.int room,J<|.int v,J<|.int<|v/87,J<|.ref l,M,M]) h'/\Up i h h'/\Ctx cs ns h' i j m k sc (a+1) (b-1)/\h'[l]?=J (.lst<|ys.map .str)/\(∀y∈ys,y∈sc.map (·.1)):=by
 have i1:=c.st.1;have p1:ZaD (.ref i) (.int 2) (.int<|b-1) h=.ok () (h.set i<|.lst [.ref j,.int a,.int<|b-1]):=by simp only[ZaD,i1];rfl
 have s1:St3 (h.set i<|.lst [.ref j,.int a,.int<|b-1]) i j cs a (b-1):=⟨by rw[Ol<|ZM i1],by rw[Oc c.st.2.2];exact c.st.2.1,c.st.2.2⟩
 obtain⟨v,e2,_⟩:=Zk7 H n s1 ⟨c.ab,ha⟩;have lt1:i<(h.set i<|.lst [.ref j,.int a,.int<|b-1]).length:=by simpa using (ZM i1)
 have s2:St3 ((h.set i<|.lst [.ref j,.int a,.int<|b-1]).set i<|.lst [.ref j,.int<|a+1,.int<|b-1]) i j cs (a+1) (b-1):=⟨by rw[Ol lt1],by rw[Oc c.st.2.2];exact s1.2.1,c.st.2.2⟩
 have c2:=(c.up Up.set s1 c.ab).up Up.set s2 (by have:=c.ab;lia);generalize eQ:(h.set i<|.lst [.ref j,.int a,.int<|b-1]).set i (.lst [.ref j,.int<|a+1,.int<|b-1])=h2 at e2 s2 c2;have nG:∀h,opB .FloorDiv (.int v) (.int 29) h=.ok (.int<|v/29) h:=λh=>ZcH (by decide);have m3:∀h,opB .Mod (.int<|v/29) (.int 3) h=.ok (.int<|v/29%3) h:=λh=>ZU (by decide);have nE:∀h,opB .FloorDiv (.int v) (.int 87) h=.ok (.int<|v/87) h:=λh=>ZcH (by decide);have mH:ZaM P.GD (.ref i) (.int 2) h=.ok (.int b) h:=by rw[ZA i1];simp
 have fg:∃(w':Str) (h3:Hd),xs1 ⟨P.G,P.GD,run P<|n+2,P.L⟩ Zbb [J<|.str w,J<|.ref k,J<|.ref i,J<|.ref m,J<|.int room,J<|.int v,T2,T3,M,M] h2
  = .ok (.nx,[J<|.str w',J<|.ref k,J<|.ref i,J<|.ref m,J<|.int room,J<|.int v,T2,T3,M,M]) h3/\Up i h2 h3/\Ctx cs ns h3 i j m k sc (a+1) (b-1):=by
  have tt:tst (P.tbl<|n+2) (.ex<|.cmp .Eq (.bin .Mod (.var 5)<|.ci 29)<|.ci 0) [J<|.str w,J<|.ref k,J<|.ref i,J<|.ref m,J<|.int room,J<|.int v,T2,T3,M,M] h2=.ok (Wu<|v%29=0) h2:=ZfF ((Zr rfl rfl).trans<|(λh=>ZU<|by decide) h2) rfl;by_cases hv:v%29=0
  . have go:∀w':Str,atI [D.str<|O "n",.str<|O "f",.str<|O "g"] (v/29%3)=J (D.str w')->xs1 (P.tbl<|n+2) Zbb [J<|.str w,J<|.ref k,J<|.ref i,J<|.ref m,J<|.int room,J<|.int v,T2,T3,M,M] h2
     = .ok (.nx,[J<|.str w',J<|.ref k,J<|.ref i,J<|.ref m,J<|.int room,J<|.int v,T2,T3,M,M]) (h2++[.lst [.str<|O "n",.str<|O "f",.str<|O "g"]]):=λw' e=>
     (Zq<|Zm tt<|decide_eq_true hv).trans ((Za<|Zg<|ZkE e rfl ((Zr (x:=.int<|v/29) ((Zr rfl rfl).trans<|nG _) rfl).trans<|m3 _)<|by decide).trans rfl)
    have q:v/29%3=0\/v/29%3=1\/v/29%3=2:=by lia
    rcases q with q|q|q
    . exact⟨O "n",_,go _ (by rw[q];rfl),Up.app,c2.app⟩
    . exact⟨O "f",_,go _ (by rw[q];rfl),Up.app,c2.app⟩
    . exact⟨O "g",_,go _ (by rw[q];rfl),Up.app,c2.app⟩
  . exact⟨w,h2,(Zo<|Zm tt<|decide_eq_false hv).trans rfl,Up.refl,c2⟩
 obtain⟨w',h3,e3,u3,c3⟩:=fg;obtain⟨ys,g,hy,hg,e5⟩:=ZrF H (n+1) w' c3.sca (by lia)<|λp hp=>(c3.sco p hp).1;refine⟨v,w',ys,h3++g++[.lst<|ys.map .str],h3.length+2,?_,((eQ▸Up.set.trans Up.set).trans u3).trans<|Up.app.trans Up.app,c3.app.app,?_,hy⟩
 . have x1:xs1 ⟨P.G,P.GD,run P<|n+2,P.L⟩ Zbc [J<|.str w,J<|.ref k,J<|.ref i,J<|.ref m,J<|.int room,T1,T2,T3,M,M] h=.ok (.nx,[J<|.str w,J<|.ref k,J<|.ref i,J<|.ref m,J<|.int room,T1,T2,T3,M,M]) (h.set i<|.lst [.ref j,.int a,.int<|b-1]):=by have q:ev (P.tbl<|n+2) (.bin .Sub (.ix (.var 2)<|.ci 2)<|.ci 1) [J<|.str w,J<|.ref k,J<|.ref i,J<|.ref m,J<|.int room,T1,T2,T3,M,M] h=.ok (.int<|b-1) h:=(Zr (x:=.int b) ((Zs rfl rfl).trans mH) rfl).trans rfl;rw[Zbc,Zmk];show(ev (P.tbl<|n+2) (.bin .Sub (.ix (.var 2)<|.ci 2)<|.ci 1) _ h).bnd _=_;rw[q];show(ZaD (.ref i) (.int 2) (.int<|b-1) h).bnd _=_;rw[p1];rfl
   have x2:xs1 ⟨P.G,P.GD,run P<|n+2,P.L⟩ Zca [J<|.str w,J<|.ref k,J<|.ref i,J<|.ref m,J<|.int room,T1,T2,T3,M,M] (h.set i<|.lst [.ref j,.int a,.int<|b-1])=.ok (.nx,[J<|.str w,J<|.ref k,J<|.ref i,J<|.ref m,J<|.int room,J<|.int v,T2,T3,M,M]) h2:=by exact Zg (Zi e2 rfl)
   have x4:∀q,xs1 ⟨P.G,P.GD,run P<|n+2,P.L⟩ Zb9 [J<|.str w',J<|.ref k,J<|.ref i,J<|.ref m,J<|.int room,J<|.int v,q,T3,M,M] h3=.ok (.nx,[J<|.str w',J<|.ref k,J<|.ref i,J<|.ref m,J<|.int room,J<|.int v,J<|.int<|v/87,T3,M,M]) h3:=by exact λq=>Zg ((Zr rfl rfl).trans<|nE _)
   have x5:xs1 ⟨P.G,P.GD,run P<|n+2,P.L⟩ Zba [J<|.str w',J<|.ref k,J<|.ref i,J<|.ref m,J<|.int room,J<|.int v,J<|.int<|v/87,T3,M,M] h3=.ok (.nx,[J<|.str w',J<|.ref k,J<|.ref i,J<|.ref m,J<|.int room,J<|.int v,J<|.int<|v/87,J<|.ref<|h3.length+2,M,M]) (h3++g++[.lst<|ys.map .str]):=by simp only[Zba,Zgi,Znj,Zkm,Znf,ZqB,O0,OJ,Option.join_some,ofO_some,Zu,bind_ok,e5];rfl
   exact(Za x1).trans ((Za x2).trans<|(Za e3).trans<|(Za<|x4 _).trans<|(Za x5).trans rfl)
 . have:h3.length+2=(h3++g).length:=by simp[hg]
   rw[this];simp
end
set_option tactic.hygienic false
section
variable {P:Pg}{cs:List Int}{ns:List Str}{h h':Hd}{i j m k:Nat}{sc:Scp}{a b:Int}
theorem Cl.mono{sc bI:List Str}:∀ {t:T},(∀ x∈sc,x∈bI)->Cl sc t->Cl bI t
 |.num n,_,c=>c
 |.name x,s,c=>s x c
 |.fn x e,s,c=>⟨Cl.mono (t:=e) (λy hy=>by
     rcases O2.mp hy with z|z
     . rw [z];exact Oi
     . exact Oh _ (s y z)) c.1,c.2⟩
 |.rcc f x e,s,c=>⟨Cl.mono (t:=e) (λy hy=>by
     rcases O2.mp hy with z|z
     . rw [z];exact Oi
     . rcases O2.mp z with q|q
       . rw [q];exact Oh _ Oi
       . exact Oh _ (Oh _<|s y q)) c.1,c.2⟩
 |.call f e,s,c|.op w p q,s,c=>⟨Cl.mono s c.1,Cl.mono s c.2⟩
 |.iff p q r,s,c=>⟨Cl.mono s c.1,Cl.mono s c.2.1,Cl.mono s c.2.2⟩
noncomputable def Zrh(z:Int):Wd:=if z=0 then .add else if z=1 then .sub else if z=2 then .mul else .lt
def wd4(z)(h0:0<=z)(h4:z<4):atI [D.str<|O "+",.str<|O "-",.str<|O "*",.str<|O "<"] z=J (.str (Zrh z).s):=by
 have:z=0\/z=1\/z=2\/z=3:=by lia
 rcases this with rfl|rfl|rfl|rfl<;>simp[Zrh,Wd.s]
noncomputable def me(ag:Int)(k i m:Nat)(room:Int)(a b c d:Option D):Ev:=[J<|.int ag,J<|.ref k,J<|.ref i,J<|.ref m,J<|.int room,a,b,c,d]
def Zvl(H:Mk0 P)(ih:ZnB P r n0)(hn:1<=n0)(n)(c:Ctx cs ns h i j m k sc a b)(ag)(room:Int)(hr:room<=r)(hl:sc.length+2*r<=50)(ha:a+2*A r<2^50):
 Made cs h i j sc a b 0 (2*A r) (3*r+4) (run P (n+n0+1) (O "_law_number") [.int ag,.ref k,.ref i,.ref m,.int room] h):=by
 have Ap:=ZkX r;rw[ZdW H.number rfl];show Made cs h i j sc a b 0 (2*A r) (3*r+4) (Ze<|xs2 (P.tbl<|n+n0) ZcQ (me ag k i m room M M M M) h);have x1:∀h,xs1 (P.tbl<|n+n0) ZdF (me ag k i m room M M M M) h=.ok (.nx,me ag k i m room (J<|.int<|ag%6) M M M) h:=λh=>rfl;rw[ZcQ,Za<|x1 h];obtain⟨n1,e1⟩:∃n1,n+n0=n1+1:=⟨n+n0-1,by lia⟩
 by_cases h0:ag%6=0
 . obtain⟨t,g,e2,ct,pt⟩:=ZiP H n1 (O "n") (ag/6) h (sc.map (·.1));refine⟨t,h++g,a,b,?_,Up.app,c.st.app,by lia,by lia,ct,by lia,by lia⟩;rw[<-e1]at e2;have x2:xs1 (P.tbl<|n+n0) ZbL (me ag k i m room (J<|.int<|ag%6) M M M) h=.ok (.rt t.d,me ag k i m room (J<|.int<|ag%6) M M M) (h++g):=(Zq<|Zm (ZfF rfl rfl)<|decide_eq_true h0).trans<|Zb<|ZK e2 rfl rfl;rw[Zb x2];rfl
 . have x2:xs1 (P.tbl<|n+n0) ZbL (me ag k i m room (J<|.int<|ag%6) M M M) h=.ok (.nx,me ag k i m room (J<|.int<|ag%6) M M M) h:=(Zo<|Zm (ZfF rfl rfl)<|decide_eq_false h0).trans rfl;rw[Za x2];by_cases h3:ag%6<3
   . obtain⟨t1,g1,a1,b1,e2,u1,s1,l1,l2,c1,p1,z1⟩:=ih n cs ns h i j m k sc a b (O "n") room hr c hl (by lia);obtain⟨t2,g2,a2,b2,e3,u2,s2,l3,l4,c2,p2,z2⟩:=ih n cs ns (g1++[.lst [.str<|O "+",.str<|O "-",.str<|O "*",.str<|O "<"]]) i j m k sc a1 b1 (O "n") room hr (c.up u1 s1 (by have:=c.ab;lia)).app hl (by lia);refine⟨.op (Zrh<|ag/6%4) t1 t2,g2,a2,b2,?_,u1.trans<|Up.app.trans u2,s2,by lia,by lia,⟨c1,c2⟩,by simp only[dep,nb];lia,by simp only[fw];clear ih hl ha;lia⟩;have x3:xs1 (P.tbl<|n+n0) ZbK (me ag k i m room (J<|.int<|ag%6) M M M) h=.ok (.rt (T.op (Zrh<|ag/6%4) t1 t2).d,me ag k i m room (J<|.int<|ag%6) (J t1.d) M M) g2:=by refine(Zq<|Zm rfl<|decide_eq_true h3).trans ?_;refine(Za (ρ1:=me ag k i m room (J<|.int<|ag%6) (J t1.d) M M) (R:=g1)<|ZK e2 rfl rfl).trans ?_;exact Zb (Zk<|Zak (Zc (ZkE (wd4 (ag/6%4) (by lia)<|by lia) rfl rfl<|by simp)<|Zc rfl<|Zc (Zi e3 rfl) rfl)<|by simp)
     rw[Zb x3];rfl
   . have w3:∃ws,(ws=O "f" \/ ws=O "g")/\atI [D.str<|O "f",.str<|O "f",.str<|O "g"] (ag%6-3)=J (.str ws):=by
      have:ag%6-3=0\/ag%6-3=1\/ag%6-3=2:=by lia
      rcases this with q|q|q<;>rw[q]<;>simp
     obtain⟨ws,lS,w3⟩:=w3;obtain⟨t1,g1,a1,b1,e2,u1,s1,l1,l2,c1,p1,z1⟩:=ih n cs ns (h++[.lst [.str<|O "f",.str<|O "f",.str<|O "g"]]) i j m k sc a b ws room hr c.app hl (by lia);have cc:=c.app.up u1 s1 (by have:=c.ab;lia);have dd:∃gj,ZaM P.GD (.ref g1.length) (.str ws) (g1++[.dic [(.inr<|O "f",.str<|O "n"),(.inr<|O "g",.str<|O "f")]])=.ok (.str gj) (g1++[.dic [(.inr<|O "f",.str<|O "n"),(.inr<|O "g",.str<|O "f")]]):=by
      rcases lS with rfl|rfl
      . exact⟨O "n",by simp[ZaM,dicOf,ZH]⟩
      . exact⟨O "f",by simp[ZaM,dicOf,ZH]⟩
     obtain⟨gj,dd⟩:=dd;obtain⟨t2,g2,a2,b2,e3,u2,s2,l3,l4,c2,p2,z2⟩:=ih n cs ns (g1++[.dic [(.inr<|O "f",.str<|O "n"),(.inr<|O "g",.str<|O "f")]]) i j m k sc a1 b1 gj room hr cc.app hl (by lia);refine⟨.call t1 t2,g2,a2,b2,?_,Up.app.trans<|u1.trans<|Up.app.trans u2,s2,by lia,by lia,⟨c1,c2⟩,by simp only[dep,nb];lia,by simp only[fw];clear ih hl ha;lia⟩;have x3:xs1 (P.tbl<|n+n0) ZbK (me ag k i m room (J<|.int<|ag%6) M M M) h=.ok (.nx,me ag k i m room (J<|.int<|ag%6) M M M) h:=(Zo<|Zm rfl<|decide_eq_false h3).trans rfl;have x4:xs1 (P.tbl<|n+n0) ZdE (me ag k i m room (J<|.int<|ag%6) M M M) h=.ok (.nx,me ag k i m room (J<|.int<|ag%6) M (J<|.str ws) M) (h++[.lst [.str<|O "f",.str<|O "f",.str<|O "g"]]):=Zg (i:=7) (ZkE w3 rfl rfl<|by simp);have x5:xs1 (P.tbl<|n+n0) ZdD (me ag k i m room (J<|.int<|ag%6) M (J<|.str ws) M) (h++[.lst [.str<|O "f",.str<|O "f",.str<|O "g"]])=.ok (.nx,me ag k i m room (J<|.int<|ag%6) M (J<|.str ws)<|J t1.d) g1:=ZK e2 rfl rfl;have p6:ev (P.tbl<|n+n0) (.ix (.dictl<|.cons (.Ci_ "f")<|.cons (.Ci_ "n")<|.cons (.Ci_ "g")<|.cons (.Ci_ "f") .nil)<|.var 7) (me ag k i m room (J<|.int<|ag%6) M (J<|.str ws)<|J t1.d) g1=.ok (.str gj) (g1++[.dic [(.inr<|O "f",.str<|O "n"),(.inr<|O "g",.str<|O "f")]]):=dd;have x6:xs1 (P.tbl<|n+n0) ZdC (me ag k i m room (J<|.int<|ag%6) M (J<|.str ws)<|J t1.d) g1=.ok (.rt (T.call t1 t2).d,me ag k i m room (J<|.int<|ag%6) M (J<|.str ws)<|J t1.d) g2:=Zk (Zak (Zc rfl<|Zc rfl<|Zc ((Zv4<|Zc p6 rfl).trans e3) rfl)<|by simp);rw[Za x3,Za x4,Za x5,Zb x6];rfl
def Ctx.wider(c:Ctx cs ns h i j m k sc a b)(more)(hm:∀p∈more,Wl 20 p.1):Ctx cs ns (h++[.lst<|more.map pairOf,.lst<|(sc++more).map pairOf]) i j m (h.length+1) (sc++more) a b:=by
 have c1:=c.app (g:=[.lst<|more.map pairOf,.lst<|(sc++more).map pairOf]);refine⟨c1.st,c1.nm,c1.n5,c1.nok,c1.nd,by unfold ZoG;simp,λp hp=>?_,c1.im,?_,c1.ab⟩
 . rcases OD.mp hp with z|z
   . exact c.sco p z
   . exact hm p z
 . have:=ZM c.st.1
   lia
def Zjh(c:Ctx cs ns h i j m k sc a b)(more)(hz:sc.length+more.length<=100):opB .Add (.ref k) (.ref h.length) (h++[.lst<|more.map pairOf])=.ok (.ref<|h.length+1) (h++[.lst<|more.map pairOf,.lst<|(sc++more).map pairOf]):=by simp only[opB,Ztv,(Oe<|ZM c.sca).trans c.sca,Z0];rw[if_pos (by simp;rw[YC];lia)];simp
def Zxc{sc:Scp}{x s:Str}:∀y∈(sc++[(x,s)]).map (·.1),y∈x::sc.map (·.1):=λy hy=>by
 rw[List.map_append]at hy;rcases OD.mp hy with z|z
 . exact Oh _ z
 simp_all
def unlike{ns:List Str}(n5:ns.length=5)(nd:ns.Nodup){x f}{ag:Int}(ax:ns[(ag%5).toNat]?=J x)(af:ns[((ag%5+1+ag/15%4)%5).toNat]?=J f):f≠x:=λe=>by
 have q:=(List.getElem?_inj (i:=(ag%5).toNat) (j:=((ag%5+1+ag/15%4)%5).toNat) (by rw[n5];lia) nd).mp (by simp_all)
 lia
noncomputable def fe(w:Str)(ag:Int)(k i m:Nat)(room:Int)(a b c d:Option D):Ev:=[J<|.str w,J<|.int ag,J<|.ref k,J<|.ref i,J<|.ref m,J<|.int room,a,b,c,d]
def Zyv{N}{s}{w}{ag}{room}{x}{t1}{g1 R}(hc:opB .Add (.ref k) (.ref h.length) (h++[.lst<|[(x,s)].map pairOf])=.ok (.ref<|h.length+1) R)(e1:run P N (O "_law_any") [.str<|O "n",.ref<|h.length+1,.ref i,.ref m,.int room] R=.ok t1.d g1):ev (P.tbl N) (.tupl<|.cons (.Ci_ "fn")<|.cons (.var 6)<|.cons (.call (O "_law_any")<|.cons (.Ci_ "n")<|.cons (.bin .Add (.var 2)<|.lstl<|.cons (.tupl<|.cons (.var 6)<|.cons (.cst<|.str s) .nil) .nil)<|.cons (.var 3)<|.cons (.var 4)<|.cons (.var 5) .nil) .nil) (fe w ag k i m room (J<|.str x) M M M) h=.ok (T.fn x t1).d g1:=Zak (Zc rfl<|Zc rfl<|Zc ((Zv4<|Zc rfl<|Zc ((Zr rfl rfl).trans hc) rfl).trans e1) rfl) (by simp)
def ZvR(H:Mk0 P){r n0}(ih:ZnB P r n0)(n)(c:Ctx cs ns h i j m k sc a b)(w)(ag)(room:Int)(hr:room<=r)(hl:sc.length+2+2*r<=50)(ha:a+2*A r<2^50):
 Made cs h i j sc a b 3 (2*A r) (3*r+6) (run P (n+n0+1) (O "_law_function") [.str w,.int ag,.ref k,.ref i,.ref m,.int room] h):=by
 have Ap:=ZkX r;have cr:=c.ab;rw[ZdW H.function rfl];obtain⟨x,ex,wx,ax⟩:=c.name (GD:=P.GD) (ag%5) (by clear ih ha cr hl hr;lia) (by clear ih ha cr hl hr;lia);show Made cs h i j sc a b 3 (2*A r) (3*r+6) (Ze<|xs2 (P.tbl<|n+n0) (.cons ZaY<|.cons Zad<|.cons Zac<|.cons ZaX<|.cons ZaW<|.cons ZaV<|.cons Zab<|.cons Zaa .nil) (fe w ag k i m room M M M M) h);have x1:xs1 (P.tbl<|n+n0) ZaY (fe w ag k i m room M M M M) h=.ok (.nx,fe w ag k i m room (J<|.str x) M M M) h:=by exact Zg (i:=6) ex
 rw[Za x1];by_cases hg:w=O "g"
 . have hc:=Zjh c [(x,O "f")] (by simp;lia);obtain⟨t1,g1,a1,b1,e1,u1,s1,l1,l2,c1,p1,z1⟩:=ih n cs ns _ i j m (h.length+1) (sc++[(x,O "f")]) a b (O "n") room hr (c.wider [(x,O "f")]<|by simp[wx]) (by simp;lia) (by lia);refine⟨.fn x t1,g1,a1,b1,?_,Up.app.trans u1,s1,l1,by lia,⟨Cl.mono (t:=t1) Zxc c1,wx⟩,by simp only[dep,nb];lia,by simp only[fw];clear ih hl ha;lia⟩;have e:xs1 (P.tbl<|n+n0) Zad (fe w ag k i m room (J<|.str x) M M M) h=.ok (.rt (T.fn x t1).d,fe w ag k i m room (J<|.str x) M M M) g1:=by subst hg;exact(Zq rfl).trans (Zb<|Zk<|Zyv hc e1)
   rw[Zb e];rfl
 have x2:xs1 (P.tbl<|n+n0) Zad (fe w ag k i m room (J<|.str x) M M M) h=.ok (.nx,fe w ag k i m room (J<|.str x) M M M) h:=by exact(Zo<|Zm (ZaN rfl rfl)<|decide_eq_false hg).trans rfl
 rw[Za x2];by_cases h3:ag/5%3=0
 . have hc:=Zjh c [(x,O "n")] (by simp;lia);obtain⟨t1,g1,a1,b1,e1,u1,s1,l1,l2,c1,p1,z1⟩:=ih n cs ns _ i j m (h.length+1) (sc++[(x,O "n")]) a b (O "n") room hr (c.wider [(x,O "n")]<|by simp[wx]) (by simp;lia) (by lia);refine⟨.fn x t1,g1,a1,b1,?_,Up.app.trans u1,s1,l1,by lia,⟨Cl.mono (t:=t1) Zxc c1,wx⟩,by simp only[dep,nb];lia,by simp only[fw];clear ih hl ha;lia⟩;have e:xs1 (P.tbl<|n+n0) Zac (fe w ag k i m room (J<|.str x) M M M) h=.ok (.rt (T.fn x t1).d,fe w ag k i m room (J<|.str x) M M M) g1:=(Zq<|Zm (ZfF (x:=ag/5%3) rfl rfl)<|decide_eq_true h3).trans<|Zb<|Zk<|Zyv hc e1;rw[Zb e];rfl
 have x3:xs1 (P.tbl<|n+n0) Zac (fe w ag k i m room (J<|.str x) M M M) h=.ok (.nx,fe w ag k i m room (J<|.str x) M M M) h:=by exact(Zo<|Zm (ZfF (x:=ag/5%3) rfl rfl)<|decide_eq_false h3).trans rfl
 obtain⟨f,ef,wf,af⟩:=c.name (GD:=P.GD) ((ag%5+1+ag/15%4)%5) (by clear ih ha cr hl hr;lia) (by clear ih ha cr hl hr;lia);have x4:xs1 (P.tbl<|n+n0) ZaX (fe w ag k i m room (J<|.str x) M M M) h=.ok (.nx,fe w ag k i m room (J<|.str x) (J<|.str f) M M) h:=by exact Zg (i:=7) ef
 have hc:=Zjh c [(f,O "f"),(x,O "n")] (by simp;lia);have cw:=c.wider [(f,O "f"),(x,O "n")] (by simp[wx,wf]);have sub:∀y∈(sc++[(f,O "f"),(x,O "n")]).map (·.1),y∈x::f::sc.map (·.1):=λy hy=>by simp at hy ⊢;rcases hy with z|z|z<;>simp[z]
 generalize hh1:(h++[DO.lst<|[(f,O "f"),(x,O "n")].map pairOf,.lst<|(sc++[(f,O "f"),(x,O "n")]).map pairOf])=R at hc cw;have ug:Up i h R:=by rw[<-hh1];exact Up.app
 have gM:R.length=h.length+2:=by rw[<-hh1];simp
 have x5:xs1 (P.tbl<|n+n0) ZaW (fe w ag k i m room (J<|.str x) (J<|.str f) M M) h=.ok (.nx,fe w ag k i m room (J<|.str x) (J<|.str f) (J<|.ref<|h.length+1) M) R:=by exact Zg (i:=8) ((Zr (x:=.ref k) (y:=.ref h.length) (R:=h) (h2:=h++[.lst<|[(f,O "f"),(x,O "n")].map pairOf]) rfl rfl).trans hc)
 have x6:xs1 (P.tbl<|n+n0) ZaV (fe w ag k i m room (J<|.str x) (J<|.str f) (J<|.ref<|h.length+1) M) R=.ok (.nx,fe w ag k i m room (J<|.str x) (J<|.str f) (J<|.ref<|h.length+1)<|J (T.call (.name f)<|.op .sub (.name x)<|.num 1).d) R:=by exact rfl
 rw[Za x3,Za x4,Za x5,Za x6];generalize bH:sc++[(f,O "f"),(x,O "n")]=sc1 at cw sub hh1;have nV:sc1.length=sc.length+2:=by rw[<-bH];simp
 clear x1 x2 x3 x4 x5 x6 hc hh1 bH ex ef;have last:∀(t1:T) (g1:Hd) (a1 b1:Int),Up i R g1->St3 g1 i j cs a1 b1->a<=a1->a1<=a+A r->Cl (x::f::sc.map (·.1)) t1->nb t1<=dep t1/\dep t1<=3*r+4->fw t1<=3*(pz b-pz b1) ->
  xs1 (P.tbl<|n+n0) Zab (fe w ag k i m room (J<|.str x) (J<|.str f) (J<|.ref<|h.length+1)<|J (T.call (.name f)<|.op .sub (.name x)<|.num 1).d) R=.ok (.nx,fe w ag k i m room (J<|.str x) (J<|.str f) (J<|.ref<|h.length+1)<|J t1.d) g1 ->
  Made cs h i j sc a b 3 (2*A r) (3*r+6) (Ze<|xs2 (P.tbl<|n+n0) (.cons Zab<|.cons Zaa .nil) (fe w ag k i m room (J<|.str x) (J<|.str f) (J<|.ref<|h.length+1)<|J (T.call (.name f)<|.op .sub (.name x)<|.num 1).d) R):=by
  intro t1 g1 a1 b1 u1 s1 l1 l2 c1 p1 z1 x7;rw[Za x7];obtain⟨t2,g2,a2,b2,e2,u2,s2,l3,l4,c2,p2,z2⟩:=ih n cs ns g1 i j m (h.length+1) sc1 a1 b1 (O "n") (room-1) (by clear ha;lia) (cw.up u1 s1 (by clear hl ha hr;lia)) (by clear ha hr;lia) (by clear hl hr;lia);refine⟨.rcc f x<|.iff (.name x) t1 t2,g2,a2,b2,?_,ug.trans<|u1.trans u2,s2,Int.le_trans l1 l3,by clear hl hr ha;lia,⟨⟨Oi,c1,Cl.mono sub c2⟩,unlike c.n5 c.nd ax af,wf,wx⟩,by simp only[dep,nb];clear hl hr ha;lia,by simp only[fw];clear hl hr ha ih;lia⟩;have e:xs1 (P.tbl<|n+n0) Zaa (fe w ag k i m room (J<|.str x) (J<|.str f) (J<|.ref<|h.length+1)<|J t1.d) g1=.ok (.rt (T.rcc f x<|.iff (.name x) t1 t2).d,fe w ag k i m room (J<|.str x) (J<|.str f) (J<|.ref<|h.length+1)<|J t1.d) g2:=by exact Zk (Zak (Zc rfl<|Zc rfl<|Zc rfl<|Zc (Zak (Zc rfl<|Zc rfl<|Zc rfl<|Zc (Zi e2 rfl) rfl)<|by simp) rfl)<|by simp)
  rw[Zb e];rfl
 by_cases q0:ag/60%3=0
 . obtain⟨t1,g1,a1,b1,e1,u1,s1,l1,l2,c1,p1,z1⟩:=ih n cs ns R i j m (h.length+1) sc1 a b (O "n") room hr cw (by clear ha hr;lia) (by clear hl hr;lia);refine last t1 g1 a1 b1 u1 s1 l1 l2 (Cl.mono sub c1) (by lia) (by lia) ?_;exact(Zq<|Zm (ZfF (x:=ag/60%3) rfl rfl)<|decide_eq_true q0).trans (Za<|ZK e1 rfl rfl)
 . by_cases q1:ag/60%3=1
   . have w2:∃wd:Wd,atI [D.str<|O "+",.str<|O "*"] (ag/180%2)=J (.str wd.s):=by
      have:ag/180%2=0\/ag/180%2=1:=by clear ih ha hl hr q0 q1;lia
      rcases this with z|z<;>rw[z]
      . exact⟨.add,by simp[Wd.s]⟩
      . exact⟨.mul,by simp[Wd.s]⟩
     obtain⟨wd,w2⟩:=w2;obtain⟨t1,g1,a1,b1,e1,u1,s1,l1,l2,c1,p1,z1⟩:=ih n cs ns _ i j m (h.length+1) sc1 a b (O "n") (room-1) (by clear ha;lia) (cw.app (g:=[.lst [.str<|O "+",.str<|O "*"]])) (by clear ha hr;lia) (by clear hl hr;lia);refine last (.op wd t1<|.call (.name f)<|.op .sub (.name x)<|.num 1) g1 a1 b1 (Up.app.trans u1) s1 l1 l2 ⟨Cl.mono sub c1,Oh _ Oi,Oi,by show(0:Int)<=1/\(1:Int)<1000000;decide⟩ (by simp only[dep,nb];clear hl hr ha;lia) (by simp only[fw];clear hl hr ha ih;lia) ?_;exact(Zo<|Zm (ZfF (x:=ag/60%3) rfl rfl)<|decide_eq_false q0).trans (Za<|(Zq<|Zm (ZfF (x:=ag/60%3) rfl rfl)<|decide_eq_true q1).trans<|Za<|Zg (i:=9)<|Zak (Zc (ZkE w2 rfl rfl<|by simp)<|Zc (Zi e1 rfl) rfl)<|by simp)
   . refine last (.call (.name f)<|.op .sub (.name x)<|.num 1) R a b Up.refl cw.st (Int.le_refl _) (by lia) ⟨Oh _ Oi,Oi,by show(0:Int)<=1/\(1:Int)<1000000;decide⟩ (by simp only[dep,nb];lia) (by simp only[fw];lia) ?_;exact(Zo<|Zm (ZfF (x:=ag/60%3) rfl rfl)<|decide_eq_false q0).trans (Za<|(Zo<|Zm (ZfF (x:=ag/60%3) rfl rfl)<|decide_eq_false q1).trans rfl)
theorem ZmI(rd):∀ys:List Str,D.pys rd (ys.map D.str)=J (ys.map PyData.str)
 |[]=>rfl
 |y::ys=>by rw[Op,D.pys,ZmI rd ys];rfl
theorem Zvp{l}{ys:List Str}(e:h[l]?=J (.lst<|ys.map .str)):Zd3 Ws (.ref l) (.ref h.length) (h++[.lst []])=.ok (.bl<|!ys.isEmpty) (h++[.lst []]):=by
 have p1:Zk8 (h++[.lst []]) (.ref l)=J (.list<|ys.map .str):=by
   show ZiO (h++[.lst []]) 4 l=_;rw [ZiO,(Oe<|ZM e).trans e];simp [ZmI]
 have p2:Zk8 (h++[DO.lst []]) (.ref h.length)=J (.list []):=by
   show ZiO (h++[.lst []]) 4 h.length=_;rw [ZiO,Z0];rfl
 unfold IV.Zd3;rw [p1,p2];simp only;rw [if_pos (by
   have:(PyData.list []).depth<=1:=by decide +kernel
   lia)]
 cases ys with
 |nil=>rfl
 |cons y r=>rfl
def ZeN{U:Tb}{qd:Sxs}{ρ':Ev}{h':Hd}{s:Sx}{A B_:Sxs}{S:Ev}{h:Hd}(e:xs2 U (.cons s A) S h=.ok (.nx,ρ') h')(q:∀ρ1 R,xs2 U A ρ1 R=.ok (.nx,ρ') h'->xs2 U B_ ρ1 R=xs2 U qd ρ' h'):xs2 U (.cons s B_) S h=xs2 U qd ρ' h':=by
 rw[ZoK]at e ⊢;cases r1:xs1 U s S h with
 |bad|exc c R=>rw[r1]at e;cases e
 |ok p R=>
  rw[r1]at e;obtain⟨fl,ρ1⟩:=p;cases fl with
  |nx=>exact q ρ1 R e
  |bk=>cases e
  |ct=>cases e
  |rt d=>cases e
def ZwD(qd)(e:xs2 U (.cons s1<|.cons s2<|.cons s3<|.cons s4<|.cons s5 .nil) S h=.ok (.nx,ρ') h'):xs2 U (.cons s1<|.cons s2<|.cons s3<|.cons s4<|.cons s5 qd) S h=xs2 U qd ρ' h':=ZeN e λ_ _ e=>ZeN e λ_ _ e=>ZeN e λ_ _ e=>ZeN e λ_ _ e=>ZeN e λ_ _ e=>by simp_all
noncomputable def ae(w:Str)(k i m:Nat)(room v q:Int)(l:Nat)(a b:Option D):Ev:=[J<|.str w,J<|.ref k,J<|.ref i,J<|.ref m,J<|.int room,J<|.int v,J<|.int q,J<|.ref l,a,b]
def any_gen(H:Mk0 P)(n1)(c:Ctx cs ns h i j m k sc a b)(w)(room:Int)(mx:Int)(dm:Nat)(oj:2<=dm)(hl:sc.length<=50)(ha:a<2^50)(nY:1<=mx)
 (rc:1<=room->∃r n0 n',room-1<=(r:Nat)/\ZnB P r n0/\n1+2=n'+n0+1/\1<=n0/\sc.length+2+2*r<=50/\1+3*A r<=mx/\a+mx<2^50/\3*r+6<=dm) :
 Made cs h i j sc a b 0 mx dm (run P (n1+3) (O "_law_any") [.str w,.ref k,.ref i,.ref m,.int room] h):=by
 have cr:=c.ab;rw[ZdW H.any rfl];obtain⟨v,w',ys,h5,l,e5,u5,c5,hy,lR⟩:=Zq9 H n1 c w room hl ha M M M;have st:Zw Zd1.N [.str w,.ref k,.ref i,.ref m,.int room]=[J<|.str w,J<|.ref k,J<|.ref i,J<|.ref m,J<|.int room,M,M,M,M,M]:=rfl;rw[st,show Zd1.body=.cons Zbc (.cons Zca<|.cons Zbb<|.cons Zb9<|.cons Zba<|.cons Za9<|.cons Zay<|.cons Zb8<|.cons Za8<|.cons ZaJ<|.cons Zby .nil)from rfl,ZwD _ e5];show Made cs h i j sc a b 0 mx dm (Ze<|xs2 (P.tbl<|n1+2) (.cons Za9<|.cons Zay<|.cons Zb8<|.cons Za8<|.cons ZaJ<|.cons Zby .nil) (ae w' k i m room v (v/87) l M M) h5);have nn:=Zvp hy;have t1:tst (P.tbl<|n1+2) (.ex<|.cmp .NotEq (.var 7)<|.lstl .nil) (ae w' k i m room v (v/87) l M M) h5=.ok (!ys.isEmpty) (h5++[.lst []]):=ZbF<|(Zt (x:=.ref l) (y:=.ref h5.length) (R:=h5) (h2:=h5++[DO.lst []]) rfl rfl).trans nn;have t2:∀h,tst (P.tbl<|n1+2) (.ex<|.cmp .Eq (.bin .Mod (.var 6)<|.ci 3)<|.ci 0) (ae w' k i m room v (v/87) l M M) h=.ok (Wu<|v/87%3=0) h:=λh=>ZfF rfl rfl;have t8:∀h,tst (P.tbl<|n1+2) (.ex<|.cmp .Eq (.bin .Mod (.var 6)<|.ci 8)<|.ci 0) (ae w' k i m room v (v/87/30) l M M) h=.ok (Wu<|v/87/30%8=0) h:=λh=>ZfF rfl rfl;by_cases hn:ys.isEmpty=Wt/\v/87%3=0
 ·
  have hp:0<ys.length:=by
   cases ys with
   |nil=>simp at hn
   |cons y r=>simp
  have ix:opB .Mod (.int<|v/87/3) (.int ys.length) (h5++[.lst []])=.ok (.int<|v/87/3%ys.length) (h5++[.lst []]):=ZU (by lia);have hb:(0:Int)<=v/87/3%ys.length/\v/87/3%ys.length<ys.length:=⟨Int.emod_nonneg _<|by lia,Int.emod_lt_of_pos _<|by lia⟩
  obtain⟨q,hq⟩:∃q:Nat,v/87/3%ys.length=q:=⟨(v/87/3%ys.length).toNat,by lia⟩
  have j7:q<ys.length:=by lia
  have kh:(h5++[DO.lst []])[l]?=J (.lst<|ys.map .str):=by rw[Oe<|ZM hy];exact hy
  have len:Zaj P.GD .len [.ref l] (h5++[.lst []])=.ok (.int ys.length) (h5++[.lst []]):=by simp only[Zaj,Zjw,seqOf,lstOf,kh];simp
  have nM:ZaM P.GD (.ref l) (.int (q:Int)) (h5++[.lst []])=.ok (.str ys[q]) (h5++[.lst []]):=by rw[ZA kh,IV.Zcd,On,Og j7];rfl
  refine⟨.name ys[q],h5++[.lst []],a+1,b-1,?_,u5.trans Up.app,c5.st.app,by lia,by lia,lR _<|List.getElem_mem j7,⟨Oq _,Yy _⟩,by simp only[fw,pz];lia⟩;have x6:xs1 (P.tbl<|n1+2) Za9 (ae w' k i m room v (v/87) l M M) h5=.ok (.rt (T.name ys[q]).d,(ae w' k i m room v (v/87) l M M)) (h5++[.lst []]):=by have el:ev (P.tbl<|n1+2) (.blt .len<|.cons (.var 7) .nil) (ae w' k i m room v (v/87) l M M) (h5++[.lst []])=.ok (.int ys.length) (h5++[.lst []]):=len;have ei:ev (P.tbl<|n1+2) (.bin .Mod (.bin .FloorDiv (.var 6)<|.ci 3)<|.blt .len<|.cons (.var 7) .nil) (ae w' k i m room v (v/87) l M M) (h5++[.lst []])=.ok (.int (q:Int)) (h5++[.lst []]):=(Zr (x:=.int<|v/87/3) rfl el).trans (ix.trans<|by rw[hq]);rw[hn.1]at t1;exact(Zq<|Zrb t1<|Zm (t2 _)<|decide_eq_true hn.2).trans (Zb<|Zk<|Zak (Zc rfl<|Zc ((Zs (x:=.ref l) rfl ei).trans nM) rfl)<|by simp)
  rw[Zb x6];rfl
 . have x6:xs1 (P.tbl<|n1+2) Za9 (ae w' k i m room v (v/87) l M M) h5
    = .ok (.nx,(ae w' k i m room v (v/87) l M M)) (h5++[.lst []]):=by
    cases q:ys.isEmpty with
    |true=>rw[q]at t1;exact(Zo<|Zuf t1).trans rfl
    |false=>rw[q]at t1;have h3:¬ v/87%3=0:=λz=>hn ⟨q,z⟩;exact(Zo<|Zrb t1<|Zm (t2 _)<|decide_eq_false h3).trans rfl
   have c6:=c5.app (g:=[.lst []]);have u6:=u5.trans<|Up.app (i:=i) (g:=[.lst []]);clear t1 nn;generalize hh6:h5++[.lst []]=h6 at x6 c6 u6;rw[Za x6];have lO:ZaM P.GD (.ref i) (.int 2) h6=.ok (.int<|b-1) h6:=by rw[ZA c6.st.1];simp
   have r1:tst (P.tbl<|n1+2) (.ex<|.cmp .Lt (.var 4)<|.ci 1) (ae w' k i m room v (v/87) l M M) h6=.ok (Wu<|room<1) h6:=rfl;have r2:tst (P.tbl<|n1+2) (.ex<|.cmp .Lt (.ix (.var 2)<|.ci 2)<|.ci 0) (ae w' k i m room v (v/87) l M M) h6=.ok (Wu<|b-1<0) h6:=ZbF<|(Zt (y:=.int 0) (h2:=h6) ((Zs (x:=.ref i) (y:=.int 2) rfl rfl).trans lO) rfl).trans rfl;obtain⟨t,g,ep,ct,pt⟩:=ZiP H (n1+1) w' (v/87/3) h6 (sc.map (·.1));by_cases hr:room<1
   . refine⟨t,h6++g,a+1,b-1,?_,u6.trans Up.app,c6.st.app,by lia,by lia,ct,by lia,by simp only[pz];lia⟩;have x7:xs1 (P.tbl<|n1+2) Zay (ae w' k i m room v (v/87) l M M) h6=.ok (.rt t.d,(ae w' k i m room v (v/87) l M M)) (h6++g):=(Zq<|ZxJ<|Zm r1<|decide_eq_true hr).trans<|Zb<|ZK ep rfl rfl;rw[Zb x7];rfl
   . by_cases hb:b-1<0
     . refine⟨t,h6++g,a+1,b-1,?_,u6.trans Up.app,c6.st.app,by lia,by lia,ct,by lia,by simp only[pz];lia⟩;have x7:xs1 (P.tbl<|n1+2) Zay (ae w' k i m room v (v/87) l M M) h6=.ok (.rt t.d,(ae w' k i m room v (v/87) l M M)) (h6++g):=(Zq<|Zn1 (Zm r1<|decide_eq_false hr)<|Zm r2<|decide_eq_true hb).trans<|Zb<|ZK ep rfl rfl;rw[Zb x7];rfl
     . obtain⟨r,n0,n',q1,ih,q2,q3,q4,q5,q6,q7⟩:=rc (by lia);have Ap:=ZkX r;have x7:xs1 (P.tbl<|n1+2) Zay (ae w' k i m room v (v/87) l M M) h6
        = .ok (.nx,(ae w' k i m room v (v/87) l M M)) h6:=by
        exact(Zo<|Zn1 (Zm r1<|decide_eq_false hr)<|Zm r2<|decide_eq_false hb).trans rfl
       have x8:xs1 (P.tbl<|n1+2) Zb8 (ae w' k i m room v (v/87) l M M) h6
        = .ok (.nx,(ae w' k i m room v (v/87/30) l M M)) h6:=by
        exact rfl
       rw[Za x7,Za x8];have pb:pz b=pz (b-1)+1:=by simp only[pz];lia
       by_cases h8:v/87/30%8=0
       . obtain⟨t1,g1,a1,b1,e1,u1,s1,l1,l2,c1,p1,z1⟩:=ih (n'+1) cs ns h6 i j m k sc (a+1) (b-1) (O "n") (room-1) q1 c6 (by lia) (by lia);have kN:=c6.up u1 s1 (by lia);obtain⟨t2,g2,a2,b2,e2,u2,s2,l3,l4,c2,p2,z2⟩:=ih (n'+1) cs ns g1 i j m k sc a1 b1 w' (room-1) q1 kN (by lia) (by lia);have nK:=kN.up u2 s2 (by lia);obtain⟨t3,g3,a3,b3,e3,u3,s3,l5,l6,c3,p3,z3⟩:=ih (n'+1) cs ns g2 i j m k sc a2 b2 w' (room-1) q1 nK (by lia) (by lia);rw[show n'+1+n0=n1+2 by lia]at e1 e2 e3;refine⟨.iff t1 t2 t3,g3,a3,b3,?_,u6.trans<|u1.trans<|u2.trans u3,s3,by lia,by lia,⟨c1,c2,c3⟩,by simp only[dep,nb];lia,by simp only[fw];rw[pb];clear ih rc;lia⟩;have x9:xs1 (P.tbl<|n1+2) Za8 (ae w' k i m room v (v/87/30) l M M) h6=.ok (.rt (T.iff t1 t2 t3).d,(ae w' k i m room v (v/87/30) l (J t1.d)<|J t2.d)) g3:=by refine(Zq<|Zm (t8 _)<|decide_eq_true h8).trans ?_;refine(Za (ρ1:=ae w' k i m room v (v/87/30) l (J t1.d) M) (R:=g1)<|ZK e1 rfl rfl).trans ?_;refine(Za (ρ1:=ae w' k i m room v (v/87/30) l (J t1.d)<|J t2.d) (R:=g2)<|ZK e2 rfl rfl).trans ?_;exact Zb (ZK e3 rfl rfl)
         rw[Zb x9];rfl
       . have x9:xs1 (P.tbl<|n1+2) Za8 (ae w' k i m room v (v/87/30) l M M) h6=.ok (.nx,(ae w' k i m room v (v/87/30) l M M)) h6:=(Zo<|Zm (t8 _)<|decide_eq_false h8).trans rfl;rw[Za x9];by_cases hw:w'=O "n"
         . obtain⟨t1,g1,a1,b1,e1,u1,s1,l1,l2,c1,p1,z1⟩:=Zvl H ih q3 n' c6 (v/87/30/8) (room-1) q1 (by lia) (by lia);rw[<-q2]at e1;refine⟨t1,g1,a1,b1,?_,u6.trans u1,s1,by lia,by lia,c1,by lia,by rw[pb];clear ih rc;lia⟩;have g9:xs1 (P.tbl<|n1+2) ZaJ (ae w' k i m room v (v/87/30) l M M) h6=.ok (.rt t1.d,(ae w' k i m room v (v/87/30) l M M)) g1:=(Zq<|Zm (ZaN rfl rfl)<|decide_eq_true hw).trans<|Zb<|ZK e1 rfl rfl;rw[Zb g9];rfl
         . obtain⟨t1,g1,a1,b1,e1,u1,s1,l1,l2,c1,p1,z1⟩:=ZvR H ih n' c6 w' (v/87/30/8) (room-1) q1 (by lia) (by lia);rw[<-q2]at e1;refine⟨t1,g1,a1,b1,?_,u6.trans u1,s1,by lia,by lia,c1,by lia,by rw[pb];clear ih rc;lia⟩;have g9:xs1 (P.tbl<|n1+2) ZaJ (ae w' k i m room v (v/87/30) l M M) h6=.ok (.nx,(ae w' k i m room v (v/87/30) l M M)) h6:=(Zo<|Zm (ZaN rfl rfl)<|decide_eq_false hw).trans rfl;have kR:xs1 (P.tbl<|n1+2) Zby (ae w' k i m room v (v/87/30) l M M) h6=.ok (.rt t1.d,(ae w' k i m room v (v/87/30) l M M)) g1:=ZK e1 rfl rfl;rw[Za g9,Zb kR];rfl
theorem Zq8(H:Mk0 P):∀r ,ZnB P r (2*r+3)
 |0=>λn cs ns h i j m k sc a b w room hr c hl ha=>by have:=any_gen H n c w room (A 0) 3 (by simp) (by lia) (by have:=ZkX 0;lia) (by decide) (λz=>by lia);trivial
 |r+1=>λn cs ns h i j m k sc a b w room hr c hl ha=>by have Ap:=ZkX r;have As:=Zwy r;have:=any_gen H (n+2*r+2) c w room (A<|r+1) (3*(r+1)+3) (by lia) (by lia) (by lia) (by lia) (λ_=>⟨r,2*r+3,n,by lia,Zq8 H r,rfl,by lia,by lia,by lia,by lia,by lia⟩);trivial
end
set_option tactic.hygienic true
section
noncomputable def front:T->List D
 |.num n=>[.str<|O "num",.int n]
 |.name x=>[.str<|O "name",.str x]
 |.fn x _=>[.str<|O "fn",.str x]
 |.rcc f x _=>[.str<|O "rec",.str f,.str x]
 |.call _ _=>[.str<|O "call"]
 |.iff _ _ _=>[.str<|O "if"]
 |.op w _ _=>[.str w.s]
def ZqL(t:T):t.d=.tup (front t++t.parts.map T.d):=by cases t<;>rfl
noncomputable def Zi4:D->Bool
 |.str _|.int _=>Ws
 |_=>Wt
def ZlJ(t):∀d∈front t,Zi4 d=Ws:=by cases t<;>simp[front,Zi4]
def Zqp(hf:Zi4 d=Ws):Zaj GD .isi [d,.ty "tuple"] h=.ok (.bl Wt) h:=by
 cases d with
 |str x=>rfl
 |int x=>rfl
 |_=>trivial
def ZsM:Zaj GD .isi [.tup xs,.ty "tuple"] h=.ok (.bl Ws) h:=rfl
abbrev isT:Tx:=.ex (.blt .isi<|.w V0<|.cst<|.ty "tuple")
theorem Zhx{U}{ai ag}:∀ds ,(∀d∈ds,Zi4 d=Ws)->ai.length<Yc->Zx [] (.nm 0) (tsto U<|J isT) (ev U e) (ds++ag) [M] ai h=Zx [] (.nm 0) (tsto U<|J isT) (ev U e) ag [M] ai h
 |[],_,_=>rfl
 |d::ds,hd,hz=>by rw[List.cons_append,ZY];simp[hz,Zqp (GD:=U.GD) (h:=h)<|hd d<|by simp];exact Zhx ds (λx hx=>hd x<|by simp_all) hz
theorem Zhv{U}{f:T->Int}:∀(ts:List T) (ai) (h),(∀t∈ts,∀h,∃g,ev U e [J t.d] h=.ok (.int<|f t) (h++g))->ai.length+ts.length<=1000->∃g,Zx [] (.nm 0) (tsto U<|J isT) (ev U e) (ts.map T.d) [M] ai h=.ok (ai++ts.map λt=>.int<|f t) (h++g)
 |[],ai,h,_,_=>⟨[],by simp[Zx,Wk.stays]⟩
 |t::ts,ai,h,ht,hz=>by
  simp only[Os]at hz;obtain⟨g1,e1⟩:=ht t (by simp) h;obtain⟨g2,e2⟩:=Zhv (U:=U) (e:=e) (f:=f) ts (ai++[.int<|f t]) (h++g1) (λx hx=>ht x<|by simp[hx]) (by simp;lia);refine⟨g1++g2,?_⟩;have fI:ai.length<Yc:=by rw[YC];lia
  have it:Zaj U.GD .isi [t.d,.ty "tuple"] h=.ok (.bl Ws) h:=by rw[ZqL];exact ZsM
  rw[Op,ZY];simp[Wk.stays,fI,it,e1,e2]
def Zff{U}{f:T->Int}(t)(h)(ht:∀s∈t.parts,∀h,∃g,ev U e [J s.d] h=.ok (.int<|f s) (h++g)):∃g,Zx [] (.nm 0) (tsto U<|J isT) (ev U e) (front t++t.parts.map T.d) [M] [] h=.ok (t.parts.map λs=>.int<|f s) (h++g):=by obtain⟨g,e1⟩:=Zhv t.parts [] h ht (by cases t<;>simp[T.parts]);refine⟨g,?_⟩;rw[Zhx _ (ZlJ t)<|by trivial,e1];simp
theorem ints_map(f):∀ts:List T,intsOf (ts.map λs=>D.int<|f s)=J (ts.map f)
 |[]=>rfl
 |t::ts=>by rw[Op,intsOf,ints_map f ts];rfl
variable {P:Pg}
def ZmC(t:T):t.size=1+(t.parts.map λs=>(s.size:Int)).sum:=by
 unfold T.size;rw[T.places_parts];have:∀ts:List T,(ts.flatMap T.places).length=(ts.map λs=>(s.places.length:Int)).sum:=by
  intro ts;induction ts with
  |nil=>rfl
  |cons t ts ih=>simp_all
 rw[Os,<-this]
 lia
def Zfe{t s}(hs:s∈t.parts):dep s<dep t:=by
 cases t<;>simp[T.parts]at hs<;>simp[dep]
 . subst hs;lia
 . subst hs;lia
 . rcases hs with rfl|rfl<;>lia
 . rcases hs with rfl|rfl|rfl<;>lia
 . rcases hs with rfl|rfl<;>lia
theorem Zpe (H:Mk0 P):∀ (d n) (t) (h),dep t<=d->∃ g,run P (n+d+1) (O "_law_width") [t.d] h=.ok (.int t.size) (h++g):=by
 intro d;induction d with
 |zero =>
   intro n t h hd;rw [Zd H.width rfl];obtain⟨g,e⟩:=Zff (U:=⟨P.G,P.GD,run P<|n+0,P.L⟩) (e:=.call (O "_law_width")<|.cons (.var 0) .nil) (f:=λs=>(s.size)) t h (λs hs=>by have:=Zfe hs;lia);refine⟨g++[.lst<|t.parts.map λs=>.int s.size],?_⟩;rw [ZmC,ZqL];have sm:Zaj P.GD .sum [.ref (h++g).length] (h++g++[.lst<|t.parts.map λs=>D.int s.size])=.ok (.int (t.parts.map λs=>(s.size)).sum) (h++g++[.lst<|t.parts.map λs=>D.int s.size]):=by
     simp only [Zaj,Zq2,lstOf,Z0,Yz,ints_map];rfl
   simp at sm e;simp [ZbY,ZdB,Zw,ZaA,Za7,e,sm]
 |succ d ih =>
   intro n t h hd;rw [Zd H.width rfl];obtain⟨g,e⟩:=Zff (U:=⟨P.G,P.GD,run P<|n+(d+1),P.L⟩) (e:=.call (O "_law_width")<|.cons (.var 0) .nil) (f:=λs=>(s.size)) t h (λs hs R=>by
     have:=Zfe hs;obtain⟨g,e⟩:=ih n s R (by lia);refine⟨g,?_⟩;have e':run P (n+(d+1)) (O "_law_width") [s.d] R=.ok (.int s.size) (R++g):=e;simp [e'])
   refine⟨g++[.lst<|t.parts.map λs=>.int s.size],?_⟩;rw [ZmC,ZqL];have sm:Zaj P.GD .sum [.ref (h++g).length] (h++g++[.lst<|t.parts.map λs=>D.int s.size])=.ok (.int (t.parts.map λs=>(s.size:Int)).sum) (h++g++[.lst<|t.parts.map λs=>D.int s.size]):=by
     simp only [Zaj,Zq2,lstOf,Z0,Yz,ints_map];rfl
   simp at sm e;simp [ZbY,ZdB,Zw,ZaA,Za7,e,sm]
def ZrE(H:Mkr P)(d n)(t)(h)(hd:dep t<=d):∃g,run P (n+d+1) (O "_law_width") [t.d] h=.ok (.int t.size) (h++g):=Zpe H.toMk0 d n t h hd
end
section
variable {P:Pg}
def max2(x y:Nat):(if (1+(y:Int)) > 1+x then 1+(y:Int)else 1+x)=(max x y+1:Nat):=by split<;>lia
def Zwb(t:T):Zfw (t.parts.map λs=>1+(dep s)) 0=dep t:=by
 cases t with
 |num n=>rfl
 |name x=>rfl
 |fn x e|rcc f x e=>simp[T.parts,Zfw,dep];lia
 |call f a|op w f a=>simp only[T.parts,Zfw,dep,Op,Oy,List.foldl_cons,List.foldl_nil];rw[max2]
 |iff c t e=>simp only[T.parts,Zfw,dep,Op,Oy,List.foldl_cons,List.foldl_nil];rw[max2];split<;>lia
theorem ZuL (H:Mkr P):∀ (d n) (t) (h),dep t<=d->∃ g,run P (n+d+1) (O "_law_deep") [t.d] h=.ok (.int<|dep t) (h++g):=by
 have fin:∀ (t) (h g:Hd),Znz (.ref (h++g).length) (.int 0) (h++g++[.lst<|t.parts.map λs=>D.int<|1+dep s])=.ok (.int<|dep t) (h++g++[.lst<|t.parts.map λs=>D.int<|1+dep s]):=by
   intro t h g;simp only [Znz,lstOf,Z0,Yz,ints_map (λs=>1+(dep s:Int)) t.parts,Yv,Zwb,ofO_some]
 intro d;induction d with
 |zero =>
   intro n t h hd;rw [Zd H.deep rfl];obtain⟨g,e⟩:=Zff (U:=⟨P.G,P.GD,run P<|n+0,P.L⟩) (e:=.bin .Add (.ci 1)<|.call (O "_law_deep")<|.cons (.var 0) .nil) (f:=λs=>1+(dep s)) t h (λs hs=>by have:=Zfe hs;lia);refine⟨g++[.lst<|t.parts.map λs=>.int<|1+(dep s)],?_⟩;have sm:=fin t h g;rw [ZqL];simp at sm e;simp [ZcN,ZeJ,Zw,ZaA,Za7,e,sm]
 |succ d ih =>
   intro n t h hd;rw [Zd H.deep rfl];obtain⟨g,e⟩:=Zff (U:=⟨P.G,P.GD,run P<|n+(d+1),P.L⟩) (e:=.bin .Add (.ci 1)<|.call (O "_law_deep")<|.cons (.var 0) .nil) (f:=λs=>1+(dep s)) t h (λs hs R=>by
     have:=Zfe hs;obtain⟨g,e⟩:=ih n s R (by lia);refine⟨g,?_⟩;have e':run P (n+(d+1)) (O "_law_deep") [s.d] R=.ok (.int<|dep s) (R++g):=e;simp [e'])
   refine⟨g++[.lst<|t.parts.map λs=>.int<|1+(dep s:Int)],?_⟩;have sm:=fin t h g;rw [ZqL];simp at sm e;simp [ZcN,ZeJ,Zw,ZaA,Za7,e,sm]
theorem Zhw(H:Mk0 P)(hk:h[k]?=J (.lst xs0)):∀(xs:List Int) (j) (ai:List Int),ai.length+xs.length<=1000->j+xs.length<=1000->∃cs:List Int,cs.length=ai.length+xs.length /\
 Zx [(k,xs0)] (.two 0 1) (tsto ⟨P.G,P.GD,run P<|n+1,P.L⟩ M) (ev ⟨P.G,P.GD,run P<|n+1,P.L⟩<|.call (O "_law_mixed")<|.cons (.var 1)<|.cons (.bin .Add (.var 0)<|.ci 2) .nil) (xs.mapIdx λq x=>D.tup [.int (q+j:Nat),.int x]) [M,M] (ai.map .int) h
  = .ok (cs.map .int) h
 |[],j,ai,_,_=>⟨ai,rfl,by simp[Zx,Wk.stays,hk]⟩
 |x::xs,j,ai,R,h2=>by
  simp only[Os]at R h2;obtain⟨cs,q1,q2⟩:=Zhw H hk xs (j+1) (ai++[mixed x<|(j)+2]) (by simp;lia) (by lia);refine⟨cs,by simp at q1;simp;lia,?_⟩;have hz:ai.length<Yc:=by rw[YC];lia
  have ei:(λ(q) (x)=>D.tup [.int<|(q+1+j:Nat),.int x])=λq x=>D.tup [.int<|(q+(j+1):Nat),.int x]:=by funext q x;rw[show q+1+j=q+(j+1) by lia]
  rw[List.mapIdx_cons,ZY];simp only[Wk.stays,hk,decide_true,true_and,Yu,hz,if_true,ZkF,List.set_cons_zero,List.set_cons_succ,ZnH,ZnY,Zu,bind_ok,Znj,Zkm,Znf,ZqB,O0,OJ,Option.join_some,ofO_some,Zv5,Zv3,Zso,Nat.zero_add,ZgJ (.same H.mixed) n x ((j)+2) h ⟨by lia,by lia⟩];rw[ei];rw[List.map_append]at q2;exact q2
end
set_option tactic.hygienic false
section
variable {P:Pg}{cs:List Int}{ns:List Str}{h h':Hd}{i j m:Nat}{a b:Int}
def Zra(H:Mk0 P)(r N:Nat)(hN:2*r+3<=N)(c:Ctx cs ns h i j m k sc a b)(w)(room:Int)(hr:room<=r)(hl:sc.length+2*r<=50)(ha:a+A r<2^50):
 Made cs h i j sc a b 0 (A r) (3*r+3) (run P N (O "_law_any") [.str w,.ref k,.ref i,.ref m,.int room] h):=by
 have:=Zq8 H r (N-(2*r+3)) cs ns h i j m k sc a b w room hr c hl ha
 simp_all
def ZjC(H:Mkr P)(N)(t)(h)(hd:dep t<N):∃g,run P N (O "_law_width") [t.d] h=.ok (.int t.size) (h++g):=by obtain⟨g,e⟩:=ZrE H (dep t) (N-dep t-1) t h<|Oq _;rw[show N-dep t-1+dep t+1=N by lia]at e;exact⟨g,e⟩
def Zs8(H:Mkr P)(N)(t)(h)(hd:dep t<N):∃g,run P N (O "_law_deep") [t.d] h=.ok (.int<|dep t) (h++g):=by obtain⟨g,e⟩:=ZuL H (dep t) (N-dep t-1) t h<|Oq _;rw[show N-dep t-1+dep t+1=N by lia]at e;exact⟨g,e⟩
def Ctx.bare(c:Ctx cs ns h i j m k sc a b):Ctx cs ns (h++[.lst []]) i j m h.length [] a b:=by
 have c1:=c.app (g:=[.lst []]);refine⟨c1.st,c1.nm,c1.n5,c1.nok,c1.nd,by unfold ZoG;simp,by simp,c1.im,?_,c1.ab⟩;have:=ZM c.st.1
 lia
noncomputable def vp(ro:D)(st:Int)(o2 o3 o4 o5 o6:Option D):Ev:=[J ro,J<|.int st,o2,o3,o4,o5,o6]
def ZsE:Sxs:=.o (.iff (.x .Lt (.f "_law_width"<|.o V5)<|.ci 50) (.w (.put V3 F2 F12)<|.s 5<|.tupl<|.u (.Ci_ "+") V5<|.f "_law_any"<|.y (.Ci_ "n") (.lstl .n) V3 V4 F6) .n)
inductive Turned(cs:List Int)(ns:List Str)(h:Hd)(i j m k:Nat)(sc:Scp)(a:Int)(dm:Nat)(S:Option D->Ev)(r:qd (Fl×Ev))(z0:Int):Prop
 |mk (t:T) (h':Hd) (a' b':Int) (e:r=.ok (.nx,S (J t.d)) h') (c:Cl [] t) (d:nb t<=dep t/\dep t<=dm) (u:Up i h h') (x:Ctx cs ns h' i j m k sc a' b') (l:a'<=a+65536) (z:fw t<=z0+36)
theorem turn(H:Mkr P)(hN:40<=N)(c:Ctx cs ns h i j m k sc a b)(ct:Cl [] t)(hd:nb t<=dep t/\dep t<=30)(ha:a<2^45)(ro)(st)(o2 o6):Turned cs ns h i j m k sc a (max (dep t) 21+1) (λo=>vp ro st o2 (J<|.ref i) (J<|.ref m) o o6)
   (xs2 (P.tbl N) ZsE (vp ro st o2 (J<|.ref i) (J<|.ref m) (J t.d) o6) h) (fw t):=by
 have A6:A 6=16384:=rfl;obtain⟨g,ew⟩:=ZjC H N t h (by lia);have c1:=c.app (g:=g);by_cases hw:(t.size:Int)<50
 . have p1:ZaD (.ref i) (.int 2) (.int 12) (h++g)=.ok () ((h++g).set i<|.lst [.ref j,.int a,.int 12]):=by
     simp only [ZaD,c1.st.1];rfl
   obtain⟨h2,p1,u1,c2⟩:∃ h2,ZaD (.ref i) (.int 2) (.int 12) (h++g)=.ok () h2/\Up i h h2/\Ctx cs ns h2 i j m k sc a 12:=⟨_,p1,Up.app.trans Up.set,c1.up Up.set ⟨by rw [Ol<|ZM c1.st.1],(Oc c1.st.2.2).trans c1.st.2.1,c1.st.2.2⟩ c.ab⟩
   obtain⟨t1,h3,a1,b1,e1,u3,s3,l1,l2,c3,p3,z3⟩:=Zra H.toMk0 6 N (by lia) c2.bare (O "n") 6 (by decide) (by simp) (by rw [A6];lia);have u4:=u1.trans<|(Up.app (i:=i) (g:=[.lst []])).trans u3;refine⟨.op .add t t1,h3,a1,b1,(Za ((Zq<|Zm (ZsC (Zi ew rfl) rfl)<|decide_eq_true hw).trans ((Za (by
     show qd.bnd (ZaD (.ref i) (.int 2) (.int 12)<|h++g) _=_;rw [p1];rfl)).trans ((Za<|Zg<|Zak (Zc rfl<|Zc rfl<|Zc (Zi e1<|Zc rfl<|Zc (Zh1 rfl<|by simp) rfl) rfl)<|by simp).trans rfl)))).trans rfl,⟨ct,c3⟩,by simp only [dep,nb];lia,u4,c.up u4 s3 (by have:=c.ab;lia),by rw [A6] at l2;lia,by simp only [fw,pz] at *;lia⟩
 . exact⟨t,h++g,a,b,(Za<|(Zo<|Zm (ZsC (Zi ew rfl) rfl)<|decide_eq_false hw).trans rfl).trans rfl,ct,by lia,Up.app,c1,by lia,by lia⟩
def Zxq(zs:List Int)(st)(hz:zs.length<=100):∃ys:List Int,ys.length<=100/\∀h ,ZhY (.ro<|zs.map D.int) (J st) M h=.ok (.ref h.length) (h++[.lst<|ys.map .int]):=by
 refine⟨(zs.drop<|HT.sIx zs.length 0<|J st).take<|HT.sIx zs.length zs.length M-HT.sIx zs.length 0 (J st),?_,λh=>?_⟩
 . rw[List.length_take,List.length_drop]
   lia
 . show Zdb (.lst<|cutD (zs.map D.int) (J st) M) h=_;simp[cutD,List.map_take]
inductive Begun(h:Hd)(S:Option D->Option D->Option D->Ev)(r:Sxs->qd (Fl×Ev))(U:Tb):Prop
 |mk (cs:List Int) (ns:List Str) (h':Hd) (i j m:Nat) (e:∀s,r s=xs2 U s (S (J (.ref j)) (J (.ref i)) (J (.ref m))) h') (c:Ctx cs ns (h'++[.lst []]) i j m h'.length [] 1 26) (l:h.length<=i) (u:Up i h h')
def ZuY(H:Mkr P)(hN:40<=N)(zs:List Int)(st)(h)(hz:zs.length<=100):Begun h (λo2 o3 o4=>vp (.ro<|zs.map .int) st o2 o3 o4 M M) (λs=>xs2 (P.tbl N) (.cons Zao<|.cons Zc8<|.cons Zc7 s) (vp (.ro<|zs.map .int) st M M M M M) h) (P.tbl N):=by
 obtain⟨N,rfl⟩:∃N3,N=N3+2:=⟨N-2,by lia⟩
 obtain⟨ys,nU,bP⟩:=Zxq zs st hz;obtain⟨cs,jD,ec⟩:=Zhw H.toMk0 (n:=N+1) (h:=h++[.lst<|ys.map .int]) (k:=h.length) (xs0:=ys.map .int) (by simp) ys 0 [] (by simp;lia) (by lia);have en:Zdv (ys.map D.int)=ys.mapIdx λq x=>D.tup [.int<|(q+0:Nat),.int x]:=by unfold Zdv;apply List.ext_getElem?;intro q;simp;cases ys[q]?<;>rfl
 have ei:evi (P.tbl<|N+2) (.enu<|.sl (.var 0) (J<|.var 1) M) (vp (.ro<|zs.map .int) st M M M M M) h=.ok ⟨[(h.length,ys.map .int)],Zdv<|ys.map D.int⟩ (h++[.lst<|ys.map .int]):=by rw[Znh,show ev (P.tbl<|N+2) (.sl (.var 0) (J<|.var 1) M) (vp (.ro<|zs.map .int) st M M M M M) h=.ok (.ref h.length) (h++[.lst<|ys.map .int])from bP h,Zu];simp[Zgw]
 rw[<-en]at ec;have x1:xs1 (P.tbl<|N+2) Zao (vp (.ro<|zs.map .int) st M M M M M) h=.ok (.nx,vp (.ro<|zs.map .int) st (J<|.ref (h++[DO.lst<|ys.map .int]).length) M M M M) (h++[.lst<|ys.map .int]++[.lst<|cs.map .int]):=Zg<|Zf0 ei ec;generalize D.ro (zs.map .int)=ro at *;obtain⟨R,j,u1,k1,lj,x1⟩:∃(R:Hd) (j:Nat),Up R.length h R/\R[j]?=J (.lst<|cs.map .int)/\j<R.length/\xs1 (P.tbl<|N+2) Zao (vp ro st M M M M M) h=.ok (.nx,vp ro st (J<|.ref j) M M M M) R:=⟨_,_,Up.app.trans Up.app,Z0,by simp,x1⟩
 have s2:St3 (R++[.lst [.ref j,.int 0,.int 26]]) R.length j cs 0 26:=⟨Z0,by rw[Oe lj];exact k1,by lia⟩
 obtain⟨v,e3,_⟩:=Zk7 H.toMk0 N s2 (by decide);rw[Zpq]at e3;obtain⟨ns,n5,nok,ll,e4⟩:=ZrI (.same H.names) (N+1) v<|R++[.lst [.ref j,.int 1,.int 26]];have mE:=u1.1;refine⟨cs,ns,R++[.lst [.ref j,.int 1,.int 26]]++[.lst<|ns.map .str],R.length,j,(R++[DO.lst [.ref j,.int 1,.int 26]]).length,λs=>?_,⟨⟨by simp,by simp[Oe lj,k1],by lia⟩,by simp,n5,nok,ll,by unfold ZoG;simp,by simp,by simp,by simp,by decide⟩,mE,?_⟩
 . exact(Za x1).trans ((Za<|Zg<|Zh1 (Zc rfl<|Zc rfl<|Zc rfl rfl)<|by simp).trans<|(Za<|Zg<|Zi e4<|Zc (Zi e3 rfl) rfl).trans rfl)
 . rw[Oz];exact⟨by simp;lia,λm a n=>by rw[Oe<|by lia];exact u1.2 m a n⟩
inductive Sixth(h:Hd)(i:Nat)(S:Option D->Ev)(r:qd (Fl×Ev)):Prop
 |mk (t:T) (h':Hd) (e:r=.ok (.nx,S (J t.d)) h') (c:Cl [] t) (s:t.size<=100) (d:dep t<=20) (u:Up i h h') (z:fw t<=150/\nb t<=dep t)
def ZuX(H:Mkr P)(hN:40<=N)(c:Ctx cs ns h i j m k sc a b)(ct:Cl [] t)(hd:nb t<=dep t/\dep t<=26)(hf:fw t<=150)(ha:a<2^50)(ro)(st)(o2 o4 o6):Sixth h i (λo=>vp ro st o2 (J<|.ref i) o4 o o6) (xs1 (P.tbl N) Zbg (vp ro st o2 (J<|.ref i) o4 (J t.d) o6) h):=by
 obtain⟨g1,ew⟩:=ZjC H N t h (by lia);obtain⟨g2,ed⟩:=Zs8 H N t (h++g1) (by lia);have tw:tst (P.tbl N) (.ex<|.cmp .Gt (.call (O "_law_width")<|.cons (.var 5) .nil)<|.ci 100) (vp ro st o2 (J<|.ref i) o4 (J t.d) o6) h=.ok (Wu<|(100:Int)<t.size) (h++g1):=ZsS (Zi ew rfl) rfl;have plain:∀{q:Sxs} (g),∃t' h',xs2 (P.tbl N) (.cons (.set (.nm 5)<|.call (O "_law_plain")<|.cons (.Ci_ "n")<|.cons (.call (O "_law_next")<|.cons (.var 3) .nil) .nil) .nil) (vp ro st o2 (J<|.ref i) o4 (J t.d) o6) (h++g)=.ok (.nx,vp ro st o2 (J<|.ref i) o4 (J<|T.d t') o6) h'/\Cl [] t'/\(nb t'<=dep t'/\dep t'<=2)/\(t'.size<=4/\fw t'<=0)/\Up i h h':=λg=>by
  obtain⟨N,rfl⟩:∃N3,N=N3+2:=⟨N-2,by lia⟩
  obtain⟨v,e8,_⟩:=Zk7 H.toMk0 N (c.app (g:=g)).st ⟨c.ab,ha⟩;obtain⟨tp,gp,e9,q1,q2,q3⟩:=ZiP H.toMk0 (N+1) (O "n") v ((h++g).set i<|.lst [.ref j,.int<|a+1,.int b]) [];exact⟨tp,_,(Za<|Zg<|Zi e9<|Zc rfl<|Zc (Zi e8 rfl) rfl).trans rfl,q1,q2,q3,(Up.app.trans Up.set).trans Up.app⟩
 by_cases hw:(100:Int)<t.size
 . obtain⟨t',h',e,q1,q2,q3,u⟩:=plain (q:=.nil) g1;exact⟨t',h',(Zq<|ZxJ<|Zm tw<|decide_eq_true hw).trans e,q1,by lia,by lia,u,by lia⟩
 . have jQ:=Zm tw<|decide_eq_false hw;by_cases hq:(20:Int)<dep t
   . obtain⟨t',h',e,q1,q2,q3,u⟩:=plain (q:=.nil)<|g1++g2;rw[<-Oz]at e;exact⟨t',h',(Zq<|Zn1 jQ<|Zm (ZsS (Zi ed rfl) rfl)<|decide_eq_true hq).trans e,q1,by lia,by lia,u,by lia⟩
   . exact⟨t,_,(Zo<|Zn1 jQ<|Zm (ZsS (Zi ed rfl) rfl)<|decide_eq_false hq).trans rfl,ct,by lia,by lia,Up.app.trans Up.app,hf,hd.1⟩
def ZnT(H:Mkr P)(hN:40<=N)(zs:List Int)(st)(h)(hz:zs.length<=100):∃t h',run P (N+1) (O "_law_program") [.ro<|zs.map .int,.int st] h=.ok (T.d t) h'/\Cl [] t/\t.size<=100/\dep t<=20/\h.length<=h'.length/\(∀q,q<h.length->h'[q]?=h[q]?)/\fw t<=150/\nb t<=dep t:=by
 rw[ZdW H.program rfl];have A7:A 7=65536:=rfl;cases ZuY H hN zs st h hz with
 |mk cs ns h3 i j m e3 c4 li u3=>
 cases Zra H.toMk0 7 N (by lia) c4 (O "n") 7 (by simp) (by decide) (by trivial)with
 |mk t4 h4 a4 b4 e5 u4 s4 l1 l2 ct4 d4 z4=>
 have z4:fw t4<=78:=by simp only[pz]at z4;lia
 rw[A7]at l2;cases turn H hN (c4.up u4 s4<|by lia) ct4 (by lia) (by lia) (.ro<|zs.map .int) st (J<|.ref j) (J<|.int 0)with
 |mk t5 h5 a5 b5 e6 ct5 d5 u5 c6 l4 z5=>
 cases turn H hN c6 ct5 (by lia) (by lia) (.ro<|zs.map .int) st (J<|.ref j) (J<|.int 1)with
 |mk t6 h6 a6 b6 e7 ct6 d6 u6 c7 l6 z6=>
 cases ZuX H hN c7 ct6 (by lia) (by lia) (by lia) (.ro<|zs.map .int) st (J<|.ref j) (J<|.ref m) (J<|.int 1)with
 |mk t hh x6 ct sz dt u z=>
 have u8:=(u3.trans<|(Up.app (i:=i) (g:=[.lst []])).trans<|(u4.trans u5).trans u6).trans u;exact⟨t,hh,(congrArg Ze<|(e3<|.cons Zc6<|.cons Zc5<|.cons Zbg<|.cons Zc4 .nil).trans<|(Za<|Zg<|Zi e5<|Zc rfl<|Zc (Zh1 rfl<|by simp) rfl).trans<|(Za<|(Zdl (w:=⟨[],[.int 0,.int 1]⟩) rfl).trans<|(Zhe rfl e6).trans<|(Zhe rfl e7).trans rfl).trans<|(Za x6).trans rfl).trans rfl,ct,sz,dt,u8.1,λq hq=>u8.2 q hq<|by lia,z⟩
end
end Gn
namespace Rw
open PySem L2 IV Gn
section
def ZN:Sxs:=.y (.iff (.ors<|.c (.nq (.ix V1 F0)<|.Ci_ "num")<|.one<|.nq (.ix V2 F0)<|.Ci_ "num") (.o<|.ret<|.cst .non) .n) (.iff (.q V0<|.Ci_ "<") (.o<|.ret<|.tupl<|.w (.Ci_ "num")<|.ite (.x .Lt (.ix V1 F1)<|.ix V2 F1) F1 F0) .n) (.iff (.q V0<|.Ci_ "+") (.o<|.ret<|.tupl<|.w (.Ci_ "num")<|.bin .Mod (.bin .Add (.ix V1 F1)<|.ix V2 F1)<|.glo<|O "BEYOND") .n) (.iff (.q V0<|.Ci_ "-") (.o<|.ret<|.tupl<|.w (.Ci_ "num")<|.bin .Mod (.bin .Sub (.ix V1 F1)<|.ix V2 F1)<|.glo<|O "BEYOND") .n) (.ret<|.tupl<|.w (.Ci_ "num")<|.bin .Mod (.bin .Mult (.ix V1 F1)<|.ix V2 F1)<|.glo<|O "BEYOND")
def Zdn:Fd:=fd_ 3 ["word","first","second"] ZN
mutual
inductive Th where
 |num (n:Int)|clo (E:T) (ar:Ar)
inductive Ar where
 |nil|cons (x:Str) (v:Th) (r:Ar)
end
mutual
noncomputable def Th.d:Th->D
 |.num n=>.tup [.str<|O "num",.int n]
 |.clo E ar=>.tup [.str<|O "clo",E.d,.tup ar.ds]
noncomputable def Ar.ds:Ar->List D
 |.nil=>[]
 |.cons x v r=>.tup [.str x,v.d]::r.ds
end
noncomputable def Ar.len:Ar->Nat
 |.nil=>0
 |.cons _ _ r=>r.len+1
noncomputable def thD:Option Th->D
 |none=>.non
 |some v=>v.d
variable {P:Pg}{h:Hd}
noncomputable def wk(w:Wd)(a b:Int):Int:=match w with
 |.lt=>if a<b then 1 else 0
 |.add=>(a+b)%1000000
 |.sub=>(a-b)%1000000
 |.mul=>a*b%1000000
theorem worked_nn (hw:P.tb.lookup (O "worked")=J Zdn) (hb:P.G (O "BEYOND")=J (.int 1000000)) (n) (w) (hx:0<=x/\x<1000000) (hy:0<=y/\y<1000000):run P (n+1) (O "worked") [.str w.s,(T.num x).d,(T.num y).d] h=.ok (T.num<|wk w x y).d h:=by
 rw [Zd hw<|rfl];have fin:∀ (S:Ev) (e:Ex) (z:Int),ev (P.tbl n) e S h=.ok (.int z) h->xs1 (P.tbl n) (.ret<|.tupl<|.cons (.Ci_ "num")<|.cons (.bin .Mod e<|.glo<|O "BEYOND") .nil) S h=.ok (.rt (T.num<|z%1000000).d,S) h:=λS e z q =>
   Zk (Zak (Zc rfl (Zc ((Zr q (λS=>by
   show qd.ofO (P.G<|O "BEYOND") h=_
   simp_all S)).trans (ZU<|by decide)) rfl)) (by simp))
 show Ze (xs2 (P.tbl n) ZN [J<|.str w.s,J (T.num x).d,J (T.num y).d] h)=_;rw [nx1 (U:=P.tbl n) (ss:=ZN) (ρ1:=[J<|.str w.s,J (T.num x).d,J (T.num y).d]) (h2:=h) rfl rfl];cases w with
 |lt=>by_cases e:x<y<;>simp [ZN,tlS,T.d,Wd.s,wk,e,YC]
 |add =>
   rw [nx1 (U:=P.tbl n) (ss:=tlS ZN) (ρ1:=[J<|.str Wd.add.s,J (T.num x).d,J (T.num y).d]) (h2:=h) rfl rfl];exact rt1 (U:=P.tbl n) (ss:=tlS<|tlS ZN) ((Zq rfl).trans<|Zb<|fin _ _ (x+y) rfl) rfl
 |sub =>
   rw [nx1 (U:=P.tbl n) (ss:=tlS ZN) (ρ1:=[J<|.str Wd.sub.s,J (T.num x).d,J (T.num y).d]) (h2:=h) rfl rfl,nx1 (U:=P.tbl n) (ss:=tlS<|tlS ZN) (ρ1:=[J<|.str Wd.sub.s,J (T.num x).d,J (T.num y).d]) (h2:=h) rfl rfl];exact rt1 (U:=P.tbl n) (ss:=tlS<|tlS<|tlS ZN) ((Zq rfl).trans<|Zb<|fin _ _ (x-y) rfl) rfl
 |mul =>
   rw [nx1 (U:=P.tbl n) (ss:=tlS ZN) (ρ1:=[J<|.str Wd.mul.s,J (T.num x).d,J (T.num y).d]) (h2:=h) rfl rfl,nx1 (U:=P.tbl n) (ss:=tlS<|tlS ZN) (ρ1:=[J<|.str Wd.mul.s,J (T.num x).d,J (T.num y).d]) (h2:=h) rfl rfl,nx1 (U:=P.tbl n) (ss:=tlS<|tlS<|tlS ZN) (ρ1:=[J<|.str Wd.mul.s,J (T.num x).d,J (T.num y).d]) (h2:=h) rfl rfl];exact rt1 (U:=P.tbl n) (ss:=tlS<|tlS<|tlS<|tlS ZN) (fin _ _ (x*y)<|Ze1 ⟨Z1 (by lia)<|by lia,Z1 (by lia)<|by lia⟩) rfl
end
def wk_ok(w:Wd)(a b:Int):0<=wk w a b/\wk w a b<1000000:=by
 cases w<;>simp only[wk]
 . lia
 . lia
 . exact⟨Int.emod_nonneg _<|by decide,Int.emod_lt_of_pos _<|by decide⟩
 . split<;>lia
end Rw
namespace Tm
open PySem L2 IV
def ZD:Sxs:=.w (.iff (.x .NotIn (.ix V0 F0)<|.glo<|O "FORMS") (.o<|.ret<|.tupl .n) .n) (.ret<|.sl V0 (J F1)<|J<|.bin .Add F1<|.ix (.ix (.glo<|O "FORMS")<|.ix V0 F0) F0)
def Za1:Fd:=fd_ 1 ["E"] ZD
def ZZ:Sxs:=.w (.iff (.x .NotIn (.ix V0 F0)<|.glo<|O "FORMS") (.o<|.ret V0) .n) (.ret<|.sl V0 M<|J<|.bin .Add F1<|.ix (.ix (.glo<|O "FORMS")<|.ix V0 F0) F0)
def ZeD:Fd:=fd_ 1 ["E"] ZZ
def Zal:Sxs:=.w (.iff (.x .NotIn (.ix V0 F0)<|.glo<|O "FORMS") (.o<|.ret F0) .n) (.ret<|.ix (.ix (.glo<|O "FORMS")<|.ix V0 F0) F1)
def Zep:Fd:=fd_ 1 ["front"] Zal
def Zny:Sxs:=.u (.s 1<|.lstl .n) (.forr (.nm 2) (.rev V0)<|.w (.s 3<|.comp [O "k",O "done"] [M,J 1] (.rng<|.f "count_parts"<|.o V2) (.nm 0) M<|.meth .pop V1 .n)<|.drp<|.meth .app V1<|.o<|.bin .Add V2<|.blt .tup<|.o V3) (.ret<|.ix V1 F0)
def Zja:Fd:=fd_ 1 ["fronts","done","front","parts"] Zny
def ZiH:Sxs:=.o (.ret<|.cmp .Gt (.blt .len<|.o<|.f "places"<|.o V0)<|.glo<|O "WIDEST")
def ZfB:Fd:=fd_ 1 ["E"] ZiH
def Zmb:Sxs:=.w (.forr (.two 2 3) (.pl V1)<|.o<|.iff (.q V2 V0) (.o<|.ret V3) .n) (.ret<|.cst .non)
def Zhp:Fd:=fd_ 2 ["name","around","known","thing"] Zmb
def Zq0:Sxs:=.w (.iff (.q (.ix V0 F0)<|.Ci_ "clo") (.o<|.ret<|.sl V0 (J F1) M) .n) (.ret<|.tupl<|.w V0<|.tupl .n)
def Zki:Fd:=fd_ 1 ["thing"] Zq0
def Zl5:Sxs:=.w (.iff (.nq (.ix V0 F0)<|.Ci_ "name") (.o<|.ret<|.cst .non) .n) (.ret<|.f "bound_to"<|.w (.ix V0 F1) V1)
def ZcM:Fd:=fd_ 2 ["place","around"] Zl5
def ZkJ:Sxs:=.o (.ret<|.bin .Add (.blt .tup<|.o<|.comp [O "name"] [M] (.pl<|.f "bound_names"<|.o V0) (.nm 0) M<|.tupl<|.w V0<|.cst .non) V1)
def Zhi:Fd:=fd_ 2 ["place","around"] ZkJ
def Zl8:Sxs:=.o (.ret<|.cmp .In (.ix V0 F0)<|.glo<|O "VALUES")
def ZbE:Fd:=fd_ 1 ["E"] Zl8
def ZcP:Sx:=.s 2 (.blt .tup<|.o<|.comp [O "name",O "filling"] [M,J 1] (.dk V1) (.nm 0) M<|.tupl<|.w V0<|.tupl<|.u (.Ci_ "clo") (.ix V1 V0)<|.tupl .n)
def ZcO:Sx:=.ret (.m "Pen" "filled" (.mk (O "Pen")<|.o<|.cst .non)<|.w V0 V2)
def ZqZ:Sxs:=.w ZcP ZcO
def Zhk:Fd:=fd_ 2 ["E","filling","around"] ZqZ
def Zer:Sxs:=.w (.iff (.q (.ix V0 F0)<|.Ci_ "if") (.o<|.ret<|.sl V0 (J F1)<|J F2) .n) (.ret<|.f "parts_of"<|.o V0)
def ZR:Fd:=fd_ 1 ["E"] Zer
def ZcT:Sxs:=.w (.forr (.two 1 2) (.en1<|.f "parts_first"<|.o V0)<|.o<|.iff (.nt<|.ex<|.f "is_value"<|.o V2) (.o<|.ret V1) .n) (.ret<|.cst .non)
def ZaF:Fd:=fd_ 1 ["E","k","part"] ZcT
def ZhG:Sxs:=.u (.s 1<|.lstl<|.o<|.tupl<|.w V0<|.f "first_open_terms"<|.o V0) (.whl (.x .IsNot (.ix (.ix V1<|.neg F1) F1)<|.cst .non)<|.w (.s 2<|.ix (.ix (.ix V1<|.neg F1) F0)<|.ix (.ix V1<|.neg F1) F1)<|.drp<|.meth .app V1<|.o<|.tupl<|.w V2<|.f "first_open_terms"<|.o V2) (.ret V1)
def Zhj:Fd:=fd_ 1 ["E","way","inner"] ZhG
def ZbQ:Sxs:=.u (.iff (.q (.ix V0 F0)<|.Ci_ "fn") (.o<|.ret<|.f "put_in"<|.w (.ix V0 F2)<|.dictl<|.w (.ix V0 F1) V1) .n) (.iff (.q (.ix V0 F0)<|.Ci_ "rec") (.o<|.ret<|.f "put_in"<|.w (.ix V0 F3)<|.dictl<|.z (.ix V0 F1) V0 (.ix V0 F2) V1) .n) (.ret<|.cst .non)
def Zdt:Fd:=fd_ 2 ["F","A"] ZbQ
def ZhQ:Sxs:=.w (.iff (.nq (.ix V0 F0)<|.Ci_ "num") (.o<|.ret<|.cst .non) .n) (.ret<|.ite (.q (.ix V0 F1) F0) V2 V1)
def Zds:Fd:=fd_ 3 ["C","T","E"] ZhQ
def ZeI:Sx:=.iff (.ors<|.c (.nq (.ix V1 F0)<|.Ci_ "num")<|.one<|.nq (.ix V2 F0)<|.Ci_ "num") (.o<|.ret<|.cst .non) .n
def Zl0:Sx:=.iff (.q V0<|.Ci_ "<") (.o<|.ret<|.tupl<|.w (.Ci_ "num")<|.ite (.x .Lt (.ix V1 F1)<|.ix V2 F1) F1 F0) .n
def ZlZ:Sx:=.iff (.q V0<|.Ci_ "+") (.o<|.ret<|.tupl<|.w (.Ci_ "num")<|.bin .Mod (.bin .Add (.ix V1 F1)<|.ix V2 F1)<|.glo<|O "BEYOND") .n
def ZlY:Sx:=.iff (.q V0<|.Ci_ "-") (.o<|.ret<|.tupl<|.w (.Ci_ "num")<|.bin .Mod (.bin .Sub (.ix V1 F1)<|.ix V2 F1)<|.glo<|O "BEYOND") .n
def ZlX:Sx:=.ret (.tupl<|.w (.Ci_ "num")<|.bin .Mod (.bin .Mult (.ix V1 F1)<|.ix V2 F1)<|.glo<|O "BEYOND")
def ZN:Sxs:=.y ZeI Zl0 ZlZ ZlY ZlX
def Zdn:Fd:=fd_ 3 ["word","first","second"] ZN
def Zme:Sx:=.iff (.q (.ix V0 F0)<|.Ci_ "call") (.o<|.ret<|.f "called_terms"<|.w (.ix V0 F1)<|.ix V0 F2) .n
def Zmd:Sx:=.iff (.q (.ix V0 F0)<|.Ci_ "if") (.o<|.ret<|.f "chosen"<|.u (.ix V0 F1) (.ix V0 F2)<|.ix V0 F3) .n
def Zmc:Sx:=.ret (.f "worked"<|.u (.ix V0 F0) (.ix V0 F1)<|.ix V0 F2)
def ZaK:Sxs:=.u Zme Zmd Zmc
def Zkk:Fd:=fd_ 1 ["E"] ZaK
def ZhH:Sxs:=.u (.s 2 V1) (.forr (.two 3 4) (.rev V0)<|.o<|.s 2<|.bin .Add (.bin .Add (.sl V3 M<|J V4)<|.tupl<|.o V2)<|.sl V3 (J<|.bin .Add V4 F1) M) (.ret V2)
def Zhl:Fd:=fd_ 2 ["way","E","whole","place","inner"] ZhH
def Zf3:Sx:=.iff (.ex<|.f "is_value"<|.o V0) (.o<|.ret<|.tupl<|.o<|.Ci_ "value") .n
def ZdA:Sx:=.s 1 (.f "way_down"<|.o V0)
def Zdz:Sx:=.s 2 (.f "become"<|.o<|.ix (.ix V1<|.neg F1) F0)
def Zb6:Sx:=.iff (.x .Is V2<|.cst .non) (.o<|.ret<|.tupl<|.o<|.Ci_ "stuck") .n
def Zdy:Sx:=.ret (.tupl<|.w (.Ci_ "loud")<|.f "put_back"<|.w (.sl V1 M<|J<|.neg F1) V2)
def Zoz:Sxs:=.y Zf3 ZdA Zdz Zb6 Zdy
def Ziu:Fd:=fd_ 1 ["E","way","F"] Zoz
def Zl4:Sx:=.s 2 (.lstl<|.o V0)
def Zl3:Sx:=.s 3 (.f "stepped"<|.o V0)
def Zl2:Sx:=.whl (.q (.ix V3 F0)<|.Ci_ "loud") (.z (.iff (.x .Gt (.blt .len<|.o V2) V1) (.o<|.ret<|.tupl<|.w V2<|.Ci_ "open") .n) (.iff (.ex<|.f "is_wide"<|.o<|.ix V3 F1) (.o<|.ret<|.tupl<|.w V2<|.Ci_ "wide") .n) (.drp<|.meth .app V2<|.o<|.ix V3 F1)<|.s 3<|.f "stepped"<|.o<|.ix V3 F1)
def Zl1:Sx:=.ret (.tupl<|.w V2<|.ix V3 F0)
def ZqY:Sxs:=.z Zl4 Zl3 Zl2 Zl1
def Zkh:Fd:=fd_ 2 ["E","most","row","step"] ZqY
def ZdN:Sxs:=.w (.sa "Pen" V0 "most" V1) (.sa "Pen" V0 "used" F0)
def ZaG:Fd:=fd_ 2 ["self","most"] ZdN
noncomputable def ZqX(x:Sx):Sxs:=(.cons (.iff (.ex<|.cmp .Eq (.att [O "Pen"] (.var 0)<|O "used")<|.att [O "Pen"] (.var 0)<|O "most") (.cons x .nil) .nil)<|.cons (.auga [O "Pen"] (.var 0) (O "used")<|.ci 1) .nil)
def ZlL(x:Sx):Fd:=⟨[O "self"],[O "self"],ZqX x⟩
def ZcU:Sxs:=.z (.s 3<|.lstl .n) (.s 4<|.lstl<|.o<|.tupl<|.w V1 V2) (.whl (.ex V4)<|.u (.s 5<|.meth .pop V4 .n) (.s 6<|.f "meant_by"<|.w (.ix V5 F0)<|.ix V5 F1)<|.iff (.x .Is V6<|.cst .non) (.z (.drp<|.m "Pen" "take_place" V0 .n) (.drp<|.meth .app V3<|.o<|.f "front_of"<|.o<|.ix V5 F0) (.s 7<|.f "within"<|.w (.ix V5 F0)<|.ix V5 F1)<|.drp<|.meth .ext V4<|.o<|.comp [O "part",O "inner"] [M,J 7] (.rev<|.f "parts_of"<|.o<|.ix V5 F0) (.nm 0) M<|.tupl<|.w V0 V1)<|.o<|.drp<|.meth .app V4<|.o<|.f "opened"<|.o V6) (.ret<|.f "built"<|.o V3)
def Zfc:Fd:=fd_ 3 ["self","E","around","fronts","waiting","pair","thing","inner"] ZcU
structure Trb(P:Pg):Prop extends Gn.Tre P where
 bound_names:P.tb.lookup (O "bound_names")=J Za1
 front_of:P.tb.lookup (O "front_of")=J ZeD
 count_parts:P.tb.lookup (O "count_parts")=J Zep
 built:P.tb.lookup (O "built")=J Zja
 bound_to:P.tb.lookup (O "bound_to")=J Zhp
 opened:P.tb.lookup (O "opened")=J Zki
 meant_by:P.tb.lookup (O "meant_by")=J ZcM
 within:P.tb.lookup (O "within")=J Zhi
 n_Pen___init__:P.tb.lookup (mnm (O "Pen")<|O "__init__")=M
 Pen___init__:P.ms.lookup (mnm (O "Pen")<|O "__init__")=J ZaG
 n_Pen_take_place:P.tb.lookup (mnm (O "Pen")<|O "take_place")=M
 tk:∃x,P.ms.lookup (mnm (O "Pen")<|O "take_place")=J (ZlL x)
 n_Pen_filled:P.tb.lookup (mnm (O "Pen")<|O "filled")=M
 Pen_filled:P.ms.lookup (mnm (O "Pen")<|O "filled")=J Zfc
structure Trm(P:Pg):Prop extends Trb P where
 is_value:P.tb.lookup (O "is_value")=J ZbE
 put_in:P.tb.lookup (O "put_in")=J Zhk
 parts_first:P.tb.lookup (O "parts_first")=J ZR
 first_open:P.tb.lookup (O "first_open_terms")=J ZaF
 way_down:P.tb.lookup (O "way_down")=J Zhj
 called:P.tb.lookup (O "called_terms")=J Zdt
 chosen:P.tb.lookup (O "chosen")=J Zds
 worked:P.tb.lookup (O "worked")=J Zdn
 become:P.tb.lookup (O "become")=J Zkk
 put_back:P.tb.lookup (O "put_back")=J Zhl
 stepped:P.tb.lookup (O "stepped")=J Ziu
 gv:P.G (O "VALUES")=J (.tup [.str<|O "num",.str<|O "fn",.str<|O "rec"])
 gb:P.G (O "BEYOND")=J (.int 1000000)
structure Trw(P:Pg):Prop extends Trm P where
 is_wide:P.tb.lookup (O "is_wide")=J ZfB
 row_of:P.tb.lookup (O "row_of")=J Zkh
 gw:P.G (O "WIDEST")=J (.int 120)
 pl:P.tb.lookup (O "places")=J Gn.Zdo
section
variable {P:Pg}{h:Hd}
section
variable {w:Wd}
@[simp]def Zy8:(w.s=O "num")↔False:=by cases w<;>simp[Wd.s]
@[simp]def Zz9:(w.s=O "if")↔False:=by cases w<;>simp[Wd.s]
@[simp]def ZAa:(w.s=O "fn")↔False:=by cases w<;>simp[Wd.s]
@[simp]def Zy7:(w.s=O "rec")↔False:=by cases w<;>simp[Wd.s]
@[simp]def ZbA:ZH Gn.Za4 (.inr w.s)=J (.tup [.int 0,.int 2]):=by cases w<;>rfl
end
noncomputable def bnd:T->List Str
 |.fn x _=>[x]
 |.rcc f x _=>[f,x]
 |_=>[]
noncomputable def fr:T->List D
 |.num n=>[.str<|O "num",.int n]
 |.name x=>[.str<|O "name",.str x]
 |.fn x _=>[.str<|O "fn",.str x]
 |.rcc f x _=>[.str<|O "rec",.str f,.str x]
 |.call _ _=>[.str<|O "call"]
 |.iff _ _ _=>[.str<|O "if"]
 |.op w _ _=>[.str w.s]
def Zz0(t:T):t.d=.tup (fr t++t.parts.map T.d):=by cases t<;>rfl
def Zxs(H:Gn.Tre P)(hb:P.tb.lookup (O "bound_names")=J Za1)(n)(t)(h):run P (n+1) (O "bound_names") [t.d] h=.ok (.tup<|(bnd t).map .str) h:=by
 have no:∀(w) (ds),ZH Gn.Za4 (.inr w)=M->run P (n+1) (O "bound_names") [.tup (.str w::ds)] h=.ok (.tup []) h:=λw ds e=>by rw[Zd hb rfl];show Ze (xs2 (P.tbl n) ZD [J<|.tup (.str w::ds)] h)=_;rw[ZD,Zb<|(Zq<|Gn.Zam H ⟨rfl,rfl⟩ Gn.ZbX e).trans<|Zb<|Zk rfl];rfl
 have yes:∀(w) (ds) (a b),ZH Gn.Za4 (.inr w)=J (.tup [.int a,.int b])->run P (n+1) (O "bound_names") [.tup (.str w::ds)] h=.ok (.tup<|cutD (.str w::ds) (J 1)<|J<|1+a) h:=λw ds a b e=>by rw[Zd hb rfl];show Ze (xs2 (P.tbl n) ZD [J<|.tup (.str w::ds)] h)=_;rw[ZD,Za<|(Zo<|Gn.Zam H ⟨rfl,rfl⟩ Gn.ZbX e).trans rfl,Zb<|Zk<|(Gn.Zih rfl rfl<|Gn.Zfd<|Gn.Zhd H (U:=P.tbl n) ⟨rfl,rfl⟩ (ds:=ds) (h:=h) e).trans rfl];rfl
 cases t with
 |num z=>exact no (O "num") _ rfl
 |name x=>exact no (O "name") _ rfl
 |fn x e=>exact yes (O "fn") _ 1 1 rfl
 |rcc f x e=>exact yes (O "rec") _ 2 1 rfl
 |call f a=>exact yes (O "call") _ 0 2 rfl
 |iff c a b=>exact yes (O "if") _ 0 3 rfl
 |op w a b=>exact yes w.s _ 0 2 ZbA
def ZrL(H:Trb P)(n)(t)(h):run P (n+1) (O "bound_names") [t.d] h=.ok (.tup<|(bnd t).map .str) h:=Zxs H.toTre H.bound_names n t h
def ZbD(H:Trb P)(n)(h)(w)(ds)(e:ZH Gn.Za4 (.inr w)=M):run P (n+1) (O "front_of") [.tup (.str w::ds)] h=.ok (.tup (.str w::ds)) h:=by rw[Zd H.front_of rfl];show Ze (xs2 (P.tbl n) ZZ [J<|.tup (.str w::ds)] h)=_;rw[ZZ,Zb<|(Zq<|Gn.Zam H.toTre ⟨rfl,rfl⟩ Gn.ZbX e).trans<|Zb<|Zk rfl];rfl
def Zz(H:Trb P)(n)(h)(w)(ds)(a b)(e:ZH Gn.Za4 (.inr w)=J (.tup [.int a,.int b])):run P (n+1) (O "front_of") [.tup (.str w::ds)] h=.ok (.tup<|cutD (.str w::ds) M<|J<|1+a) h:=by rw[Zd H.front_of rfl];show Ze (xs2 (P.tbl n) ZZ [J<|.tup (.str w::ds)] h)=_;rw[ZZ,Za<|(Zo<|Gn.Zam H.toTre ⟨rfl,rfl⟩ Gn.ZbX e).trans rfl,Zb<|Zk<|(Gn.Zih rfl rfl<|Gn.Zfd<|Gn.Zhd H.toTre (U:=P.tbl n) ⟨rfl,rfl⟩ (ds:=ds) (h:=h) e).trans rfl];rfl
def ZiQ(H:Trb P)(n)(t)(h):run P (n+1) (O "front_of") [t.d] h=.ok (.tup<|fr t) h:=by
 cases t with
 |num z=>exact ZbD H n h (O "num") _ rfl
 |name x=>exact ZbD H n h (O "name") _ rfl
 |fn x e=>exact Zz H n h (O "fn") _ 1 1 rfl
 |rcc f x e=>exact Zz H n h (O "rec") _ 2 1 rfl
 |call f a=>exact Zz H n h (O "call") _ 0 2 rfl
 |iff c a b=>exact Zz H n h (O "if") _ 0 3 rfl
 |op w a b=>exact Zz H n h w.s _ 0 2 ZbA
theorem ZrK (H:Trb P) (n) (t) (h):run P (n+1) (O "count_parts") [.tup<|fr t] h=.ok (.int t.parts.length) h:=by
 have no:∀ (w) (ds),ZH Gn.Za4 (.inr w)=M->run P (n+1) (O "count_parts") [.tup (.str w::ds)] h=.ok (.int 0) h:=λw ds e=>by
   rw [Zd H.count_parts rfl];show Ze (xs2 (P.tbl n) Zal [J<|.tup (.str w::ds)] h)=_;rw [Zal,Zb<|(Zq<|Gn.Zam H.toTre ⟨rfl,rfl⟩ Gn.ZbX e).trans<|Zb<|Zk rfl];rfl
 have yes:∀ (w) (ds) (a b),ZH Gn.Za4 (.inr w)=J (.tup [.int a,.int b])->run P (n+1) (O "count_parts") [.tup (.str w::ds)] h=.ok (.int b) h:=λw ds a b e=>by
   rw [Zd H.count_parts rfl];show Ze (xs2 (P.tbl n) Zal [J<|.tup (.str w::ds)] h)=_;rw [Zal,Za<|(Zo<|Gn.Zam H.toTre ⟨rfl,rfl⟩ Gn.ZbX e).trans rfl,Zb (Zk (by
     rw [Zni,Gn.Znd H.toTre ⟨rfl,rfl⟩ Gn.ZbX e];rfl))]
   rfl
 cases t with
 |num z=>exact no (O "num") _ rfl
 |name x=>exact no (O "name") _ rfl
 |fn x e=>exact yes (O "fn") _ 1 1 rfl
 |rcc f x e=>exact yes (O "rec") _ 2 1 rfl
 |call f a=>exact yes (O "call") _ 0 2 rfl
 |iff c a b=>exact yes (O "if") _ 0 3 rfl
 |op w a b=>exact yes w.s _ 0 2 ZbA
noncomputable abbrev Ar:=List (Str×Option T)
noncomputable def thd(V:T):D:=.tup [.str<|O "clo",V.d,.tup []]
def ard(p:Str×Option T):D:=.tup [.str p.1,match p.2 with|some V=>thd V|none=>.non]
noncomputable def get:Ar->Str->Option T
 |[],_=>M
 |(y,v)::r,x=>if y=x then v else get r x
noncomputable abbrev En:=List (Str×Option Rw.Th)
def edd(p:Str×Option Rw.Th):D:=.tup [.str p.1,Rw.thD p.2]
noncomputable def ZfG:En->Str->Option Rw.Th
 |[],_=>M
 |(y,v)::r,x=>if y=x then v else ZfG r x
def Zqb:Sxs:=.o (.iff (.q V2 V0) (.o<|.ret V3) .n)
theorem Zyc:∀(ar) (a b),(∃S,ZW [] (.two 2 3) (xs2 U Zqb) (ar.map edd) [J<|.str x,J o,a,b] h=.ok (.rt<|Rw.thD<|ZfG ar x,S) h)\/(ZfG ar x=M/\∃S,ZW [] (.two 2 3) (xs2 U Zqb) (ar.map edd) [J<|.str x,J o,a,b] h=.ok (.nx,S) h)
 |[],a,b=>.inr ⟨rfl,_,rfl⟩
 |(y,v)::r,a,b=>by
  by_cases e:y=x
  . refine .inl ⟨[J<|.str x,J o,J<|.str y,J<|Rw.thD v],?_⟩;rw[ZfG,if_pos e];exact Zqy rfl (Zb<|(Zq<|Zm (ZaN rfl rfl)<|decide_eq_true e).trans<|Zb<|Zk rfl)
  . have b1:xs2 U Zqb [J<|.str x,J o,J<|.str y,J<|Rw.thD v] h=.ok (.nx,[J<|.str x,J o,J<|.str y,J<|Rw.thD v]) h:=(Za<|(Zo<|Zm (ZaN rfl rfl)<|decide_eq_false e).trans rfl).trans rfl;have s1:=Zhe (g:=.two 2 3) (ds:=r.map edd) (S:=[J<|.str x,J o,a,b]) (d:=edd (y,v)) rfl b1;rw[ZfG,if_neg e];rcases Zyc r (J<|.str y) (J<|Rw.thD v)with⟨S,q⟩|⟨q0,S,q⟩
    . exact .inl ⟨S,s1.trans q⟩
    . exact .inr ⟨q0,S,s1.trans q⟩
def Zzx(H:Trb P)(n)(x)(ar):run P (n+1) (O "bound_to") [.str x,.tup<|ar.map edd] h=.ok (Rw.thD<|ZfG ar x) h:=by
 rw[Zd H.bound_to<|rfl];rcases Zyc ar M M with⟨S,q⟩|⟨q0,S,q⟩
 . exact congrArg Ze (Zb<|(Zdl<|ZfD rfl).trans q)
 . rw[q0];exact congrArg Ze ((Za<|(Zdl<|ZfD rfl).trans q).trans<|Zb<|Zk rfl)
def mean(ar:Ar):T->Option T
 |.name x=>get ar x
 |_=>M
def Zcw(ar:En):T->Option Rw.Th
 |.name x=>ZfG ar x
 |_=>M
def ZdX(H:Trb P)(n)(t)(ar):run P (n+2) (O "meant_by") [t.d,.tup<|ar.map edd] h=.ok (Rw.thD<|Zcw ar t) h:=by
 rw[Zd H.meant_by<|rfl];cases t with
 |name x=>exact ZhC (λU=>Ze<|xs2 U ZcM.body (Zw ZcM.N [(T.name x).d,.tup<|ar.map edd]) h) (Zzx H n (h:=h) x ar) rfl rfl
 |op w a b=>cases w<;>exact rfl
 |_=>trivial
def inn(t:T)(ar:Ar):Ar:=(bnd t).map (λx=>(x,M))++ar
def Zcp(t:T)(ar:En):En:=(bnd t).map (λx=>(x,M))++ar
theorem ZkC:∀(xs:List Str) (ai),ai.length+xs.length<=1000->Zx [] (.nm 0) (tsto U M) (ev U<|.tupl<|.cons (.var 0)<|.cons (.cst .non) .nil) (xs.map .str) [M] ai h=.ok (ai++(xs.map λx=>D.tup [.str x,.non])) h
 |[],ai,_=>by simp[Zx,Wk.stays]
 |x::xs,ai,hz=>by
  have ih:=ZkC (U:=U) xs (ai++[.tup [.str x,.non]]) (by simp at hz ⊢;lia);have hl:ai.length<16777216:=by lia
  rw[Op,ZY];simp[Wk.stays,hl,YC];simpa using ih
def Zpd(H:Trb P)(n)(t)(ar)(hz:ar.length<=100000):run P (n+2) (O "within") [t.d,.tup<|ar.map edd] h=.ok (.tup<|(Zcp t ar).map edd) (h++[.lst<|(bnd t).map λx=>.tup [.str x,.non]]):=by
 rw[Zd H.within<|rfl];have hb:(bnd t).length<=2:=by cases t<;>simp[bnd]
 have cat:∀h',opB .Add (.tup<|(bnd t).map λx=>D.tup [.str x,.non]) (.tup<|ar.map edd) h'=.ok (.tup<|(Zcp t ar).map edd) h':=by intro h';rw[Ze0 (by rw[YC];simp;lia)];simp[Zcp,edd,Rw.thD,YX]
 simp[Zhi,ZkJ,Zw,ZrL H n t h,ZaA,Za7,ZkC (U:=⟨P.G,P.GD,run P<|n+1,P.L⟩) (h:=h) (bnd t) [] (by simp;lia),Zaj,ZkS,lstOf,cat]
def opn:Rw.Th->T×Rw.Ar
 |.num n=>(.num n,.nil)
 |.clo E ar=>(E,ar)
def Zph(H:Trb P)(n)(v):run P (n+1) (O "opened") [v.d] h=.ok (.tup [(opn v).1.d,.tup (opn v).2.ds]) h:=by rw[Zd H.opened<|rfl];cases v<;>exact rfl
end
def sub:Ar->T->T
 |_,.num n=>.num n
 |ar,.name x=>(get ar x).getD (.name x)
 |ar,.fn x e=>.fn x (sub ((x,M)::ar) e)
 |ar,.rcc f x e=>.rcc f x (sub ((f,M)::(x,M)::ar) e)
 |ar,.call f a=>.call (sub ar f) (sub ar a)
 |ar,.iff c t e=>.iff (sub ar c) (sub ar t) (sub ar e)
 |ar,.op w a b=>.op w (sub ar a) (sub ar b)
def NN(ar:Ar):Prop:=∀x,get ar x=M
def NN.cons(h:NN ar)(y):NN ((y,M)::ar):=λx=>by
 unfold get;split
 . rfl
 . exact h x
theorem Zce:∀(t) {ar},NN ar->sub ar t=t
 |.num _,_,_=>rfl
 |.name x,_,h=>by rw[sub,h x];rfl
 |.fn x e,_,h=>by rw[sub,Zce e<|h.cons x]
 |.rcc f x e,_,h=>by rw[sub,Zce e<|(h.cons x).cons f]
 |.call f a,_,h=>by rw[sub,Zce f h,Zce a h]
 |.iff c t e,_,h=>by rw[sub,Zce c h,Zce t h,Zce e h]
 |.op w a b,_,h=>by rw[sub,Zce a h,Zce b h]
def Zf(t:T):t.size=1+(t.parts.map T.size).sum:=by
 unfold T.size;rw[T.places_parts];simp
 lia
def ZI(t:T):1<=t.size:=by rw[Zf];lia
def Zid(t)(ar)(h:mean ar t=M):(sub ar t).parts=t.parts.map (sub<|inn t ar)/\fr (sub ar t)=fr t:=by
 cases t with
 |name x=>rw[sub,show get ar x=M from h];trivial
 |_=>trivial
def Zob{t}{V}(h:mean ar t=J V):sub ar t=V:=by
 cases t with
 |name x=>rw[sub,show get ar x=J V from h];rfl
 |_=>cases h
end Tm
namespace Rw
open PySem L2 IV
mutual
noncomputable def rd:Th->T
 |.num n=>.num n
 |.clo E ar=>Tm.sub (ra ar) E
noncomputable def ra:Ar->List (Str×Option T)
 |.nil=>[]
 |.cons x v r=>(x,J<|rd v)::ra r
end
end Rw
namespace Tm
open PySem L2 IV
section
variable {P:Pg}
def er(e:En):Ar:=e.map λp=>(p.1,p.2.map Rw.rd)
noncomputable def up:Rw.Ar->En
 |.nil=>[]
 |.cons x v r=>(x,J v)::up r
theorem ZtC:∀ar ,(up ar).map edd=ar.ds
 |.nil=>rfl
 |.cons x v r=>by rw[up,Op,ZtC r];rfl
theorem Zt2:∀ar ,er (up ar)=Rw.ra ar
 |.nil=>rfl
 |.cons x v r=>by rw[Rw.ra,<-Zt2 r];rfl
theorem ZoR:∀ar ,(up ar).length=ar.len
 |.nil=>rfl
 |.cons x v r=>by rw[up,Rw.Ar.len,Os,ZoR r]
theorem ZlI(x):∀e ,get (er e) x=(ZfG e x).map Rw.rd
 |[]=>rfl
 |(y,v)::r=>by
  show(if y=x then v.map Rw.rd else get (er r) x)=(if y=x then v else ZfG r x).map Rw.rd;split
  . rfl
  . exact ZlI x r
def Zv6(t)(e):er (Zcp t e)=inn t (er e):=by simp[er,Zcp,inn,YX]
def tel(p:T×En):T:=sub (er p.2) p.1
def ZlQ(h:Zcw e t=M):mean (er e) t=M:=by
 cases t with
 |name x=>show get (er e) x=M;rw[ZlI,show ZfG e x=M from h];rfl
 |_=>rfl
def Zmv(v):tel ((opn v).1,up (opn v).2)=Rw.rd v:=by
 cases v with
 |num n=>trivial
 |clo E ar=>show sub (er<|up ar) E=_;rw[Zt2,Rw.rd]
def Zht{t}{v}(h:Zcw e t=J v):tel (t,e)=Rw.rd v:=by
 cases t with
 |name x=>refine Zob ?_;show get (er e) x=_;rw[ZlI,show ZfG e x=J v from h];rfl
 |_=>cases h
def Zic(h:Zcw e t=M):(tel (t,e)).parts=t.parts.map (λs=>tel (s,Zcp t e))/\fr (tel (t,e))=fr t:=by obtain⟨a,b⟩:=Zid t (er e)<|ZlQ h;refine⟨a.trans ?_,b⟩;rw[<-Zv6];rfl
def tf(t:T):D:=.tup (fr t)
def ZF{h:Hd}(e:h[i]?=J o):i<h.length:=(Ob.mp e).1
def keep{h}{i:Nat}{g:Hd}(e:h[i]?=J o):(h++g)[i]?=J o:=(Oe<|ZF e).trans e
structure B_(h0 h:Hd)(fk dk:Nat)(fs ds:List D):Prop where
 f:h[fk]?=J (.lst fs)
 d:h[dk]?=J (.lst ds)
 ne:dk≠fk
 o1:h0.length<=dk
 ol:h0.length<=h.length
 old:∀i,i<h0.length->h[i]?=h0[i]?
theorem B_.set{h0 h}(b:B_ h0 h fk dk fs ds)(es):B_ h0 (h.set dk<|.lst es) fk dk fs es:=⟨(Oc b.ne).trans b.f,by rw[Ol<|ZF b.d],b.ne,b.o1,by simpa using b.ol,λi hi=>(Oc (by have:=b.o1;lia)).trans<|b.old i hi⟩
def B_.app{h0 h g}{fk dk}{fs ds}(b:B_ h0 h fk dk fs ds):B_ h0 (h++g) fk dk fs ds:=⟨keep b.f,keep b.d,b.ne,b.o1,by have:=b.ol;simp;lia,λi hi=>(Oe (by have:=b.ol;lia)).trans<|b.old i hi⟩
theorem ZqU:∀(ks xs D0 ai) (h),ks.length=xs.length->ai.length+xs.length<=1000->B_ h0 h fk dk fs (D0++xs.reverse)->∃h',
 Zx [] (.nm 0) (tsto U M) (ev U<|.meth .pop (.var 1) .nil) ks [M,J<|.ref dk] ai h=.ok (ai++xs) h'/\B_ h0 h' fk dk fs D0
 |[],[],D0,ai,h,_,_,b=>⟨h,by simp[Zx,Wk.stays],by simp_all⟩
 |[],_::_,_,_,_,e,_,_=>by cases e
 |_::_,[],_,_,_,e,_,_=>by cases e
 |k::ks,x::xs,D0,ai,h,e,hz,b=>by
  have b1:B_ h0 h fk dk fs ((D0++xs.reverse)++[x]):=by simp_all
  obtain⟨h',q,b2⟩:=ZqU ks xs D0 (ai++[x]) _ (by simpa using e) (by simp at hz ⊢;lia)<|b1.set<|D0++xs.reverse;refine⟨h',?_,b2⟩;have hl:ai.length<16777216:=by lia
  rw[ZY];simp[Wk.stays,hl,YC,Zbz b1.d,Zdg b1.d];simpa using q
def Ze2:Sxs:=.w (.s 3<|.comp [O "k",O "done"] [M,J 1] (.rng<|.f "count_parts"<|.o V2) (.nm 0) M<|.meth .pop V1 .n) (.drp<|.meth .app V1<|.o<|.bin .Add V2<|.blt .tup<|.o V3)
def Zru(H:Trb P)(n){h0 h}{fk dk}{fs D0}(t)(b:B_ h0 h fk dk fs (D0++(t.parts.map T.d).reverse))(hz:D0.length<=1000000)(o0 o3):∃h' dh,
 xs2 (P.tbl<|n+1) Ze2 [o0,J<|.ref dk,J<|tf t,o3] h=.ok (.nx,[o0,J<|.ref dk,J<|tf t,dh]) h'/\B_ h0 h' fk dk fs (D0++[t.d]):=by
 have hp:t.parts.length<=3:=by cases t<;>simp[T.parts]
 have hf:(fr t).length<=3:=by cases t<;>simp[fr]
 obtain⟨R,q1,b1⟩:=ZqU (U:=P.tbl<|n+1) (Zbe 0 t.parts.length) (t.parts.map T.d) D0 [] h (by simp[Zbe]) (by simp;lia) b;refine⟨_,J<|.ref R.length,?_,(b1.app (g:=[.lst<|t.parts.map T.d])).set<|D0++[t.d]⟩;have k1:(R++[DO.lst<|t.parts.map T.d])[dk]?=J (.lst D0):=keep b1.d;have x1:xs1 (P.tbl<|n+1) (.set (.nm 3)<|.comp [O "k",O "done"] [M,J 1] (.rng<|.call (O "count_parts")<|.cons (.var 2) .nil) (.nm 0) M<|.meth .pop (.var 1) .nil) [o0,J<|.ref dk,J<|tf t,o3] h=.ok (.nx,[o0,J<|.ref dk,J<|tf t,J<|.ref R.length]) (R++[.lst<|t.parts.map T.d]):=by
  have ei:evi (P.tbl<|n+1) (.rng<|.call (O "count_parts")<|.cons (.var 2) .nil) [o0,J<|.ref dk,J<|tf t,o3] h=.ok ⟨[],Zbe 0 t.parts.length⟩ h:=by have e1:ev (P.tbl<|n+1) (.call (O "count_parts")<|.cons (.var 2) .nil) [o0,J<|.ref dk,J<|tf t,o3] h=.ok (.int t.parts.length) h:=ZrK H n t h;rw[Zs0,e1,Zu];exact(if_pos (by simp[ZdU];lia)).trans (by rw[Int.toNat_natCast])
  rw[Zgi,Zgp,ei,Zu];simp only[Za7,Op,Oy,Option.bind_none,Yz];rw[show([o0,J<|D.ref dk,J<|tf t,o3][1]?).join=J (.ref dk)from rfl,q1];rfl
 have x2:xs1 (P.tbl<|n+1) (.drp<|.meth .app (.var 1)<|.cons (.bin .Add (.var 2)<|.blt .tup<|.cons (.var 3) .nil) .nil) [o0,J<|.ref dk,J<|tf t,J<|.ref R.length] (R++[.lst<|t.parts.map T.d])=.ok (.nx,[o0,J<|.ref dk,J<|tf t,J<|.ref R.length]) (List.set (R++[.lst<|t.parts.map T.d]) dk<|.lst<|D0++[t.d]):=by
  have ad:∀h',opB .Add (tf t) (.tup<|t.parts.map T.d) h'=.ok t.d h':=λh'=>by rw[Zz0];exact Ze0 (by rw[YC];simp;lia)
  simp[Zbz k1,Zaj,ZkS,lstOf,ad,Z5 (d:=t.d) k1 (by rw[YC];lia)]
 rw[Ze2,Za x1,Za x2];rfl
def Zdm(e:h[j]?=J (.lst L))(b:ZbI g d S=J ρ1)(q:body ρ1 h=.ok (.nx,ρ2) h2):ZW [(j,L)] g body (d::ds) S h=ZW [(j,L)] g body ds ρ2 h2:=by
 have:Wk.stays [(j,L)] h=Ws:=by simp[Wk.stays,e]
 rw[ZW]
 simp_all
def Ze8(e:h[j]?=J (.lst L)):ZW [(j,L)] g body [] S h=.ok (.nx,S) h:=by rw[ZW,if_pos<|by simp[Wk.stays,e]]
def wb(P:Pg)(n fk dk:Nat)(fs:List D)(o0:Option D)(ag:List D)(o2 o3:Option D)(h:Hd):qd (Fl×Ev):=ZW [(fk,fs)] (.nm 2) (xs2 (P.tbl<|n+1) Ze2) ag [o0,J<|.ref dk,o2,o3] h
def Bt(P:Pg)(n:Nat)(h0:Hd)(fk dk:Nat)(fs:List D)(o0:Option D)(xs D0 D1:List D):Prop:=∀(ag:List D) (h:Hd) (o2 o3:Option D),B_ h0 h fk dk fs D0->∃h' fA dh,wb P n fk dk fs o0 (xs++ag) o2 o3 h=wb P n fk dk fs o0 ag fA dh h'/\B_ h0 h' fk dk fs D1
section
variable {n:Nat}{h0:Hd}{fk dk:Nat}{fs:List D}{o0:Option D}{xs ys D0 D1 D2:List D}
def Bt.trans(a:Bt P n h0 fk dk fs o0 xs D0 D1)(b:Bt P n h0 fk dk fs o0 ys D1 D2):Bt P n h0 fk dk fs o0 (xs++ys) D0 D2:=λag h o2 o3 q=>by obtain⟨R,iR,gz,e1,q1⟩:=a (ys++ag) h o2 o3 q;obtain⟨h2,iQ,iP,e2,q2⟩:=b ag R iR gz q1;exact⟨h2,iQ,iP,by simp_all,q2⟩
def Bt.front(H:Trb P)(t)(hz:D0.length<=1000000):Bt P n h0 fk dk fs o0 [tf t] (D0++(t.parts.map T.d).reverse) (D0++[t.d]):=λag h o2 o3 b=>by obtain⟨h',dh,e,b'⟩:=Zru H n t b hz o0 o3;exact⟨h',J<|tf t,dh,Zdm b.f rfl e,b'⟩
end
theorem Zcj(H:Trb P):∀(t:T) (D0),D0.length+t.size<=1000000->Bt P n h0 fk dk fs o0 (t.places.map tf).reverse D0 (D0++[t.d])
 |.num m,D0,hz=>by simpa[T.places,T.parts]using Bt.front H (.num m) (by lia)
 |.name m,D0,hz=>by simpa[T.places,T.parts]using Bt.front H (.name m) (by lia)
 |.fn x e,D0,hz=>by rw[Zf]at hz;simp only[T.parts,Op,Oy,OI,List.sum_nil]at hz;simpa[T.places,T.parts]using (Zcj H (n:=n) (h0:=h0) (fk:=fk) (dk:=dk) (fs:=fs) (o0:=o0) e D0<|by lia).trans (Bt.front H (.fn x e)<|by lia)
 |.rcc f x e,D0,hz=>by rw[Zf]at hz;simp only[T.parts,Op,Oy,OI,List.sum_nil]at hz;simpa[T.places,T.parts]using (Zcj H (n:=n) (h0:=h0) (fk:=fk) (dk:=dk) (fs:=fs) (o0:=o0) e D0<|by lia).trans (Bt.front H (.rcc f x e)<|by lia)
 |.call f a,D0,hz=>by rw[Zf]at hz;simp only[T.parts,Op,Oy,OI,List.sum_nil]at hz;have s1:=ZI f;have q:=(Zcj H (n:=n) (h0:=h0) (fk:=fk) (dk:=dk) (fs:=fs) (o0:=o0) a D0<|by lia).trans (Zcj H f (D0++[a.d]) (by simp;lia));have r:=Bt.front (P:=P) (n:=n) (h0:=h0) (fk:=fk) (dk:=dk) (fs:=fs) (o0:=o0) (D0:=D0) H (.call f a) (by lia);simp only[T.parts,Op,Oy,List.reverse_cons,List.reverse_nil,OB]at r;rw[<-Oz]at r;simpa[T.places]using q.trans r
 |.op w f a,D0,hz=>by rw[Zf]at hz;simp only[T.parts,Op,Oy,OI,List.sum_nil]at hz;have s1:=ZI f;have q:=(Zcj H (n:=n) (h0:=h0) (fk:=fk) (dk:=dk) (fs:=fs) (o0:=o0) a D0<|by lia).trans (Zcj H f (D0++[a.d]) (by simp;lia));have r:=Bt.front (P:=P) (n:=n) (h0:=h0) (fk:=fk) (dk:=dk) (fs:=fs) (o0:=o0) (D0:=D0) H (.op w f a) (by lia);simp only[T.parts,Op,Oy,List.reverse_cons,List.reverse_nil,OB]at r;rw[<-Oz]at r;simpa[T.places]using q.trans r
 |.iff c t e,D0,hz=>by rw[Zf]at hz;simp only[T.parts,Op,Oy,OI,List.sum_nil]at hz;have s1:=ZI c;have s2:=ZI t;have r:=Bt.front (P:=P) (n:=n) (h0:=h0) (fk:=fk) (dk:=dk) (fs:=fs) (o0:=o0) (D0:=D0) H (.iff c t e) (by lia);simp only[T.parts,Op,Oy,List.reverse_cons,List.reverse_nil,OB]at r;rw[<-Oz,<-Oz]at r;simpa[T.places]using (((Zcj H (n:=n) (h0:=h0) (fk:=fk) (dk:=dk) (fs:=fs) (o0:=o0) e D0<|by lia).trans<|Zcj H t (D0++[e.d]) (by simp;lia)).trans<|Zcj H c (D0++[e.d]++[t.d]) (by simp;lia)).trans r
theorem ZmG (H:Trb P) (n) (t:T) (hf:h[fk]?=J (.lst<|t.places.map tf)) (hz:t.size<=500000):∃ g,run P (n+2) (O "built") [.ref fk] h=.ok t.d (h++g):=by
 rw [Zd H.built<|by rfl];have b0:B_ h (h++[.lst []]) fk h.length (t.places.map tf) []:=⟨keep hf,by simp,by have:=ZF hf;lia,Oq _,by simp,λi hi=>Oe hi⟩
 obtain⟨R,o2,o3,e1,b1⟩:=Zcj H (n:=n) (o0:=J<|.ref fk) t [] (by simp;lia) [] _ M M b0;have e2:wb P n fk h.length (t.places.map tf) (J<|.ref fk) [] o2 o3 R=.ok (.nx,[J<|.ref fk,J<|.ref h.length,o2,o3]) R:=Ze8 b1.f;rw [e2,Yt] at e1;have ex:∃ g,R=h++g:=⟨R.drop h.length,by
   apply List.ext_getElem?;intro i;rcases Nat.lt_or_ge i h.length with q|q
   . rw [b1.old i q,Oe q]
   . rw [Om q,List.getElem?_drop];congr 1
     lia⟩
 obtain⟨g,rfl⟩:=ex;refine⟨g,?_⟩;have x0:=ZA (GD:=P.GD) (k:=0) b1.d;have hw:Zgv (.ref fk) (h++[.lst []])=J ⟨[(fk,t.places.map tf)],t.places.map tf⟩:=by simp [Zgv,b0.f]
 unfold wb Ze2 at e1;simp only [Pg.tbl] at e1;simp only [OB] at x0;simp [Zja,Zny,Zw,YC,hw,e1,x0]
end
section
variable {P:Pg}
noncomputable def Zbw(mo:D)(u:Int):DO:=.ins (O "Pen") [(O "most",mo),(O "used",.int u)]
def Lim(mo:D)(z:Int):Prop:=mo=.non\/∃m:Int,mo=.int m/\z<=m
def ZtO(H:Trb P)(n)(mo)(h):Zlp (run P<|n+1) (O "Pen") [mo] h=.ok (.ref h.length) (h++[Zbw mo 0]):=by unfold Zlp;rw[Zde H.n_Pen___init__ H.Pen___init__<|rfl];simp[ZaG,ZdN,Zw,ZhX,ZgO,Zbw]
def Zpf(H:Trb P)(n)(lm:Lim mo (u+1))(hp:h[pk]?=J (Zbw mo u)):run P (n+1) (mnm (O "Pen")<|O "take_place") [.ref pk] h=.ok .non (h.set pk<|Zbw mo<|u+1):=by
 obtain⟨x,ht⟩:=H.tk;rw[Zde H.n_Pen_take_place ht<|rfl];have ne:IV.Zd3 Wt (D.int u) mo h=.ok (D.bl Wt) h:=by
  rcases lm with rfl|⟨m,rfl,q⟩
  . trivial
  . have:¬ u=m:=by lia
    simp_all
 unfold Zbw at hp ⊢;simp[ZlL,ZqX,Zw,ZeC,ZT,hp,Wg,ne,ZhX,ZgO]
def Wid(P:Pg):Prop:=∃m,P.ms.lookup (mnm (O "Pen")<|O "take_place")=J (ZlL<|.rai (O "Wide")<|.cst m)
def ZjS(H:Trb P)(w:Wid P)(n)(hp:h[pk]?=J (Zbw (.int u) u)):run P (n+1) (mnm (O "Pen")<|O "take_place") [.ref pk] h=.exc (O "Wide") h:=by
 obtain⟨m,ht⟩:=w;rw[Zde H.n_Pen_take_place ht<|rfl];have t1:tst (P.tbl n) (.ex<|.cmp .Eq (.att [O "Pen"] (.var 0)<|O "used")<|.att [O "Pen"] (.var 0)<|O "most") [J<|.ref pk] h=.ok Ws h:=by unfold Zbw at hp;simp[ZeC,ZT,hp,Wg]
 exact congrArg Ze (Zgs<|(Zq t1).trans<|Zgs<|Zxl rfl)
def pr(p:T×En):D:=.tup [p.1.d,.tup<|p.2.map edd]
structure Fi(mo:D)(h0 h:Hd)(pk fk wk:Nat)(u:Int)(F:List D)(W:List D):Prop where
 p:h[pk]?=J (Zbw mo u)
 f:h[fk]?=J (.lst F)
 w:h[wk]?=J (.lst W)
 ne:fk≠wk
 o2:h0.length<=fk
 o3:h0.length<=wk
 ol:h0.length<=h.length
 old:∀i,i<h0.length->i≠pk->h[i]?=h0[i]?
section
variable {mo:D}{h0 h g:Hd}{pk fk wk:Nat}{u:Int}{F W:List D}
def Fi.app(q:Fi mo h0 h pk fk wk u F W):Fi mo h0 (h++g) pk fk wk u F W:=⟨keep q.p,keep q.f,keep q.w,q.ne,q.o2,q.o3,by have:=q.ol;simp;lia,λi hi hn=>(Oe (by have:=q.ol;lia)).trans<|q.old i hi hn⟩
def ZiY{i j:Nat}{l}(a:h[i]?=J (Zbw mo u))(b:h[j]?=J (.lst l)):i≠j:=λz=>by rw[z,b]at a;cases a
def Fi.setP(q:Fi mo h0 h pk fk wk u F W)(v):Fi mo h0 (h.set pk<|Zbw mo v) pk fk wk v F W:=⟨by rw[Ol<|ZF q.p],(Oc<|ZiY q.p q.f).trans q.f,(Oc<|ZiY q.p q.w).trans q.w,q.ne,q.o2,q.o3,by simpa using q.ol,λi hi hn=>(Oc<|YL hn).trans<|q.old i hi hn⟩
def Fi.setF(q:Fi mo h0 h pk fk wk u F W)(G):Fi mo h0 (h.set fk<|.lst G) pk fk wk u G W:=⟨(Oc (ZiY q.p q.f).symm).trans q.p,by rw[Ol<|ZF q.f],(Oc q.ne).trans q.w,q.ne,q.o2,q.o3,by simpa using q.ol,λi hi hn=>(Oc (by have:=q.o2;lia)).trans<|q.old i hi hn⟩
def Fi.setW(q:Fi mo h0 h pk fk wk u F W)(G):Fi mo h0 (h.set wk<|.lst G) pk fk wk u F G:=⟨(Oc (ZiY q.p q.w).symm).trans q.p,(Oc q.ne.symm).trans q.f,by rw[Ol<|ZF q.w],q.ne,q.o2,q.o3,by simpa using q.ol,λi hi hn=>(Oc (by have:=q.o3;lia)).trans<|q.old i hi hn⟩
theorem Fi.pop{d}(q:Fi mo h0 h pk fk wk u F (W++[d])):∃R,Zax .pop (.ref wk) [] h=.ok d R/\Fi mo h0 R pk fk wk u F W:=⟨_,Zdg q.w,q.setW W⟩
def Fi.push(q:Fi mo h0 h pk fk wk u F W)(d)(hF:F.length<=1000000):∃R,Zax .app (.ref fk) [d] h=.ok .non R/\Fi mo h0 R pk fk wk u (F++[d]) W:=⟨_,Z5 q.f (by rw[YC];lia),q.setF _⟩
def Fi.wait(q:Fi mo h0 h pk fk wk u F W)(d)(hW:W.length<=1000000):∃R,Zax .app (.ref wk) [d] h=.ok .non R/\Fi mo h0 R pk fk wk u F (W++[d]):=⟨_,Z5 q.w (by rw[YC];lia),q.setW _⟩
theorem Fi.ext(q:Fi mo h0 h pk fk wk u F W)(xs)(hW:W.length+xs.length<=1001000):∃R,Zax .ext (.ref wk) [.ref h.length] (h++[.lst xs])=.ok .non R/\Fi mo h0 R pk fk wk u F (W++xs):=by have q1:=q.app (g:=[.lst xs]);refine⟨_,?_,q1.setW<|W++xs⟩;simp only[Zax,q1.w,Zfv,ZsA,Z0];rw[if_pos (by rw[YC];lia)]
def Fi.take(H:Trb P)(n)(lm:Lim mo (u+1))(q:Fi mo h0 h pk fk wk u F W):∃R,run P (n+1) (mnm (O "Pen")<|O "take_place") [.ref pk] h=.ok .non R/\Fi mo h0 R pk fk wk (u+1) F W:=⟨_,Zpf H n lm q.p,q.setP _⟩
end
def ve(pk fk wk:Nat)(o1 o2 o5 o6 o7:Option D):Ev:=[J<|.ref pk,o1,o2,J<|.ref fk,J<|.ref wk,o5,o6,o7]
def fl1:Sx:=.s 5 (.meth .pop V4 .n)
def fl2:Sx:=.s 6 (.f "meant_by"<|.w (.ix V5 F0)<|.ix V5 F1)
def fa1:Sx:=.drp (.m "Pen" "take_place" V0 .n)
def fa2:Sx:=.drp (.meth .app V3<|.o<|.f "front_of"<|.o<|.ix V5 F0)
def fa3:Sx:=.s 7 (.f "within"<|.w (.ix V5 F0)<|.ix V5 F1)
def fa4:Sx:=.drp (.meth .ext V4<|.o<|.comp [O "part",O "inner"] [M,J 7] (.rev<|.f "parts_of"<|.o<|.ix V5 F0) (.nm 0) M<|.tupl<|.w V0 V1)
def fb1:Sx:=.drp (.meth .app V4<|.o<|.f "opened"<|.o V6)
def fl3:Sx:=.iff (.x .Is V6<|.cst .non) (.z fa1 fa2 fa3 fa4) (.o fb1)
def ZdZ:Sxs:=.u fl1 fl2 fl3
def ZsX:ZcU=.cons (.set (.nm 3)<|.lstl .nil) (.cons (.set (.nm 4)<|.lstl<|.cons (.tupl<|.cons (.var 1)<|.cons (.var 2) .nil) .nil)<|.cons (.whl (.ex<|.var 4) ZdZ)<|.cons (.ret<|.call (O "built")<|.cons (.var 3) .nil) .nil):=rfl
theorem ZqV:∀(ds ai),ai.length+ds.length<=1000->Zx [] (.nm 0) (tsto U M) (ev U<|.tupl<|.cons (.var 0)<|.cons (.var 1) .nil) ds [M,J a] ai h=.ok (ai++ds.map λd=>D.tup [d,a]) h
 |[],ai,_=>by simp[Zx,Wk.stays]
 |x::xs,ai,hz=>by
  have ih:=ZqV (U:=U) (h:=h) (a:=a) xs (ai++[.tup [x,a]]) (by simp at hz ⊢;lia);have hl:ai.length<16777216:=by lia
  rw[ZY];simp[Wk.stays,hl,YC];simpa using ih
def Zrt(H:Trb P)(n)(t)(ar)(hm:Zcw ar t=M)(lm:Lim mo (u+1))(q:Fi mo h0 h pk fk wk u F (W++[pr (t,ar)]))(hF:F.length<=1000000)(hW:W.length<=1000000)(ha:ar.length<=90000)(o1 o2 o5 o6 o7):∃h' b9 iM iK,
 xs2 (P.tbl<|n+2) ZdZ (ve pk fk wk o1 o2 o5 o6 o7) h=.ok (.nx,ve pk fk wk o1 o2 b9 iM iK) h'/\Fi mo h0 h' pk fk wk (u+1) (F++[tf t]) (W++(t.parts.reverse.map λs=>pr (s,Zcp t ar))):=by
 obtain⟨R,pp,q1⟩:=q.pop;have em:=ZdX H n (h:=R) t ar;rw[hm]at em;obtain⟨h2,e2,q2⟩:=q1.take H (n+1) lm;obtain⟨h3,e3,q3⟩:=q2.push (tf t) hF;obtain⟨h4,e4,q4⟩:∃h4,run P (n+2) (O "within") [t.d,.tup<|ar.map edd] h3=.ok (.tup<|(Zcp t ar).map edd) h4/\Fi mo h0 h4 pk fk wk (u+1) (F++[tf t]) W:=⟨_,Zpd H n t ar<|by lia,q3.app⟩
 have hp:t.parts.length<=3:=by cases t<;>simp[T.parts]
 obtain⟨h5,e5,q5⟩:=q4.ext ((t.parts.map T.d).reverse.map λd=>D.tup [d,.tup<|(Zcp t ar).map edd]) (by simp;lia);exact⟨h5,J<|pr (t,ar),J .non,J<|.tup<|(Zcp t ar).map edd,(Za<|Zg<|Zdu rfl q.w rfl pp).trans<|(Za<|Zg<|Zi em rfl).trans<|(Za<|(Zq<|Zqq rfl).trans<|(Za<|Zb2<|ZfZ rfl q1.p rfl rfl e2).trans<|(Za<|Zb2<|Zdu rfl q2.f (Zc (Zi (ZiQ H (n+1) t h2) rfl) rfl) e3).trans<|(Za<|Zg<|Zi e4 rfl).trans<|(Za<|Zb2<|Zdu rfl q4.w (Zc (Zf0 (Zv0<|Zi (Gn.Zgl H.toTre (n+1) t h4) rfl)<|ZqV (U:=P.tbl<|n+2) (h:=h4) (a:=.tup<|(Zcp t ar).map edd) (t.parts.map T.d).reverse [] (by simp;lia)) rfl) e5).trans rfl).trans rfl,by simpa[pr,List.map_reverse,YX]using q5⟩
def Zuw(H:Trb P)(w:Wid P)(n)(t)(ar)(hm:Zcw ar t=M)(q:Fi (.int u) h0 h pk fk wk u F (W++[pr (t,ar)]))(o1 o2 o5 o6 o7):∃h',
 xs2 (P.tbl<|n+2) ZdZ (ve pk fk wk o1 o2 o5 o6 o7) h=.exc (O "Wide") h'/\Fi (.int u) h0 h' pk fk wk u F W:=by
 obtain⟨R,pp,q1⟩:=q.pop;have em:=ZdX H n (h:=R) t ar;rw[hm]at em;exact⟨R,(Za<|Zg<|Zdu rfl q.w rfl pp).trans<|(Za<|Zg<|Zi em rfl).trans<|Zgs<|(Zq<|Zqq rfl).trans<|Zgs<|Zt4<|ZfZ rfl q1.p rfl rfl<|ZjS H w (n+1) q1.p,q1⟩
def Zrs(H:Trb P)(n)(t)(ar)(hm:Zcw ar t=J v)(q:Fi mo h0 h pk fk wk u F (W++[pr (t,ar)]))(hW:W.length<=1000000)(o1 o2 o5 o6 o7):∃h' b9 iM iK,
 xs2 (P.tbl<|n+2) ZdZ (ve pk fk wk o1 o2 o5 o6 o7) h=.ok (.nx,ve pk fk wk o1 o2 b9 iM iK) h'/\Fi mo h0 h' pk fk wk u F (W++[pr ((opn v).1,up (opn v).2)]):=by
 obtain⟨R,pp,q1⟩:=q.pop;have em:=ZdX H n (h:=R) t ar;rw[hm]at em;obtain⟨h2,e2,q2⟩:=q1.wait (pr ((opn v).1,up (opn v).2)) hW;have eo:=Zph H (n+1) (h:=R) v;rw[<-ZtC]at eo;exact⟨h2,J<|pr (t,ar),J v.d,o7,(Za<|Zg<|Zdu rfl q.w rfl pp).trans<|(Za<|Zg<|Zi em rfl).trans<|(Za<|(Zo<|ZsO rfl (λz=>by cases v<;>cases z)).trans<|(Za<|Zb2<|Zdu rfl q1.w (Zc (Zi eo rfl) rfl) e2).trans rfl).trans rfl,q2⟩
end
end Tm
namespace Rw
open PySem L2 IV
mutual
def ThG(N:Nat):Th->Prop
 |.num _=>True
 |.clo E ar=>(∀x,E≠.name x)/\ar.len+2*E.size<=2*N/\ArG N ar
def ArG(N:Nat):Ar->Prop
 |.nil=>True
 |.cons _ v r=>ThG N v/\ArG N r
end
end Rw
namespace Tm
open PySem L2 IV
section
variable {P:Pg}
def Ze5:∀(xs:List Str) (ar:Ar) {x:Str}{V:T},get (xs.map (λy=>(y,M))++ar) x=J V->get ar x=J V:=by intro xs;induction xs<;>simp_all [Ar,get]<;>grind
def ZmP{t s:T}(hs:s∈t.parts):s.size+1<=t.size:=by
 rw[Zf t];have:∀l:List T,s∈l->s.size<=(l.map T.size).sum:=by
  intro l;induction l with
  |nil=>simp
  |cons a r ih=>
   intro z;rw[Op,OI];rcases O2.mp z with rfl|z
   . lia
   . lia
 have:=this _ hs
 lia
def Wok(N:Nat)(p:T×En):Prop:=p.2.length+2*p.1.size<=2*N/\∀q∈p.2,∀v,q.2=J v->Rw.ThG N v
def Wok.part{N}(w:Wok N (t,ar))(hs:s∈t.parts):Wok N (s,Zcp t ar):=by
 have R:=ZmP hs;have hb:(bnd t).length<=2:=by cases t<;>simp[bnd]
 have h2:=w.1;have:(Zcp t ar).length=(bnd t).length+ar.length:=by simp[Zcp]
 refine⟨?_,λq hq v e=>?_⟩
 . simp at h2 ⊢
   lia
 . rcases OD.mp hq with hq|hq
   . obtain⟨y,_,rfl⟩:=List.mem_map.mp hq;cases e
   . exact w.2 q hq v e
theorem ZwO:∀{ar},Rw.ArG N ar->∀q∈up ar,∀v,q.2=J v->Rw.ThG N v
 |.nil,_,q,hq,_,_=>by trivial
 |.cons x w r,h,q,hq,v,e=>by
  rcases O2.mp hq with rfl|hq
  . cases e;exact h.1
  . exact ZwO h.2 q hq v e
def Wok.thing(hN:1<=N)(h:Rw.ThG N v):Wok N ((opn v).1,up (opn v).2):=by
 cases v with
 |num n=>refine⟨?_,λq hq=>by trivial⟩;show 0+2*1<=2*N;lia
 |clo E ar=>refine⟨?_,ZwO h.2.2⟩;have:=h.2.1;rw[ZoR];trivial
def ZqI:∀{e:En},ZfG e x=J v->∃q∈e,q.2=J v:=by intro x;induction x<;>simp_all [En,ZfG]<;>grind
def Wok.mean(w:Wok N (t,e))(h:Zcw e t=J v):Rw.ThG N v:=by
 cases t with
 |name x=>obtain⟨q,hq,e⟩:=ZqI<|h;exact w.2 q hq v e
 |_=>cases h
def ZpN(h:Rw.ThG N v):Zcw (up (opn v).2) (opn v).1=M:=by
 cases v with
 |num n=>rfl
 |clo E ar=>cases E with
  |name x=>exact absurd rfl (h.1 x)
  |_=>rfl
def tot(W:List (T×En)):Nat:=(W.map λp=>(tel p).size).sum
def ZdP(A B_):tot (A++B_)=tot A+tot B_:=by simp[tot]
def ZiJ(p):tot [p]=(tel p).size:=rfl
def ZnI(h:Zcw e t=M):(tel (t,e)).size=1+tot (t.parts.reverse.map λs=>(s,Zcp t e)):=by rw[Zf,(Zic h).1];simp[tot,YX]
def com(W:List (T×En)):List D:=(W.reverse.flatMap λp=>(tel p).places).map tf
def Zjg(W)(p):com (W++[p])=(tel p).places.map tf++com W:=by simp[com]
def Zot(W)(h:Zcw e t=M):com (W++[(t,e)])=tf t::com (W++t.parts.reverse.map λs=>(s,Zcp t e)):=by obtain⟨R,h2⟩:=Zic h;rw[Zjg,T.places_parts,Op,show tf (tel (t,e))=tf t by unfold tf;rw[h2],R];simp[com,List.flatMap_map]
def Bud(P:Pg)(mo:D)(u:Int)(K n:Nat):Prop:=(mo=.non/\n<=K)\/(mo=.int (u+(K:Int))/\(n<=K\/Wid P))
def nb(e:En)(t:T):Nat:=match Zcw e t with
 |some _=>1
 |none=>0
def nbs(W:List (T×En)):Nat:=match W.getLast? with
 |some p=>nb p.2 p.1
 |none=>0
def ZxZ(e)(t):nb e t<=1:=by unfold nb;split<;>lia
def Zp2(W):nbs W<=1:=by unfold nbs;split;exact ZxZ _ _;lia
def ZmU(W)(p):nbs (W++[p])=nb p.2 p.1:=by simp[nbs]
def Old(h0 h:Hd)(pk:Nat):Prop:=h0.length<=h.length/\∀i,i<h0.length->i≠pk->h[i]?=h0[i]?
inductive Fld(P:Pg)(n:Nat)(mo:D)(h0:Hd)(pk fk wk:Nat)(o1 o2:Option D)(u:Int)(F:List D)(W:List (T×En))(K:Nat):qd (Fl×Ev)->Prop
 |ok {h':Hd}{o5 o6 o7:Option D} (le:tot W<=K) (q:Fi mo h0 h' pk fk wk (u+(tot W:Int)) (F++com W) []):Fld P n mo h0 pk fk wk o1 o2 u F W K (.ok (.nx,ve pk fk wk o1 o2 o5 o6 o7) h')
 |ex {h':Hd} (lt:K<tot W) (q:Old h0 h' pk):Fld P n mo h0 pk fk wk o1 o2 u F W K (.exc (O "Wide") h')
theorem Zly(H:Trb P)(n)(hN:1<=N)(cL:N<=45000):∀ (fuel) (W) (F) (u) (h) (o5 o6 o7) (K:Nat),Bud P mo u K (tot W)->2*K+1+nbs W<=fuel->F.length+K<=400000->W.length+3*K<=1000000->(∀ p∈W,Wok N p)->Fi mo h0 h pk fk wk u F (W.map pr) ->
   Fld P n mo h0 pk fk wk o1 o2 u F W K (ZE (tst (P.tbl<|n+2)<|.ex<|.var 4) (xs2 (P.tbl<|n+2) ZdZ) fuel (ve pk fk wk o1 o2 o5 o6 o7) h)
 |0,W,F,u,h,o5,o6,o7,K,_,hf,_,_,_,_=>by lia
 |fuel+1,W,F,u,h,o5,o6,o7,K,bu,hf,hz,hw,ok,q=>by
   rcases List.eq_nil_or_concat W with rfl|⟨V,p,rfl⟩
   . rw [ZcC<|ZgA rfl q.w];exact .ok (Yy _) (by simpa [com,tot] using q)
   . obtain⟨t,ar⟩:=p;rw [List.concat_eq_append] at bu hf hw ok q ⊢;have q':Fi mo h0 h pk fk wk u F (V.map pr++[pr (t,ar)]):=by simpa using q
     have hW:=ok (t,ar) (by simp);have jW:∀ p∈V,Wok N p:=λp hp=>ok p (by simp [hp]);rw [ZmU] at hf;simp only at hf;rw [OA,List.length_singleton] at hw;have hV:(V.map pr).length<=1000000:=by rw [Yu];lia
     have tt:=Zm (ZgA (U:=P.tbl<|n+2) (S:=ve pk fk wk o1 o2 o5 o6 o7) (e:=.var 4) rfl q'.w) (c:=true) (by simp);have e1:tot (V++[(t,ar)])=tot V+(tel (t,ar)).size:=by rw [ZdP,ZiJ]
     cases hm:Zcw ar t with
     |none =>
       have t1:=ZnI hm;rw [show nb ar t=0 by unfold nb;rw [hm]] at hf;cases K with
       |zero =>
         rcases bu with⟨_,z⟩|⟨rfl,z⟩
         . lia
         . rcases z with z|z
           . lia
           . obtain⟨R,x,q1⟩:=Zuw H z n t ar hm (by simpa using q') o1 o2 o5 o6 o7;rw [Zmn tt x];exact .ex (by lia) ⟨q1.ol,q1.old⟩
       |succ K =>
         obtain⟨R,iN,iL,iJ,x,q1⟩:=Zrt H n t ar hm (by
           rcases bu with⟨e,_⟩|⟨e,_⟩
           . exact .inl e
           . exact .inr ⟨_,e,by lia⟩) q' (by lia) hV (by have:=hW.1;simp only at this;lia) o1 o2 o5 o6 o7
         rw [Zaz tt x];have e2:tot (V++t.parts.reverse.map λs=>(s,Zcp t ar))=tot V+tot (t.parts.reverse.map λs=>(s,Zcp t ar)):=ZdP _ _;have hp:t.parts.length<=3:=by cases t<;>simp [T.parts]
         have nl:=Zp2<|V++t.parts.reverse.map λs=>(s,Zcp t ar);have ih:=Zly H n hN cL (o1:=o1) (o2:=o2) fuel (V++t.parts.reverse.map λs=>(s,Zcp t ar)) (F++[tf t]) (u+1) R iN iL iJ K (by
           rcases bu with⟨e,z⟩|⟨e,z⟩
           . exact .inl ⟨e,by lia⟩
           . exact .inr ⟨by rw [e];congr 1;lia,z.imp (λz=>by lia) id⟩) (by lia) (by rw [OA,List.length_singleton];lia) (by rw [OA,Yu,List.length_reverse];lia) (λp hp=>by
           rcases OD.mp hp with hp|hp
           . exact jW p hp
           . obtain⟨s,hs,rfl⟩:=List.mem_map.mp hp;exact hW.part<|by simpa using hs) (by simpa [List.map_map,YX] using q1)
         generalize ZE _ _ _ _ _=r at ih ⊢;cases ih with
         |ok le q =>
           refine .ok (by lia) ?_;rw [Zot V hm,show u+((tot (V++[(t,ar)]):Nat):Int)=u+1+((tot (V++t.parts.reverse.map λs=>(s,Zcp t ar)):Nat):Int) by rw [e1,e2,t1];lia];simpa using q
         |ex lt q=>exact .ex (by lia) q
     |some v =>
       rw [show nb ar t=1 by unfold nb;rw [hm]] at hf;have g:=hW.mean hm;have s1:(tel (t,ar)).size=(tel ((opn v).1,up (opn v).2)).size:=by rw [Zht hm,Zmv]
       have e2:tot (V++[((opn v).1,up (opn v).2)])=tot (V++[(t,ar)]):=by rw [e1,ZdP,ZiJ,s1]
       obtain⟨R,iN,iL,iJ,x,q1⟩:=Zrs H n t ar hm q' hV o1 o2 o5 o6 o7;rw [Zaz tt x];have ih:=Zly H n hN cL (o1:=o1) (o2:=o2) fuel (V++[((opn v).1,up (opn v).2)]) F u R iN iL iJ K (by rw [e2];exact bu) (by rw [ZmU];unfold nb;rw [ZpN g];simp only;lia) hz (by rw [OA,List.length_singleton];lia) (λp hp=>by
         rcases OD.mp hp with hp|hp
         . exact jW p hp
         . rw [Ox.mp hp];exact Wok.thing hN g) (by simpa using q1)
       have e3:com (V++[((opn v).1,up (opn v).2)])=com (V++[(t,ar)]):=by rw [Zjg,Zjg,Zht hm,Zmv]
       generalize ZE _ _ _ _ _=r at ih ⊢;cases ih with
       |ok le q =>
         rw [e2,e3] at q;exact .ok (by lia) q
       |ex lt q=>exact .ex (by lia) q
theorem grown{h0 h:Hd}(hl:h0.length<=h.length)(old:∀ i,i<h0.length->h[i]?=h0[i]?):∃ g,h=h0++g:=⟨h.drop h0.length,by
 apply List.ext_getElem?;intro i;rcases Nat.lt_or_ge i h0.length with q|q
 . rw [old i q,Oe q]
 . rw [Om q]
   simp_all⟩
def Aft(h0 h:Hd)(pk:Nat)(mo:D)(u:Int):Prop:=h[pk]?=J (Zbw mo u)/\h0.length<=h.length/\∀i,i<h0.length->i≠pk->h[i]?=h0[i]?
inductive Out(h0:Hd)(pk:Nat)(mo:D)(t:T)(u:Int)(K:Nat):qd D->Prop
 |ok {h':Hd} (le:t.size<=K) (a:Aft h0 h' pk mo (u+(t.size:Int))):Out h0 pk mo t u K (.ok t.d h')
 |ex {h':Hd} (lt:K<t.size) (a:Old h0 h' pk):Out h0 pk mo t u K (.exc (O "Wide") h')
def ZuK(H:Trb P)(n)(hN:1<=N)(cL:N<=45000)(t)(e)(a:Aft h0 h pk mo u)(bu:Bud P mo u K (tel (t,e)).size)(hK:K<=300000)(hw:Wok N (t,e)):
 Out h0 pk mo (tel (t,e)) u K (run P (n+3) (mnm (O "Pen")<|O "filled") [.ref pk,t.d,.tup<|e.map edd] h):=by
 obtain⟨hp,hl,old⟩:=a;rw[Zde H.n_Pen_filled H.Pen_filled<|by rfl];have q0:Fi mo h0 (h++[.lst [],.lst<|[(t,e)].map pr]) pk h.length (h.length+1) u [] ([(t,e)].map pr):=⟨keep hp,by simp,by simp,by lia,hl,by lia,by simp;lia,λi hi hn=>by rw[Oe<|by lia];exact old i hi hn⟩
 have e1:=ZiJ (t,e);have big:=H.big;have nl:=Zp2 [(t,e)];have x:=Zly H n hN cL (o1:=J t.d) (o2:=J<|.tup<|e.map edd) P.L [(t,e)] [] u _ M M M K (by rw[e1];exact bu) (by lia) (by simp only[List.length_nil];lia) (by simp only[Os,List.length_nil];lia) (λp hp=>by rw[Ox.mp hp];exact hw) q0;have x1:xs1 (P.tbl<|n+2) (.set (.nm 3)<|.lstl .nil) [J<|.ref pk,J t.d,J<|.tup<|e.map edd,M,M,M,M,M] h=.ok (.nx,[J<|.ref pk,J t.d,J<|.tup<|e.map edd,J<|.ref h.length,M,M,M,M]) (h++[.lst []]):=Zg (Zh1 rfl<|by decide);have x2:xs1 (P.tbl<|n+2) (.set (.nm 4)<|.lstl<|.cons (.tupl<|.cons (.var 1)<|.cons (.var 2) .nil) .nil) [J<|.ref pk,J t.d,J<|.tup<|e.map edd,J<|.ref h.length,M,M,M,M] (h++[.lst []])=.ok (.nx,[J<|.ref pk,J t.d,J<|.tup<|e.map edd,J<|.ref h.length,J<|.ref<|h.length+1,M,M,M]) (h++[.lst [],.lst<|[(t,e)].map pr]):=by have:=Zg (U:=P.tbl<|n+2) (i:=4) (Zh1 (S:=[J<|.ref pk,J t.d,J<|.tup<|e.map edd,J<|.ref h.length,M,M,M,M]) (h:=h++[.lst []]) (es:=.cons (.tupl<|.cons (.var 1)<|.cons (.var 2) .nil) .nil) (Zc (Zak (Zc rfl<|Zc rfl rfl)<|by simp) rfl)<|by simp);simpa[pr]using this
 have key:∀y,Fld P n mo h0 pk h.length (h.length+1) (J t.d) (J<|.tup<|e.map edd) u [] [(t,e)] K y->xs1 (P.tbl<|n+2) (.whl (.ex<|.var 4) ZdZ) [J<|.ref pk,J t.d,J<|.tup<|e.map edd,J<|.ref h.length,J<|.ref<|h.length+1,M,M,M] (h++[.lst [],.lst<|[(t,e)].map pr])=y->Out h0 pk mo (tel (t,e)) u K (Ze<|xs2 (P.tbl<|n+2) ZcU [J<|.ref pk,J t.d,J<|.tup<|e.map edd,M,M,M,M,M] h):=by
  intro y x z;rw[ZsX,Za x1,Za x2];cases x with
  |ex lt q=>rw[Zgs z];exact .ex (by rw[e1]at lt;exact lt) q
  |@ok R o5 o6 o7 le q1=>
   have qf:=q1.f;have ec:com [(t,e)]=(tel (t,e)).places.map tf:=by simp[com]
   rw[ec,OB]at qf;rw[e1]at le q1;obtain⟨g2,e3⟩:=ZmG H n (tel (t,e)) qf (by lia);have q2:=q1.app (g:=g2);have x4:xs1 (P.tbl<|n+2) (.ret<|.call (O "built")<|.cons (.var 3) .nil) (ve pk h.length (h.length+1) (J t.d) (J<|.tup<|e.map edd) o5 o6 o7) R=.ok (.rt (tel (t,e)).d,ve pk h.length (h.length+1) (J t.d) (J<|.tup<|e.map edd) o5 o6 o7) (R++g2):=Zk<|Zi e3 rfl;rw[Za z,Zb x4];exact .ok le ⟨q2.p,q2.ol,q2.old⟩
 exact key _ x rfl
noncomputable abbrev Fil:=List (Str×T)
noncomputable def Fil.ar(f:Fil):Ar:=f.map λp=>(p.1,J p.2)
noncomputable def fen(f:Fil):En:=f.map λp=>(p.1,J<|Rw.Th.clo p.2 .nil)
def ZsY(f):f.ar.map ard=(fen f).map edd:=by simp[Fil.ar,fen,ard,edd,thd,Rw.thD,Rw.Th.d,Rw.Ar.ds,YX]
def Zv8(f):er (fen f)=f.ar:=by simp[er,fen,Fil.ar,Rw.rd,Rw.ra,Zce _<|show NN []from λ_=>rfl,YX]
noncomputable def Fil.kv(f:Fil):List (Key×D):=f.map λp=>(.inr p.1,p.2.d)
theorem Zmo:∀{f:Fil}{x}{V},(f.map (·.1)).Nodup->(x,V)∈f->ZH f.kv (.inr x)=J V.d
 |(y,W)::r,x,V,nd,hm=>by
  rw[Op,List.nodup_cons]at nd;unfold ZH Fil.kv;rw[Op,Wm];rcases O2.mp hm with e|hm
  . simp_all
  . have:¬ (YE y:Key)=YE x:=λz=>(λz=>nd.1 (by rw[z];exact List.mem_map.mpr ⟨(x,V),hm,rfl⟩)) (Sum.inr.inj z)
    simp only[this,decide_false];exact Zmo nd.2 hm
def fe1:Ex:=.tupl (.w V0<|.tupl<|.u (.Ci_ "clo") (.ix V1 V0)<|.tupl .n)
theorem Zue{U}{f:Fil}(nd:(f.map (·.1)).Nodup)(hd:h[dk]?=J (.fdic f.kv)):∀(r:Fil) (ai),(∀p∈r,p∈f)->ai.length+r.length<=1000 ->
 Zx [] (.nm 0) (tsto U M) (ev U fe1) (r.map λp=>D.str p.1) [M,J<|.ref dk] ai h=.ok (ai++r.ar.map ard) h
 |[],ai,_,_=>by simp[Zx,Wk.stays,Fil.ar]
 |(x,V)::r,ai,hm,hz=>by
  have hl:ai.length<16777216:=by lia
  have ix:ZaM U.GD (.ref dk) (.str x) h=.ok V.d h:=by simp[ZaM,dicOf,hd,Zmo nd<|hm (x,V) Oi]
  have ee:ev U fe1 [J<|.str x,J<|.ref dk] h=.ok (ard (x,J V)) h:=by simp[fe1,ix,YC,ard,thd]
  rw[Op,ZY];simp[Wk.stays,hl,YC,ee];simpa[Fil.ar]using Zue (U:=U) nd hd r (ai++[ard (x,J V)]) (λp hp=>hm p<|Oh _ hp) (by simp at hz ⊢;lia)
theorem ZuI (H:Trb P) (l9:P.tb.lookup (O "put_in")=J Zhk) (n) (t) (f:Fil) {h} (nd:(f.map (·.1)).Nodup) (hf:f.length<=100) (hd:h[dk]?=J (.dic f.kv)) {N} (hN:1<=N) (cL:N<=45000) (hw:Wok N (t,fen f)) (hz:(sub f.ar t).size<=300000) :
   ∃ g,run P (n+4) (O "put_in") [t.d,.ref dk] h=.ok (sub f.ar t).d (h.set dk (.fdic f.kv)++g):=by
 rw [Zd l9<|by rfl];generalize hh1:h.set dk (.fdic f.kv)=R;have d1:R[dk]?=J (.fdic f.kv):=by rw [<-hh1,Ol<|ZF hd]
 have l1:R.length=h.length:=by rw [<-hh1];simp
 have ks:(f.kv.map λp=>Zqm p.1)=f.map λp=>D.str p.1:=by simp [Fil.kv,Zqm,YX]
 have x1:xs1 (P.tbl<|n+3) ZcP [J t.d,J<|.ref dk,M] h=.ok (.nx,[J t.d,J<|.ref dk,J<|.tup<|f.ar.map ard]) (R++[.lst<|f.ar.map ard]):=by
   have ei:evi (P.tbl<|n+3) (.dk<|.var 1) [J t.d,J<|.ref dk,M] h=.ok ⟨[],f.map λp=>D.str p.1⟩ R:=by
     show Zqx (.ref dk) h=_;simp [Zqx,hd,hh1,ks]
   have kK:ev (P.tbl<|n+3) (.comp [O "name",O "filling"] [M,J 1] (.dk<|.var 1) (.nm 0) M fe1) [J t.d,J<|.ref dk,M] h=.ok (.ref R.length) (R++[.lst<|f.ar.map ard]):=by
     rw [Zgp,ei,Zu];simp only [Za7,Op,Oy,Option.bind_none,Yz];rw [show ([J t.d,J<|D.ref dk,M][1]?).join=J (.ref dk) from rfl,Zue (U:=P.tbl<|n+3) nd d1 f [] (λp hp=>hp) (by simp;lia)];rfl
   unfold fe1 at kK;simp [-Zgp,ZcP,kK,Zaj,ZkS,lstOf]
 generalize eQ:R++[DO.lst<|f.ar.map ard]=h2 at x1;have l2:h2.length=h.length+1:=by rw [<-eQ];simp [l1]
 have et:tel (t,fen f)=sub f.ar t:=by show sub (er<|fen f) t=_;rw [Zv8]
 have o:=ZuK H n hN cL t (fen f) (mo:=.non) (h0:=R) (h:=h2++[Zbw .non 0]) (pk:=h2.length) (u:=0) (K:=(sub f.ar t).size) ⟨by simp,by simp;lia,λi hi _=>λi hi=>by
   rw [Oe<|by lia,<-eQ,Oe hi] i hi⟩ (.inl ⟨rfl,by rw [et];exact Oq _⟩) hz hw
 rw [et,<-ZsY] at o;obtain⟨h3,e,a3⟩:∃ h3,run P (n+3) (mnm (O "Pen")<|O "filled") [.ref h2.length,t.d,.tup<|f.ar.map ard] (h2++[Zbw .non 0])=.ok (sub f.ar t).d h3/\Aft R h3 h2.length .non (0+((sub f.ar t).size:Int)):=by
   generalize run P (n+3) _ _ _=r at o;cases o with
   |ok le a=>exact⟨_,rfl,a⟩
   |ex lt a=>lia
 obtain⟨g,rfl⟩:=grown a3.2.1 (λi hi=>a3.2.2 i hi<|by lia);refine⟨g,?_⟩;have io:ZT (.ref h2.length) (h2++[Zbw .non 0])=J (O "Pen",[(O "most",.non),(O "used",.int 0)]):=by simp [ZT,Zbw]
 have x2:xs1 (P.tbl<|n+3) ZcO [J t.d,J<|.ref dk,J<|.tup<|f.ar.map ard] h2=.ok (.rt (sub f.ar t).d,[J t.d,J<|.ref dk,J<|.tup<|f.ar.map ard]) (R++g):=by
   simp [ZcO,Pg.tbl,ZtO H (n+2) .non h2,io,Wg,e]
 show Ze (xs2 (P.tbl<|n+3) (.cons ZcP<|.cons ZcO .nil) [J t.d,J<|.ref dk,M] h)=_;rw [Za x1,Zb x2];rfl
def ZtN(H:Trm P)(n)(t)(f:Fil){h0 h}(nd:(f.map (·.1)).Nodup)(hf:f.length<=100)(hd:h[dk]?=J (.dic f.kv))(ho:h0.length<=dk)(hl:h0.length<=h.length)(old:∀i,i<h0.length->h[i]?=h0[i]?){N}(hN:1<=N)(cL:N<=45000)(hw:Wok N (t,fen f))(hz:(sub f.ar t).size<=300000):
 ∃g,run P (n+4) (O "put_in") [t.d,.ref dk] h=.ok (sub f.ar t).d (h0++g):=by
 obtain⟨g,e⟩:=ZuI H.toTrb H.put_in n t f nd hf hd hN cL hw hz;obtain⟨g',eg⟩:=grown (h0:=h0) (h:=h.set dk (.fdic f.kv)++g) (by simp;lia) λi hi=>by rw[Oe (by simp;lia),Oc<|by lia];exact old i hi
 exact⟨g',by simp_all⟩
end
section
variable {P:Pg}{h:Hd}
noncomputable def isV:T->Bool
 |.num _|.fn _ _|.rcc _ _ _=>Ws
 |_=>Wt
def pf:T->List T
 |.iff c _ _=>[c]
 |t=>t.parts
def Zhc:Nat->List T->Option Nat
 |_,[]=>M
 |k,t::r=>if isV t then Zhc (k+1) r else J k
def fo(t:T):Option Nat:=Zhc 1 (pf t)
noncomputable def oN:Option Nat->D
 |some k=>.int (k:Int)
 |none=>.non
def ZsP:opC GD .In (.str x) (.tup [.str<|O "num",.str<|O "fn",.str<|O "rec"]) h=.ok (.bl<|Wu<|x=O "num" \/ x=O "fn" \/ x=O "rec") h:=by
 have:=@ZcG GD h [O "num",O "fn",O "rec"] x
 simp_all
def ZtP(H:Trm P)(n)(t):run P (n+1) (O "is_value") [t.d] h=.ok (.bl<|isV t) h:=by
 rw[Zd H.is_value<|rfl];refine ZyI (λU=>Ze<|xs2 U ZbE.body (Zw ZbE.N [t.d]) h) H.gv ?_ ?_
 . trivial
 . cases t with
   |op w a b=>cases w<;>exact rfl
   |_=>trivial
def Zzy(H:Trm P)(n)(t):run P (n+2) (O "parts_first") [t.d] h=.ok (.tup<|(pf t).map T.d) h:=by
 rw[Zd H.parts_first (by cases t<;>rfl)];have ep:=Gn.Zgl H.toTre n t h;cases t with
 |iff c a b=>exact rfl
 |op w a b=>exact ZhC (U:=P.tbl<|n+1) (λU=>Ze<|xs2 U ZR.body (Zw ZR.N [(T.op w a b).d]) h) ep (by cases w<;>rfl) (by cases w<;>rfl)
 |_=>exact ZhC (U:=P.tbl<|n+1) (λU=>Ze<|xs2 U ZR.body (Zw ZR.N [T.d _]) h) ep rfl rfl
def Zio:Sxs:=.o (.iff (.nt<|.ex<|.f "is_value"<|.o V2) (.o<|.ret V1) .n)
noncomputable def cnt(k:Nat):List T->List D
 |[]=>[]
 |t::r=>.tup [.int ((k+1:Nat):Int),t.d]::cnt (k+1) r
def ZqO:∀(ts:List T) (k:Nat),((ts.map T.d).mapIdx λi x=>D.tup [.int<|(k+i+1:Nat),x])=cnt k ts:=by intro k;induction k<;>simp_all [cnt,IV.T.d]<;>grind
theorem Zqh(H:Trm P)(n):∀(ts) (k) (a b),(∃S,ZW [] (.two 1 2) (xs2 (P.tbl<|n+1) Zio) (cnt k ts) [J E,a,b] h=.ok (.rt<|oN<|Zhc (k+1) ts,S) h)\/(Zhc (k+1) ts=M/\∃S,ZW [] (.two 1 2) (xs2 (P.tbl<|n+1) Zio) (cnt k ts) [J E,a,b] h=.ok (.nx,S) h)
 |[],k,a,b=>.inr ⟨rfl,_,rfl⟩
 |t::r,k,a,b=>by
  have ev:=ZtP H n (h:=h) t;rw[cnt,Zcv];cases hv:isV t with
  |false=>refine .inl ⟨[J E,J<|.int<|k+1,J t.d],?_⟩;simp[Zio,Pg.tbl,ev,Zhc,hv,oN]
  |true=>
   rw[hv]at ev;have x:xs2 (P.tbl<|n+1) Zio [J E,J<|.int (k+1:Nat),J t.d] h=.ok (.nx,[J E,J<|.int<|k+1,J t.d]) h:=by simp[Zio,Pg.tbl,ev]
   have ih:=Zqh H n (E:=E) r (k+1) (J<|.int<|k+1)<|J t.d;simp only[ZkF,List.set_cons_zero,List.set_cons_succ,x,Zhc,hv];trivial
theorem Zpi (H:Trm P) (n:Nat) (t:T):run P (n+3) (O "first_open_terms") [t.d] h=.ok (oN<|fo t) h:=by
 rw [Zd H.first_open (by cases t<;>rfl)];have ei:evi (P.tbl<|n+2) (.en1<|.call (O "parts_first")<|.cons (.var 0) .nil) [J t.d,M,M] h=.ok ⟨[],cnt 0<|pf t⟩ h:=by
   have e1:ev (P.tbl<|n+2) (.call (O "parts_first")<|.cons (.var 0) .nil) [J t.d,M,M] h=.ok (.tup<|(pf t).map T.d) h:=Zzy H n (h:=h) t;rw [Zs2,e1,Zu];have:=ZqO (pf t) 0;simp only [Nat.zero_add] at this;simp only [ZeE,this]
 show Ze (xs2 (P.tbl<|n+2) (.cons (.forr (.two 1 2) (.en1<|.call (O "parts_first")<|.cons (.var 0) .nil) Zio)<|.cons (.ret<|.cst .non) .nil) [J t.d,M,M] h)=_;rcases Zqh H (n+1) (E:=t.d) (h:=h) (pf t) 0 M M with⟨S,q⟩|⟨q0,S,q⟩
 . rw [Zb (by
     rw [ZjB,ei,Zu];exact q)]
   rfl
 . rw [Za (by
     rw [ZjB,ei,Zu];exact q)]
   have:fo t=M:=q0;rw [this];rfl
def pth:T->List (T×Nat)
 |.call f a=>if isV f then(if isV a then []else(.call f a,2)::pth a)else(.call f a,1)::pth f
 |.op w f a=>if isV f then(if isV a then []else(.op w f a,2)::pth a)else(.op w f a,1)::pth f
 |.iff c t e=>if isV c then []else(.iff c t e,1)::pth c
 |_=>[]
def bot:T->T
 |.call f a=>if isV f then(if isV a then .call f a else bot a)else bot f
 |.op w f a=>if isV f then(if isV a then .op w f a else bot a)else bot f
 |.iff c t e=>if isV c then .iff c t e else bot c
 |t=>t
def ZbU(t:T):List D:=(pth t).map (λp=>D.tup [p.1.d,.int (p.2:Int)])++[.tup [(bot t).d,.non]]
def Zri(t:T)(nv:isV t=Wt)(nn:∀x,t≠.name x):(fo t=M/\pth t=[]/\bot t=t)\/∃k s,fo t=J k/\pth t=(t,k)::pth s/\bot t=bot s/\isV s=Wt/\s∈t.parts/\(∀GD,ZaM GD t.d (.int<|k) h=.ok s.d h):=by
 cases t with
 |num _=>cases nv
 |fn _ _=>cases nv
 |rcc _ _ _=>cases nv
 |name x=>exact absurd rfl (nn x)
 |call f a|op w f a=>
  cases hf:isV f with
  |false=>exact .inr ⟨1,f,by simp[fo,pf,T.parts,Zhc,hf],by simp[pth,hf],by simp[bot,hf],hf,by simp[T.parts],λGD=>by simp[T.d]⟩
  |true=>
   cases ha:isV a with
   |false=>exact .inr ⟨2,a,by simp[fo,pf,T.parts,Zhc,hf,ha],by simp[pth,hf,ha],by simp[bot,hf,ha],ha,by simp[T.parts],λGD=>by simp[T.d]⟩
   |true=>exact .inl ⟨by simp[fo,pf,T.parts,Zhc,hf,ha],by simp[pth,hf,ha],by simp[bot,hf,ha]⟩
 |iff c a b=>
  cases hf:isV c with
  |false=>exact .inr ⟨1,c,by simp[fo,pf,Zhc,hf],by simp[pth,hf],by simp[bot,hf],hf,by simp[T.parts],λGD=>by simp[T.d]⟩
  |true=>exact .inl ⟨by simp[fo,pf,Zhc,hf],by simp[pth,hf],by simp[bot,hf]⟩
def Zqg{a:D}:atI (l++[a]) (-1)=J a:=ZkU
def Zwc:cutD (l++[a]) M (J<|-1)=l:=by
 have e:HT.sIx (l++[a]).length (l++[a]).length (J<|-1)=l.length:=by simp[HT.sIx];lia
 have e0:HT.sIx (l++[a]).length 0 M=0:=rfl;unfold cutD;rw[e,e0];simp
def Zta(c:Gn.Cl [] t)(nv:isV t=Wt)(hs:s∈t.parts):Gn.Cl [] s:=by
 cases t with
 |num _=>cases nv
 |fn _ _=>cases nv
 |rcc _ _ _=>cases nv
 |name _=>cases hs
 |call f a|op w f a=>simp[T.parts]at hs;rcases hs with rfl|rfl;exact c.1;exact c.2
 |iff f a b=>simp[T.parts]at hs;rcases hs with rfl|rfl|rfl;exact c.1;exact c.2.1;exact c.2.2
def ZyE(c:Gn.Cl [] t):∀x,t≠.name x:=λx e=>by subst e;cases c
def wd(t:T):D:=.tup [t.d,oN<|fo t]
def wc:Tx:=.x .IsNot (.ix (.ix V1<|.neg F1) F1) (.cst .non)
def Zqa:Sxs:=.w (.s 2<|.ix (.ix (.ix V1<|.neg F1) F0)<|.ix (.ix V1<|.neg F1) F1) (.drp<|.meth .app V1<|.o<|.tupl<|.w V2<|.f "first_open_terms"<|.o V2)
theorem ZtX(H:Trm P)(n):∀(fuel) (t) (A) (o2),t.size<=fuel->A.length+t.size<=1000000->Gn.Cl [] t->isV t=Wt->∃fA,
 ZE (tst (P.tbl<|n+3) wc) (xs2 (P.tbl<|n+3) Zqa) fuel [J E,J<|.ref h.length,o2] (h++[.lst<|A++[wd t]])=.ok (.nx,[J E,J<|.ref h.length,fA]) (h++[.lst<|A++ZbU t])
 |0,t,A,o2,hf,_,_,_=>by have:=ZI t;lia
 |fuel+1,t,A,o2,hf,hz,c,nv=>by
  have e2:ev (P.tbl<|n+3) (.ix (.ix (.var 1)<|.neg<|.ci 1)<|.ci 1) [J E,J<|.ref h.length,o2] (h++[.lst<|A++[wd t]])=.ok (oN<|fo t) (h++[.lst<|A++[wd t]]):=(Zs ((Zs rfl rfl).trans (by rw[ZA Z0,Zqg];rfl)) rfl).trans rfl;rcases Zri (h:=h++[.lst<|A++[wd t]]) t nv (ZyE c)with⟨R,h2,h3⟩|⟨k,s,R,h2,h3,h4,h5,h6⟩
  . refine⟨o2,(ZcC<|Zm (ZlF e2) (by rw[R];simp[oN])).trans ?_⟩;simp[ZbU,h2,h3,wd,R,oN]
  . have sl:=ZmP h5;obtain⟨fA,e⟩:=ZtX H n (E:=E) fuel s (A++[wd t]) (J s.d) (by lia) (by simp;lia) (Zta c nv h5) h4;rw[R]at e2;have ap:=Z5 (d:=wd s) (Z0 (h:=h) (x:=.lst<|A++[wd t]) (r:=[])) (by rw[YC];simp;lia);rw[Zpq]at ap;refine⟨fA,(Zaz (Zm (ZlF e2)<|by simp[oN])<|(Za<|Zg<|(Zs ((Zs ((Zs rfl rfl).trans (by rw[ZA Z0,Zqg];rfl)) rfl).trans rfl) e2).trans<|h6 P.GD).trans<|(Za<|Zb2<|Zdu rfl Z0 (Zc (Zak (Zc rfl<|Zc (Zi (Zpi H n s) rfl) rfl)<|by simp) rfl) ap).trans rfl).trans<|Eq.trans e ?_⟩;simp[ZbU,h2,h3,wd,R,oN]
def Zxm(H:Trm P)(n)(t)(c:Gn.Cl [] t)(nv:isV t=Wt)(hz:t.size<=100000):run P (n+4) (O "way_down") [t.d] h=.ok (.ref h.length) (h++[.lst<|ZbU t]):=by rw[Zd H.way_down<|rfl];have big:=H.big;obtain⟨o2,e⟩:=ZtX H n P.L t [] M (by lia) (by simp;lia) c nv;have w:xs2 (P.tbl<|n+3) ZhG [J t.d,M,M] h=.ok (.rt<|.ref h.length,[J t.d,J<|.ref h.length,o2]) (h++[.lst<|[]++ZbU t]):=(Za<|Zg<|Zh1 (Zc (Zak (Zc rfl<|Zc (Zi (Zpi H n t) rfl) rfl)<|by simp) rfl)<|by simp).trans<|(Za (s:=.whl wc Zqa) e).trans<|Zb<|Zk rfl;exact congrArg Ze w
noncomputable def ZgP:T->Nat->T->T
 |.call _ a,1,u=>.call u a
 |.call f _,2,u=>.call f u
 |.op w _ a,1,u=>.op w u a
 |.op w f _,2,u=>.op w f u
 |.iff _ t e,1,u=>.iff u t e
 |s,_,_=>s
def Zcg:List (T×Nat)->T->T
 |[],u=>u
 |(s,k)::r,u=>ZgP s k (Zcg r u)
def p1c:ZgP (.call f a) 1 u=.call u a:=rfl
def p2c:ZgP (.call f a) 2 u=.call f u:=rfl
def p1o:ZgP (.op w f a) 1 u=.op w u a:=rfl
def p2o:ZgP (.op w f a) 2 u=.op w f u:=rfl
def p1i:ZgP (.iff c t e) 1 u=.iff u t e:=rfl
inductive Vp:T×Nat->Prop
 |c1 {f a:T}:Vp (.call f a,1)
 |c2 {f a:T}:Vp (.call f a,2)
 |o1 {w:Wd}{f a:T}:Vp (.op w f a,1)
 |o2 {w:Wd}{f a:T}:Vp (.op w f a,2)
 |i1 {c t e:T}:Vp (.iff c t e,1)
theorem Zfu:∀t ,∀p∈pth t,Vp p
 |.num _,p,hp=>by trivial
 |.name _,p,hp=>by trivial
 |.fn _ _,p,hp=>by trivial
 |.rcc _ _ _,p,hp=>by trivial
 |.call f a,p,hp=>by
  simp[pth]at hp;split at hp
  . split at hp
    . trivial
    . rcases O2.mp hp with rfl|hp
      . exact .c2
      . exact Zfu a p hp
  . rcases O2.mp hp with rfl|hp
    . exact .c1
    . exact Zfu f p hp
 |.op w f a,p,hp=>by
  simp[pth]at hp;split at hp
  . split at hp
    . trivial
    . rcases O2.mp hp with rfl|hp
      . exact .o2
      . exact Zfu a p hp
  . rcases O2.mp hp with rfl|hp
    . exact .o1
    . exact Zfu f p hp
 |.iff c t e,p,hp=>by
  simp only[pth]at hp;split at hp
  . cases hp
  . rcases O2.mp hp with rfl|hp
    . exact .i1
    . exact Zfu c p hp
noncomputable def pd(p:T×Nat):D:=.tup [p.1.d,.int (p.2:Int)]
def lb1:Sx:=.s 2 (.bin .Add (.bin .Add (.sl V3 M<|J V4)<|.tupl<|.o V2)<|.sl V3 (J<|.bin .Add V4 F1) M)
def Ze3:Sxs:=.o lb1
def Zux(p:T×Nat)(v:Vp p)(u:T):xs2 U Ze3 [J a,J b,J u.d,J p.1.d,J<|.int<|p.2] h=.ok (.nx,[J a,J b,J (ZgP p.1 p.2 u).d,J p.1.d,J<|.int<|p.2]) h:=by
 have o:∀(xs ys:List D),xs.length+ys.length<=10->opB .Add (.tup xs) (.tup ys) h=.ok (.tup<|xs++ys) h:=λxs ys q=>Ze0 (by rw[YC];lia);have go:∀r,xs1 U lb1 [J a,J b,J u.d,J p.1.d,J<|.int<|p.2] h=.ok (.nx,[J a,J b,J r,J p.1.d,J<|.int<|p.2]) h->xs2 U Ze3 [J a,J b,J u.d,J p.1.d,J<|.int<|p.2] h=.ok (.nx,[J a,J b,J r,J p.1.d,J<|.int<|p.2]) h:=λr e=>by rw[Ze3,Za e];rfl
 cases v with
 |c1|c2|o1|o2|i1=>exact go _ rfl
theorem Zqj(hw:h[wk]?=J (.lst L)):∀(ps) (ag) (u) (o3 o4),(∀p∈ps,Vp p)->∃dh iO,
 ZW [(wk,L)] (.two 3 4) (xs2 U Ze3) ((ps.map pd).reverse++ag) [J a,J b,J u.d,o3,o4] h=ZW [(wk,L)] (.two 3 4) (xs2 U Ze3) ag [J a,J b,J (Zcg ps u).d,dh,iO] h
 |[],ag,u,o3,o4,_=>⟨o3,o4,rfl⟩
 |p::ps,ag,u,o3,o4,v=>by obtain⟨gz,nR,e⟩:=Zqj hw ps (pd p::ag) u o3 o4<|λq hq=>v q<|Oh _ hq;refine⟨J p.1.d,J<|.int p.2,?_⟩;rw[Op,List.reverse_cons,Oz,List.cons_append,OB,e];exact Zdm hw rfl (Zux p (v p Oi)<|Zcg ps u)
def ZuO(H:Trm P)(n)(ps)(u)(hw:h[wk]?=J (.lst<|ps.map pd))(v:∀p∈ps,Vp p):run P (n+1) (O "put_back") [.ref wk,u.d] h=.ok (Zcg ps u).d h:=by
 rw[Zd H.put_back<|rfl];obtain⟨o3,o4,e⟩:=Zqj hw ps [] u M M v;rw[Yt,Ze8 hw]at e;have ei:evi (P.tbl n) (.rev<|.var 0) [J<|.ref wk,J u.d,J u.d,M,M] h=.ok ⟨[(wk,ps.map pd)],(ps.map pd).reverse⟩ h:=by simp[Zgv,hw]
 have w:xs2 (P.tbl n) ZhH [J<|.ref wk,J u.d,M,M,M] h=.ok (.rt (Zcg ps u).d,[J<|.ref wk,J u.d,J (Zcg ps u).d,o3,o4]) h:=(Za<|Zg rfl).trans<|(Za<|(Zdl ei).trans e).trans<|Zb<|Zk rfl;exact congrArg Ze w
def Za6(f:Str)(F:T)(x:Str)(A:T):Fil:=if f=x then [(x,A)]else [(f,F),(x,A)]
def bec:T->Option T
 |.call F A=>match F with
  |.fn x e=>J (sub (Fil.ar [(x,A)]) e)
  |.rcc f x e=>J (sub (Fil.ar<|Za6 f (.rcc f x e) x A) e)
  |_=>M
 |.iff c t e=>match c with
  |.num z=>J (if z=0 then e else t)
  |_=>M
 |.op w a b=>match a,b with
  |.num a,.num b=>J (.num<|_root_.Rw.wk w a b)
  |_,_=>M
 |_=>M
def next(t:T):Option T:=(bec<|bot t).map (Zcg<|pth t)
noncomputable def oT:Option T->D
 |some t=>t.d
 |none=>.non
theorem Zcf(hM:1<=qb):∀(t) (ar),(∀x V,get ar x=J V->V.size<=qb)->(sub ar t).size<=t.size*qb
 |.num _,_,_=>by simp[sub,T.size,T.places];lia
 |.name x,ar,hv=>by
  cases e:get ar x with
  |none=>simp[sub,e,T.size,T.places];lia
  |some V=>have:=hv x V e;simp[sub,e];simp[T.size,T.places]at *;lia
 |.fn x e,ar,hv=>by
  have ih:=Zcf hM e ((x,M)::ar)<|λy V q=>hv y V<|Ze5 [x] ar q;rw[sub,Zf,Zf<|.fn x e];simp[T.parts,Nat.add_mul]at ih ⊢
  lia
 |.rcc f x e,ar,hv=>by
  have ih:=Zcf hM e ((f,M)::(x,M)::ar)<|λy V q=>hv y V<|Ze5 [f,x] ar q;rw[sub,Zf,Zf<|.rcc f x e];simp[T.parts,Nat.add_mul]at ih ⊢
  lia
 |.call f a,ar,hv=>by
  have i1:=Zcf hM f ar hv;have i2:=Zcf hM a ar hv;rw[sub,Zf,Zf<|.call f a];simp[T.parts,Nat.add_mul]at i1 i2 ⊢
  lia
 |.op w f a,ar,hv=>by
  have i1:=Zcf hM f ar hv;have i2:=Zcf hM a ar hv;rw[sub,Zf,Zf<|.op w f a];simp[T.parts,Nat.add_mul]at i1 i2 ⊢
  lia
 |.iff c t e,ar,hv=>by
  have i1:=Zcf hM c ar hv;have i2:=Zcf hM t ar hv;have i3:=Zcf hM e ar hv;rw[sub,Zf,Zf<|.iff c t e];simp[T.parts,Nat.add_mul]at i1 i2 i3 ⊢
  lia
def ZvQ:∀(f:Fil) {x:Str}{V:T},get f.ar x=J V->(x,V)∈f:=by intro f;induction f<;>simp_all [Fil,get,Fil.ar]<;>grind
def ZlK{t}{f:Fil}(hs:∀p∈f,p.2.size<=300):(sub f.ar t).size<=t.size*300:=Zcf (by lia) t f.ar λx V e=>hs (x,V) (ZvQ f e)
def ZqA{t}{f}(ht:t.size<=300)(hf:f.length<=2)(hs:∀p∈f,p.2.size<=300/\∀x,p.2≠.name x):Wok 301 (t,fen f)/\(sub f.ar t).size<=300000:=by
 have:=ZlK (t:=t) λp hp=>(hs p hp).1;refine⟨⟨?_,λq hq v e=>?_⟩,by lia⟩
 . have:(fen f).length=f.length:=by simp[fen]
   simp only
   lia
 . obtain⟨p,hp,rfl⟩:=List.mem_map.mp hq;cases e;refine⟨(hs p hp).2,?_,trivial⟩;have:=(hs p hp).1;show 0+2*p.2.size<=602
   lia
theorem ZgL (H:Trm P) (n:Nat) (F A:T) (hv:isV F=Ws) (hF:F.size<=300) (hA:A.size<=300) (nA:∀ x,A≠.name x):∃ g,run P (n+5) (O "called_terms") [F.d,A.d] h=.ok (oT<|bec<|.call F A) (h++g):=by
 rw [Zd H.called (by cases F<;>rfl)];have gr:∀ (f:Fil),∃ k,k=h.length/\(h++[DO.dic f.kv])[k]?=J (.dic f.kv):=λf=>⟨_,rfl,by simp⟩
 cases F with
 |num z=>exact⟨[],by rw [Yt];exact rfl⟩
 |fn x e =>
   obtain⟨w1,w2⟩:=ZqA (t:=e) (f:=[(x,A)]) (by rw [Zf] at hF;simp [T.parts] at hF;lia) (by simp) (by simp;exact⟨by lia,nA⟩);obtain⟨g,q⟩:=ZtN H n e [(x,A)] (h0:=h) (h:=h++[.dic<|Fil.kv [(x,A)]]) (dk:=h.length) (by simp) (by simp) (by simp) (Oq _) (by simp) (λi hi=>Oe hi) (by lia) (by lia) w1 w2;exact⟨g,rt1 (U:=P.tbl<|n+4) (ss:=ZbQ) (S:=[J (T.fn x e).d,J A.d]) (ZK q rfl rfl) rfl⟩
 |rcc f x e =>
   have av:(Za6 f (.rcc f x e) x A).length<=2:=by unfold Za6;split<;>simp
   have my:((Za6 f (.rcc f x e) x A).map (·.1)).Nodup:=by
     unfold Za6;split
     . simp
     . simpa using (by assumption)
   obtain⟨w1,w2⟩:=ZqA (t:=e) (f:=Za6 f (.rcc f x e) x A) (by rw [Zf] at hF;simp [T.parts] at hF;lia) av (by
     unfold Za6;split
     . simp;exact⟨by lia,nA⟩
     . simp;exact⟨hF,hA,nA⟩)
   obtain⟨g,q⟩:=ZtN H n e (Za6 f (.rcc f x e) x A) (h0:=h) (h:=h++[.dic<|Fil.kv<|Za6 f (.rcc f x e) x A]) (dk:=h.length) my (by lia) (by simp) (Oq _) (by simp) (λi hi=>Oe hi) (by lia) (by lia) w1 w2;refine⟨g,?_⟩;have mg:ZbC [] [(YE f,(T.rcc f x e).d),(YE x,A.d)]=Fil.kv (Za6 f (.rcc f x e) x A):=by
     unfold Za6;by_cases z:f=x
     . subst z;simp [ZbC,putD,Fil.kv]
     . have:¬ (YE f:Key)=YE x:=λq=>z<|Sum.inr.inj q;simp [ZbC,putD,Fil.kv,z]
   rw [<-mg] at q;show Ze (xs2 (P.tbl<|n+4) ZbQ [J (T.rcc f x e).d,J A.d] h)=_;rw [nx1 (U:=P.tbl<|n+4) (ss:=ZbQ) (S:=[J (T.rcc f x e).d,J A.d]) (ρ1:=[J (T.rcc f x e).d,J A.d]) (h2:=h) rfl rfl];exact rt1 (U:=P.tbl<|n+4) (ss:=tlS ZbQ) (ZK q rfl rfl) rfl
 |_=>cases hv
def ZgK(H:Trm P)(n)(c a b)(hv:isV c=Ws):run P (n+1) (O "chosen") [c.d,a.d,b.d] h=.ok (oT<|bec<|.iff c a b) h:=by
 rw[Zd H.chosen<|rfl];cases c with
 |num z=>by_cases e:z=0<;>simp[Zds,ZhQ,Zw,T.d,bec,oT,e]
 |fn x e=>trivial
 |rcc f x e=>trivial
 |_=>trivial
def Zpc(H:Trm P)(n)(w)(a b)(va:isV a=Ws)(vb:isV b=Ws)(ca:Gn.Cl [] a)(cb:Gn.Cl [] b):run P (n+1) (O "worked") [.str w.s,a.d,b.d] h=.ok (oT<|bec<|.op w a b) h:=by
 have no:∀(a b:T),xs1 (P.tbl n) ZeI [J<|.str w.s,J a.d,J b.d] h=.ok (.rt .non,[J<|.str w.s,J a.d,J b.d]) h->run P (n+1) (O "worked") [.str w.s,a.d,b.d] h=.ok .non h:=λa b e=>(Zd H.worked<|rfl).trans<|rt1 e rfl;cases a with
 |num x=>
  cases b with
  |num y=>exact _root_.Rw.worked_nn H.worked H.gb n w ca cb
  |fn _ _=>exact no (.num x) (.fn _ _) rfl
  |rcc _ _ _=>exact no (.num x) (.rcc _ _ _) rfl
  |_=>trivial
 |fn _ _=>exact no (.fn _ _) b rfl
 |rcc _ _ _=>exact no (.rcc _ _ _) b rfl
 |_=>trivial
def Red:T->Prop
 |.call f a|.op _ f a=>isV f=Ws/\isV a=Ws
 |.iff c _ _=>isV c=Ws
 |_=>False
theorem Zb5:∀t ,isV t=Wt->Gn.Cl [] t->Red (bot t)/\Gn.Cl [] (bot t)/\(bot t).size<=t.size
 |.num _,nv,_=>by trivial
 |.name x,_,c=>by cases c
 |.fn _ _,nv,_=>by trivial
 |.rcc _ _ _,nv,_=>by trivial
 |.call f a,_,c=>by
  have z:(T.call f a).size=1+(f.size+a.size):=by rw[Zf];trivial
  simp[bot];split
  . split
    . exact⟨⟨by trivial,by trivial⟩,c,Oq _⟩
    . rename_i q;have ih:=Zb5 a (by simpa using q) c.2;exact⟨ih.1,ih.2.1,by lia⟩
  . rename_i q;have ih:=Zb5 f (by simpa using q) c.1;exact⟨ih.1,ih.2.1,by lia⟩
 |.op w f a,_,c=>by
  have z:(T.op w f a).size=1+(f.size+a.size):=by rw[Zf];simp[T.parts]
  simp only[bot];split
  . split
    . exact⟨⟨by assumption,by assumption⟩,c,Oq _⟩
    . rename_i q;have ih:=Zb5 a (by simpa using q) c.2;exact⟨ih.1,ih.2.1,by lia⟩
  . rename_i q;have ih:=Zb5 f (by simpa using q) c.1;exact⟨ih.1,ih.2.1,by lia⟩
 |.iff f a b,_,c=>by
  have z:(T.iff f a b).size=1+(f.size+(a.size+b.size)):=by rw[Zf];simp[T.parts]
  simp only[bot];split
  . exact⟨by assumption,c,Oq _⟩
  . rename_i q;have ih:=Zb5 f (by simpa using q) c.1;exact⟨ih.1,ih.2.1,by lia⟩
theorem Zpj (H:Trm P) (n) (t) (r:Red t) (c:Gn.Cl [] t) (hz:t.size<=300):∃ g,run P (n+6) (O "become") [t.d] h=.ok (oT<|bec t) (h++g):=by
 rw [Zd H.become<|rfl];cases t with
 |call F A =>
   have z:(T.call F A).size=1+(F.size+A.size):=by rw [Zf];simp [T.parts]
   obtain⟨g,e⟩:=ZgL H n (h:=h) F A r.1 (by lia) (by lia) (λx z=>by have:=r.2;rw [z] at this;cases this);exact⟨g,rt1 (U:=P.tbl<|n+5) (ss:=ZaK) (S:=[J (T.call F A).d]) (ZK e rfl rfl) rfl⟩
 |iff a b d =>
   exact⟨[],by
     rw [Yt];show Ze (xs2 (P.tbl<|n+5) ZaK [J (T.iff a b d).d] h)=_;rw [nx1 (U:=P.tbl<|n+5) (ss:=ZaK) (S:=[J (T.iff a b d).d]) (ρ1:=[J (T.iff a b d).d]) (h2:=h) rfl rfl];exact rt1 (U:=P.tbl<|n+5) (ss:=tlS ZaK) (ZK (ZgK H (n+4) (h:=h) a b d r) rfl rfl) rfl⟩
 |op w a b =>
   exact⟨[],by
     rw [Yt];show Ze (xs2 (P.tbl<|n+5) ZaK [J (T.op w a b).d] h)=_;rw [nx1 (U:=P.tbl<|n+5) (ss:=ZaK) (S:=[J (T.op w a b).d]) (ρ1:=[J (T.op w a b).d]) (h2:=h) (by cases w<;>rfl) rfl,nx1 (U:=P.tbl<|n+5) (ss:=tlS ZaK) (S:=[J (T.op w a b).d]) (ρ1:=[J (T.op w a b).d]) (h2:=h) (by cases w<;>rfl) rfl];exact rt1 (U:=P.tbl<|n+5) (ss:=tlS<|tlS ZaK) (ZK (Zpc H (n+4) (h:=h) w a b r.1 r.2 c.1 c.2) rfl rfl) rfl⟩
 |_=>cases r
def ans(t:T):D:=if isV t then .tup [.str<|O "value"]else match next t with
 |some u=>.tup [.str<|O "loud",u.d]
 |none=>.tup [.str<|O "stuck"]
def Zij(H:Trm P)(n)(t)(c:Gn.Cl [] t)(hz:t.size<=300):∃g,run P (n+7) (O "stepped") [t.d] h=.ok (ans t) (h++g):=by
 rw[Zd H.stepped<|by rfl];have ev:=ZtP H (n+5) (h:=h) t;show ∃g,Ze (xs2 (P.tbl<|n+6) (.cons Zf3<|.cons ZdA<|.cons Zdz<|.cons Zb6<|.cons Zdy .nil) [J t.d,M,M] h)=_;cases nv:isV t with
 |true=>rw[nv]at ev;refine⟨[],?_⟩;rw[Zb<|ZK ev rfl rfl,Yt,ans,nv];rfl
 |false=>
  rw[nv]at ev;have x2:xs1 (P.tbl<|n+6) ZdA [J t.d,M,M] h=.ok (.nx,[J t.d,J<|.ref h.length,M]) (h++[.lst<|ZbU t]):=ZK (Zxm H (n+2) (h:=h) t c nv<|by lia) rfl rfl;obtain⟨r1,r2,r3⟩:=Zb5 t nv c;obtain⟨g,eb⟩:=Zpj H n (h:=h++[.lst<|ZbU t]) (bot t) r1 r2 (by lia);have ix:ZaM P.GD (.ref h.length) (.int<|-1) (h++[.lst<|ZbU t])=.ok (.tup [(bot t).d,.non]) (h++[.lst<|ZbU t]):=by rw[ZA (xs:=ZbU t)<|by simp,ZbU,Zqg];rfl
  have x3:xs1 (P.tbl<|n+6) Zdz [J t.d,J<|.ref h.length,M] (h++[.lst<|ZbU t])=.ok (.nx,[J t.d,J<|.ref h.length,J<|oT<|bec<|bot t]) (h++[.lst<|ZbU t]++g):=Zg<|Zi eb<|Zc ((Zs ((Zs rfl rfl).trans ix) rfl).trans rfl) rfl;rw[Za<|ZK ev rfl rfl,Za x2,Za x3];have kw:(h++[DO.lst<|ZbU t]++g)[h.length]?=J (.lst<|ZbU t):=by simp
  cases hb:bec (bot t)with
  |none=>refine⟨[.lst<|ZbU t]++g,?_⟩;have x4:xs1 (P.tbl<|n+6) Zb6 [J t.d,J<|.ref h.length,J<|oT M] (h++[.lst<|ZbU t]++g)=.ok (.rt<|.tup [.str<|O "stuck"],[J t.d,J<|.ref h.length,J<|oT M]) (h++[.lst<|ZbU t]++g):=(Zq<|Zqq rfl).trans<|Zb<|Zk rfl;rw[Zb x4,ans,nv,next,hb,<-Oz];rfl
  |some u=>
   generalize hh:h++[DO.lst<|ZbU t]++g=R at *;have nn:u.d≠.non:=by cases u<;>simp[T.d]
   have x4:xs1 (P.tbl<|n+6) Zb6 [J t.d,J<|.ref h.length,J<|oT<|J u] R=.ok (.nx,[J t.d,J<|.ref h.length,J<|oT<|J u]) R:=(Zo<|ZsO rfl nn).trans rfl;have ep:=ZuO H (n+5) (h:=R++[.lst<|(pth t).map pd]) (wk:=R.length) (pth t) u (by simp)<|Zfu t;have sl:ZhY (.ref h.length) M (J<|-1) R=.ok (.ref R.length) (R++[.lst<|(pth t).map pd]):=by
    have:cutD (ZbU t) M (J<|-1)=(pth t).map pd:=by rw[ZbU,Zwc];rfl
    simp[ZhY,lstOf,kw,this]
   refine⟨[.lst<|ZbU t]++g++[.lst<|(pth t).map pd],?_⟩;have x5:xs1 (P.tbl<|n+6) Zdy [J t.d,J<|.ref h.length,J<|oT<|J u] R=.ok (.rt<|.tup [.str<|O "loud",(Zcg (pth t) u).d],[J t.d,J<|.ref h.length,J<|oT<|J u]) (R++[.lst<|(pth t).map pd]):=Zk (Zak (Zc rfl<|Zc (Zi ep<|Zc ((Gn.Zih rfl rfl rfl).trans sl) rfl) rfl)<|by simp);rw[Za x4,Zb x5,ans,nv,next,hb,<-Oz,<-Oz,hh];rfl
def Kp(ar:Ar)(sc bI:List Str):Prop:=∀x∈sc,(∃V,get ar x=J V/\Gn.Cl [] V)\/(get ar x=M/\x∈bI)
def Kp.bind(k:Kp ar sc bI)(y):Kp ((y,M)::ar) (y::sc) (y::bI):=λx hx=>by
 unfold get;by_cases e:y=x
 . rw[if_pos e];exact .inr ⟨rfl,by rw[e];simp⟩
 . rw[if_neg e];rcases O2.mp hx with z|z
   . simp_all
   . rcases k x z with q|q
     . exact .inl q
     . exact .inr ⟨q.1,Oh _ q.2⟩
def Kp.two(k:Kp ar sc bI)(f x):Kp ((f,M)::(x,M)::ar) (x::f::sc) (x::f::bI):=λz hz=>by
 have q:=(k.bind x).bind f z (by simp at hz ⊢;rcases hz with h|h|h<;>simp[h]);rcases q with q|q
 . exact .inl q
 . exact .inr ⟨q.1,by have:=q.2;simp at this ⊢;rcases this with h|h|h<;>simp[h]⟩
theorem ZbH:∀(t:T) {ar:Ar}{sc bI:List Str},Kp ar sc bI->Gn.Cl sc t->Gn.Cl bI (sub ar t)
 |.num _,_,_,_,_,c=>c
 |.name x,ar,sc,bI,k,c=>by
  rcases k x c with⟨V,e,cv⟩|⟨e,m⟩
  . rw[sub,e];exact Gn.Cl.mono (λy hy=>by cases hy) cv
  . rw[sub,e];exact m
 |.fn x e,_,_,_,k,c=>⟨ZbH e (k.bind x) c.1,c.2⟩
 |.rcc f x e,_,_,_,k,c=>⟨ZbH e (k.two f x) c.1,c.2⟩
 |.call f a,_,_,_,k,c|.op _ f a,_,_,_,k,c=>⟨ZbH f k c.1,ZbH a k c.2⟩
 |.iff f a b,_,_,_,k,c=>⟨ZbH f k c.1,ZbH a k c.2.1,ZbH b k c.2.2⟩
def zc(f a):(T.call f a).size=1+(f.size+a.size):=by rw[Zf];trivial
def zo(w)(f a):(T.op w f a).size=1+(f.size+a.size):=by rw[Zf];trivial
def zi(f a b):(T.iff f a b).size=1+(f.size+(a.size+b.size)):=by rw[Zf];trivial
def zf(x)(e):(T.fn x e).size=1+e.size:=by rw[Zf];trivial
def zr(f x)(e):(T.rcc f x e).size=1+e.size:=by rw[Zf];trivial
def Zi9{f:Fil}(hc:∀p∈f,Gn.Cl [] p.2)(sc:List Str)(hk:∀x∈sc,x∈f.map (·.1)):Kp f.ar sc []:=λx hx=>by
 have:∀(f:Fil),(∀p∈f,Gn.Cl [] p.2)->x∈f.map (·.1)->∃V,get f.ar x=J V/\Gn.Cl [] V:=by
  intro f;induction f with
  |nil=>simp
  |cons p r ih=>
   intro hc z;rw[Fil.ar,Op,get];by_cases e:p.1=x
   . rw[if_pos e];exact⟨p.2,rfl,hc p Oi⟩
   . rw[if_neg e];rcases O2.mp z with q|q
     . simp_all
     . exact ih (λp hp=>hc p<|Oh _ hp) q
 exact .inl (this f hc<|hk x hx)
def Ztp(t u)(r:Red t)(c:Gn.Cl [] t)(hz:t.size<=300)(e:bec t=J u):Gn.Cl [] u/\u.size<=t.size*300:=by
 cases t with
 |call F A=>
  have z:=zc F A;cases F with
  |fn x b=>cases e;refine⟨ZbH b (Zi9 (by simp;exact c.2) [x]<|by simp) c.1.1,OE (ZlK (t:=b) (f:=[(x,A)]) (by simp;lia))<|Nat.mul_le_mul_right _ (by rw[z,zf x b];lia)⟩
  |rcc f x b=>
   cases e;have mem:∀p∈Za6 f (.rcc f x b) x A,p.2=.rcc f x b\/p.2=A:=by
    intro p hp;unfold Za6 at hp;split at hp
    . simp at hp;rw[hp];exact .inr rfl
    . simp at hp;rcases hp with rfl|rfl
      . exact .inl rfl
      . exact .inr rfl
   refine⟨ZbH b (Zi9 (λp hp=>by rcases mem p hp with q|q<;>rw[q];exact c.1;exact c.2) [x,f] (by unfold Za6;split<;>simp_all)) c.1.1,OE (ZlK (t:=b) (f:=Za6 f (.rcc f x b) x A) (λp hp=>by rcases mem p hp with q|q<;>rw[q]<;>lia))<|Nat.mul_le_mul_right _ (by rw[z,zr f x b];lia)⟩
  |_=>cases e
 |iff a b d=>
  have z:=zi a b d;cases a with
  |num m=>
   simp only[bec,Option.some.injEq]at e;subst e;split
   . exact⟨c.2.2,by lia⟩
   . exact⟨c.2.1,by lia⟩
  |_=>cases e
 |op w a b=>
  cases a with
  |num x=>
   cases b with
   |num y=>cases e;exact⟨_root_.Rw.wk_ok w x y,by simp[T.size,T.places]⟩
   |_=>cases e
  |_=>cases e
 |_=>cases r
def ZjY:∀(t:T) (u:T),Gn.Cl [] t->Gn.Cl [] u->Gn.Cl [] (Zcg (pth t) u)/\(Zcg (pth t) u).size<=t.size+u.size:=by
 have two:∀a b c u:Nat,a<=b+u->1+(a+c)<=1+(b+c)+u:=λa b c u q=>by lia
 have fb:∀a b c u:Nat,a<=b+u->1+(c+a)<=1+(c+b)+u:=λa b c u q=>by lia
 intro t u;induction t with
 |num _|name _|fn _ _ _|rcc _ _ _ _=>exact λ_ cu=>⟨cu,Nat.le_add_left _ _⟩
 |call f a q1 q2=>
  intro c cu;cases hf:isV f with
  |false=>simp only[pth,hf,Zcg,p1c,p2c,p1o,p2o,p1i,OG,if_false];exact⟨⟨(q1 c.1 cu).1,c.2⟩,by rw[zc,zc];exact two _ _ _ _ (q1 c.1 cu).2⟩
  |true=>
   cases ha:isV a with
   |false=>simp only[pth,hf,ha,Zcg,p1c,p2c,p1o,p2o,p1i,OG,if_false,if_true];exact⟨⟨c.1,(q2 c.2 cu).1⟩,by rw[zc,zc];exact fb _ _ _ _ (q2 c.2 cu).2⟩
   |true=>simp only[pth,hf,ha,Zcg,if_true];exact⟨cu,Nat.le_add_left _ _⟩
 |op w f a q1 q2=>
  intro c cu;cases hf:isV f with
  |false=>simp only[pth,hf,Zcg,p1c,p2c,p1o,p2o,p1i,OG,if_false];exact⟨⟨(q1 c.1 cu).1,c.2⟩,by rw[zo,zo];exact two _ _ _ _ (q1 c.1 cu).2⟩
  |true=>
   cases ha:isV a with
   |false=>simp only[pth,hf,ha,Zcg,p1c,p2c,p1o,p2o,p1i,OG,if_false,if_true];exact⟨⟨c.1,(q2 c.2 cu).1⟩,by rw[zo,zo];exact fb _ _ _ _ (q2 c.2 cu).2⟩
   |true=>simp only[pth,hf,ha,Zcg,if_true];exact⟨cu,Nat.le_add_left _ _⟩
 |iff f a b q1 q2 q3=>
  intro c cu;cases hf:isV f with
  |false=>simp only[pth,hf,Zcg,p1c,p2c,p1o,p2o,p1i,OG,if_false];exact⟨⟨(q1 c.1 cu).1,c.2.1,c.2.2⟩,by rw[zi,zi];exact two _ _ _ _ (q1 c.1 cu).2⟩
  |true=>simp only[pth,hf,Zcg,if_true];exact⟨cu,Nat.le_add_left _ _⟩
def Zp1{t u}(nv:isV t=Wt)(c:Gn.Cl [] t)(hz:t.size<=120)(e:next t=J u):Gn.Cl [] u/\u.size<=40000:=by obtain⟨v,e1,rfl⟩:=Oo.mp e;obtain⟨r1,r2,r3⟩:=Zb5 t nv c;obtain⟨b1,b2⟩:=Ztp (bot t) v r1 r2 (by lia) e1;obtain⟨p1,p2⟩:=ZjY t v c b1;exact⟨p1,by lia⟩
end
end Tm
namespace Grf
open PySem L2 IV
def Zbh:Sx:=.s 1 (.f "places"<|.o V0)
def Zas:Sx:=.s 2 (.lstl .n)
def Zar:Sx:=.s 3 (.lstl .n)
def Zgd:Ix:=.rev V1
def Zfl:Sx:=.s 5 (.comp [O "part",O "numbers"] [M,J 3] (.pl<|.f "parts_of"<|.o V4) (.nm 0) M<|.meth .pop V1 .n)
def Zfk:Sx:=.drp (.meth .app V2<|.o<|.bin .Add (.f "front_of"<|.o V4)<|.blt .tup<|.o V5)
def Zfj:Sx:=.drp (.meth .app V3<|.o<|.bin .Sub (.blt .len<|.o V1)<|.blt .len<|.o V2)
def Zgb:Sxs:=.u Zfl Zfk Zfj
def Zaq:Sx:=.forr (.nm 4) Zgd Zgb
def Zap:Sx:=.drp (.meth .rev V2 .n)
def Zc9:Sx:=.ret (.tupl<|.w V2 F0)
def Zh8:Sxs:=.c Zbh (.y Zas Zar Zaq Zap Zc9)
def Zeo:Fd:=fd_ 1 ["E","told","cells","numbers","place","parts"] Zh8
def Zg9:Ix:=.pl (.f "parts_first"<|.o V1)
def Zcx:Tx:=.nt (.ex<|.f "is_value"<|.o<|.ix V0 V2)
def Zd5:Sx:=.ret V2
def Zfx:Sxs:=.o Zd5
def ZfR:Sx:=.iff Zcx Zfx .n
def ZaE:Sxs:=.o ZfR
def ZhP:Sx:=.forr (.nm 2) Zg9 ZaE
def ZhO:Sx:=.ret (.cst .non)
def ZcT:Sxs:=.w ZhP ZhO
def ZaF:Fd:=fd_ 2 ["cells","cell","number"] ZcT
def Zh6:Sx:=.s 2 V1
def Zh5:Sx:=.s 3 (.f "first_open_graph"<|.w V0<|.ix V0 V1)
def Zcq:Tx:=.x .IsNot V3 (.cst .non)
def Zgf:Sx:=.s 2 V3
def Zge:Sx:=.s 3 (.f "first_open_graph"<|.w V0<|.ix V0 V2)
def Zej:Sxs:=.w Zgf Zge
def Zes:Sx:=.whl Zcq Zej
def Zh4:Sx:=.ret V2
def Zf4:Sxs:=.z Zh6 Zh5 Zes Zh4
def ZfX:Fd:=fd_ 2 ["cells","root","found","inner"] Zf4
def ZkR:Sx:=.s 3 (.ix V0 V1)
def ZkQ:Sx:=.s 4 (.f "bound_names"<|.o V3)
def ZkP:Sx:=.s 5 (.blt .tup<|.o<|.comp [O "name",O "bound"] [M,J 4] (.pl V2) (.nm 0) (J<|.x .NotIn V0 V1) V0)
def ZkO:Sx:=.ret (.comp [O "part",O "inner"] [M,J 5] (.pl<|.f "parts_of"<|.o V3) (.nm 0) M<|.tupl<|.w V0 V1)
def ZiI:Sxs:=.z ZkR ZkQ ZkP ZkO
def Ziw:Fd:=fd_ 3 ["cells","number","names","cell","bound","inner"] ZiI
def Zju:Sx:=.ret (.ands<|.w (.cmp .Eq (.ix V0 F0)<|.Ci_ "name")<|.cmp .In (.ix V0 F1) V1)
def ZeK:Sxs:=.o Zju
def Zho:Fd:=fd_ 2 ["cell","names"] ZeK
def ZfQ:Sx:=.s 3 .ndl
def ZfP:Sx:=.s 4 (.lstl<|.o<|.tupl<|.w V1 V2)
def Z9:Tx:=.ex V4
def ZbP:Sx:=.s 5 (.comp [O "pair"] [M] (.pl<|.f "beneath"<|.u V0 (.ix (.ix V4<|.neg F1) F0)<|.ix (.ix V4<|.neg F1) F1) (.nm 0) (J<|.ex<|.ix V0 F1) V0)
def ZbO:Sx:=.s 6 (.comp [O "pair",O "free"] [M,J 3] (.pl V5) (.nm 0) (J<|.ex<|.nin Ws V0 V1) V0)
def ZeH:Tx:=.ex V6
def Zdc:Sx:=.drp (.meth .ext V4<|.o V6)
def ZaO:Sx:=.s 7 (.meth .pop V4 .n)
def Zdd:Sx:=.npt V3 V7 (.ors<|.w (.f "is_meant"<|.w (.ix V0<|.ix V7 F0)<|.ix V7 F1)<|.blt .anb<|.o<|.comp [O "part",O "free"] [M,J 3] (.pl V5) (.nm 0) M<|.nix V1 V0)
def ZeA:Sxs:=.o Zdc
def ZeF:Sxs:=.w ZaO Zdd
def ZeL:Sx:=.iff ZeH ZeA ZeF
def Z8:Sxs:=.u ZbP ZbO ZeL
def ZcB:Sx:=.whl Z9 Z8
def ZfO:Sx:=.ret V3
def ZdM:Sxs:=.z ZfQ ZfP ZcB ZfO
def Zdr:Fd:=fd_ 3 ["cells","start","names","free","waiting","inner","unknown","pair"] ZdM
def Zbv:Sx:=.sa "Copier" V0 "cells" V1
def Zbu:Sx:=.sa "Copier" V0 "meant" V3
def Zbt:Sx:=.sa "Copier" V0 "free" (.f "free_beneath"<|.u V1 V2<|.blt .tdk<|.o V3)
def Zbs:Sx:=.sa "Copier" V0 "known" .ndl
def Zbr:Sx:=.sa "Copier" V0 "waiting" (.lstl .n)
def Zcc:Sxs:=.y Zbv Zbu Zbt Zbs Zbr
def ZaH:Fd:=fd_ 4 ["self","cells","start","meant"] Zcc
def Zbq:Sx:=.s 3 (.ix (.a "Copier" V0 "cells") V1)
def Zbo:Tx:=.ands (.c (.ex<|.f "is_value"<|.o V3)<|.one<|.nt<|.ex<|.nix (.a "Copier" V0 "free")<|.tupl<|.w V1 V2)
def ZcY:Sx:=.ret V1
def Zbj:Sxs:=.o ZcY
def Zd9:Sx:=.iff Zbo Zbj .n
def Zbn:Tx:=.ex (.f "is_meant"<|.w V3 V2)
def ZcX:Sx:=.ret (.ix (.a "Copier" V0 "meant")<|.ix V3 F1)
def Zbi:Sxs:=.o ZcX
def Zd8:Sx:=.iff Zbn Zbi .n
def Zbm:Tx:=.ex (.nin Ws (.tupl<|.w V1 V2)<|.a "Copier" V0 "known")
def ZcW:Sx:=.npt (.a "Copier" V0 "known") (.tupl<|.w V1 V2) (.blt .len<|.o<|.a "Copier" V0 "cells")
def ZcV:Sx:=.drp (.meth .app (.a "Copier" V0 "cells")<|.o V3)
def ZaL:Sx:=.drp (.meth .app (.a "Copier" V0 "waiting")<|.o<|.tupl<|.w V1 V2)
def Zai:Sxs:=.u ZcW ZcV ZaL
def Zd7:Sx:=.iff Zbm Zai .n
def Zd6:Sx:=.ret (.nix (.a "Copier" V0 "known")<|.tupl<|.w V1 V2)
def Zfm:Sxs:=.y Zbq Zd9 Zd8 Zd7 Zd6
def Zb1:Fd:=fd_ 3 ["self","number","names","cell"] Zfm
def ZaR:Sx:=.s 1 (.meth .pop (.a "Copier" V0 "waiting") .n)
def ZaQ:Sx:=.s 2 (.comp [O "part",O "names",O "self"] [M,M,J 0] (.pl<|.f "beneath"<|.u (.a "Copier" V0 "cells") (.ix V1 F0)<|.ix V1 F1) (.two 0 1) M<|.m "Copier" "stand_in" V2<|.w V0 V1)
def ZaP:Sx:=.put (.a "Copier" V0 "cells") (.nix (.a "Copier" V0 "known") V1) (.bin .Add (.f "front_of"<|.o<|.ix (.a "Copier" V0 "cells")<|.ix V1 F0)<|.blt .tup<|.o V2)
def Zbp:Sxs:=.u ZaR ZaQ ZaP
def Zbk:Fd:=fd_ 1 ["self","pair","parts"] Zbp
def Zfo:Sx:=.s 2 (.m "Copier" "stand_in" V0<|.w V1<|.blt .tdk<|.o<|.a "Copier" V0 "meant")
def Zb4:Tx:=.ex (.a "Copier" V0 "waiting")
def Zea:Sx:=.drp (.m "Copier" "write_next" V0 .n)
def ZbW:Sxs:=.o Zea
def Zcb:Sx:=.whl Zb4 ZbW
def Zfn:Sx:=.ret V2
def Zda:Sxs:=.u Zfo Zcb Zfn
def Zc1:Fd:=fd_ 2 ["self","start","number"] Zda
def ZhT:Sx:=.s 3 (.ix V0 V1)
def ZlV:Tx:=.q (.ix V3 F0) (.Ci_ "num")
def Zib:Sx:=.ret (.cst .non)
def ZlB:Sxs:=.o Zib
def Zma:Sx:=.iff ZlV ZlB .n
def ZlU:Tx:=.q (.ix V3 F0) (.Ci_ "fn")
def Zh9:Sx:=.s 4 (.dictl<|.w (.ix V3 F1) V2)
def Zia:Sx:=.s 4 (.dictl<|.z (.ix V3 F1) V1 (.ix V3 F2) V2)
def ZlA:Sxs:=.o Zh9
def ZlS:Sxs:=.o Zia
def Zl9:Sx:=.iff ZlU ZlA ZlS
def ZhS:Sx:=.s 5 (.ix (.f "parts_of"<|.o V3) F0)
def ZhR:Sx:=.ret (.ix V0<|.m "Copier" "copied" (.mk (O "Copier")<|.u V0 V5 V4)<|.o V5)
def ZbQ:Sxs:=.y ZhT Zma Zl9 ZhS ZhR
def Zdt:Fd:=fd_ 3 ["cells","F","A","function","meant","start"] ZbQ
def ZkN:Sx:=.s 2 (.f "chosen"<|.u (.ix V0<|.ix V1 F1) (.ix V1 F2)<|.ix V1 F3)
def ZkD:Tx:=.x .Is V2 (.cst .non)
def ZhN:Sx:=.ret (.cst .non)
def Zka:Sxs:=.o ZhN
def ZkM:Sx:=.iff ZkD Zka .n
def ZkL:Sx:=.ret (.ix V0 V2)
def ZoD:Sxs:=.u ZkN ZkM ZkL
def Ziv:Fd:=fd_ 2 ["cells","cell","number"] ZoD
def ZkB:Tx:=.q (.ix V1 F0) (.Ci_ "call")
def ZhF:Sx:=.ret (.f "called_graph"<|.u V0 (.ix V1 F1)<|.ix V1 F2)
def Zj8:Sxs:=.o ZhF
def ZkI:Sx:=.iff ZkB Zj8 .n
def ZkA:Tx:=.q (.ix V1 F0) (.Ci_ "if")
def ZhE:Sx:=.ret (.f "gone_on"<|.w V0 V1)
def Zj7:Sxs:=.o ZhE
def ZkH:Sx:=.iff ZkA Zj7 .n
def ZkG:Sx:=.ret (.f "worked"<|.u (.ix V1 F0) (.ix V0<|.ix V1 F1)<|.ix V0<|.ix V1 F2)
def Zoy:Sxs:=.u ZkI ZkH ZkG
def Zit:Fd:=fd_ 2 ["cells","cell"] Zoy
def Zdx:Tx:=.ex (.f "is_value"<|.o<|.ix (.ix V0 F0)<|.ix V0 F1)
def Zfi:Sx:=.ret (.tupl<|.o<|.Ci_ "value")
def Zg1:Sxs:=.o Zfi
def ZhK:Sx:=.iff Zdx Zg1 .n
def ZdK:Sx:=.s 1 (.blt .lst<|.o<|.ix V0 F0)
def ZdJ:Sx:=.s 2 (.f "next_cell"<|.w V1<|.ix V0 F1)
def ZdI:Sx:=.s 3 (.f "written"<|.w V1<|.ix V1 V2)
def ZhB:Tx:=.x .Is V3 (.cst .non)
def Zfh:Sx:=.ret (.tupl<|.o<|.Ci_ "stuck")
def Zg0:Sxs:=.o Zfh
def ZdH:Sx:=.iff ZhB Zg0 .n
def ZdG:Sx:=.put V1 V2 V3
def ZhJ:Sx:=.ret (.tupl<|.w (.Ci_ "loud")<|.tupl<|.w V1<|.ix V0 F1)
def ZcR:Sxs:=.c ZhK (.c ZdK<|.y ZdJ ZdI ZdH ZdG ZhJ)
def Zfa:Fd:=fd_ 1 ["state","cells","number","cell"] ZcR
def ZhM:Sx:=.s 1 (.mk (O "Pen")<|.o<|.glo<|O "WIDEST")
def ZbN:Sx:=.s 2 (.lstl .n)
def ZdL:Sx:=.s 3 (.lstl<|.o<|.ix V0 F1)
def ZaI:Tx:=.ex V3
def ZcA:Sx:=.s 4 (.ix (.ix V0 F0)<|.meth .pop V3 .n)
def Zcz:Sx:=.drp (.m "Pen" "take_place" V1 .n)
def Zcy:Sx:=.drp (.meth .app V2<|.o<|.f "front_of"<|.o V4)
def ZfN:Sx:=.drp (.meth .ext V3<|.o<|.lrv<|.f "parts_of"<|.o V4)
def Z6:Sxs:=.z ZcA Zcz Zcy ZfN
def ZbM:Sx:=.whl ZaI Z6
def ZhL:Sx:=.ret (.f "built"<|.o V2)
def ZcS:Sxs:=.y ZhM ZbN ZdL ZbM ZhL
def Zfb:Fd:=fd_ 1 ["state","pen","fronts","waiting","cell"] ZcS
end Grf
namespace Grf
open PySem L2 IV Tm
inductive Gc where
 |num (n:Int)|name (x:Str)|fn (x:Str) (e:Nat)|rcc (f x:Str) (e:Nat)|call (f a:Nat)|iff (c t e:Nat)|op (w:Wd) (a b:Nat)
noncomputable def Gc.fr:Gc->List D
 |.num n=>[.str<|O "num",.int n]
 |.name x=>[.str<|O "name",.str x]
 |.fn x _=>[.str<|O "fn",.str x]
 |.rcc f x _=>[.str<|O "rec",.str f,.str x]
 |.call _ _=>[.str<|O "call"]
 |.iff _ _ _=>[.str<|O "if"]
 |.op w _ _=>[.str w.s]
noncomputable def Gc.ps:Gc->List Nat
 |.num _|.name _=>[]
 |.fn _ e|.rcc _ _ e=>[e]
 |.call f a=>[f,a]
 |.iff c t e=>[c,t,e]
 |.op _ a b=>[a,b]
noncomputable def Gc.bd:Gc->List Str
 |.fn x _=>[x]
 |.rcc f x _=>[f,x]
 |_=>[]
noncomputable def Gc.isV:Gc->Bool
 |.num _|.fn _ _|.rcc _ _ _=>Ws
 |_=>Wt
noncomputable def nI(n:Nat):D:=.int (n:Int)
def Gc.d(c:Gc):D:=.tup (c.fr++c.ps.map nI)
noncomputable def Gc.wp:Gc->List Nat->Gc
 |.fn x _,[e]=>.fn x e
 |.rcc f x _,[e]=>.rcc f x e
 |.call _ _,[a,b]=>.call a b
 |.iff _ _ _,[a,b,c]=>.iff a b c
 |.op w _ _,[a,b]=>.op w a b
 |c,_=>c
def Ztz{c:Gc}{ms:List Nat}(h:ms.length=c.ps.length):(c.wp ms).fr=c.fr/\(c.wp ms).ps=ms:=by
 have two:∀{l:List Nat},l.length=2->∃a b,l=[a,b]:=λ{l} h=>match l,h with|[a,b],_=>⟨a,b,rfl⟩
 have three:∀{l:List Nat},l.length=3->∃a b c,l=[a,b,c]:=λ{l} h=>match l,h with|[a,b,c],_=>⟨a,b,c,rfl⟩
 cases c with
 |num n|name n=>cases List.length_eq_zero_iff.mp h;exact⟨rfl,rfl⟩
 |fn x e|rcc f x e=>obtain⟨a,rfl⟩:=(λh=>List.length_eq_one_iff.mp h) h;exact⟨rfl,rfl⟩
 |call f a|op w a b=>obtain⟨a,b,rfl⟩:=two h;exact⟨rfl,rfl⟩
 |iff c a b=>obtain⟨a,b,c,rfl⟩:=three h;exact⟨rfl,rfl⟩
def Fit:Gc->T->Prop
 |.num n,.num m=>n=m
 |.name x,.name y=>x=y
 |.fn x _,.fn y _=>x=y
 |.rcc f x _,.rcc g y _=>f=g/\x=y
 |.call _ _,.call _ _=>True
 |.iff _ _ _,.iff _ _ _=>True
 |.op w _ _,.op v _ _=>w=v
 |_,_=>False
inductive Rd(g:Nat->Option Gc):Nat->T->Prop
 |num:g i=J (.num n)->Rd g i (.num n)
 |name:g i=J (.name x)->Rd g i (.name x)
 |fn:g i=J (.fn x e)->Rd g e t->Rd g i (.fn x t)
 |rcc:g i=J (.rcc f x e)->Rd g e t->Rd g i (.rcc f x t)
 |call:g i=J (.call a b)->Rd g a s->Rd g b t->Rd g i (.call s t)
 |iff:g i=J (.iff a b c)->Rd g a s->Rd g b t->Rd g c u->Rd g i (.iff s t u)
 |op:g i=J (.op w a b)->Rd g a s->Rd g b t->Rd g i (.op w s t)
def Rd.inv(h:Rd g i t):∃c,g i=J c/\Fit c t/\Paired (Rd g) c.ps t.parts:=by
 cases h with
 |num e|name e=>exact⟨_,e,rfl,.nil⟩
 |fn e a=>exact⟨_,e,rfl,.cons a .nil⟩
 |rcc e a=>exact⟨_,e,⟨rfl,rfl⟩,.cons a .nil⟩
 |call e a b=>exact⟨_,e,trivial,.cons a<|.cons b .nil⟩
 |iff e a b c=>exact⟨_,e,trivial,.cons a<|.cons b<|.cons c .nil⟩
 |op e a b=>exact⟨_,e,rfl,.cons a<|.cons b .nil⟩
def Rd.mk{c}{t}(e:g i=J c)(f:Fit c t)(p:Paired (Rd g) c.ps t.parts):Rd g i t:=by
 cases c<;>cases t<;>simp[Fit]at f
 . subst f;exact .num e
 . subst f;exact .name e
 . subst f;cases p with|cons a q=>exact .fn e a
 . obtain⟨rfl,rfl⟩:=f;cases p with|cons a q=>exact .rcc e a
 . cases p with|cons a q=>cases q with|cons b q=>exact .call e a b
 . cases p with|cons a q=>cases q with|cons b q=>cases q with|cons c q=>exact .iff e a b c
 . subst f;cases p with|cons a q=>cases q with|cons b q=>exact .op e a b
def Rd.ind{P:Nat->T->Prop}(k:∀i t c,g i=J c->Fit c t->Paired (λn s=>Rd g n s/\P n s) c.ps t.parts->P i t):∀{i t},Rd g i t->P i t:=by
 intro i t h;induction h with
 |num e|name e=>exact k _ _ _ e rfl .nil
 |fn e a ia=>exact k _ _ _ e rfl (.cons ⟨a,ia⟩ .nil)
 |rcc e a ia=>exact k _ _ _ e ⟨rfl,rfl⟩ (.cons ⟨a,ia⟩ .nil)
 |call e a b ia ib=>exact k _ _ _ e trivial (.cons ⟨a,ia⟩<|.cons ⟨b,ib⟩ .nil)
 |iff e a b c ia ib ic=>exact k _ _ _ e trivial (.cons ⟨a,ia⟩<|.cons ⟨b,ib⟩<|.cons ⟨c,ic⟩ .nil)
 |op e a b ia ib=>exact k _ _ _ e rfl (.cons ⟨a,ia⟩<|.cons ⟨b,ib⟩ .nil)
def Zco{c}{t}(f:Fit c t):c.fr=Tm.fr t/\c.bd=bnd t/\c.isV=Tm.isV t/\c.ps.length=t.parts.length:=by
 cases c<;>cases t<;>simp[Fit]at f
 . subst f;trivial
 . subst f;trivial
 . subst f;trivial
 . obtain⟨rfl,rfl⟩:=f;trivial
 . trivial
 . trivial
 . subst f;trivial
def ZvV{c}{t u}(f:Fit c t)(f':Fit c u)(e:t.parts=u.parts):t=u:=by
 cases c<;>cases t<;>simp[Fit]at f<;>cases u<;>simp[Fit]at f'<;>simp[T.parts]at e
 . simp_all
 . simp_all
 . simp_all
 . simp_all
 . simp_all
 . simp_all
 simp_all
def Rd.one(h:Rd g i t):∀{u},Rd g i u->t=u:=by
 refine Rd.ind (P:=λi t=>∀{u},Rd g i u->t=u) (λi t c e f p u h'=>?_) h;obtain⟨c',e',f',p'⟩:=h'.inv;rw[e]at e';cases e';refine ZvV f f' ?_;have:∀{ns}{ts us},Paired (λn s=>Rd g n s/\∀{u},Rd g n u->s=u) ns ts->Paired (Rd g) ns us->ts=us:=by
  intro ns ts us q q';induction q generalizing us with
  |nil=>cases q';rfl
  |cons a q ih=>cases q' with|cons b q'=>rw[a.2 b,ih q']
 exact this p p'
def Rd.mono(h:Rd g i t){g'}(m:∀i c,g i=J c->g' i=J c):Rd g' i t:=Rd.ind (λi t c e f p=>Rd.mk (m i c e) f<|Paired.mapP p λ_ _ z=>z.2) h
noncomputable def wo(g:Nat->Option Gc)(x:Nat):Nat->Option Gc:=λi=>if i=x then M else g i
def Zml(h:i≠x):wo g x i=g i:=if_neg h
def ZV:∀i c,wo g x i=J c->g i=J c:=λi c e=>by
 unfold wo at e
 simp_all
def Zmx{t s:T}(h:s∈t.parts):s.size<t.size:=by
 rw[Zf t];have:∀l:List T,s∈l->s.size<=(l.map T.size).sum:=by
  intro l;induction l with
  |nil=>simp
  |cons a r ih=>
   intro h;rw[Op,OI];rcases O2.mp h with rfl|h
   . lia
   . lia
 have:=this _ h
 lia
theorem Paired.imp_mem{F G}:∀{l₁:List α}{l₂:List β},Paired F l₁ l₂->(∀a b,a∈l₁->b∈l₂->F a b->G a b)->Paired G l₁ l₂
 |_,_,.nil,_=>.nil
 |_,_,.cons r t,f=>.cons (f _ _ (.head _) (.head _) r) (Paired.imp_mem t λa b ha hb=>f a b (.tail _ ha)<|.tail _ hb)
theorem Rd.wo{tz}(hx:Rd g x tz)(h:Rd g i t)(hs:t.size<tz.size):Rd (Grf.wo g x) i t:=by
 exact Rd.ind (P:=λi t=>t.size<tz.size->Rd (Grf.wo g x) i t) (λi t c e f p hs=>Rd.mk ((Zml λz=>by
   subst z;have:=(Rd.mk e f<|Paired.mapP p λ_ _ z=>z.1).one hx
   simp_all).trans e) f (Paired.imp_mem p λn s _ hm z=>z.2<|Nat.lt_trans (Zmx hm) hs)) h hs
noncomputable def gl(G:List Gc):Nat->Option Gc:=λi=>G[i]?
noncomputable def rs(ns:List Str)(b:List Str):List Str:=ns.filter λx=>!Wu (x∈b)
def fin:List Str->T->Bool
 |_,.num _=>Wt
 |ns,.name x=>Wu (x∈ns)
 |ns,.fn x e=>fin (rs ns [x]) e
 |ns,.rcc f x e=>fin (rs ns [f,x]) e
 |ns,.call a b|ns,.op _ a b=>fin ns a||fin ns b
 |ns,.iff a b c=>fin ns a||(fin ns b||fin ns c)
def Zft(ns):rs ns []=ns:=by simp[rs]
noncomputable def mnt(ns:List Str):T->Bool
 |.name x=>Wu (x∈ns)
 |_=>Wt
def Zqz(ns)(t):fin ns t=(mnt ns t||t.parts.any (fin<|rs ns<|bnd t)):=by cases t<;>simp[fin,mnt,T.parts,bnd,Zft]
theorem Za5:∀t:T,fin [] t=Wt
 |.num _=>rfl
 |.name _=>by simp[fin]
 |.fn x e|.rcc f x e=>by simp[fin,rs,Za5 e]
 |.call a b|.op _ a b=>by simp[fin,Za5 a,Za5 b]
 |.iff a b c=>by simp[fin,Za5 a,Za5 b,Za5 c]
noncomputable def arN(qb:List (Str×T))(ns:List Str):Ar:=(qb.filter λp=>Wu<|p.1∈ns).map λp=>(p.1,J p.2)
def ZcL(qb:List (Str×T))(ns:List Str)(x:Str):get (arN qb ns) x=if x∈ns then get (qb.map λp=>(p.1,J p.2)) x else M:=by induction qb<;>grind [Tm.get,arN]
theorem Zaw:∀(t:T) {a b:Ar},(∀x,get a x=get b x)->sub a t=sub b t
 |.num _,_,_,_=>rfl
 |.name x,a,b,h=>by simp[sub,h x]
 |.fn x e,a,b,h=>by simp only[sub];rw[Zaw e (b:=(x,M)::b) λy=>by simp only[Tm.get];rw[h y]]
 |.rcc f x e,a,b,h=>by simp only[sub];rw[Zaw e (b:=(f,M)::(x,M)::b) λy=>by simp only[Tm.get];rw[h y]]
 |.call s t,a,b,h|.op w s t,a,b,h=>by simp only[sub];rw[Zaw s h,Zaw t h]
 |.iff s t u,a,b,h=>by simp only[sub];rw[Zaw s h,Zaw t h,Zaw u h]
def ZeR(qb)(ns)(t s):sub (inn t<|arN qb ns) s=sub (arN qb<|rs ns<|bnd t) s:=by
 refine Zaw s λx=>?_;have e:∀(bs:List Str) (a),get (bs.map (λy=>(y,M))++a) x=if x∈bs then M else get a x:=by
  intro bs a;induction bs with
  |nil=>simp
  |cons y bs ih=>
   rw[Op,List.cons_append];simp only[Tm.get];by_cases h:y=x
   . simp[h]
   . have h':¬ x=y:=λz=>h z.symm
     simp_all
 rw[show inn t (arN qb ns)=(bnd t).map (λy=>(y,M))++arN qb ns from rfl,e,ZcL,ZcL];by_cases h:x∈bnd t
 . simp[h,rs]
 . simp[h,rs]
theorem ZcD(qb:List (Str×T)):∀(t:T) (ns:List Str),fin ns t=Wt->sub (arN qb ns) t=t
 |.num _,_,_=>rfl
 |.name x,ns,h=>by simp only[sub];rw[ZcL,if_neg<|by simpa[fin]using h];rfl
 |.fn x e,ns,h=>by show T.fn x (sub (inn (.fn x e)<|arN qb ns) e)=_;rw[ZeR];exact congrArg (T.fn x) (ZcD qb e (rs ns [x]) h)
 |.rcc f x e,ns,h=>by show T.rcc f x (sub (inn (.rcc f x e)<|arN qb ns) e)=_;rw[ZeR];exact congrArg (T.rcc f x) (ZcD qb e (rs ns [f,x]) h)
 |.call a b,ns,h|.op w a b,ns,h=>by have h:=Bool.or_eq_false_iff.mp h;simp only[sub];rw[ZcD qb a ns h.1,ZcD qb b ns h.2]
 |.iff a b c,ns,h=>by have h:=Bool.or_eq_false_iff.mp h;have h2:=Bool.or_eq_false_iff.mp h.2;simp only[sub];rw[ZcD qb a ns h.1,ZcD qb b ns h2.1,ZcD qb c ns h2.2]
def ZsW{c}{t}{ar}{ms}(f:Fit c t)(m:mean ar t=M)(h:ms.length=c.ps.length):Fit (c.wp ms) (sub ar t):=by
 have two:∀{l:List Nat},l.length=2->∃a b,l=[a,b]:=λ{l} h=>match l,h with|[a,b],_=>⟨a,b,rfl⟩
 have three:∀{l:List Nat},l.length=3->∃a b c,l=[a,b,c]:=λ{l} h=>match l,h with|[a,b,c],_=>⟨a,b,c,rfl⟩
 cases c<;>cases t<;>simp[Fit]at f
 . trivial
 . simp[sub];rw[show get ar _=M from m];exact f
 . obtain⟨a,rfl⟩:=(λh=>List.length_eq_one_iff.mp h) h;exact f
 . obtain⟨a,rfl⟩:=(λh=>List.length_eq_one_iff.mp h) h;exact f
 . obtain⟨a,b,rfl⟩:=two h;exact f
 . obtain⟨a,b,c,rfl⟩:=three h;exact f
 . obtain⟨a,b,rfl⟩:=two h;exact f
def cc:List Str->T->Nat
 |_,.num _=>0
 |ns,.name x=>if x∈ns then 0 else 1
 |ns,.fn x e=>if fin (rs ns [x]) e then 1+cc (rs ns [x]) e else 0
 |ns,.rcc f x e=>if fin (rs ns [f,x]) e then 1+cc (rs ns [f,x]) e else 0
 |ns,.call a b|ns,.op _ a b=>1+(cc ns a+cc ns b)
 |ns,.iff a b c=>1+(cc ns a+(cc ns b+cc ns c))
def Zuc{ns}{t}(v:Tm.isV t=Ws->fin ns t=Ws)(m:mnt ns t=Wt):cc ns t=1+(t.parts.map<|cc<|rs ns<|bnd t).sum:=by
 cases t with
 |num n=>exact absurd (v rfl) (by simp[fin])
 |name x=>simp[mnt]at m;simp[cc,T.parts,m]
 |fn x e=>have q:fin (rs ns [x]) e=Ws:=v rfl;simp[cc,q,T.parts,bnd]
 |rcc f x e=>have q:fin (rs ns [f,x]) e=Ws:=v rfl;simp[cc,q,T.parts,bnd]
 |_=>simp[cc,T.parts,bnd,Zft]
theorem Zc3:∀(ns) (t),cc ns t<=t.size
 |_,.num _=>Yy _
 |ns,.name x=>by have:=ZI<|.name x;simp only[cc];split<;>lia
 |ns,.fn x e=>by have:=Zc3 (rs ns [x]) e;have:=zf x e;simp only[cc];split<;>lia
 |ns,.rcc f x e=>by have:=Zc3 (rs ns [f,x]) e;have:=zr f x e;simp only[cc];split<;>lia
 |ns,.call a b=>by have:=Zc3 ns a;have:=Zc3 ns b;have:=zc a b;simp only[cc];lia
 |ns,.iff a b c=>by have:=Zc3 ns a;have:=Zc3 ns b;have:=Zc3 ns c;have:=zi a b c;simp only[cc];lia
 |ns,.op w a b=>by have:=Zc3 ns a;have:=Zc3 ns b;have:=zo w a b;simp only[cc];lia
section
variable {P:Pg}{h:Hd}
structure Trs(P:Pg):Prop extends Gn.Tre P where
 bound_names:P.tb.lookup (O "bound_names")=J Tm.Za1
 front_of:P.tb.lookup (O "front_of")=J Tm.ZeD
structure Gs(P:Pg):Prop where
 b:Trs P
 pl:P.tb.lookup (O "places")=J Gn.Zdo
 gv:P.G (O "VALUES")=J (.tup [.str<|O "num",.str<|O "fn",.str<|O "rec"])
 gb:P.G (O "BEYOND")=J (.int 1000000)
 is_value:P.tb.lookup (O "is_value")=J Tm.ZbE
 parts_first:P.tb.lookup (O "parts_first")=J Tm.ZR
 chosen:P.tb.lookup (O "chosen")=J Tm.Zds
 worked:P.tb.lookup (O "worked")=J Tm.Zdn
 graph_begun:P.tb.lookup (O "graph_begun")=J Zeo
 first_open:P.tb.lookup (O "first_open_graph")=J ZaF
 next_cell:P.tb.lookup (O "next_cell")=J ZfX
 beneath:P.tb.lookup (O "beneath")=J Ziw
 is_meant:P.tb.lookup (O "is_meant")=J Zho
 free_beneath:P.tb.lookup (O "free_beneath")=J Zdr
 n_Copier___init__:P.tb.lookup (mnm (O "Copier")<|O "__init__")=M
 Copier___init__:P.ms.lookup (mnm (O "Copier")<|O "__init__")=J ZaH
 n_Copier_stand_in:P.tb.lookup (mnm (O "Copier")<|O "stand_in")=M
 Copier_stand_in:P.ms.lookup (mnm (O "Copier")<|O "stand_in")=J Zb1
 n_Copier_write_next:P.tb.lookup (mnm (O "Copier")<|O "write_next")=M
 Copier_write_next:P.ms.lookup (mnm (O "Copier")<|O "write_next")=J Zbk
 n_Copier_copied:P.tb.lookup (mnm (O "Copier")<|O "copied")=M
 Copier_copied:P.ms.lookup (mnm (O "Copier")<|O "copied")=J Zc1
 called:P.tb.lookup (O "called_graph")=J Zdt
 gone_on:P.tb.lookup (O "gone_on")=J Ziv
 written:P.tb.lookup (O "written")=J Zit
 graph_step:P.tb.lookup (O "graph_step")=J Zfa
structure Grr(P:Pg):Prop where
 b:Tm.Trb P
 w:Tm.Wid P
 s:Gs P
 gw:P.G (O "WIDEST")=J (.int 120)
 graph_read:P.tb.lookup (O "graph_read")=J Zfb
def ZbD(H:Trs P)(n)(h)(w)(ds)(e:ZH Gn.Za4 (.inr w)=M):run P (n+1) (O "front_of") [.tup (.str w::ds)] h=.ok (.tup (.str w::ds)) h:=by rw[Zd H.front_of rfl];show Ze (xs2 (P.tbl n) ZZ [J<|.tup (.str w::ds)] h)=_;rw[ZZ,Zb<|(Zq<|Gn.Zam H.toTre ⟨rfl,rfl⟩ Gn.ZbX e).trans<|Zb<|Zk rfl];rfl
def Zz(H:Trs P)(n)(h)(w)(ds)(a b)(e:ZH Gn.Za4 (.inr w)=J (.tup [.int a,.int b])):run P (n+1) (O "front_of") [.tup (.str w::ds)] h=.ok (.tup<|cutD (.str w::ds) M<|J<|1+a) h:=by rw[Zd H.front_of rfl];show Ze (xs2 (P.tbl n) ZZ [J<|.tup (.str w::ds)] h)=_;rw[ZZ,Za<|(Zo<|Gn.Zam H.toTre ⟨rfl,rfl⟩ Gn.ZbX e).trans rfl,Zb<|Zk<|(Gn.Zih rfl rfl<|Gn.Zfd<|Gn.Zhd H.toTre (U:=P.tbl n) ⟨rfl,rfl⟩ (ds:=ds) (h:=h) e).trans rfl];rfl
def ZiQ(H:Trs P)(n)(t)(h):run P (n+1) (O "front_of") [t.d] h=.ok (.tup<|fr t) h:=by
 cases t with
 |num z=>exact ZbD H n h (O "num") _ rfl
 |name x=>exact ZbD H n h (O "name") _ rfl
 |fn x e=>exact Zz H n h (O "fn") _ 1 1 rfl
 |rcc f x e=>exact Zz H n h (O "rec") _ 2 1 rfl
 |call f a=>exact Zz H n h (O "call") _ 0 2 rfl
 |iff c a b=>exact Zz H n h (O "if") _ 0 3 rfl
 |op w a b=>exact Zz H n h w.s _ 0 2 ZbA
def ZzZ(c:Gc):∃w ds,c.d=.tup (.str w::ds)/\c.isV=Wu (w=O "num" \/ w=O "fn" \/ w=O "rec"):=by
 cases c with
 |op w a b=>exact⟨_,_,rfl,by cases w<;>simp[Gc.isV]⟩
 |_=>exact⟨_,_,rfl,rfl⟩
def Zqn:ZaM GD (.tup (x::xs)) (.int 0) h=.ok x h:=by simp
def ZqW(H:Gs P)(n)(c:Gc):run P (n+1) (O "is_value") [c.d] h=.ok (.bl c.isV) h:=by obtain⟨w,ds,e,ev⟩:=ZzZ c;rw[Zd H.is_value rfl,e,ev];exact congrArg Ze (Zb<|Zk<|(Zt ((Zs rfl rfl).trans Zqn)<|show IV.ev (P.tbl n) (.glo<|O "VALUES") _ h=.ok _ h from congrArg (λo=>qd.ofO o h) H.gv).trans ZsP)
def Zgq(H:Gn.Tre P)(n)(c:Gc):run P (n+1) (O "parts_of") [c.d] h=.ok (.tup<|c.ps.map nI) h:=by
 cases c with
 |num z=>exact Gn.ZeX H n h (O "num") _ rfl
 |name x=>exact Gn.ZeX H n h (O "name") _ rfl
 |fn x e=>exact Gn.Z2 H n h (O "fn") _ 1 1 rfl
 |rcc f x e=>exact Gn.Z2 H n h (O "rec") _ 2 1 rfl
 |call f a=>exact Gn.Z2 H n h (O "call") _ 0 2 rfl
 |iff c a b=>exact Gn.Z2 H n h (O "if") _ 0 3 rfl
 |op w a b=>exact Gn.Z2 H n h w.s _ 0 2 ZbA
def Zns(H:Trs P)(n)(c:Gc):run P (n+1) (O "front_of") [c.d] h=.ok (.tup c.fr) h:=by
 cases c with
 |num z=>exact ZbD H n h (O "num") _ rfl
 |name x=>exact ZbD H n h (O "name") _ rfl
 |fn x e=>exact Zz H n h (O "fn") _ 1 1 rfl
 |rcc f x e=>exact Zz H n h (O "rec") _ 2 1 rfl
 |call f a=>exact Zz H n h (O "call") _ 0 2 rfl
 |iff c a b=>exact Zz H n h (O "if") _ 0 3 rfl
 |op w a b=>exact Zz H n h w.s _ 0 2 ZbA
def Zte(H:Trs P)(n)(c:Gc):run P (n+1) (O "bound_names") [c.d] h=.ok (.tup<|c.bd.map .str) h:=by
 have no:∀(w) (ds),ZH Gn.Za4 (.inr w)=M->run P (n+1) (O "bound_names") [.tup (.str w::ds)] h=.ok (.tup []) h:=λw ds e=>by rw[Zd H.bound_names rfl];show Ze (xs2 (P.tbl n) ZD [J<|.tup (.str w::ds)] h)=_;rw[ZD,Zb<|(Zq<|Gn.Zam H.toTre ⟨rfl,rfl⟩ Gn.ZbX e).trans<|Zb<|Zk rfl];rfl
 have yes:∀(w) (ds) (a b),ZH Gn.Za4 (.inr w)=J (.tup [.int a,.int b])->run P (n+1) (O "bound_names") [.tup (.str w::ds)] h=.ok (.tup<|cutD (.str w::ds) (J 1)<|J<|1+a) h:=λw ds a b e=>by rw[Zd H.bound_names rfl];show Ze (xs2 (P.tbl n) ZD [J<|.tup (.str w::ds)] h)=_;rw[ZD,Za<|(Zo<|Gn.Zam H.toTre ⟨rfl,rfl⟩ Gn.ZbX e).trans rfl,Zb<|Zk<|(Gn.Zih rfl rfl<|Gn.Zfd<|Gn.Zhd H.toTre (U:=P.tbl n) ⟨rfl,rfl⟩ (ds:=ds) (h:=h) e).trans rfl];rfl
 cases c with
 |num z=>exact no (O "num") _ rfl
 |name x=>exact no (O "name") _ rfl
 |fn x e=>exact yes (O "fn") _ 1 1 rfl
 |rcc f x e=>exact yes (O "rec") _ 2 1 rfl
 |call f a=>exact yes (O "call") _ 0 2 rfl
 |iff c a b=>exact yes (O "if") _ 0 3 rfl
 |op w a b=>exact yes w.s _ 0 2 ZbA
def Gc.pf:Gc->List Nat
 |.iff c _ _=>[c]
 |c=>c.ps
def ZyH(H:Gs P)(n:Nat)(c:Gc):run P (n+2) (O "parts_first") [c.d] h=.ok (.tup<|c.pf.map nI) h:=by
 rw[Zd H.parts_first rfl];have no:∀(w:Str) (ds:List D),c.d=.tup (.str w::ds)->w≠O "if" -> c.pf=c.ps->Ze (xs2 (P.tbl<|n+1) Zer [J c.d] h)=.ok (.tup<|c.pf.map nI) h:=λw ds e ne ep=>ep▸congrArg Ze ((Za<|(Zo<|Zm (ZaN ((Zs rfl rfl).trans<|e▸Zqn) rfl)<|decide_eq_false ne).trans rfl).trans<|Zb<|Zk<|Zi (Zgq H.b.toTre n c) rfl);cases c with
 |iff a b e=>exact congrArg Ze (Zb<|(Zq<|Zm (ZaN (x:=O "if") rfl rfl)<|decide_eq_true rfl).trans<|Zb<|Zk rfl)
 |num z|name x|fn x e|rcc f x e|call f e|op w f e=>exact no _ _ rfl (by simp) rfl
end
section
variable {P:Pg}
def fop(G:List Gc):List Nat->Option Nat
 |[]=>M
 |n::r=>match G[n]? with
  |some c=>if c.isV then fop G r else J n
  |none=>M
def oI:Option Nat->D
 |some n=>nI n
 |none=>.non
noncomputable def cl(G:List Gc):DO:=.lst (G.map Gc.d)
def Zwt{G:List Gc}{n:Nat}{c}(e:G[n]?=J c):atI (G.map Gc.d) n=J c.d:=by rw[IV.Zcd,On,e];rfl
def ZbG{U}{a b}{G}{h}{n}{c}(p:ev U a S h=.ok (.ref k) h)(q:ev U b S h=.ok (nI n) h)(hk:h[k]?=J (cl G))(e:G[n]?=J c):ev U (.ix a b) S h=.ok c.d h:=(Zs p q).trans ((ZA hk).trans (by rw[Zwt e];rfl))
theorem Zqh(H:Gs P)(n){G}{h}(hk:h[k]?=J (cl G)):∀(ns) (o),(∀m∈ns,∃c,G[m]?=J c)->(∃S q,fop G ns=J q/\ZW [] (.nm 2) (xs2 (P.tbl<|n+2) ZaE) (ns.map nI) [J<|.ref k,E,o] h=.ok (.rt<|nI q,S) h)\/(fop G ns=M/\∃o',ZW [] (.nm 2) (xs2 (P.tbl<|n+2) ZaE) (ns.map nI) [J<|.ref k,E,o] h=.ok (.nx,[J<|.ref k,E,o']) h)
 |[],o,_=>.inr ⟨rfl,o,rfl⟩
 |m::ns,o,hn=>by
  obtain⟨c,e⟩:=hn m<|.head _;have tt:tst (P.tbl<|n+2) Zcx [J<|.ref k,E,J<|nI m] h=.ok (!c.isV) h:=by show tst (P.tbl<|n+2) (.nt<|.ex<|.call (O "is_value")<|.cons (.ix (.var 0)<|.var 2) .nil) _ h=_;rw[ZoV,ZbF<|Zi (ZqW H (n+1) c)<|Zc (ZbG rfl rfl hk e) rfl];rfl
  cases v:c.isV with
  |false=>rw[v]at tt;exact .inl ⟨_,m,by simp[fop,e,v],Zqy rfl<|Zb<|(Zq tt).trans<|Zb<|Zk rfl⟩
  |true=>
   rw[v]at tt;have st:=Zhe (ds:=ns.map nI) (g:=.nm 2) (S:=[J<|.ref k,E,o]) rfl ((Za<|(Zo tt).trans rfl).trans rfl:xs2 (P.tbl<|n+2) ZaE _ h=_);rcases Zqh H n hk ns (J<|nI m) λx hx=>hn x (.tail _ hx)with⟨S,q,e1,e2⟩|⟨e1,o',e2⟩
   . exact .inl ⟨S,q,by simp[fop,e,v,e1],st.trans e2⟩
   . exact .inr ⟨by simp[fop,e,v,e1],o',st.trans e2⟩
def Zpi(H:Gs P)(n:Nat){G:List Gc}{h:Hd}(c:Gc)(hk:h[k]?=J (cl G))(hn:∀m∈c.ps,∃c,G[m]?=J c):run P (n+3) (O "first_open_graph") [.ref k,c.d] h=.ok (oI<|fop G c.pf) h:=by
 rw[Zd H.first_open rfl];have sub:∀m∈c.pf,m∈c.ps:=by
  intro m hm;cases c with
  |iff a b e=>rw[Ox.mp hm];exact .head _
  |_=>exact hm
 rcases Zqh H n (E:=J c.d) hk c.pf M λm hm=>hn m (sub m hm)with⟨S,q,e1,e2⟩|⟨e1,o',e2⟩
 . rw[e1];exact congrArg Ze (Zb<|(Zdl<|ZfD<|Zi (ZyH H n c) rfl).trans e2)
 . rw[e1];exact congrArg Ze ((Za<|(Zdl<|ZfD<|Zi (ZyH H n c) rfl).trans e2).trans<|Zb<|Zk rfl)
theorem Zhf{G}:∀{ns},fop G ns=M->(∀m∈ns,∃c,G[m]?=J c)->∀m∈ns,∃c,G[m]?=J c/\c.isV=Ws
 |[],_,_,m,hm=>by trivial
 |n::ns,h,hn,m,hm=>by
  obtain⟨c,e⟩:=hn n<|.head _;unfold fop at h;rw[e]at h;simp at h;split at h
  . rename_i v;rcases O2.mp hm with rfl|hm
    . exact⟨c,e,v⟩
    . exact Zhf h (λx hx=>hn x<|.tail _ hx) m hm
  trivial
theorem Zey{F}:∀{ns:List Nat}{ts:List T},Paired F ns ts->∀m∈ns,∃s∈ts,F m s
 |_,_,.nil,m,hm=>by trivial
 |_,_,.cons r t,m,hm=>by
  rcases O2.mp hm with rfl|hm
  . exact⟨_,.head _,r⟩
  . obtain⟨s,hs,q⟩:=Zey t m hm;exact⟨s,.tail _ hs,q⟩
def Rd.at(h:Rd (gl G) i t):∃c,G[i]?=J c/\Fit c t/\Paired (Rd<|gl G) c.ps t.parts/\∀m∈c.ps,∃c,G[m]?=J c:=by obtain⟨c,e,f,p⟩:=h.inv;refine⟨c,e,f,p,λm hm=>?_⟩;obtain⟨s,_,q⟩:=Zey p m hm;obtain⟨c',e',_⟩:=q.inv;exact⟨c',e'⟩
def vn(k r n:Nat)(o:Option Nat):Ev:=[J<|.ref k,J<|nI r,J<|nI n,J<|oI o]
def ZtS{c:Gc}:∀m∈c.pf,m∈c.ps:=by
 intro m hm;cases c with
 |iff a b e=>rw[Ox.mp hm];exact .head _
 |_=>exact hm
structure Fm(S_:List Nat)(h h':Hd):Prop where
 l:h.length<=h'.length
 o:∀i,i<h.length->i ∉ S_->h'[i]?=h[i]?
def Fm.refl{S_}{h}:Fm S_ h h:=⟨Oq _,λ_ _ _=>rfl⟩
theorem Fm.trans{S_}{h R h2}(a:Fm S_ h R)(b:Fm S_ R h2):Fm S_ h h2:=⟨OE a.l b.l,λi hi hs=>(b.o i (Ot hi a.l) hs).trans<|a.o i hi hs⟩
def Fm.app{S_}{h g}:Fm S_ h (h++g):=⟨by simp,λi hi _=>Oe hi⟩
theorem Fm.set{S_}{h}{i}{o}(hi:i∈S_):Fm S_ h (h.set i o):=⟨by simp,λj _ hs=>Oc λ(e:i=j)=>hs<|e▸hi⟩
def Fm.at{S_}{h h'}{i}{o}(a:Fm S_ h h')(e:h[i]?=J o)(hs:i ∉ S_):h'[i]?=J o:=(a.o i (ZF e) hs).trans e
def Fm.sub{S_ S'}{h h'}(a:Fm S_ h h')(q:∀i∈S_,i∈S'):Fm S' h h':=⟨a.l,λi hi hs=>a.o i hi λz=>hs<|q i z⟩
def Fm.cut{S_ S'}{h h'}(a:Fm S_ h h')(q:∀i∈S_,i∈S'\/h.length<=i):Fm S' h h':=⟨a.l,λi hi hs=>a.o i hi λz=>(q i z).elim hs λw=>absurd hi<|Nat.not_lt.mpr w⟩
theorem ZaT{α:Type}(dd)(p)(f){src}{g}{tt}{ee}{S}{h}(st:Wk.stays src h=Ws):∀(xs:List α) (ai),(∀x∈xs,∃ρ1,ZbI g (dd x) S=J ρ1/\tt ρ1 h=.ok (p x) h/\(p x=Ws->ee ρ1 h=.ok (f x) h))->ai.length+xs.length<=100000->Zx src g tt ee (xs.map dd) S ai h=.ok (ai++(xs.filter p).map f) h
 |[],ai,_,_=>by simp[Zx,st]
 |x::xs,ai,hx,hz=>by
  simp at hz;obtain⟨ρ1,b,t,e⟩:=hx x<|.head _;rw[Op,Zx,if_pos ⟨st,by rw[YC];lia⟩,b];simp;rw[t];cases q:p x with
  |true=>rw[show((qd.ok Ws h).plain.bind λb R=>if b then(ee ρ1 R).plain.bind λx h2=>Zx src g tt ee (xs.map dd) S (ai++[x]) h2 else Zx src g tt ee (xs.map dd) S ai R)=(ee ρ1 h).plain.bind λx h2=>Zx src g tt ee (xs.map dd) S (ai++[x]) h2 from rfl,e q];exact(ZaT dd p f st xs (ai++[f x]) (λy hy=>hx y<|.tail _ hy) (by simp;lia)).trans (by simp[q])
  |false=>exact(ZaT dd p f st xs ai (λy hy=>hx y<|.tail _ hy)<|by lia).trans (by simp[q])
def ZgD{h}(e:h[j]?=J (.lst xs)):Wk.stays [(j,xs)] h=Ws:=by simp[Wk.stays,e]
noncomputable abbrev Pr:=Nat×List Str
noncomputable def nD(ns:List Str):D:=.tup (ns.map .str)
def pD(p:Pr):D:=.tup [nI p.1,nD p.2]
noncomputable def pk(p:Pr):NK:=((p.1:Int),p.2)
theorem ZmA:∀ss ,strsOf (ss.map D.str)=J ss
 |[]=>rfl
 |s::r=>by rw[Op,strsOf,ZmA r];rfl
def Zvn(p):nkD (pD p)=J (pk p):=by show(strsOf<|p.2.map D.str).map (λss=>((p.1:Int),ss))=_;rw[ZmA];rfl
def ZiS{p q}(e:pk p=pk q):p=q:=by
 obtain⟨a,b⟩:=p;simp[pk,Int.natCast_inj]at e
 simp_all
def bn(c:Gc)(ns:List Str):List Pr:=c.ps.map λm=>(m,rs ns c.bd)
def Zex(c:Gc):c.ps.length<=3:=by cases c<;>simp[Gc.ps]
def Zik(H:Gs P)(n){G}{h}{m}{c}(hk:h[k]?=J (cl G))(e:G[m]?=J c)(ns)(hn:ns.length<=2):run P (n+2) (O "beneath") [.ref k,nI m,nD ns] h=.ok (.ref<|h.length+1) (h++[.lst<|(rs ns c.bd).map .str,.lst<|(bn c ns).map pD]):=by
 rw[Zd H.beneath rfl];have q4:ev (P.tbl<|n+1) (.blt .tup<|.cons (.comp [O "name",O "bound"] [M,J 4] (.pl<|.var 2) (.nm 0) (J<|.ex<|.cmp .NotIn (.var 0)<|.var 1)<|.var 0) .nil) [J<|.ref k,J<|nI m,J<|nD ns,J c.d,J<|.tup<|c.bd.map .str,M] h=.ok (nD<|rs ns c.bd) (h++[.lst<|(rs ns c.bd).map .str]):=Zhr (Zc (Zf0 (ZfD rfl)<|ZaT D.str (λx=>!Wu (x∈c.bd)) D.str (src:=[]) (g:=.nm 0) (tt:=tsto (P.tbl<|n+1)<|J<|.ex<|.cmp .NotIn (.var 0)<|.var 1) (ee:=ev (P.tbl<|n+1)<|.var 0) (S:=[M,J<|.tup<|c.bd.map .str]) (h:=h) rfl ns [] (λx _=>⟨[J<|.str x,J<|.tup<|c.bd.map .str],rfl,ZbF<|(Zt rfl rfl).trans Zf9,λ_=>rfl⟩) (by simp;lia)) rfl)<|ZtD Z0;have q5:=ZaT nI (λ_=>Ws) (λm=>pD (m,rs ns c.bd)) (src:=[]) (g:=.nm 0) (tt:=tsto (P.tbl<|n+1) M) (ee:=ev (P.tbl<|n+1)<|.tupl<|.cons (.var 0)<|.cons (.var 1) .nil) (S:=[M,J<|nD<|rs ns c.bd]) (h:=h++[.lst<|(rs ns c.bd).map .str]) rfl c.ps [] (λx _=>⟨[J<|nI x,J<|nD<|rs ns c.bd],rfl,rfl,λ_=>Zak rfl<|by simp⟩) (by have:=Zex c;simp;lia);have q6:ev (P.tbl<|n+1) (.comp [O "part",O "inner"] [M,J 5] (.pl<|.call (O "parts_of")<|.cons (.var 3) .nil) (.nm 0) M<|.tupl<|.cons (.var 0)<|.cons (.var 1) .nil) [J<|.ref k,J<|nI m,J<|nD ns,J c.d,J<|.tup<|c.bd.map .str,J<|nD<|rs ns c.bd] (h++[.lst<|(rs ns c.bd).map .str])=.ok (.ref<|h.length+1) (h++[.lst<|(rs ns c.bd).map .str,.lst<|(bn c ns).map pD]):=by rw[Zf0 (ZfD<|Zi (Zgq H.b.toTre n c) rfl) q5];simp[bn,List.filter_eq_self.mpr (λ(_:Nat) _=>rfl:∀a∈c.ps,(λ_=>Ws) a=Ws),YX]
 have w:xs2 (P.tbl<|n+1) ZiI [J<|.ref k,J<|nI m,J<|nD ns,M,M,M] h=.ok (.rt<|.ref<|h.length+1,_) _:=(Za<|Zg (i:=3)<|ZbG rfl rfl hk e).trans<|(Za<|Zg (i:=4)<|Zi (Zte H.b n c) rfl).trans<|(Za<|Zg (i:=5) q4).trans<|Zb<|Zk q6;exact congrArg Ze w
noncomputable def cm(ns:List Str):Gc->Bool
 |.name x=>Wu (x∈ns)
 |_=>Wt
def Zhy{c}{t}(f:Fit c t)(ns):cm ns c=mnt ns t:=by cases c<;>cases t<;>simp[Fit]at f<;>first|rfl|(subst f;rfl)
def ZdX(H:Gs P)(n:Nat)(c:Gc)(ns:List Str)(h:Hd):run P (n+1) (O "is_meant") [c.d,nD ns] h=.ok (.bl<|cm ns c) h:=by
 rw[Zd H.is_meant rfl];have no:∀(w:Str) (ds:List D),c.d=.tup (.str w::ds)->w≠O "name" -> cm ns c=Wt->Ze (xs2 (P.tbl n) ZeK [J c.d,J<|nD ns] h)=.ok (.bl<|cm ns c) h:=λw ds e ne ec=>by rw[ec,e];have q0:ev (P.tbl n) (.cmp .Eq (.ix (.var 0)<|.ci 0)<|.Ci_ "name") [J<|.tup (.str w::ds),J<|nD ns] h=.ok (.bl Wt) h:=(Zt ((Zs rfl rfl).trans Zqn) rfl).trans (by rw[Zlk,ZeZ];simp[ne]);exact congrArg Ze (Zb<|Zk (by rw[Zjd,ZfE,q0];rfl))
 cases c with
 |name x=>have q0:ev (P.tbl n) (.cmp .Eq (.ix (.var 0)<|.ci 0)<|.Ci_ "name") [J (Gc.name x).d,J<|nD ns] h=.ok (.bl Ws) h:=(Zt ((Zs rfl rfl).trans Zqn) rfl).trans (by rw[Zlk,ZeZ];simp);have q1:ev (P.tbl n) (.cmp .In (.ix (.var 0)<|.ci 1)<|.var 1) [J (Gc.name x).d,J<|nD ns] h=.ok (.bl<|Wu<|x∈ns) h:=(Zt (x:=.str x) rfl rfl).trans ZcG;have q:xs2 (P.tbl n) ZeK [J (Gc.name x).d,J<|nD ns] h=.ok (.rt<|.bl<|Wu<|x∈ns,_) h:=Zb (Zk (by rw[Zjd,ZfE,q0];exact q1));exact congrArg Ze q
 |op w a b=>exact no _ _ rfl (by cases w<;>simp[Wd.s]) rfl
 |num z|fn x e|rcc f x e|call f e|iff f e g=>exact no _ _ rfl (by simp) rfl
def ZjG(kv)(k k')(v):valN (putN kv k v) k'=if k=k' then J v else valN kv k':=by
 have A:∀kv ,valN (kv.map λkv=>if kv.1=k then(kv.1,v)else kv) k'=if k=k' then(if (kv.any λkv=>Wu<|kv.1=k)=Ws then J v else M)else valN kv k':=by
  intro kv;induction kv with
  |nil=>simp[valN]
  |cons p r ih=>
   unfold valN at ih ⊢;by_cases e:p.1=k
   . by_cases e':p.1=k'<;>simp_all
   . by_cases e':p.1=k'
     . subst e';have e2:¬ k=p.1:=λz=>e z.symm;simp[e,e2]
     . rw[Op,if_neg e,Wm,Wm,Wa];simp only[e',decide_false,decide_eq_false e,Bool.false_or];exact ih
 have B_:∀kv:List (NK×D),(kv.any λkv=>Wu<|kv.1=k)=Wt->valN (kv++[(k,v)]) k'=if k=k' then J v else valN kv k':=by
  intro kv;induction kv with
  |nil=>intro _;by_cases e:k=k'<;>simp[valN,e]
  |cons p r ih=>
   intro h;rw[Wa,Bool.or_eq_false_iff]at h;have ih:=ih h.2;have ne:¬ p.1=k:=by simpa using h.1
   unfold valN at ih ⊢;by_cases e':p.1=k'
   . subst e';have e2:¬ k=p.1:=λz=>ne z.symm;simp[e2]
   . simp only[List.cons_append,Wm,e',decide_false];exact ih
 unfold putN;by_cases q:(kv.any λkv=>Wu<|kv.1=k)=Ws
 . rw[if_pos q,A,if_pos q]
 . rw[if_neg q,B_ _<|Bool.eq_false_iff.mpr q]
def ZmJ(kv)(k)(v):(putN kv k v).length<=kv.length+1:=by unfold putN;split<;>simp
def inN(kv:List (NK×D))(p:Pr):Bool:=(valN kv<|pk p).isSome
def Zg8:inN (putN kv (pk p) v) q=(Wu (p=q)||inN kv q):=by
 unfold inN;rw[ZjG];by_cases e:p=q
 . subst e;simp
 . have:=λz=>e (ZiS z)
   simp_all
def ZqE{U}{S}{h}{a b}(x:ev U a S h=.ok (pD p) h)(y:ev U b S h=.ok (.ref j) h)(hj:h[j]?=J (.dnk kv)):ev U (.nin Ws a b) S h=.ok (.bl<|!inN kv p) h:=by show(ev U a S h).bind (λx R=>(ev U b S R).bind λy h2=>Zmg Ws x y h2)=_;rw[x,bind_ok,y,bind_ok];unfold Zmg Zoo;simp only[hj,Zvn];rfl
def Zhq{U}{S}{h}{a b}(x:ev U a S h=.ok (.ref j) h)(y:ev U b S h=.ok (pD p) h)(hj:h[j]?=J (.dnk kv))(hv:valN kv (pk p)=J v):ev U (.nix a b) S h=.ok v h:=by show(ev U a S h).bind (λx R=>(ev U b S R).bind λy h2=>Zq4 x y h2)=_;rw[x,bind_ok,y,bind_ok];unfold Zq4 Zoo;simp only[hj,Zvn,hv];rfl
def ZtU{U}{S}{h R}{o i e}(z:ev U e S h=.ok v R)(x:ev U o S R=.ok (.ref j) R)(y:ev U i S R=.ok (pD p) R)(hj:R[j]?=J (.dnk kv))(hl:kv.length<=100000):xs1 U (.npt o i e) S h=.ok (.nx,S) (R.set j<|.dnk<|putN kv (pk p) v):=by show(ev U e S h).bind (λx R=>(ev U o S R).bind λy h2=>(ev U i S h2).bind λz h3=>(Zq3 y z x h3).bind λ_ h4=>qd.ok (Fl.nx,S) h4)=_;rw[z,bind_ok,x,bind_ok,y,bind_ok];unfold Zq3;simp[hj,Zvn];rw[if_pos (by rw[YC];lia)];rfl
def Zj6{h}(e:h[i]?=J (.lst ys))(e':h[j]?=J (.lst zs))(ne:i≠j)(hz:ys.length+zs.length<=100000):Zax .ext (.ref i) [.ref j] h=.ok .non (h.set i<|.lst<|ys++zs):=by
 have:ys.length+zs.length<=Yc:=by rw[YC];lia
 simp[Zax,Zfv,ZsA,e,e',this]
def ZhU(G:List Gc)(kv:List (NK×D)):Prop:=∀p v,valN kv (pk p)=J v->∀t,Rd (gl G) p.1 t->v=.bl (fin p.2 t)
def ZoI(G:List Gc)(kv:List (NK×D)):Prop:=∀p,inN kv p=Ws->∀c,G[p.1]?=J c->∀q∈bn c p.2,q.2≠[]->inN kv q=Ws
structure Sf(G:List Gc)(k fk wk:Nat)(h0 h:Hd)(kv:List (NK×D))(W:List Pr):Prop where
 c:h[k]?=J (cl G)
 f:h[fk]?=J (.dnk kv)
 w:h[wk]?=J (.lst<|W.map pD)
 m:Fm [fk,wk] h0 h
 ok:ZhU G kv
 cd:ZoI G kv
 nk:k≠wk
def ef(k s fk wk:Nat)(ns:List Str)(a b c:Option D):Ev:=[J<|.ref k,J<|nI s,J<|nD ns,J<|.ref fk,J<|.ref wk,a,b,c]
def lf(P:Pg)(n F:Nat):Ev->Hd->qd (Fl×Ev):=ZE (tst (P.tbl<|n+3) Z9) (xs2 (P.tbl<|n+3) Z8) F
def wn(c:Gc)(ns:List Str):List Pr:=(bn c ns).filter λp=>!p.2.isEmpty
def Zsb{U}{S}{h}{a}(x:ev U a S h=.ok (pD p) h):ev U (.ix a<|.ci 0) S h=.ok (nI p.1) h:=(Zs x rfl).trans rfl
def Zsa{U}{S}{h}{a}(x:ev U a S h=.ok (pD p) h):ev U (.ix a<|.ci 1) S h=.ok (nD p.2) h:=(Zs x rfl).trans rfl
def ZqC{U}{S}{h}{a}{W}{p}(x:ev U a S h=.ok (.ref j) h)(hj:h[j]?=J (.lst<|(W++[p]).map pD)):ev U (.ix a<|.neg<|.ci 1) S h=.ok (pD p) h:=by rw[List.map_append]at hj;exact(Zs x rfl).trans ((ZA hj).trans<|congrArg (λo=>qd.ofO o h)<|ZkU)
def Zng{U}{S}{h R}{e}(p:ev U e S h=.ok (.ref i) R)(l:R[i]?=J (.lst xs)):evi U (.pl e) S h=.ok ⟨[(i,xs)],xs⟩ R:=by rw[ZlO,p];simp[ZaA,l]
def Zo8(ns b):(rs ns b).length<=ns.length:=List.length_filter_le _ _
def Zun{U}{S}{h}{a}(x:ev U a S h=.ok (pD p) h):tst U (.ex<|.ix a<|.ci 1) S h=.ok (!p.2.isEmpty) h:=by rw[ZoW,Zsa x];show qd.ofO (J<|!(p.2.map D.str).isEmpty) h=_;simp
def ZtZ(H:Gs P)(n){G}{h0 h}{kv}{W}{m:Nat}{ns ms:List Str}{c}(s:Sf G k fk wk h0 h kv (W++[(m,ns)]))(hn:ns.length<=2)(e:G[m]?=J c)(a b d):∃i j h',xs1 (P.tbl<|n+3) ZbP (ef k r fk wk ms a b d) h=.ok (.nx,ef k r fk wk ms (J<|.ref i) b d) h'/\h'[i]?=J (.lst<|(wn c ns).map pD)/\(∃h'',xs1 (P.tbl<|n+3) ZbO (ef k r fk wk ms (J<|.ref i) b d) h'=.ok (.nx,ef k r fk wk ms (J<|.ref i) (J<|.ref j) d) h''/\h''[i]?=J (.lst<|(wn c ns).map pD)/\h''[j]?=J (.lst<|((wn c ns).filter λp=>!inN kv p).map pD)/\(∃g,h''=h++g)/\h.length<=i/\h.length<=j):=by
 have lb:(bn c ns).length<=3:=by unfold bn;rw[Yu];exact Zex c
 have e1:ev (P.tbl<|n+3) (.call (O "beneath")<|.cons (.var 0)<|.cons (.ix (.ix (.var 4)<|.neg<|.ci 1)<|.ci 0)<|.cons (.ix (.ix (.var 4)<|.neg<|.ci 1)<|.ci 1) .nil) (ef k r fk wk ms a b d) h=_:=Zi (Zik H (n+1) s.c e ns hn)<|Zc rfl<|Zc (Zsb<|ZqC rfl s.w)<|Zc (Zsa<|ZqC rfl s.w) rfl;have b1:(h++[DO.lst<|(rs ns c.bd).map .str,.lst<|(bn c ns).map pD])[h.length+1]?=J (.lst<|(bn c ns).map pD):=Zq7;have kf:(h++[DO.lst<|(rs ns c.bd).map .str,.lst<|(bn c ns).map pD])[fk]?=J (.dnk kv):=keep s.f;have hx:∃g,h++[DO.lst<|(rs ns c.bd).map .str,.lst<|(bn c ns).map pD]=h++g:=⟨_,rfl⟩
 generalize h++[DO.lst<|(rs ns c.bd).map .str,.lst<|(bn c ns).map pD]=R at *;have lw:(wn c ns).length<=3:=OE (List.length_filter_le _ _) lb;have lL:(R++[DO.lst<|(wn c ns).map pD])[fk]?=J (.dnk kv):=keep kf;have e4:=ZaT pD (λp=>!inN kv p) pD (src:=[(R.length,(wn c ns).map pD)]) (g:=.nm 0) (tt:=tsto (P.tbl<|n+3)<|J<|.ex<|.nin Ws (.var 0)<|.var 1) (ee:=ev (P.tbl<|n+3)<|.var 0) (S:=[M,J<|.ref fk]) (ZgD Z0) (wn c ns) [] (λx _=>⟨[J<|pD x,J<|.ref fk],rfl,ZbF<|ZqE rfl rfl lL,λ_=>rfl⟩) (by simp;lia);obtain⟨g,rfl⟩:=hx;refine⟨_,_,_,Zg (i:=5)<|Zf0 (Zng e1 b1)<|ZaT pD (λp=>!p.2.isEmpty) pD (src:=[(h.length+1,(bn c ns).map pD)]) (g:=.nm 0) (tt:=tsto (P.tbl<|n+3)<|J<|.ex<|.ix (.var 0)<|.ci 1) (ee:=ev (P.tbl<|n+3)<|.var 0) (S:=[M]) (ZgD b1) (bn c ns) [] (λx _=>⟨[J<|pD x],rfl,Zun rfl,λ_=>rfl⟩) (by simp;lia),Z0,_,Zg (i:=6)<|Zf0 (Zng rfl Z0) e4,keep Z0,Z0,⟨_,by rw[Oz,Oz]⟩,by simp,by simp ⟩
def Zls:p∈bn c ns↔p.1∈c.ps/\p.2=rs ns c.bd:=by
 unfold bn;rw[List.mem_map];constructor
 . rintro ⟨q,hq,rfl⟩;trivial
 . intro h;exact⟨p.1,h.1,by rw[<-h.2]⟩
def Zp6:p∈wn c ns↔p.1∈c.ps/\p.2=rs ns c.bd/\p.2≠[]:=by unfold wn;rw[List.mem_filter,Zls,and_assoc];simp
def Sf.ne(s:Sf G k fk wk h0 h kv W):k≠fk/\fk≠wk:=⟨λz=>(by have a:=s.c;rw[z,s.f]at a;cases a),λz=>(by have a:=s.f;rw[z,s.w]at a;cases a)⟩
def ZyP{h}{bs:List Bool}(e:h[i]?=J (.lst<|bs.map .bl)):Zaj GD .anb [.ref i] h=.ok (.bl<|bs.any id) h:=by
 have:∀bs ,ZhD (bs.map D.bl)=J bs:=by
  intro bs;induction bs with
  |nil=>rfl
  |cons b r ih=>rw[Op,ZhD,ih];rfl
 show qd.ofO (((lstOf (.ref i) h).bind ZhD).map λbs=>D.bl<|bs.any id) h=_;rw[show lstOf (.ref i) h=J (bs.map D.bl) by simp[lstOf,e],Yz,this];rfl
def fv(kv:List (NK×D))(p:Pr):Bool:=match valN kv (pk p)with
 |some (.bl b)=>b
 |_=>Wt
def Zqv{G}{kv}(ok:ZhU G kv)(i:inN kv p=Ws)(rd:Rd (gl G) p.1 t):valN kv (pk p)=J (.bl<|fv kv p)/\fv kv p=fin p.2 t:=by obtain⟨v,e⟩:=Option.isSome_iff_exists.mp i;have:=ok p v e t rd;subst this;unfold fv;rw[e];simp
def Zwu{G}{kv}(ok:ZhU G kv)(ns):∀{ps}{ts},Paired (Rd<|gl G) ps ts->(∀p∈(ps.map λm=>(m,ns)).filter λp=>!p.2.isEmpty,inN kv p=Ws)->(((ps.map λm=>(m,ns)).filter λp=>!p.2.isEmpty).map<|fv kv).any id=ts.any (fin ns):=by
 intro ps ts q hi;induction q with
 |nil=>rfl
 |@cons m t ps ts a q ih=>
  rw[Op,List.filter_cons]at hi ⊢;cases ns with
  |nil=>rw[Wa,Za5,<-ih λp hp=>hi p<|by trivial];rfl
  |cons x r=>have yes:(!(m,x::r).2.isEmpty)=Ws:=rfl;rw[if_pos yes]at hi ⊢;rw[Op,Wa,ih λp hp=>hi p<|.tail _ hp,(Zqv ok (hi (m,x::r)<|.head _) a).2];rfl
def Zt0(H:Gs P)(n){G}{h0 h}{kv}{W}{m}{ns ms}{c}{t}(s:Sf G k fk wk h0 h kv (W++[(m,ns)]))(hn:ns.length<=2)(e:G[m]?=J c)(f:Fit c t)(pp:Paired (Rd<|gl G) c.ps t.parts)(all:∀p∈wn c ns,inN kv p=Ws)(hl:kv.length<=100000)(a b d):∃h' a' b' d',xs2 (P.tbl<|n+3) Z8 (ef k r fk wk ms a b d) h=.ok (.nx,ef k r fk wk ms a' b' d') h'/\Sf G k fk wk h0 h' (putN kv (pk (m,ns))<|.bl<|fin ns t) W:=by
 obtain⟨i,j,h',x1,_,h2,x2,ki,kj,⟨g,rfl⟩,li,lj⟩:=ZtZ H n (r:=r) (ms:=ms) s hn e a b d;rw[List.filter_eq_nil_iff.mpr λp hp=>by simp[all p hp]]at kj;have kw:(h++g)[wk]?=J (.lst<|W.map pD++[pD (m,ns)]):=by rw[keep s.w];simp
 have kc:(h++g)[k]?=J (cl G):=keep s.c;have kf:(h++g)[fk]?=J (.dnk kv):=keep s.f;have fm:Fm [fk,wk] h0 (h++g):=s.m.trans .app;have lw:=ZF s.w;have lf:=ZF s.f;generalize h++g=h2 at *;have x3:xs1 (P.tbl<|n+3) ZaO (ef k r fk wk ms (J<|.ref i) (J<|.ref j) d) h2=.ok (.nx,ef k r fk wk ms (J<|.ref i) (J<|.ref j)<|J<|pD (m,ns)) (h2.set wk<|.lst<|W.map pD):=Zg (i:=7)<|Zdu (i:=wk) rfl kw rfl<|Zdg kw;have lD:(h2.set wk<|.lst<|W.map pD)[wk]?=J (.lst<|W.map pD):=by rw[Ol<|ZF kw]
 have j3:(h2.set wk<|.lst<|W.map pD)[k]?=J (cl G):=by rw[Oc<|λz=>s.nk z.symm];exact kc
 have fG:(h2.set wk<|.lst<|W.map pD)[fk]?=J (.dnk kv):=by rw[Oc<|λz=>s.ne.2 z.symm];exact kf
 have j2:(h2.set wk<|.lst<|W.map pD)[i]?=J (.lst<|(wn c ns).map pD):=by rw[Oc<|by lia];exact ki
 have gS:Fm [fk,wk] h0 (h2.set wk<|.lst<|W.map pD):=fm.trans (.set<|by simp);generalize h2.set wk (.lst<|W.map pD)=h3 at *;have be:∀p∈wn c ns,valN kv (pk p)=J (.bl<|fv kv p):=λp hp=>by obtain⟨s',_,rd⟩:=Zey pp p.1 (Zp6.mp hp).1;exact(Zqv s.ok (all _ hp) rd).1
 have lu:(wn c ns).length<=3:=OE (List.length_filter_le _ _) (by unfold bn;rw[Yu];exact Zex c);have e2:=ZaT pD (λ_=>Ws) (λp=>D.bl<|fv kv p) (src:=[(i,(wn c ns).map pD)]) (g:=.nm 0) (tt:=tsto (P.tbl<|n+3) M) (ee:=ev (P.tbl<|n+3)<|.nix (.var 1)<|.var 0) (S:=[M,J<|.ref fk]) (ZgD j2) (wn c ns) [] (λx hx=>⟨[J<|pD x,J<|.ref fk],rfl,rfl,λ_=>Zhq (j:=fk) (p:=x) rfl rfl fG<|be x hx⟩) (by simp;lia);have ny:ev (P.tbl<|n+3) (.comp [O "part",O "free"] [M,J 3] (.pl<|.var 5) (.nm 0) M<|.nix (.var 1)<|.var 0) (ef k r fk wk ms (J<|.ref i) (J<|.ref j)<|J<|pD (m,ns)) h3=.ok (.ref h3.length) (h3++[.lst<|((wn c ns).map<|fv kv).map .bl]):=by rw[Zf0 (Zng (i:=i) rfl j2) e2,List.filter_eq_self.mpr<|λ_ _=>rfl,List.map_map];rfl
 have e3:ev (P.tbl<|n+3) (.blt .anb<|.cons (.comp [O "part",O "free"] [M,J 3] (.pl<|.var 5) (.nm 0) M<|.nix (.var 1)<|.var 0) .nil) (ef k r fk wk ms (J<|.ref i) (J<|.ref j)<|J<|pD (m,ns)) h3=.ok (.bl<|t.parts.any<|fin<|rs ns c.bd) (h3++[.lst<|((wn c ns).map<|fv kv).map .bl]):=by rw[Zhr (Zc ny rfl)<|ZyP Z0];rw[show((wn c ns).map<|fv kv).any id=t.parts.any (fin<|rs ns c.bd)from Zwu s.ok (rs ns c.bd) pp all]
 have ff:fin ns t=(cm ns c||t.parts.any (fin<|rs ns c.bd)):=by rw[Zqz,Zhy f,(Zco f).2.1]
 have e4:∃g,ev (P.tbl<|n+3) (.ors<|.cons (.call (O "is_meant")<|.cons (.ix (.var 0)<|.ix (.var 7)<|.ci 0)<|.cons (.ix (.var 7)<|.ci 1) .nil)<|.cons (.blt .anb<|.cons (.comp [O "part",O "free"] [M,J 3] (.pl<|.var 5) (.nm 0) M<|.nix (.var 1)<|.var 0) .nil) .nil) (ef k r fk wk ms (J<|.ref i) (J<|.ref j)<|J<|pD (m,ns)) h3=.ok (.bl<|fin ns t) (h3++g):=by
  rw[ZqD,Zko,Zi (ZdX H (n+2) c ns h3)<|Zc (ZbG (k:=k) (n:=m) rfl (Zsb (p:=(m,ns)) rfl) j3 e)<|Zc (Zsa (p:=(m,ns)) rfl) rfl,Zu,ff];cases cm ns c with
  |true=>exact⟨[],by rw[Yt];rfl⟩
  |false=>exact⟨_,e3⟩
 obtain⟨g',e4⟩:=e4;have x4:=ZtU (o:=.var 3) (i:=.var 7) (p:=(m,ns)) e4 rfl rfl (keep fG) hl;refine⟨_,_,_,_,(Za x1).trans<|(Za x2).trans<|(Za<|(Zo<|ZgA (i:=j) rfl kj).trans<|(Za x3).trans<|(Za x4).trans rfl).trans rfl,?_⟩;have lM:(h3++g')[k]?=J (cl G):=keep j3;have lC:(h3++g')[wk]?=J (.lst<|W.map pD):=keep lD;have gI:(h3++g')[fk]?=J (.dnk kv):=keep fG;refine⟨by rw[Oc<|λz=>s.ne.1 z.symm];exact lM,by rw[Ol<|ZF gI],by rw[Oc s.ne.2];exact lC,(gS.trans .app).trans<|.set<|by simp,?_,?_,s.nk⟩
 . intro p v hv t' c8;rw[ZjG]at hv;by_cases z:pk (m,ns)=pk p
   . rw[if_pos z]at hv;cases hv;have z:=ZiS z;subst z;rw[(Rd.mk e f pp).one c8]
   . rw[if_neg z]at hv;exact s.ok p v hv t' c8
 . intro p hp c' e' q hq j8;rw[Zg8]at hp ⊢;rw[Wo];refine .inr ?_;rcases Wo _ _▸hp with z|z
   . have z:=of_decide_eq_true z;subst z;rw[e]at e';cases e';exact all q (Zp6.mpr ⟨(Zls.mp hq).1,(Zls.mp hq).2,j8⟩)
   . exact s.cd p z c' e' q hq j8
noncomputable def smz(VS:List (Pr×T)):Nat:=(VS.map λx=>x.2.size).sum
def Zcr(x)(VS):smz (x::VS)=x.2.size+smz VS:=rfl
def Zgj(VS):smz VS.reverse=smz VS:=by unfold smz;simp
theorem ZiM:∀VS ,VS.length<=smz VS
 |[]=>Oq _
 |x::VS=>by have:=ZiM VS;have:=ZI x.2;rw[Zcr,Os];lia
def ccs(VS:List (Pr×T)):Nat:=(VS.map λx=>cc x.1.2 x.2).sum
def Zky(x)(VS):ccs (x::VS)=cc x.1.2 x.2+ccs VS:=rfl
theorem ZkY{g:Nat->Option Gc}(ns:List Str)(φ:Pr->Bool):∀{ps:List Nat}{ts:List T},Paired (Rd g) ps ts->∃VS:List (Pr×T),VS.map (·.1)=(ps.map λm=>(m,ns)).filter φ/\(∀x∈VS,Rd g x.1.1 x.2/\x.1.2=ns)/\smz VS<=(ts.map T.size).sum/\ccs VS<=(ts.map<|cc ns).sum
 |_,_,.nil=>⟨[],rfl,λ_ h=>(by cases h),Oq _,Oq _⟩
 |_,_,.cons (a:=m) (b:=t) r q=>by
  obtain⟨VS,e,hx,hz,hc⟩:=ZkY ns φ q;rw[Op,Op,List.filter_cons,OI,Op,OI];cases φ (m,ns)with
  |true=>exact⟨((m,ns),t)::VS,by simp_all,λx h=>(O2.mp h).elim (λz=>z▸⟨r,rfl⟩)<|hx x,by rw[Zcr];lia,by show cc ns t+ccs VS<=_;lia⟩
  |false=>exact⟨VS,e,hx,by lia,by lia⟩
def ZvX(H:Gs P)(n){G}{h0 h}{kv}{W}{m:Nat}{ns ms}{c}(s:Sf G k fk wk h0 h kv (W++[(m,ns)]))(hn:ns.length<=2)(e:G[m]?=J c)(jS:((wn c ns).filter λp=>!inN kv p)≠[])(hl:W.length<=30000)(a b d):∃h' a' b' d',xs2 (P.tbl<|n+3) Z8 (ef k r fk wk ms a b d) h=.ok (.nx,ef k r fk wk ms a' b' d') h'/\Sf G k fk wk h0 h' kv (W++[(m,ns)]++(wn c ns).filter λp=>!inN kv p):=by obtain⟨i,j,h',x1,_,h2,x2,ki,kj,⟨g,rfl⟩,li,lj⟩:=ZtZ H n (r:=r) (ms:=ms) s hn e a b d;have lu:((wn c ns).filter λp=>!inN kv p).length<=3:=OE (List.length_filter_le _ _) (OE (List.length_filter_le _ _) (by unfold bn;rw[Yu];exact Zex c));generalize ((wn c ns).filter λp=>!inN kv p)=U at *;have kw:(h++g)[wk]?=J (.lst<|(W++[(m,ns)]).map pD):=keep s.w;have kc:(h++g)[k]?=J (cl G):=keep s.c;have kf:(h++g)[fk]?=J (.dnk kv):=keep s.f;have fm:Fm [fk,wk] h0 (h++g):=s.m.trans .app;have lw:=ZF s.w;generalize h++g=h2 at *;exact⟨_,_,_,_,(Za x1).trans<|(Za x2).trans<|(Za<|(Zq<|Zm (ZgA rfl kj)<|by simp_all).trans<|(Za<|Zb2<|Zdu rfl kw rfl<|Zj6 kw kj (by lia) (by simp;lia)).trans rfl).trans rfl,⟨(Oc<|λz=>s.nk z.symm).trans kc,(Oc<|λz=>s.ne.2 z.symm).trans kf,by rw[Ol<|ZF kw,List.map_append (l₁:=W++[(m,ns)])],fm.trans<|.set<|by simp,s.ok,s.cd,s.nk⟩⟩
def Zne(n){G}{h0 h}{kv}{W}(s:Sf G k fk wk h0 h kv W)(a b d):tst (P.tbl<|n+3) Z9 (ef k r fk wk ms a b d) h=.ok (!W.isEmpty) h:=Zm (ZgA rfl s.w) (by simp)
def Gf(P:Pg)(n:Nat)(G:List Gc)(k fk wk:Nat)(h0:Hd)(r:Nat)(ms:List Str)(z:Nat)(W U:List Pr)(h:Hd)(kv:List (NK×D))(a b d:Option D):Prop:=∃q h' gH a' b' d',q<=2*z/\(∀F,lf P n (F+q) (ef k r fk wk ms a b d) h=lf P n F (ef k r fk wk ms a' b' d') h')/\Sf G k fk wk h0 h' gH W/\gH.length<=kv.length+q/\(∀p,inN kv p=Ws->inN gH p=Ws)/\∀p∈U,inN gH p=Ws
theorem Zyg(H:Gs P)(n){G}{h0}{r}{ms}:∀ (z) (t:T) (m:Nat) (ns:List Str) (W:List Pr) (h:Hd) (kv:List (NK×D)) (a b d:Option D),t.size<=z->Rd (gl G) m t->ns.length<=2->Sf G k fk wk h0 h kv (W++[(m,ns)])->W.length+t.size<=30000->kv.length+2*t.size<=100000->Gf P n G k fk wk h0 r ms t.size W [(m,ns)] h kv a b d
 |0,t,m,ns,W,h,kv,a,b,d,hz,_,_,_,_,_=>by have:=ZI t;lia
 |z+1,t,m,ns,W,h,kv,a,b,d,hz,rd,hn,s,hW,hk=>by
   have L:∀ (VS:List (Pr×T)) (W:List Pr) (h:Hd) (kv:List (NK×D)) (a b d:Option D),(∀ x∈VS,Rd (gl G) x.1.1 x.2/\x.1.2.length<=2)->smz VS<=z->Sf G k fk wk h0 h kv (W++(VS.map (·.1)).reverse)->W.length+smz VS<=30000->kv.length+2*smz VS<=100000->Gf P n G k fk wk h0 r ms (smz VS) W (VS.map (·.1)) h kv a b d:=by
     intro VS;induction VS with
     |nil=>intro W h kv a b d _ _ s _ _;exact⟨0,h,kv,a,b,d,Yy _,λF=>rfl,by simpa using s,Oq _,λ_ x=>x,λ_ h=>by cases h⟩
     |cons x VS ih =>
       intro W h kv a b d hx hz s hW hk;rw [Zcr] at hz hW hk;have lv:=ZiM VS;obtain⟨r1,r2⟩:=hx x<|.head _;obtain⟨q1,R,lF,a1,b1,d1,l1,e1,s1,v1,m1,i1⟩:=Zyg H n z x.2 x.1.1 x.1.2 (W++(VS.map (·.1)).reverse) h kv a b d (by lia) r1 r2 (by simpa using s) (by simp;lia) (by lia);obtain⟨q2,h2,j1,a2,b2,d2,l2,e2,s2,v2,m2,i2⟩:=ih W R lF a1 b1 d1 (λy hy=>hx y<|.tail _ hy) (by lia) s1 (by lia) (by lia);refine⟨q2+q1,h2,j1,a2,b2,d2,by rw [Zcr];lia,λF=>?_,s2,by lia,λp hp=>m2 p<|m1 p hp,λp hp=>?_⟩
       . rw [<-Nat.add_assoc,e1,e2]
       . rw [Op] at hp;rcases O2.mp hp with rfl|hp
         . exact m2 _ (i1 _<|.head _)
         . exact i2 p hp
   obtain⟨c,e,f,pp,_⟩:=rd.at;have sz:=Zf t;by_cases all:∀ p∈wn c ns,inN kv p=Ws
   . obtain⟨R,a1,b1,d1,e1,s1⟩:=Zt0 H n (r:=r) (ms:=ms) s hn e f pp all (by lia) a b d;exact⟨1,R,_,a1,b1,d1,by lia,λF=>Zaz (Zm (Zne n s a b d)<|by simp) e1,s1,ZmJ _ _ _,λp hp=>by rw [Zg8,hp,Bool.or_true],λp hp=>by rw [Ox.mp hp,Zg8];simp⟩
   . obtain⟨R,a1,b1,d1,e1,s1⟩:=ZvX H n (r:=r) (ms:=ms) s hn e (λz=>all λp hp=>by simpa using List.filter_eq_nil_iff.mp z p hp) (by lia) a b d;obtain⟨VS,eV,hV,zV,_⟩:=ZkY (g:=gl G) (rs ns c.bd) (λp=>(!inN kv p)&&!p.2.isEmpty) pp;have eU:((wn c ns).filter λp=>!inN kv p)=VS.map (·.1):=by rw [eV];unfold wn bn;rw [List.filter_filter]
     rw [eU] at s1;have rl:=Zo8 ns c.bd;obtain⟨q2,h2,j1,a2,b2,d2,l2,e2,s2,v2,m2,i2⟩:=L VS.reverse (W++[(m,ns)]) R kv a1 b1 d1 (λx hx=>⟨(hV x<|List.mem_reverse.mp hx).1,by rw [(hV x<|List.mem_reverse.mp hx).2];lia⟩) (by rw [Zgj];lia) (by rw [List.map_reverse,List.reverse_reverse];exact s1) (by rw [Zgj];simp;lia) (by rw [Zgj];lia);rw [Zgj] at l2;have kW:tst (P.tbl<|n+3) Z9 (ef k r fk wk ms a2 b2 d2) h2=.ok Ws h2:=Zm (Zne n s2 a2 b2 d2) (by simp);obtain⟨h3,a3,b3,d3,e3,s3⟩:=Zt0 H n (r:=r) (ms:=ms) s2 hn e f pp (λp hp=>by
       cases w:inN kv p with
       |true=>exact m2 p w
       |false=>exact i2 p (by rw [List.map_reverse,List.mem_reverse,<-eU];exact List.mem_filter.mpr ⟨hp,by rw [w];rfl⟩)) (by lia) a2 b2 d2
     refine⟨1+q2+1,h3,_,a3,b3,d3,by lia,λF=>?_,s3,OE (ZmJ _ _ _)<|by lia,λp hp=>by rw [Zg8,m2 p hp,Bool.or_true],λp hp=>by rw [Ox.mp hp,Zg8];simp⟩;have w1:lf P n (F+1+q2+1) (ef k r fk wk ms a b d) h=lf P n (F+1+q2) (ef k r fk wk ms a1 b1 d1) R:=Zaz (Zm (Zne n s a b d)<|by simp) e1;have w3:lf P n (F+1) (ef k r fk wk ms a2 b2 d2) h2=lf P n F (ef k r fk wk ms a3 b3 d3) h3:=Zaz kW e3;rw [show F+(1+q2+1)=F+1+q2+1 by lia,w1,e2,w3]
theorem ZuJ (H:Gs P) (n) {G}{h}{m}{ns}{t:T} (hk:h[k]?=J (cl G)) (rd:Rd (gl G) m t) (hz:t.size<=20000) (hn:ns.length<=2):∃ h' fk kv,run P (n+4) (O "free_beneath") [.ref k,nI m,nD ns] h=.ok (.ref fk) h'/\h'[fk]?=J (.dnk kv)/\h.length<=fk/\Fm [] h h'/\ZhU G kv/\ZoI G kv/\inN kv (m,ns)=Ws:=by
 have big:=H.b.big;have lk:=ZF hk;have s0:Sf G k h.length (h.length+1) h (h++[DO.dnk [],.lst [pD (m,ns)]]) [] ([]++[(m,ns)]):=⟨keep hk,Z0,Zq7,.app,λp v e=>(by cases e),λp e=>(by cases e),by lia⟩
 obtain⟨q,R,kv,a,b,d,l1,e1,s1,_,_,i1⟩:=Zyg H n (r:=m) (ms:=ns) t.size t m ns [] _ [] M M M (Oq _) rd hn s0 (by simp;lia) (by simp;lia);obtain⟨F,hF⟩:∃ F,P.L=F+1+q:=⟨P.L-1-q,by lia⟩
 have w:lf P n P.L (ef k m h.length (h.length+1) ns M M M) (h++[DO.dnk [],.lst [pD (m,ns)]])=.ok (.nx,ef k m h.length (h.length+1) ns a b d) R:=by
   rw [hF,e1];exact ZcC (Zne n s1 a b d)
 refine⟨R,h.length,kv,?_,s1.f,Oq _,s1.m.cut<|λi hi=>.inr (by simp at hi;lia),s1.ok,s1.cd,i1 _<|.head _⟩;rw [Zd H.free_beneath rfl];have wv:xs2 (P.tbl<|n+3) ZdM [J<|.ref k,J<|nI m,J<|nD ns,M,M,M,M,M] h=.ok (.rt<|.ref h.length,_) R:=(Za<|Zg (i:=3) rfl).trans ((Za (by
   have q:ev (P.tbl<|n+3) (.lstl<|.cons (.tupl<|.cons (.var 1)<|.cons (.var 2) .nil) .nil) [J<|.ref k,J<|nI m,J<|nD ns,J<|.ref h.length,M,M,M,M] (h++[.dnk []])=.ok (.ref<|h.length+1) (h++[.dnk [],.lst [pD (m,ns)]]):=by
     rw [Zh1 (xs:=[pD (m,ns)]) (Zc (Zak (xs:=[nI m,nD ns]) rfl<|by simp) rfl)<|by simp];simp
   exact Zg (i:=4) q)).trans ((Za (s:=ZcB)<|ZeO.trans w).trans<|Zb<|Zk rfl))
 exact congrArg Ze wv
structure Adr where
 o:Nat
 k:Nat
 m:Nat
 f:Nat
 n:Nat
 w:Nat
noncomputable def cpD(A:Adr):DO:=.ins (O "Copier") [(O "cells",.ref A.k),(O "meant",.ref A.m),(O "free",.ref A.f),(O "known",.ref A.n),(O "waiting",.ref A.w)]
def knF:Nat->List Pr->List (NK×D)
 |_,[]=>[]
 |i,p::r=>(pk p,nI i)::knF (i+1) r
def ZsH:∀(K) (i) (p),knF i (K++[p])=knF i K++[(pk p,nI<|i+K.length)]:=by intro K;induction K<;>simp_all [knF,nI]<;>grind
theorem Zm7:∀(K) (i),(knF i K).length=K.length
 |[],i=>rfl
 |q::K,i=>by rw[knF,Os,Zm7 K,Os]
theorem Zg2:∀(K) (i) {p},p∈K->∃j,K[j]?=J p/\valN (knF i K) (pk p)=J (nI<|i+j)
 |[],i,p,h=>by cases h
 |q::K,i,p,h=>by
  unfold valN;rw[knF,Wm];by_cases e:q=p
  . subst e;exact⟨0,rfl,by simp⟩
  . obtain⟨j,e1,e2⟩:=Zg2 K (i+1)<|(O2.mp h).resolve_left λz=>e z.symm;refine⟨j+1,e1,?_⟩;rw[decide_eq_false λz=>e<|ZiS z];exact e2.trans (by rw[show i+1+j=i+(j+1) by lia])
theorem ZlC:∀(K) (i) {p},p ∉ K->((knF i K).any λkv=>Wu<|kv.1=pk p)=Wt
 |[],i,p,h=>rfl
 |q::K,i,p,h=>by rw[knF,Wa,ZlC K (i+1) λz=>h<|.tail _ z,decide_eq_false λz=>h (by rw[ZiS z];exact .head _)];rfl
def ZsG(K)(i){p}(h:p ∉ K):putN (knF i K) (pk p) (nI<|i+K.length)=knF i (K++[p]):=by unfold putN;rw[ZlC K i h,if_neg<|by simp,ZsH]
def Zyl(K)(i)(p):inN (knF i K) p=Wu (p∈K):=by
 by_cases h:p∈K
 . obtain⟨j,_,e⟩:=Zg2 K i h;unfold inN
   simp_all
 . rw[decide_eq_false h];unfold inN valN;have:=ZlC K i h;rw[List.any_eq_false]at this;rw[List.find?_eq_none.mpr this];rfl
structure Sc(A:Adr)(G:List Gc)(kv:List (NK×D))(md:List (Key×D))(h0 h:Hd)(K:List Pr)(N:List Gc)(W:List (Pr×T)):Prop where
 o:h[A.o]?=J (cpD A)
 c:h[A.k]?=J (cl<|G++N)
 m:h[A.m]?=J (.dic md)
 f:h[A.f]?=J (.dnk kv)
 n:h[A.n]?=J (.dnk<|knF G.length K)
 w:h[A.w]?=J (.lst<|W.map λx=>pD x.1)
 fm:Fm [A.k,A.n,A.w] h0 h
 kw:A.k≠A.w
 fn:A.f≠A.n
def Std(G:List Gc)(md:List (Key×D))(K:List Pr)(p:Pr)(num:Nat):Prop:=∃t c,Rd (gl G) p.1 t/\G[p.1]?=J c/\((c.isV=Ws/\fin p.2 t=Wt/\num=p.1)\/(∃x,c=.name x/\x∈p.2/\ZH md (.inr x)=J (nI num))\/(cm p.2 c=Wt/\∃j,K[j]?=J p/\num=G.length+j))
def Zbd{K L:List α}{j:Nat}(e:K[j]?=J p):(K++L)[j]?=J p:=(Oe (Ob.mp e).1).trans e
def Std.mono(s:Std G md K p num)(L):Std G md (K++L) p num:=by obtain⟨t,c,a,b,d⟩:=s;refine⟨t,c,a,b,d.imp id<|Or.imp id λz=>⟨z.1,?_⟩⟩;obtain⟨_,j,e,f⟩:=z;exact⟨j,Zbd e,f⟩
structure Gd(G:List Gc)(kv:List (NK×D))(nm:List Str)(p:Pr)(t:T):Prop where
 r:Rd (gl G) p.1 t
 i:inN kv p=Ws
 e:p.2≠[]
 l:p.2.length<=2
 s:∀x∈p.2,x∈nm
structure Pu(G:List Gc)(kv:List (NK×D))(md:List (Key×D))(nm:List Str)(K:List Pr)(N:List Gc)(W:List (Pr×T))(X:List Pr):Prop where
 l:N.length=K.length
 nd:K.Nodup
 g:∀p∈K,∃t c,Gd G kv nm p t/\G[p.1]?=J c/\(c.isV=Ws->fin p.2 t=Ws)/\cm p.2 c=Wt
 w:∀x∈W,x.1∈K/\Rd (gl G) x.1.1 x.2
 d:∀(j:Nat) (p:Pr),K[j]?=J p->p ∉ W.map (·.1)->p ∉ X->∃c ak,G[p.1]?=J c/\N[j]?=J (c.wp ak)/\Paired (Std G md K) (bn c p.2) ak
def dz(W:List (Pr×T)):Nat:=(W.map λx=>cc x.1.2 x.2-1).sum
def ZqJ(W)(x):dz (W++[x])=dz W+(cc x.1.2 x.2-1):=by simp[dz]
def ZmB(W)(x):smz (W++[x])=smz W+x.2.size:=by simp[smz]
structure Mt(G:List Gc)(md:List (Key×D))(qb:List (Str×T))(nm:List Str):Prop where
 v:∀x∈nm,∃a v,ZH md (.inr x)=J (nI a)/\get (qb.map λp=>(p.1,J p.2)) x=J v/\Rd (gl G) a v
section
variable {U:Tb}{S:Ev}{h:Hd}{A:Adr}
def ZoE(e:h[A.o]?=J (cpD A))(q:ev U a S h=.ok (.ref A.o) h):ev U (.att [O "Copier"] a<|O "cells") S h=.ok (.ref A.k) h:=by rw[Zhs,q];simp[ZeC,ZT,e,cpD]
def ZyM(e:h[A.o]?=J (cpD A))(q:ev U a S h=.ok (.ref A.o) h):ev U (.att [O "Copier"] a<|O "meant") S h=.ok (.ref A.m) h:=by rw[Zhs,q];simp[ZeC,ZT,e,cpD,Wg]
def Zz3(e:h[A.o]?=J (cpD A))(q:ev U a S h=.ok (.ref A.o) h):ev U (.att [O "Copier"] a<|O "free") S h=.ok (.ref A.f) h:=by rw[Zhs,q];simp[ZeC,ZT,e,cpD,Wg]
def Zq6(e:h[A.o]?=J (cpD A))(q:ev U a S h=.ok (.ref A.o) h):ev U (.att [O "Copier"] a<|O "known") S h=.ok (.ref A.n) h:=by rw[Zhs,q];simp[ZeC,ZT,e,cpD,Wg]
def Zws(e:h[A.o]?=J (cpD A))(q:ev U a S h=.ok (.ref A.o) h):ev U (.att [O "Copier"] a<|O "waiting") S h=.ok (.ref A.w) h:=by rw[Zhs,q];simp[ZeC,ZT,e,cpD,Wg]
def ZpP{h}(e:h[i]?=J (.dic md)):ZaM GD (.ref i) (.str z) h=qd.ofO (ZH md<|.inr z) h:=by simp[ZaM,dicOf,e]
end
def Sc.ne(s:Sc A G kv md h0 h K N W):A.o≠A.k/\A.o≠A.n/\A.o≠A.w/\A.m≠A.k/\A.m≠A.n/\A.m≠A.w/\A.f≠A.k/\A.f≠A.w/\A.n≠A.k/\A.n≠A.w:=by obtain⟨o,c,m,f,n,w,_,_,_⟩:=s;have k:∀{i j:Nat}{x y},h[i]?=J x->h[j]?=J y->x≠y->i≠j:=λa b c z=>c (by simp_all);exact⟨k o c<|by simp[cpD,cl],k o n<|by simp[cpD],k o w<|by simp[cpD],k m c<|by simp[cl],k m n<|by simp,k m w<|by simp,k f c<|by simp[cl],k f w<|by simp,k n c<|by simp[cl],k n w<|by simp⟩
section
variable {A:Adr}{G:List Gc}{kv:List (NK×D)}{md:List (Key×D)}{nm:List Str}{qb:List (Str×T)}{h0 h:Hd}{K X:List Pr}{N:List Gc}{W:List (Pr×T)}{p:Pr}{t:T}{c:Gc}
def Sc.sn(s:Sc A G kv md h0 h K N W):Sc A G kv md h0 (h.set A.n<|.dnk<|knF G.length<|K++[p]) (K++[p]) N W:=⟨(Oc s.ne.2.1.symm).trans s.o,(Oc s.ne.2.2.2.2.2.2.2.2.1).trans s.c,(Oc s.ne.2.2.2.2.1.symm).trans s.m,(Oc s.fn.symm).trans s.f,Ol<|ZF s.n,(Oc s.ne.2.2.2.2.2.2.2.2.2).trans s.w,s.fm.trans<|.set<|by simp,s.kw,s.fn⟩
def Sc.sc{N'}(s:Sc A G kv md h0 h K N W):Sc A G kv md h0 (h.set A.k<|cl<|G++N') K N' W:=⟨(Oc s.ne.1.symm).trans s.o,Ol<|ZF s.c,(Oc s.ne.2.2.2.1.symm).trans s.m,(Oc s.ne.2.2.2.2.2.2.1.symm).trans s.f,(Oc s.ne.2.2.2.2.2.2.2.2.1.symm).trans s.n,(Oc s.kw).trans s.w,s.fm.trans<|.set<|by simp,s.kw,s.fn⟩
def Sc.sw{W'}(s:Sc A G kv md h0 h K N W):Sc A G kv md h0 (h.set A.w<|.lst<|W'.map λx=>pD x.1) K N W':=⟨(Oc s.ne.2.2.1.symm).trans s.o,(Oc s.kw.symm).trans s.c,(Oc s.ne.2.2.2.2.2.1.symm).trans s.m,(Oc s.ne.2.2.2.2.2.2.2.1.symm).trans s.f,(Oc s.ne.2.2.2.2.2.2.2.2.2.symm).trans s.n,Ol<|ZF s.w,s.fm.trans<|.set<|by simp,s.kw,s.fn⟩
theorem Pu.new(u:Pu G kv md nm K N W X)(gd:Gd G kv nm p t)(e:G[p.1]?=J c)(hv:c.isV=Ws->fin p.2 t=Ws)(z:cm p.2 c=Wt)(hp:p ∉ K):Pu G kv md nm (K++[p]) (N++[c]) (W++[(p,t)]) X:=by
 refine⟨by simp [u.l],List.nodup_append.mpr ⟨u.nd,by simp,λa ha b hb=>Ox.mp hb▸λz=>hp<|z▸ha⟩,λq hq=>?_,λx hx=>?_,λj q hj hw hX=>?_⟩
 . rcases OD.mp hq with hq|hq
   . exact u.g q hq
   . rw [Ox.mp hq];exact⟨t,c,gd,e,hv,z⟩
 . rcases OD.mp hx with hx|hx
   . exact⟨Ys _ (u.w x hx).1,(u.w x hx).2⟩
   . rw [Ox.mp hx];exact⟨by simp,gd.r⟩
 . rw [List.map_append,OD,not_or] at hw;obtain⟨c',ak,a1,a2,a3⟩:=u.d j q (by
     rcases Nat.lt_or_ge j K.length with l|l
     . rwa [Oe l] at hj
     . rw [Om l] at hj;exact absurd (by simpa using O1 hj)<|by simpa using hw.2) hw.1 hX
   exact⟨c',ak,a1,Zbd a2,Paired.mapP a3 λ_ _ z=>z.mono [p]⟩
inductive Stn(A:Adr)(G:List Gc)(kv:List (NK×D))(md:List (Key×D))(nm:List Str)(h0:Hd)(K X:List Pr)(W:List (Pr×T))(p:Pr)(t:T)(r:qd D):Prop
 |mk (num:Nat) (h':Hd) (K':List Pr) (N':List Gc) (W':List (Pr×T)) (e:r=.ok (nI num) h') (s:Sc A G kv md h0 h' K' N' W') (u:Pu G kv md nm K' N' W' X) (sd:Std G md K' p num) (l:∃L,K'=K++L) (z:K'.length+dz W'<=K.length+dz W+cc p.2 t) (y:smz W'<=smz W+t.size)
def v4(A:Adr)(p:Pr)(c:Option D):Ev:=[J<|.ref A.o,J<|nI p.1,J<|nD p.2,c]
def ZnC{U}{c}(h):ev U (.tupl<|.cons (.var 1)<|.cons (.var 2) .nil) (v4 A p c) h=.ok (pD p) h:=Zak rfl (by simp)
def ZuC(n)(s:Sc A G kv md h0 h K N W)(lK:K.length=N.length)(hp:p ∉ K)(lz:G.length+N.length<=90000)(wz:W.length<=30000):∃h',xs2 (P.tbl<|n+1) Zai (v4 A p<|J c.d) h=.ok (.nx,v4 A p<|J c.d) h'/\Sc A G kv md h0 h' (K++[p]) (N++[c]) (W++[(p,t)]):=by have q1:ev (P.tbl<|n+1) (.blt .len<|.cons (.att [O "Copier"] (.var 0)<|O "cells") .nil) (v4 A p<|J c.d) h=.ok (nI<|G.length+K.length) h:=Zhr (Zc (ZoE s.o rfl) rfl) ((Zm0 s.c).trans (by rw[lK];simp[nI]));have y1:=ZtU (o:=.att [O "Copier"] (.var 0)<|O "known") q1 (Zq6 s.o rfl) (ZnC h) s.n (by rw[Zm7];lia);rw[ZsG K G.length hp]at y1;have s1:=s.sn (p:=p);have y3:∀{h2}{K}{N},Sc A G kv md h0 h2 K N W->xs1 (P.tbl<|n+1) ZaL (v4 A p<|J c.d) h2=.ok (.nx,v4 A p<|J c.d) (h2.set A.w<|.lst<|(W++[(p,t)]).map λx=>pD x.1):=λ{h2 _ _} s2=>List.map_append▸Zb2 (Zdu (Zws s2.o rfl) s2.w (Zc (ZnC h2) rfl)<|Z5 s2.w (by rw[YC];simp;lia));exact⟨_,(Za y1).trans<|(Za<|(λs1=>show cl (G++(N++[c]))=.lst ((G++N).map Gc.d++[c.d]) by simp[cl]▸Zb2 (Zdu (ZoE s1.o rfl) s1.c rfl<|Z5 s1.c (by rw[YC];simp;lia))) s1).trans<|(Za<|y3 s1.sc).trans rfl,s1.sc.sw⟩
def Zzq(H:Gs P)(n)(s:Sc A G kv md h0 h K N W)(gd:Gd G kv nm p t)(ok:ZhU G kv):tst (P.tbl<|n+1) Zbo (v4 A p<|J c.d) h=.ok (c.isV&&!fin p.2 t) h:=by
 have t1:tst (P.tbl<|n+1) (.ex<|.call (O "is_value")<|.cons (.var 3) .nil) (v4 A p<|J c.d) h=.ok c.isV h:=ZbF<|Zi (ZqW H n c) rfl;cases v:c.isV with
 |false=>rw[v]at t1;exact Zuf t1
 |true=>rw[v]at t1;refine Zrb t1 ?_;obtain⟨q1,q2⟩:=Zqv ok gd.i gd.r;rw[ZoV,ZbF<|Zhq (Zz3 s.o rfl) (ZnC h) s.f q1,q2];rfl
def ZmF(H:Gs P)(n)(s:Sc A G kv md h0 h K N W)(u:Pu G kv md nm K N W X)(gd:Gd G kv nm p t)(mt:Mt G md qb nm)(ok:ZhU G kv)(lz:G.length+N.length<=90000)(wz:W.length<=30000):Stn A G kv md nm h0 K X W p t (run P (n+2) (mnm (O "Copier")<|O "stand_in") [.ref A.o,nI p.1,nD p.2] h):=by
 rw[Zde H.n_Copier_stand_in H.Copier_stand_in rfl];obtain⟨c,e,f,pp,_⟩:=gd.r.at;have x1:xs1 (P.tbl<|n+1) Zbq (v4 A p M) h=.ok (.nx,v4 A p<|J c.d) h:=Zg<|ZbG (ZoE s.o rfl) rfl s.c<|Zbd e;have cv:=Zzq H n (c:=c) s gd ok;have ce:tst (P.tbl<|n+1) Zbn (v4 A p<|J c.d) h=.ok (cm p.2 c) h:=ZbF<|Zi (ZdX H n c p.2 h) rfl;cases v:(c.isV&&!fin p.2 t)with
 |true=>rw[v]at cv;simp only[Oa,Bool.not_eq_true']at v;exact⟨p.1,h,K,N,W,congrArg Ze<|(Za x1).trans<|Zb<|(Zq cv).trans<|Zb<|Zk rfl,s,u,⟨t,c,gd.r,e,.inl ⟨v.1,v.2,rfl⟩⟩,⟨[],by simp⟩,by lia,by lia⟩
 |false=>
  rw[v]at cv;have x2:=(Zo (a:=Zbj) (b:=.nil) cv).trans rfl;cases z:cm p.2 c with
  |true=>
   rw[z]at ce;obtain⟨x,hc,hx⟩:∃x,c=.name x/\x∈p.2:=by cases c<;>simp only[cm,OG]at z;exact⟨_,rfl,of_decide_eq_true z⟩
   subst hc;obtain⟨a,val,ea,_,_⟩:=mt.v x<|gd.s x hx;exact⟨a,h,K,N,W,congrArg Ze<|(Za x1).trans<|(Za x2).trans<|Zb<|(Zq ce).trans<|Zb<|Zk<|(Zs (ZyM s.o rfl) (y:=.str x) rfl).trans<|(ZpP s.m).trans (by rw[ea];rfl),s,u,⟨t,_,gd.r,e,.inr<|.inl ⟨x,rfl,hx,ea⟩⟩,⟨[],by simp⟩,by lia,by lia⟩
  |false=>
   rw[z]at ce;have x3:=(Zo (a:=Zbi) (b:=.nil) ce).trans rfl;have cn:tst (P.tbl<|n+1) Zbm (v4 A p<|J c.d) h=.ok (!Wu (p∈K)) h:=ZbF ((ZqE (ZnC h) (Zq6 s.o rfl) s.n).trans<|by rw[Zyl]);by_cases hp:p∈K
   . rw[decide_eq_true hp]at cn;obtain⟨j,ej,bM⟩:=Zg2 K G.length hp;exact⟨_,h,K,N,W,congrArg Ze<|(Za x1).trans<|(Za x2).trans<|(Za x3).trans<|(Za<|(Zo (a:=Zai) (b:=.nil) cn).trans rfl).trans<|Zb<|Zk<|Zhq (Zq6 s.o rfl) (ZnC h) s.n bM,s,u,⟨t,c,gd.r,e,.inr<|.inr ⟨z,j,ej,rfl⟩⟩,⟨[],by simp⟩,by lia,by lia⟩
   . rw[decide_eq_false hp]at cn;obtain⟨h',y,s3⟩:=ZuC (P:=P) n (c:=c) (t:=t) s u.l.symm hp lz wz;obtain⟨j,nr,bM⟩:=Zg2 (K++[p]) G.length (p:=p) (by simp);refine⟨_,h',_,_,_,congrArg Ze<|(Za x1).trans<|(Za x2).trans<|(Za x3).trans<|(Za<|(Zq cn).trans y).trans<|Zb<|Zk<|Zhq (Zq6 s3.o rfl) (ZnC h') s3.n bM,s3,u.new gd e (λhv=>by rw[hv,Bool.true_and]at v;simpa using v) z hp,⟨t,c,gd.r,e,.inr<|.inr ⟨z,j,nr,rfl⟩⟩,⟨[p],rfl⟩,?_,by rw[ZmB];exact Oq _⟩;have c1:=Zuc (λhv=>(λhv=>by rw[hv,Bool.true_and]at v;simpa using v)<|((Zco f).2.2.1).trans hv)<|(Zhy f p.2).symm.trans z;rw[ZqJ];simp
     lia
end
end
section
variable {P:Pg}
def mst:Ex:=.m "Copier" "stand_in" V2 (.w V0 V1)
def Sc.re(s:Sc A G kv md h0 h K N W):Sc A G kv md h h K N W:={s with fm:=.refl}
inductive Csn(A:Adr)(G:List Gc)(kv:List (NK×D))(md:List (Key×D))(nm:List Str)(h0:Hd)(K X:List Pr)(W qs:List (Pr×T))(ai:List D)(r:qd (List D)):Prop
 |mk (ak:List Nat) (h':Hd) (K':List Pr) (N':List Gc) (W':List (Pr×T)) (e:r=.ok (ai++ak.map nI) h') (s:Sc A G kv md h0 h' K' N' W') (u:Pu G kv md nm K' N' W' X) (d:Paired (Std G md K') (qs.map (·.1)) ak) (l:∃L,K'=K++L) (b:K'.length+dz W'<=K.length+dz W+ccs qs) (c:smz W'<=smz W+smz qs)
theorem Znr(H:Gs P)(n){A}{G:List Gc}{kv:List (NK×D)}{md:List (Key×D)}{nm:List Str}{qb:List (Str×T)}{h0:Hd}{X:List Pr}(mt:Mt G md qb nm)(ok:ZhU G kv){bl:Nat}{L:List D}(hb:h0[bl]?=J (.lst L))(nb:bl ∉ [A.k,A.n,A.w]):∀(qs:List (Pr×T)) (ai:List D) (h) (K:List Pr) (N:List Gc) (W:List (Pr×T)),Sc A G kv md h0 h K N W->Pu G kv md nm K N W X->(∀x∈qs,Gd G kv nm x.1 x.2)->ai.length+qs.length<=1000->G.length+(K.length+dz W+ccs qs)<=90000->smz W+smz qs<=30000->Csn A G kv md nm h0 K X W qs ai (Zx [(bl,L)] (.two 0 1) (tsto (P.tbl<|n+2) M) (ev (P.tbl<|n+2) mst) (qs.map λx=>pD x.1) [M,M,J<|.ref A.o] ai h)
 |[],ai,h,K,N,W,s,u,_,_,_,_=>⟨[],h,K,N,W,by simp[Zx,ZgD<|s.fm.at hb nb],s,u,.nil,⟨[],by simp⟩,by lia,by lia⟩
 |x::qs,ai,h,K,N,W,s,u,hq,hz,hg,hw=>by rw[Zky]at hg;rw[Zcr]at hw;rw[Os]at hz;have lw:=ZiM W;have lN:=u.l;obtain⟨num,R,K1,N1,W1,e1,s1,u1,d1,⟨L1,z1⟩,b1,c1⟩:=ZmF H n s u (hq x<|.head _) mt ok (by lia) (by lia);obtain⟨ak,h2,K2,N2,W2,e2,s2,u2,d2,⟨L2,z2⟩,b2,c2⟩:=Znr H n mt ok hb nb qs (ai++[nI num]) R K1 N1 W1 s1 u1 (λy hy=>hq y<|.tail _ hy) (by simp;lia) (by lia) (by lia);refine⟨num::ak,h2,K2,N2,W2,?_,s2,u2,.cons (z2▸d1.mono L2) d2,⟨L1++L2,by rw[z2,z1,Oz]⟩,by rw[Zky];lia,by rw[Zcr];lia⟩;have q:ev (P.tbl<|n+2) mst [J<|nI x.1.1,J<|nD x.1.2,J<|.ref A.o] h=.ok (nI num) R:=ZfZ (i:=A.o) rfl s.o rfl rfl e1;rw[Op,Zx,if_pos ⟨ZgD<|s.fm.at hb nb,by rw[YC];lia⟩];show((ev (P.tbl<|n+2) mst [J<|nI x.1.1,J<|nD x.1.2,J<|.ref A.o] h).plain.bind λy h2=>Zx [(bl,L)] (.two 0 1) (tsto (P.tbl<|n+2) M) (ev (P.tbl<|n+2) mst) (qs.map λx=>pD x.1) [M,M,J<|.ref A.o] (ai++[y]) h2)=_;rw[q];exact e2.trans (by simp)
theorem Paired.len{F}:∀{l₁:List α}{l₂:List β},Paired F l₁ l₂->l₁.length=l₂.length
 |_,_,.nil=>rfl
 |_,_,.cons _ q=>by rw[Os,Os,Paired.len q]
def Zpp{h}{G}{c}{i}(e:h[k]?=J (cl G))(hi:i<G.length):ZaD (.ref k) (nI i) c.d h=.ok () (h.set k<|cl<|G.set i c):=by
 have:ixN (G.map Gc.d).length i=J i:=by
  unfold ixN
  simp_all
 unfold ZaD;simp only[e,cl,nI]
 simp_all
def ZtQ{U}{S}{h R h2 h3 h4}{o i e}(p:ev U e S h=.ok x R)(q:ev U o S R=.ok y h2)(r:ev U i S h2=.ok z h3)(s:ZaD y z x h3=.ok () h4):xs1 U (.put o i e) S h=.ok (.nx,S) h4:=by simp_all
def ZvL{c:Gc}(h:c.isV=Wt):c.bd=[]:=by cases c<;>first|rfl|cases h
def ZvT(c:Gc):c.fr.length<=3:=by cases c<;>simp[Gc.fr]
def Sc.ap(s:Sc A G kv md h0 h K N W):Sc A G kv md h0 (h++g) K N W:=⟨keep s.o,keep s.c,keep s.m,keep s.f,keep s.n,keep s.w,s.fm.trans .app,s.kw,s.fn⟩
def Pu.wr{c:Gc}(u:Pu G kv md nm K N W [p])(ej:K[j]?=J p)(e:G[p.1]?=J c)(d:Paired (Std G md K) (bn c p.2) ak):Pu G kv md nm K (N.set j<|c.wp ak) W []:=by
 refine⟨by rw[List.length_set];exact u.l,u.nd,u.g,u.w,λj' q dM hq _=>?_⟩;by_cases z:q=p
 . subst z;cases (List.getElem?_inj (Ob.mp dM).1 u.nd).mp (dM.trans ej.symm);exact⟨c,ak,e,Ol (by rw[u.l];exact(Ob.mp ej).1),d⟩
 . obtain⟨c',fB,a1,a2,a3⟩:=u.d j' q dM hq (by simpa using z);exact⟨c',fB,a1,(Oc λ(zz:j=j')=>z<|YF<|dM.symm.trans<|zz▸ej).trans a2,a3⟩
def Zy6(H:Gs P)(n){c:Gc}{o:Nat}(s:Sc A G kv md h0 h K N W)(k4:h[o]?=J (.lst<|ak.map nI))(ln:ak.length=c.ps.length)(e:G[p.1]?=J c)(lN:N.length=K.length)(ej:K[j]?=J p)(bM:valN (knF G.length K) (pk p)=J (nI<|G.length+j)):xs1 (P.tbl<|n+2) ZaP [J<|.ref A.o,J<|pD p,J<|.ref o] h=.ok (.nx,[J<|.ref A.o,J<|pD p,J<|.ref o]) (h.set A.k<|cl<|G++N.set j (c.wp ak)):=by obtain⟨w1,w2⟩:=Ztz (c:=c) ln;have lj:=(Ob.mp ej).1;have fl:=ZvT c;have lc:=Zex c;rw[show G++N.set j (c.wp ak)=(G++N).set (G.length+j) (c.wp ak) by rw[List.set_append_right _ _<|by lia];congr 2;lia];exact ZtQ ((Zr (Zi (Zns H.b (n+1) c)<|Zc (ZbG (ZoE s.o rfl) (Zsb (p:=p) rfl) s.c<|Zbd e) rfl)<|Zhr (Zc rfl rfl)<|ZtD k4).trans<|(Ze0 (by rw[YC];simp;lia)).trans (by unfold Gc.d;rw[w1,w2])) (ZoE s.o rfl) (Zhq (p:=p) (Zq6 s.o rfl) rfl s.n bM) (Zpp s.c (by simp;lia))
inductive Wtn(A:Adr)(G:List Gc)(kv:List (NK×D))(md:List (Key×D))(nm:List Str)(h0:Hd)(K:List Pr)(z m:Nat)(r:qd D):Prop
 |mk (h':Hd) (K':List Pr) (N':List Gc) (W':List (Pr×T)) (e:r=.ok .non h') (s:Sc A G kv md h0 h' K' N' W') (u:Pu G kv md nm K' N' W' []) (l:∃L,K'=K++L) (b:K'.length+dz W'<=z) (c:smz W'+1<=m)
def ZrD(H:Gs P)(n){A}{G}{kv}{md}{nm}{qb}{h0 h}{K}{N}{W}{p}{t}(s:Sc A G kv md h0 h K N (W++[(p,t)]))(u:Pu G kv md nm K N (W++[(p,t)]) [])(mt:Mt G md qb nm)(ok:ZhU G kv)(cd:ZoI G kv)(hg:G.length+(K.length+dz (W++[(p,t)]))<=90000)(hw:smz (W++[(p,t)])<=30000):Wtn A G kv md nm h0 K (K.length+dz (W++[(p,t)])) (smz<|W++[(p,t)]) (run P (n+3) (mnm (O "Copier")<|O "write_next") [.ref A.o] h):=by
 rw[Zde H.n_Copier_write_next H.Copier_write_next rfl];obtain⟨j9,kZ⟩:=u.w (p,t) (by simp);obtain⟨t',c,gd,e,hv,hc⟩:=u.g p j9;have tt:=kZ.one gd.r;simp only at tt;subst tt;obtain⟨c',e',f,pp,_⟩:=gd.r.at;rw[e]at e';cases e';have ws:h[A.w]?=J (.lst<|(W.map λx=>pD x.1)++[pD p]):=by rw[s.w];simp
 have x1:xs1 (P.tbl<|n+2) ZaR [J<|.ref A.o,M,M] h=.ok (.nx,[J<|.ref A.o,J<|pD p,M]) (h.set A.w<|.lst<|W.map λx=>pD x.1):=Zg (i:=1)<|Zdu (Zws s.o rfl) ws rfl<|Zdg ws;have s1:Sc A G kv md h0 (h.set A.w<|.lst<|W.map λx=>pD x.1) K N W:=s.sw;have u1:Pu G kv md nm K N W [p]:=⟨u.l,u.nd,u.g,λx hx=>u.w x<|Ys _ hx,λj q hj hq hX=>u.d j q hj (by rw[List.map_append,OD,not_or];exact⟨hq,by simpa using hX⟩)<|by simp⟩
 generalize h.set A.w (.lst<|W.map λx=>pD x.1)=R at *;have rb:=Zik H n s1.c (Zbd e) p.2 gd.l;have q1:ev (P.tbl<|n+2) (.call (O "beneath")<|.cons (.att [O "Copier"] (.var 0)<|O "cells")<|.cons (.ix (.var 1)<|.ci 0)<|.cons (.ix (.var 1)<|.ci 1) .nil) [J<|.ref A.o,J<|pD p,M] R=_:=Zi rb<|Zc (ZoE s1.o rfl)<|Zc (Zsb (p:=p) rfl)<|Zc (Zsa (p:=p) rfl) rfl;have b2:(R++[DO.lst<|(rs p.2 c.bd).map .str,.lst<|(bn c p.2).map pD])[R.length+1]?=J (.lst<|(bn c p.2).map pD):=Zq7;have f2:Fm [A.k,A.n,A.w] R (R++[DO.lst<|(rs p.2 c.bd).map .str,.lst<|(bn c p.2).map pD]):=.app;have s2:=s1.ap (g:=[DO.lst<|(rs p.2 c.bd).map .str,.lst<|(bn c p.2).map pD]);have nb:R.length+1 ∉ [A.k,A.n,A.w]:=by
  have:=ZF s1.c;have:=ZF s1.n;have:=ZF s1.w;simp
  lia
 generalize R++[DO.lst<|(rs p.2 c.bd).map .str,.lst<|(bn c p.2).map pD]=h2 at *;have ei:=Zng q1 b2;obtain⟨VS,eV,hV,zV,yV⟩:=ZkY (g:=gl G) (rs p.2 c.bd) (λ_=>Ws) pp;have f9:VS.map (·.1)=bn c p.2:=eV.trans<|List.filter_eq_self.mpr λ_ _=>rfl;have kY:∀x∈VS,rs p.2 c.bd≠[]:=λx hx=>by
  cases v:c.isV with
  |false=>rw[ZvL v,Zft];exact gd.e
  |true=>have:=hv v;rw[Zqz,<-Zhy f,hc,Bool.false_or,<-(Zco f).2.1]at this;intro z;rw[z]at this;obtain⟨y,_,hy⟩:=List.any_eq_true.mp this;rw[Za5]at hy;cases hy
 have rl:=Zo8 p.2 c.bd;have oq:=gd.l;have gV:∀x∈VS,Gd G kv nm x.1 x.2:=λx hx=>by
  obtain⟨a,b⟩:=hV x hx;have mem:x.1∈bn c p.2:=by rw[<-f9];exact List.mem_map_of_mem hx
  have ne:x.1.2≠[]:=by rw[b];exact kY x hx
  exact⟨a,cd p gd.i c e x.1 mem ne,ne,by rw[b];lia,λy hy=>gd.s y (by rw[b]at hy;exact(List.mem_filter.mp hy).1)⟩
 have sz:=Zf t;have cz:=Zuc (ns:=p.2) (t:=t) (λcf=>hv (by rw[(Zco f).2.2.1];exact cf))<|(Zhy f p.2).symm.trans hc;rw[<-(Zco f).2.1]at cz;have lc:=Zex c;have lV:VS.length<=3:=by rw[<-Yu (f:=(·.1)),f9];unfold bn;rw[Yu];exact lc
 rw[ZqJ]at hg ⊢;rw[ZmB]at hw ⊢;simp only at hg hw ⊢;obtain⟨ak,h3,K3,N3,W3,e3,s3,u3,d3,⟨L3,z3⟩,b3,c3⟩:=Znr H n mt ok b2 nb VS [] h2 K N W s2.re u1 gV (by simp;lia) (by lia) (by lia);rw[show VS.map (λx=>pD x.1)=(bn c p.2).map pD by rw[<-f9,List.map_map];rfl]at e3;have x2:xs1 (P.tbl<|n+2) ZaQ [J<|.ref A.o,J<|pD p,M] R=.ok (.nx,[J<|.ref A.o,J<|pD p,J<|.ref h3.length]) (h3++[.lst<|ak.map nI]):=Zg (i:=2)<|Zf0 ei e3;have ij:=s3.ap (g:=[DO.lst<|ak.map nI]);obtain⟨j,ej,bM⟩:=Zg2 K3 G.length<|z3▸Ys _ j9;have w:xs2 (P.tbl<|n+2) Zbp [J<|.ref A.o,M,M] h=.ok (.nx,_) _:=(Za x1).trans ((Za x2).trans<|(Za<|Zy6 H n (c:=c) ij Z0 (by rw[<-Paired.len d3,f9];unfold bn;rw[Yu]) e u3.l ej bM).trans rfl);exact⟨_,K3,_,W3,congrArg Ze w,{ij.sc with fm:=s2.fm.trans ij.sc.fm},u3.wr ej e (by rw[<-f9];exact d3),⟨L3,z3⟩,by lia,by lia⟩
theorem Zkb(H:Gs P)(n){A}{G}{kv}{md}{nm}{qb}{h0}{S}(mt:Mt G md qb nm)(ok:ZhU G kv)(cd:ZoI G kv)(hρ:ev (P.tbl<|n+3) (.var 0) S=λh=>.ok (.ref A.o) h):∀(F) (h) (K) (N) (W),Sc A G kv md h0 h K N W->Pu G kv md nm K N W []->G.length+(K.length+dz W)<=90000->smz W<=30000->smz W<F->∃h' K' N',ZE (tst (P.tbl<|n+3) Zb4) (xs2 (P.tbl<|n+3) ZbW) F S h=.ok (.nx,S) h'/\Sc A G kv md h0 h' K' N' []/\Pu G kv md nm K' N' [] []/\(∃L,K'=K++L)/\K'.length<=K.length+dz W
 |0,h,K,N,W,_,_,_,_,hF=>by lia
 |F+1,h,K,N,W,s,u,hg,hw,hF=>by
  have te:=ZgA (Zws s.o<|congrFun hρ h) s.w;rcases List.eq_nil_or_concat W with rfl|⟨W,x,rfl⟩
  . exact⟨h,K,N,ZcC te,s,u,⟨[],by simp⟩,by lia⟩
  . obtain⟨p,t⟩:=x;rw[List.concat_eq_append]at *;obtain⟨R,K1,N1,W1,e1,s1,u1,⟨L1,z1⟩,b1,c1⟩:=ZrD H n s u mt ok cd hg hw;obtain⟨h2,K2,N2,e2,s2,u2,⟨L2,z2⟩,b2⟩:=Zkb H n mt ok cd hρ F R K1 N1 W1 s1 u1 (by lia) (by lia) (by lia);exact⟨h2,K2,N2,(Zaz (Zm te<|by simp)<|(Za<|Zb2<|ZfZ (i:=A.o) (congrFun hρ h) s.o rfl rfl e1).trans rfl).trans e2,s2,u2,⟨L1++L2,by rw[z2,z1,Oz]⟩,by lia⟩
theorem ZwC{qd}{S_}{Q}{fp:Nat->Pr}:∀{ps}{ts:List T}{ak:List Nat},Paired qd ps ts->Paired S_ (ps.map fp) ak->(∀m t num,m∈ps->t∈ts->qd m t->S_ (fp m) num->Q num t)->Paired Q ak ts
 |_,_,_,.nil,.nil,_=>.nil
 |_,_,_,.cons r q,.cons s p,k=>.cons (k _ _ _ (.head _) (.head _) r s) (ZwC q p λm t num hm ht=>k m t num (.tail _ hm)<|.tail _ ht)
theorem ZgS{Q}{f:T->T}:∀{ns:List Nat}{ts},Paired (λn t=>Q n<|f t) ns ts->Paired Q ns (ts.map f)
 |_,_,.nil=>.nil
 |_,_,.cons r q=>.cons r (ZgS q)
def ZgX(e:nI a=nI b):a=b:=by
 simp[nI]at e
 lia
theorem Zo9{G}{kv}{md}{nm}{qb}{K}{N}{y}(hy:y<G.length)(mt:Mt G md qb nm)(mw:∀x∈nm,∀a v,ZH md (.inr x)=J (nI a)->get (qb.map λp=>(p.1,J p.2)) x=J v->Rd (wo (gl G) y) a v)(u:Pu G kv md nm K N [] []):∀(z) (t) (p) (num),t.size<=z->Rd (wo (gl G) y) p.1 t->Std G md K p num->(∀x∈p.2,x∈nm)->Rd (wo (gl<|G++N) y) num (sub (arN qb p.2) t)
 |0,t,p,num,hz,_,_,_=>by have:=ZI t;lia
 |z+1,t,p,num,hz,rd,st,hs=>by
  obtain⟨t',c,c8,e,q⟩:=st;have:=(rd.mono ZV).one c8;subst this;have mono:∀i c,wo (gl G) y i=J c->wo (gl<|G++N) y i=J c:=λi c h=>by
   unfold wo at h ⊢;split at h
   . cases h
   . rename_i ne;rw[if_neg ne];exact Zbd h
  obtain⟨c',e',f,pp⟩:=rd.inv;have cc:c=c':=YF<|e.symm.trans<|ZV _ _ e';subst cc;rcases q with⟨_,q,rfl⟩|⟨x,rfl,hx,bM⟩|⟨hc,j,ej,rfl⟩
  . rw[ZcD qb t p.2 q];exact rd.mono mono
  . obtain⟨a,v,e1,e2,e3⟩:=mt.v x<|hs x hx;have e4:=mw x (hs x hx) a v e1 e2;rw[bM]at e1;have:=ZgX<|YF e1;subst this;cases t<;>simp only[Fit]at f;subst f;rw[show sub (arN qb p.2) (.name x)=v by simp only[sub];rw[ZcL,if_pos hx,e2];rfl];exact e4.mono mono
  . obtain⟨c',ak,a1,a2,a3⟩:=u.d j p ej (by simp) (by simp);rw[e]at a1;cases a1;have ln:ak.length=c.ps.length:=by rw[<-Paired.len a3];unfold bn;rw[Yu]
    have hm:mean (arN qb p.2) t=M:=by
     cases t with
     |name x=>show get (arN qb p.2) x=M;rw[ZcL,if_neg];intro hx;rw[Zhy f]at hc;simp only[mnt,decide_eq_false_iff_not]at hc;exact hc hx
     |_=>rfl
    obtain⟨w1,w2⟩:=Ztz (c:=c) ln;refine Rd.mk (c:=c.wp ak) ?_ (ZsW f hm ln) ?_
    . rw[Zml<|by lia];show(G++N)[G.length+j]?=_;rw[Om<|by lia,show G.length+j-G.length=j by lia];exact a2
    . rw[w2,(Zid t _ hm).1];refine ZgS<|ZwC pp a3 λm s n' n8 bV r q=>?_;have lt:=Zmx bV;rw[ZeR,<-(Zco f).2.1];exact Zo9 hy mt mw u z s (m,rs p.2 c.bd) n' (by lia) r q (λx hx=>hs x (List.mem_filter.mp hx).1)
end
inductive Q where
 |num (i:Nat) (n:Int)|name (i:Nat) (x:Str)|fn (i:Nat) (x:Str) (e:Q)|rcc (i:Nat) (f x:Str) (e:Q)|call (i:Nat) (a b:Q)|iff (i:Nat) (a b c:Q)|op (i:Nat) (w:Wd) (a b:Q)
namespace Q
noncomputable def no:Q->Nat
 |.num i _|.name i _|.fn i _ _|.rcc i _ _ _|.call i _ _|.iff i _ _ _|.op i _ _ _=>i
noncomputable def er:Q->T
 |.num _ n=>.num n
 |.name _ x=>.name x
 |.fn _ x e=>.fn x e.er
 |.rcc _ f x e=>.rcc f x e.er
 |.call _ a b=>.call a.er b.er
 |.iff _ a b c=>.iff a.er b.er c.er
 |.op _ w a b=>.op w a.er b.er
def ok(g:Nat->Option Gc):Q->Prop
 |.num i n=>g i=J (.num n)
 |.name i x=>g i=J (.name x)
 |.fn i x e=>g i=J (.fn x e.no)/\e.ok g
 |.rcc i f x e=>g i=J (.rcc f x e.no)/\e.ok g
 |.call i a b=>g i=J (.call a.no b.no)/\a.ok g/\b.ok g
 |.iff i a b c=>g i=J (.iff a.no b.no c.no)/\a.ok g/\b.ok g/\c.ok g
 |.op i w a b=>g i=J (.op w a.no b.no)/\a.ok g/\b.ok g
noncomputable def isV:Q->Bool
 |.num _ _|.fn _ _ _|.rcc _ _ _ _=>Ws
 |_=>Wt
def Zcn(q:Q):Tm.isV q.er=q.isV:=by cases q<;>rfl
noncomputable def opn:Q->List Nat
 |.num _ _|.fn _ _ _|.rcc _ _ _ _=>[]
 |.name i _=>[i]
 |.call i a b|.op i _ a b=>i::(a.opn++b.opn)
 |.iff i a b c=>i::(a.opn++(b.opn++c.opn))
noncomputable def all:Q->List Nat
 |.num i _|.name i _=>[i]
 |.fn i _ e|.rcc i _ _ e=>i::e.all
 |.call i a b|.op i _ a b=>i::(a.all++b.all)
 |.iff i a b c=>i::(a.all++(b.all++c.all))
def deep:Q->List Nat
 |.num _ _|.name _ _=>[]
 |.fn _ _ e|.rcc _ _ _ e=>e.all
 |.call _ a b|.op _ _ a b=>a.deep++b.deep
 |.iff _ a b c=>a.deep++(b.deep++c.deep)
def One(q:Q):Prop:=q.opn.Nodup/\∀n∈q.opn,n ∉ q.deep
def Uns:Q->Prop
 |.num _ _|.name _ _=>True
 |.fn _ _ e|.rcc _ _ _ e=>e.One/\e.Uns
 |.call _ a b|.op _ _ a b=>a.Uns/\b.Uns
 |.iff _ a b c=>a.Uns/\b.Uns/\c.Uns
theorem rd{g}:∀{q:Q},q.ok g->Rd g q.no q.er
 |.num i n,h=>.num h
 |.name i x,h=>.name h
 |.fn i x e,h=>.fn h.1 (rd h.2)
 |.rcc i f x e,h=>.rcc h.1 (rd h.2)
 |.call i a b,h=>.call h.1 (rd h.2.1) (rd h.2.2)
 |.iff i a b c,h=>.iff h.1 (rd h.2.1) (rd h.2.2.1) (rd h.2.2.2)
 |.op i w a b,h=>.op h.1 (rd h.2.1) (rd h.2.2)
theorem mono{g g'}:∀{q:Q},(∀i∈q.all,∀c,g i=J c->g' i=J c)->q.ok g->q.ok g'
 |.num i n,m,h|.name i x,m,h=>m i (by simp[all]) _ h
 |.fn i x e,m,h|.rcc i f x e,m,h=>⟨m i (by simp[all]) _ h.1,mono (λj hj=>m j<|by simp[all,hj]) h.2⟩
 |.call i a b,m,h|.op i w a b,m,h=>⟨m i (by simp[all]) _ h.1,mono (λj hj=>m j<|by simp[all,hj]) h.2.1,mono (λj hj=>m j<|by simp[all,hj]) h.2.2⟩
 |.iff i a b c,m,h=>⟨m i (by simp[all]) _ h.1,mono (λj hj=>m j<|by simp[all,hj]) h.2.1,mono (λj hj=>m j<|by simp[all,hj]) h.2.2.1,mono (λj hj=>m j<|by simp[all,hj]) h.2.2.2⟩
theorem three{g}:∀{q:Q},q.ok g->∀n∈q.all,n∈q.opn\/n∈q.deep\/∃c,g n=J c/\c.isV=Ws
 |.num i z,h,n,hn=>by have e:=Ox.mp hn;subst e;exact .inr (.inr ⟨_,h,rfl⟩)
 |.name i x,h,n,hn=>.inl hn
 |.fn i x e,h,n,hn|.rcc i f x e,h,n,hn=>by
  rcases O2.mp hn with rfl|hn
  . exact .inr (.inr ⟨_,h.1,rfl⟩)
  . exact .inr (.inl hn)
 |.call i a b,h,n,hn|.op i w a b,h,n,hn=>by
  simp[all,OD]at hn;simp[opn,deep,OD];rcases hn with rfl|hn|hn
  . exact .inl (.inl rfl)
  . rcases three h.2.1 n hn with q|q|q
    . exact .inl (.inr<|.inl q)
    . exact .inr (.inl<|.inl q)
    . exact .inr (.inr q)
  . rcases three h.2.2 n hn with q|q|q
    . exact .inl (.inr<|.inr q)
    . exact .inr (.inl<|.inr q)
    . exact .inr (.inr q)
 |.iff i a b c,h,n,hn=>by
  simp only[all,O2,OD]at hn;simp only[opn,deep,O2,OD];rcases hn with rfl|hn|hn|hn
  . exact .inl (.inl rfl)
  . rcases three h.2.1 n hn with q|q|q
    . exact .inl (.inr<|.inl q)
    . exact .inr (.inl<|.inl q)
    . exact .inr (.inr q)
  . rcases three h.2.2.1 n hn with q|q|q
    . exact .inl (.inr<|.inr<|.inl q)
    . exact .inr (.inl<|.inr<|.inl q)
    . exact .inr (.inr q)
  . rcases three h.2.2.2 n hn with q|q|q
    . exact .inl (.inr<|.inr<|.inr q)
    . exact .inr (.inl<|.inr<|.inr q)
    . exact .inr (.inr q)
theorem ZcF{g}:∀{q:Q},q.ok g->∀n∈q.opn,∃c,g n=J c/\c.isV=Wt
 |.num i z,h,n,hn=>by trivial
 |.name i x,h,n,hn=>by have e:=Ox.mp hn;subst e;exact⟨_,h,rfl⟩
 |.fn i x e,h,n,hn=>by trivial
 |.rcc i f x e,h,n,hn=>by trivial
 |.call i a b,h,n,hn|.op i w a b,h,n,hn=>by
  simp[opn,OD]at hn;rcases hn with rfl|hn|hn
  . exact⟨_,h.1,rfl⟩
  . exact ZcF h.2.1 n hn
  . exact ZcF h.2.2 n hn
 |.iff i a b c,h,n,hn=>by
  simp[opn,OD]at hn;rcases hn with rfl|hn|hn|hn
  . exact⟨_,h.1,rfl⟩
  . exact ZcF h.2.1 n hn
  . exact ZcF h.2.2.1 n hn
  . exact ZcF h.2.2.2 n hn
def ZC:∀{q:Q},∀n∈q.opn,n∈q.all:=by intro q;induction q<;>simp_all [opn,all]<;>grind
def ZG:∀{q:Q},∀n∈q.deep,n∈q.all:=by intro q;induction q<;>simp_all [deep,all]<;>grind
end Q
namespace Q
def bt:Q->Q
 |.call i a b=>if a.isV then(if b.isV then .call i a b else bt b)else bt a
 |.op i w a b=>if a.isV then(if b.isV then .op i w a b else bt b)else bt a
 |.iff i a b c=>if a.isV then .iff i a b c else bt a
 |q=>q
def rp(u:Q):Q->Q
 |.call i a b=>if a.isV then(if b.isV then u else .call i a (rp u b))else .call i (rp u a) b
 |.op i w a b=>if a.isV then(if b.isV then u else .op i w a (rp u b))else .op i w (rp u a) b
 |.iff i a b c=>if a.isV then u else .iff i (rp u a) b c
 |_=>u
theorem Zkq:∀q:Q,q.bt.er=bot q.er
 |.num _ _=>rfl
 |.name _ _=>rfl
 |.fn _ _ _=>rfl
 |.rcc _ _ _ _=>rfl
 |.call i a b|.op i w a b=>by
  simp[bt,er,bot,Zcn];split
  . split
    . rfl
    . exact Zkq b
  . exact Zkq a
 |.iff i a b c=>by
  simp[bt,er,bot,Zcn];split
  . rfl
  . exact Zkq a
theorem Zkp(u):∀q ,(rp u q).er=Zcg (pth q.er) u.er
 |.num _ _=>rfl
 |.name _ _=>rfl
 |.fn _ _ _=>rfl
 |.rcc _ _ _ _=>rfl
 |.call i a b|.op i w a b=>by
  simp[rp,er,pth,Zcn];cases a.isV
  . simp[er,Zkp u a];rfl
  . cases b.isV
    . simp[er,Zkp u b];rfl
    trivial
 |.iff i a b c=>by
  simp[rp,er,pth,Zcn];cases a.isV
  . simp only[OG,if_false,er,Zcg,Zkp u a];rfl
  trivial
def cto:Q->List Nat
 |.call i a b|.op i _ a b=>if a.isV then(if b.isV then []else i::(a.opn++cto b))else i::(cto a++b.opn)
 |.iff i a b c=>if a.isV then []else i::(cto a++(b.opn++c.opn))
 |_=>[]
def ctd:Q->List Nat
 |.call _ a b|.op _ _ a b=>if a.isV then(if b.isV then []else a.deep++ctd b)else ctd a++b.deep
 |.iff _ a b c=>if a.isV then []else ctd a++(b.deep++c.deep)
 |_=>[]
def swp(a b c:List Nat):((a++b)++c).Perm ((a++c)++b):=by rw[Oz,Oz];exact List.Perm.append_left a List.perm_append_comm
theorem ZeY:∀q:Q,q.opn.Perm (q.cto++q.bt.opn)
 |.num _ _=>.refl _
 |.name _ _=>.refl _
 |.fn _ _ _=>.refl _
 |.rcc _ _ _ _=>.refl _
 |.call i a b|.op i w a b=>by
  simp[cto,bt];split
  . split
    . simp
    . rw[List.cons_append,Oz];exact((ZeY b).append_left _).cons _
  . exact(((ZeY a).append_right _).trans<|swp _ _ _).cons _
 |.iff i a b c=>by
  simp[cto,bt];split
  . simp
  . exact(((ZeY a).append_right _).trans<|swp _ _ _).cons _
theorem ZfI:∀q:Q,q.deep.Perm (q.ctd++q.bt.deep)
 |.num _ _=>.refl _
 |.name _ _=>.refl _
 |.fn _ _ _=>.refl _
 |.rcc _ _ _ _=>.refl _
 |.call i a b|.op i w a b=>by
  simp[ctd,bt];split
  . split
    . simp
    . rw[Oz];exact(ZfI b).append_left _
  . exact((ZfI a).append_right _).trans (swp _ _ _)
 |.iff i a b c=>by
  simp[ctd,bt];split
  . exact .refl _
  . exact((ZfI a).append_right _).trans (swp _ _ _)
theorem Zj0(u):∀q ,(rp u q).opn.Perm (q.cto++u.opn)
 |.num _ _=>.refl _
 |.name _ _=>.refl _
 |.fn _ _ _=>.refl _
 |.rcc _ _ _ _=>.refl _
 |.call i a b|.op i w a b=>by
  simp[cto,rp];cases a.isV
  . exact(((Zj0 u a).append_right _).trans<|swp _ _ _).cons _
  . cases b.isV
    . simp only[if_true,OG,if_false];rw[List.cons_append,Oz];exact((Zj0 u b).append_left _).cons _
    trivial
 |.iff i a b c=>by
  simp[cto,rp];cases a.isV
  . exact(((Zj0 u a).append_right _).trans<|swp _ _ _).cons _
  trivial
theorem Zjf(u):∀q ,(rp u q).deep.Perm (q.ctd++u.deep)
 |.num _ _=>.refl _
 |.name _ _=>.refl _
 |.fn _ _ _=>.refl _
 |.rcc _ _ _ _=>.refl _
 |.call i a b|.op i w a b=>by
  simp[ctd,rp];cases a.isV
  . exact((Zjf u a).append_right _).trans (swp _ _ _)
  . cases b.isV
    . simp only[if_true,OG,if_false];rw[Oz];exact(Zjf u b).append_left _
    trivial
 |.iff i a b c=>by
  simp[ctd,rp];cases a.isV
  . exact((Zjf u a).append_right _).trans (swp _ _ _)
  trivial
theorem Zmp{u}(hu:u.Uns):∀q ,q.Uns->(rp u q).Uns
 |.num _ _,_=>hu
 |.name _ _,_=>hu
 |.fn _ _ _,_=>hu
 |.rcc _ _ _ _,_=>hu
 |.call i a b,h|.op i w a b,h=>by
  simp[rp];split
  . split
    . trivial
    . exact⟨h.1,Zmp hu b h.2⟩
  . exact⟨Zmp hu a h.1,h.2⟩
 |.iff i a b c,h=>by
  simp[rp];split
  . trivial
  . exact⟨Zmp hu a h.1,h.2⟩
theorem Zmq:∀q:Q,q.Uns->q.bt.Uns
 |.num _ _,h=>h
 |.name _ _,h=>h
 |.fn _ _ _,h=>h
 |.rcc _ _ _ _,h=>h
 |.call i a b,h|.op i w a b,h=>by
  simp[bt];split
  . split
    . exact h
    . exact Zmq b h.2
  . exact Zmq a h.1
 |.iff i a b c,h=>by
  simp[bt];split
  . exact h
  . exact Zmq a h.1
theorem Zm{g}:∀q:Q,q.ok g->q.bt.ok g
 |.num _ _,h=>h
 |.name _ _,h=>h
 |.fn _ _ _,h=>h
 |.rcc _ _ _ _,h=>h
 |.call i a b,h|.op i w a b,h=>by
  simp[bt];split
  . split
    . exact h
    . exact Zm b h.2.2
  . exact Zm a h.2.1
 |.iff i a b c,h=>by
  simp[bt];split
  . exact h
  . exact Zm a h.2.1
theorem Zjo:∀q:Q,q.isV=Wt->q.bt.no∈q.bt.opn
 |.num _ _,h=>by cases h
 |.name i x,h=>.head _
 |.fn _ _ _,h=>by cases h
 |.rcc _ _ _ _,h=>by cases h
 |.call i a b,h|.op i w a b,h=>by
  simp[bt];cases ea:a.isV
  . exact Zjo a ea
  . cases eb:b.isV
    . exact Zjo b eb
    . exact .head _
 |.iff i a b c,h=>by
  simp[bt];cases ea:a.isV
  . exact Zjo a ea
  . exact .head _
def ZiB(q:Q)(h:q.isV=Wt):q.bt.no∈q.opn:=(ZeY q).mem_iff.mpr (Ov _<|Zjo q h)
def ZgT{g g'}{y}(ne:∀i,i≠y->g' i=g i)(nv:∃c,g y=J c/\c.isV=Wt){q:Q}(h:q.ok g)(ho:y ∉ q.opn)(hd:y ∉ q.deep):q.ok g':=by
 refine mono (λi hi c e=>?_) h;rw[ne i ?_]
 . exact e
 . rintro rfl;rcases three h i hi with z|z|⟨c',e',v'⟩
   . trivial
   . trivial
   simp_all
theorem ZmR{g g'}{u}{y}(ne:∀i,i≠y->g' i=g i)(nv:∃c,g y=J c/\c.isV=Wt)(hu:u.ok g')(uy:u.no=y):∀q ,q.ok g->q.isV=Wt->q.bt.no=y->q.opn.Nodup->y ∉ q.deep->(rp u q).ok g'/\(rp u q).no=q.no
 |.num _ _,_,v,_,_,_=>by cases v
 |.name i x,h,v,e,_,_=>⟨hu,uy.trans e.symm⟩
 |.fn _ _ _,_,v,_,_,_=>by cases v
 |.rcc _ _ _ _,_,v,_,_,_=>by cases v
 |.call i a b,h,v,e,nd,hd|.op i w a b,h,v,e,nd,hd=>by
  simp only[opn,List.nodup_cons,List.nodup_append,OD,not_or]at nd;simp only[deep,OD,not_or]at hd;simp only[bt]at e;simp only[rp];cases ea:a.isV
  . rw[ea]at e;simp only[OG,if_false]at e ⊢;obtain⟨k1,k2⟩:=ZmR ne nv hu uy a h.2.1 ea e nd.2.1 hd.1;exact⟨⟨by rw[k2,ne i λz=>nd.1.1<|z▸(e▸ZiB a ea)];exact h.1,k1,ZgT ne nv h.2.2 (λz=>nd.2.2.2 y (e▸ZiB a ea) y z rfl) hd.2⟩,rfl⟩
  . cases eb:b.isV
    . rw[ea,eb]at e;simp only at e ⊢;have yb:y∈b.opn:=e▸ZiB b eb;obtain⟨k1,k2⟩:=ZmR ne nv hu uy b h.2.2 eb e nd.2.2.1 hd.2;exact⟨⟨by rw[k2,ne i λz=>nd.1.2<|z▸yb];exact h.1,ZgT ne nv h.2.1 (λz=>nd.2.2.2 y z y yb rfl) hd.1,k1⟩,rfl⟩
    . rw[ea,eb]at e;exact⟨hu,uy.trans e.symm⟩
 |.iff i a b c,h,v,e,nd,hd=>by
  simp only[opn,List.nodup_cons,List.nodup_append,OD,not_or]at nd;simp only[deep,OD,not_or]at hd;simp only[bt]at e;simp only[rp];cases ea:a.isV
  . rw[ea]at e;simp only[OG,if_false]at e ⊢;have ya:y∈a.opn:=e▸ZiB a ea;obtain⟨k1,k2⟩:=ZmR ne nv hu uy a h.2.1 ea e nd.2.1 hd.1;exact⟨⟨by rw[k2,ne i λz=>nd.1.1<|z▸ya];exact h.1,k1,ZgT ne nv h.2.2.1 (λz=>nd.2.2.2 y ya y (.inl z) rfl) hd.2.1,ZgT ne nv h.2.2.2 (λz=>nd.2.2.2 y ya y (.inr z) rfl) hd.2.2⟩,rfl⟩
  . rw[ea]at e;exact⟨hu,uy.trans e.symm⟩
structure Fits(g:Nat->Option Gc)(L:Nat)(r u:Q):Prop where
 one:u.One
 uns:u.Uns
 o:∀n∈u.opn,n∈r.opn\/L<=n
 d:∀n∈u.deep,n∈r.deep\/L<=n\/∃c,g n=J c/\c.isV=Ws
def Zvi{g}{L}{q u}(hg:∀n c,g n=J c->n<L)(h:q.ok g)(one:q.One)(f:Fits g L q.bt u):(rp u q).One:=by
 obtain⟨n1,n2,n3⟩:=List.nodup_append.mp<|(ZeY q).nodup_iff.mp one.1;have fH:∀n∈q.cto,n∈q.opn:=λn hn=>(ZeY q).mem_iff.mpr<|Ys _ hn;have ind:∀n∈q.ctd,n∈q.deep:=λn hn=>(ZfI q).mem_iff.mpr<|Ys _ hn;have bC:=λn hn=>let⟨c,e,_⟩:=ZcF h n hn;hg n c e;have nB:∀(q:Q),q.ok g->∀n∈q.all,n<L:=by
  intro q;induction q with
  |num i z|name i z=>intro h n hn;rw[Ox.mp hn];exact hg _ _ h
  |fn i x e ih|rcc i f x e ih=>
   intro h n hn;rcases O2.mp hn with rfl|hn
   . exact hg _ _ h.1
   . exact ih h.2 n hn
  |call i a b ia ib|op i w a b ia ib=>
   intro h n hn;simp only[all,O2,OD]at hn;rcases hn with rfl|hn|hn
   . exact hg _ _ h.1
   . exact ia h.2.1 n hn
   . exact ib h.2.2 n hn
  |iff i a b c ia ib ic=>
   intro h n hn;simp only[all,O2,OD]at hn;rcases hn with rfl|hn|hn|hn
   . exact hg _ _ h.1
   . exact ia h.2.1 n hn
   . exact ib h.2.2.1 n hn
   . exact ic h.2.2.2 n hn
 refine⟨(Zj0 u q).nodup_iff.mpr<|List.nodup_append.mpr ⟨n1,f.one.1,λa ha b hb=>?_⟩,λn hn hd=>?_⟩
 . rintro rfl;rcases f.o a hb with z|z
   . exact n3 a ha a z rfl
   . have:=bC a<|fH a ha;lia
 . have hn:=OD.mp<|(Zj0 u q).mem_iff.mp hn;have hd:=OD.mp<|(Zjf u q).mem_iff.mp hd;rcases hn with hn|hn
   . rcases hd with hd|hd
     . exact one.2 n (fH n hn) (ind n hd)
     . rcases f.d n hd with z|z|⟨c,e,v⟩
       . exact one.2 n (fH n hn) ((λn hn=>(ZfI q).mem_iff.mpr<|Ov _ hn) n z)
       . have:=bC n<|fH n hn;lia
       . obtain⟨c',e',v'⟩:=ZcF h n<|fH n hn;rw[e]at e';cases e';rw[v]at v';cases v'
   . rcases hd with hd|hd
     . rcases f.o n hn with z|z
       . exact one.2 n ((λn hn=>(ZeY q).mem_iff.mpr<|Ov _ hn) n z) (ind n hd)
       . have:=(λn hn=>nB q h n<|ZG n hn) n<|ind n hd;lia
     . exact f.one.2 n hn hd
end Q
theorem Paired.app{F}:∀{l₁:List α}{l₂}{m₁}{m₂:List β},Paired F l₁ l₂->Paired F m₁ m₂->Paired F (l₁++m₁) (l₂++m₂)
 |_,_,_,_,.nil,q=>q
 |_,_,_,_,.cons r p,q=>.cons r (Paired.app p q)
theorem Paired.mem_r{F}:∀{l₁:List α}{l₂:List β},Paired F l₁ l₂->∀b∈l₂,∃a∈l₁,F a b
 |_,_,.nil,b,h=>by cases h
 |_,_,.cons r p,b,h=>by
  rcases O2.mp h with rfl|h
  . exact⟨_,.head _,r⟩
  . obtain⟨a,ha,q⟩:=Paired.mem_r p b h;exact⟨a,.tail _ ha,q⟩
theorem Paired.nodup{F}(inj:∀a a' b,F a b->F a' b->a=a'):∀{l₁:List α}{l₂:List β},Paired F l₁ l₂->l₁.Nodup->l₂.Nodup
 |_,_,.nil,_=>.nil
 |_,_,.cons r p,h=>by rw[List.nodup_cons]at h ⊢;refine⟨λz=>?_,Paired.nodup inj p h.2⟩;obtain⟨a',ha,q⟩:=Paired.mem_r p _ z;exact h.1 (inj _ _ _ r q▸ha)
def pq2{qd:α->β->Prop}(p:Paired qd [a,b] [s,t]):qd a s/\qd b t:=by cases p with|cons x p=>cases p with|cons y p=>trivial
def pq3{qd:α->β->Prop}(p:Paired qd [a,b,c] [s,t,u]):qd a s/\qd b t/\qd c u:=by cases p with|cons x p=>cases p with|cons y p=>cases p with|cons z p=>trivial
def Kn(K:List Pr)(L:Nat)(p:Pr)(n:Nat):Prop:=∃j,K[j]?=J p/\n=L+j
def Kn.inj(a:Kn K L p n)(b:Kn K L p' n):p=p':=by
 obtain⟨j,e,z⟩:=a;obtain⟨j',e',z'⟩:=b
 simp_all
structure Cp(g':Nat->Option Gc)(K:List Pr)(L:Nat)(S_:Nat->Prop)(ns:List Str)(t':T)(num:Nat)(b q':Q):Prop where
 ok:q'.ok g'
 no:q'.no=num
 er:q'.er=t'
 o:∃l,l.Sublist b.opn/\Paired (λi n=>Kn K L (i,ns) n) l q'.opn
 d:∀n∈q'.deep,(∃i bG,Kn K L (i,bG) n/\i∈b.deep)\/n∈b.all\/S_ n
 a:∀n∈q'.all,(∃i bG,Kn K L (i,bG) n/\i∈b.all)\/n∈b.all\/S_ n
 u:q'.Uns
def Cp.one(c:Cp g' K L S_ ns t' num b q')(h:b.One)(bC:∀n,n∈b.all\/S_ n->n<L):q'.One:=by
 obtain⟨l,hl,p⟩:=c.o;refine⟨Paired.nodup (λa a' n x y=>congrArg Prod.fst<|x.inj y) p<|hl.nodup h.1,λn hn hd=>?_⟩;obtain⟨i,hi,k⟩:=Paired.mem_r p n hn;rcases c.d n hd with⟨i',bG,k',bY⟩|z
 . have:=congrArg Prod.fst<|k.inj k';subst this;exact h.2 i (hl.subset hi) bY
 . have:=bC n z;obtain⟨j,_,e⟩:=k
   lia
def MQ(g:Nat->Option Gc)(S_:Nat->Prop)(md:List (Key×D))(qb:List (Str×T))(nm:List Str):Prop:=∀x∈nm,∃v:Q,v.ok g/\v.isV=Ws/\ZH md (.inr x)=J (nI v.no)/\get (qb.map λp=>(p.1,J p.2)) x=J v.er/\(∀n∈v.all,S_ n)/\v.Uns
def Cp.ma(c:Cp g' K L S_ ns t' num b q'){A:List Nat}(f:∀n∈b.all,n∈A)(n)(hn:n∈q'.all):(∃i bG,Kn K L (i,bG) n/\i∈A)\/n∈A\/S_ n:=(c.a n hn).imp (λ⟨i,bG,k,z⟩=>⟨i,bG,k,f i z⟩) (Or.imp (f n) id)
def Cp.md(c:Cp g' K L S_ ns t' num b q'){A B_:List Nat}(f:∀n∈b.deep,n∈B_)(g:∀n∈b.all,n∈A)(n)(hn:n∈q'.deep):(∃i bG,Kn K L (i,bG) n/\i∈B_)\/n∈A\/S_ n:=(c.d n hn).imp (λ⟨i,bG,k,z⟩=>⟨i,bG,k,f i z⟩) (Or.imp (g n) id)
def inl{a b}{i:Nat}:∀n∈a,n∈i::(a++b):=λ_ h=>.tail _ (Ys _ h)
def inr{a b}{i:Nat}:∀n∈b,n∈i::(a++b):=λ_ h=>.tail _ (Ov _ h)
section
variable {G:List Gc}{kv:List (NK×D)}{md:List (Key×D)}{nm ns:List Str}{qb:List (Str×T)}{K:List Pr}{N:List Gc}{y num:Nat}{S_:Nat->Prop}{b:Q}
inductive Ez(G:List Gc)(md:List (Key×D))(qb:List (Str×T))(K:List Pr)(N:List Gc)(y:Nat)(S_:Nat->Prop)(b:Q)(ns:List Str)(num:Nat):Prop
 |ez (q':Q) (c:Cp (wo (gl (G++N)) y) K G.length S_ ns (sub (arN qb ns) b.er) num b q')
 |own (c:Gc) (ak:List Nat) (e:gl G b.no=J c) (e':wo (gl (G++N)) y num=J (c.wp ak)) (k:Kn K G.length (b.no,ns) num) (p:Paired (Std G md K) (bn c ns) ak) (hc:cm ns c=Wt) (hv:c.isV=Ws->fin ns b.er=Ws)
def ZoM(i)(c)(h:wo (gl G) y i=J c):wo (gl<|G++N) y i=J c:=by
 unfold wo at h ⊢;split at h
 . cases h
 . rename_i ne;rw[if_neg ne];exact Zbd h
def ZlR(hy:y<G.length)(mq:MQ (wo (gl G) y) S_ md qb nm)(u:Pu G kv md nm K N [] [])(ok:b.ok (wo (gl G) y))(un:b.Uns)(st:Std G md K (b.no,ns) num)(hs:∀x∈ns,x∈nm):Ez G md qb K N y S_ b ns num:=by
 obtain⟨t,c,rd,e,q⟩:=st;have rb:=(Q.rd ok).mono ZV;have tt:=rb.one rd;simp at e q tt;obtain⟨c',e',f',_⟩:=rb.at;cases e.symm.trans e';rcases q with⟨hv,q,rfl⟩|⟨x,rfl,hx,bM⟩|⟨hc,j,ej,rfl⟩
 . rw[<-tt]at q;refine .ez b ⟨Q.mono (λi _ c e=>ZoM i c e) ok,rfl,(ZcD qb b.er ns q).symm,⟨[],List.nil_sublist _,?_⟩,λn hn=>.inr<|.inl<|Q.ZG n hn,λn hn=>.inr<|.inl hn,un⟩;have v:=(Zco f').2.2.1;rw[hv]at v;rw[show b.opn=[] by cases b<;>first|rfl|cases v];exact .nil
 . obtain⟨v,vo,vv,ve,vg,vs,vu⟩:=mq x<|hs x hx;have eb:b.er=.name x:=by generalize b.er=z at f';cases z<;>simp only[Fit]at f';rw[f']
   refine .ez v ⟨Q.mono (λi _ c e=>ZoM i c e) vo,(ZgX<|YF<|bM.symm.trans ve).symm,?_,⟨[],List.nil_sublist _,?_⟩,λn hn=>.inr<|.inr<|vs n<|Q.ZG n hn,λn hn=>.inr<|.inr<|vs n hn,vu⟩
   . rw[eb];simp only[sub];rw[ZcL,if_pos hx,vg];rfl
   . rw[show v.opn=[] by cases v<;>first|rfl|cases vv];exact .nil
 . obtain⟨c',ak,a1,a2,a3⟩:=u.d j (b.no,ns) ej (by simp) (by simp);cases e.symm.trans a1;obtain⟨t',c',gd,e',hv,_⟩:=u.g (b.no,ns)<|O1 ej;cases e.symm.trans e';refine .own c ak e ?_ ⟨j,ej,rfl⟩ a3 hc λz=>rb.one gd.r▸hv z;rw[Zml<|by lia];show(G++N)[G.length+j]?=_;rw[Om<|by lia,show G.length+j-G.length=j by lia];exact a2
def ZdS{c}{ak}(p:Paired (Std G md K) (bn c ns) ak):ak.length=c.ps.length:=by rw[<-Paired.len p];unfold bn;simp
end
def cpy{G}{kv}{md}{nm}{qb}{K}{N}{y}{S_}(hy:y<G.length)(mq:MQ (wo (gl G) y) S_ md qb nm)(u:Pu G kv md nm K N [] []):∀(b) (ns) (num),b.ok (wo (gl G) y)->b.Uns->(∀n,n∈b.all\/S_ n->n<G.length)->Std G md K (b.no,ns) num->(∀x∈ns,x∈nm)->∃q',Cp (wo (gl<|G++N) y) K G.length S_ ns (sub (arN qb ns) b.er) num b q':=by
 intro b;induction b with
 |num i z=>
  intro ns num ok un _ st hs;cases ZlR hy mq u ok un st hs with
  |ez q c=>exact⟨q,c⟩
  |own c ak e e' k p _ hv=>cases e.symm.trans (ZV _ _ ok);exact absurd (hv rfl) (by simp[Q.er,fin])
 |name i x=>
  intro ns num ok un _ st hs;cases ZlR hy mq u ok un st hs with
  |ez q c=>exact⟨q,c⟩
  |own c ak e e' k p hc hv=>cases e.symm.trans (ZV _ _ ok);cases List.length_eq_zero_iff.mp (ZdS p);exact⟨.name num x,e',rfl,by simp only[Q.er,sub];rw[ZcL,if_neg<|by simpa[cm]using hc];rfl,⟨[i],List.Sublist.refl _,.cons k .nil⟩,λn hn=>(by cases hn),λn hn=>.inl ⟨i,ns,Ox.mp hn▸k,.head _⟩,trivial⟩
 |fn i x e ih=>
  intro ns num ok un sm st hs;cases ZlR hy mq u ok un st hs with
  |ez q c=>exact⟨q,c⟩
  |own c ak e0 e' k p hc hv=>
   cases e0.symm.trans (ZV _ _ ok.1);obtain⟨n1,rfl⟩:=List.length_eq_one_iff.mp<|ZdS p;cases p with|cons s1 _=>?_
   obtain⟨q1,c1⟩:=ih (rs ns [x]) n1 ok.2 un.2 (λn hn=>sm n<|hn.imp (λz=>.tail _ z) id) s1<|λy hy=>hs y (List.mem_filter.mp hy).1;exact⟨.fn num x q1,⟨c1.no▸e',c1.ok⟩,rfl,by show T.fn x q1.er=T.fn x (sub (inn (.fn x e.er)<|arN qb ns) e.er);rw[c1.er,ZeR];rfl,⟨[],List.nil_sublist _,.nil⟩,λn hn=>(c1.a n hn).imp id<|Or.imp (λz=>.tail _ z) id,λn hn=>(O2.mp hn).elim (λz=>.inl ⟨i,ns,z▸k,.head _⟩)<|c1.ma (λ_ z=>.tail _ z) n,⟨c1.one un.1<|λn hn=>sm n<|hn.imp (λz=>.tail _ z) id,c1.u⟩⟩
 |rcc i f x e ih=>
  intro ns num ok un sm st hs;cases ZlR hy mq u ok un st hs with
  |ez q c=>exact⟨q,c⟩
  |own c ak e0 e' k p hc hv=>
   cases e0.symm.trans (ZV _ _ ok.1);obtain⟨n1,rfl⟩:=List.length_eq_one_iff.mp<|ZdS p;cases p with|cons s1 _=>?_
   obtain⟨q1,c1⟩:=ih (rs ns [f,x]) n1 ok.2 un.2 (λn hn=>sm n<|hn.imp (λz=>.tail _ z) id) s1<|λy hy=>hs y (List.mem_filter.mp hy).1;exact⟨.rcc num f x q1,⟨c1.no▸e',c1.ok⟩,rfl,by show T.rcc f x q1.er=T.rcc f x (sub (inn (.rcc f x e.er)<|arN qb ns) e.er);rw[c1.er,ZeR];rfl,⟨[],List.nil_sublist _,.nil⟩,λn hn=>(c1.a n hn).imp id<|Or.imp (λz=>.tail _ z) id,λn hn=>(O2.mp hn).elim (λz=>.inl ⟨i,ns,z▸k,.head _⟩)<|c1.ma (λ_ z=>.tail _ z) n,⟨c1.one un.1<|λn hn=>sm n<|hn.imp (λz=>.tail _ z) id,c1.u⟩⟩
 |call i a b ia ib=>
  intro ns num ok un sm st hs;cases ZlR hy mq u ok un st hs with
  |ez q c=>exact⟨q,c⟩
  |own c ak e0 e' k p hc hv=>
   cases e0.symm.trans (ZV _ _ ok.1);obtain⟨n1,n2,rfl⟩:∃a b,ak=[a,b]:=match ak,ZdS p with|[a,b],_=>⟨a,b,rfl⟩
   simp only[bn,Gc.ps,Gc.bd,Zft,Op,Oy]at p;obtain⟨s1,s2⟩:=pq2 p;obtain⟨q1,c1⟩:=ia ns n1 ok.2.1 un.1 (λn hn=>sm n<|hn.imp (inl n) id) s1 hs;obtain⟨q2,c2⟩:=ib ns n2 ok.2.2 un.2 (λn hn=>sm n<|hn.imp (inr n) id) s2 hs;obtain⟨l1,o1,p1⟩:=c1.o;obtain⟨l2,o2,p2⟩:=c2.o;exact⟨.call num q1 q2,⟨by rw[c1.no,c2.no];exact e',c1.ok,c2.ok⟩,rfl,by simp only[Q.er,sub];rw[c1.er,c2.er],⟨i::(l1++l2),(o1.append o2).cons_cons _,.cons k<|Paired.app p1 p2⟩,λn hn=>(OD.mp hn).elim (c1.md (λ_=>Ys _) inl n)<|c2.md (λ_=>Ov _) inr n,λn hn=>(O2.mp hn).elim (λz=>.inl ⟨i,ns,z▸k,.head _⟩) λhn=>(OD.mp hn).elim (c1.ma inl n)<|c2.ma inr n,⟨c1.u,c2.u⟩⟩
 |op i w a b ia ib=>
  intro ns num ok un sm st hs;cases ZlR hy mq u ok un st hs with
  |ez q c=>exact⟨q,c⟩
  |own c ak e0 e' k p hc hv=>
   cases e0.symm.trans (ZV _ _ ok.1);obtain⟨n1,n2,rfl⟩:∃a b,ak=[a,b]:=match ak,ZdS p with|[a,b],_=>⟨a,b,rfl⟩
   simp only[bn,Gc.ps,Gc.bd,Zft,Op,Oy]at p;obtain⟨s1,s2⟩:=pq2 p;obtain⟨q1,c1⟩:=ia ns n1 ok.2.1 un.1 (λn hn=>sm n<|hn.imp (inl n) id) s1 hs;obtain⟨q2,c2⟩:=ib ns n2 ok.2.2 un.2 (λn hn=>sm n<|hn.imp (inr n) id) s2 hs;obtain⟨l1,o1,p1⟩:=c1.o;obtain⟨l2,o2,p2⟩:=c2.o;exact⟨.op num w q1 q2,⟨by rw[c1.no,c2.no];exact e',c1.ok,c2.ok⟩,rfl,by simp only[Q.er,sub];rw[c1.er,c2.er],⟨i::(l1++l2),(o1.append o2).cons_cons _,.cons k<|Paired.app p1 p2⟩,λn hn=>(OD.mp hn).elim (c1.md (λ_=>Ys _) inl n)<|c2.md (λ_=>Ov _) inr n,λn hn=>(O2.mp hn).elim (λz=>.inl ⟨i,ns,z▸k,.head _⟩) λhn=>(OD.mp hn).elim (c1.ma inl n)<|c2.ma inr n,⟨c1.u,c2.u⟩⟩
 |iff i a b d ia ib id'=>
  intro ns num ok un sm st hs;cases ZlR hy mq u ok un st hs with
  |ez q c=>exact⟨q,c⟩
  |own c ak e0 e' k p hc hv=>
   cases e0.symm.trans (ZV _ _ ok.1);obtain⟨n1,n2,n3,rfl⟩:∃a b c,ak=[a,b,c]:=match ak,ZdS p with|[a,b,c],_=>⟨a,b,c,rfl⟩
   simp only[bn,Gc.ps,Gc.bd,Zft,Op,Oy]at p;obtain⟨s1,s2,s3⟩:=pq3 p;have i2:∀n∈b.all,n∈(Q.iff i a b d).all:=λn z=>inr n<|Ys _ z;have i3:∀n∈d.all,n∈(Q.iff i a b d).all:=λn z=>inr n<|Ov _ z;obtain⟨q1,c1⟩:=ia ns n1 ok.2.1 un.1 (λn hn=>sm n<|hn.imp (inl n) id) s1 hs;obtain⟨q2,c2⟩:=ib ns n2 ok.2.2.1 un.2.1 (λn hn=>sm n<|hn.imp (i2 n) id) s2 hs;obtain⟨q3,c3⟩:=id' ns n3 ok.2.2.2 un.2.2 (λn hn=>sm n<|hn.imp (i3 n) id) s3 hs;obtain⟨l1,o1,p1⟩:=c1.o;obtain⟨l2,o2,p2⟩:=c2.o;obtain⟨l3,o3,p3⟩:=c3.o;exact⟨.iff num q1 q2 q3,⟨by rw[c1.no,c2.no,c3.no];exact e',c1.ok,c2.ok,c3.ok⟩,rfl,by simp only[Q.er,sub];rw[c1.er,c2.er,c3.er],⟨i::(l1++(l2++l3)),(o1.append<|o2.append o3).cons_cons _,.cons k<|Paired.app p1<|Paired.app p2 p3⟩,λn hn=>(OD.mp hn).elim (c1.md (λ_=>Ys _) inl n) λhn=>(OD.mp hn).elim (c2.md (λ_ z=>Ov _<|Ys _ z) i2 n)<|c3.md (λ_ z=>Ov _<|Ov _ z) i3 n,λn hn=>(O2.mp hn).elim (λz=>.inl ⟨i,ns,z▸k,.head _⟩) λhn=>(OD.mp hn).elim (c1.ma inl n) λhn=>(OD.mp hn).elim (c2.ma i2 n)<|c3.ma i3 n,⟨c1.u,c2.u,c3.u⟩⟩
section
variable {P:Pg}
def ZtF{h}(e:h[i]?=J (.dic md))(k:Zan md=J nm)(o:nm.all Yp=Ws):Zaj GD .tdk [.ref i] h=.ok (nD nm) h:=by show Zq1 GD [.ref i] h=_;unfold Zq1 dicOf;simp only[e,Yz,k,if_pos o];rfl
def Zat(fs:List (Str×D)):DO:=.ins (O "Copier") fs
def ZgH{U}{S}{h R}{a e}{o}{fs}{f}{d}(p:ev U e S h=.ok d R)(q:ev U a S R=.ok (.ref o) R)(k:R[o]?=J (Zat fs))(l:fs.length<1000):xs1 U (.seta [O "Copier"] a f e) S h=.ok (.nx,S) (R.set o<|Zat<|ZgO f d fs):=by rw[ZoL,p,Zu,q];simp[ZhX,k,Zat,l]
def ZcE{h:Hd}{o}{x y}(e:h[o]?=J x):(h.set o y)[o]?=J y:=by rw[Ol<|ZF e]
def ZO{h:Hd}{o i}{x y}(e:h[i]?=J x)(ne:i≠o):(h.set o y)[i]?=J x:=(Oc ne.symm).trans e
def Zxo(H:Gs P)(n){G}{h}{k mk m}{md}{nm}{t}(hk:h[k]?=J (cl G))(hm:h[mk]?=J (.dic md))(ks:Zan md=J nm)(so:nm.all Yp=Ws)(hn:nm.length<=2)(rd:Rd (gl G) m t)(hz:t.size<=20000):∃A h' kv,Zlp (run P<|n+5) (O "Copier") [.ref k,nI m,.ref mk] h=.ok (.ref A.o) h'/\A.k=k/\A.m=mk/\h.length<=A.n/\h.length<=A.w/\Sc A G kv md h' h' [] [] []/\ZhU G kv/\ZoI G kv/\inN kv (m,nm)=Ws/\Fm [] h h':=by
 have lk:=ZF hk;unfold Zlp;rw[Zde H.n_Copier___init__ H.Copier___init__ rfl];have nk:∀{i o},h[i]?=J o->i≠h.length:=λe z=>by have:=ZF e;lia
 have k1:(h++[Zat []])[h.length]?=J (Zat []):=Z0;have x1:xs1 (P.tbl<|n+4) Zbv [J<|.ref h.length,J<|.ref k,J<|nI m,J<|.ref mk] (h++[Zat []])=.ok (.nx,[J<|.ref h.length,J<|.ref k,J<|nI m,J<|.ref mk]) ((h++[Zat []]).set h.length<|Zat [(O "cells",.ref k)]):=ZgH rfl rfl k1 (by simp);have f1:Fm [h.length] h ((h++[Zat []]).set h.length<|Zat [(O "cells",.ref k)]):=Fm.app.trans (.set<|by simp);have k2:=ZcE (y:=Zat [(O "cells",.ref k)]) k1;generalize (h++[Zat []]).set h.length (Zat [(O "cells",.ref k)])=R at *;have x2:xs1 (P.tbl<|n+4) Zbu [J<|.ref h.length,J<|.ref k,J<|nI m,J<|.ref mk] R=.ok (.nx,[J<|.ref h.length,J<|.ref k,J<|nI m,J<|.ref mk]) (R.set h.length<|Zat [(O "cells",.ref k),(O "meant",.ref mk)]):=(ZgH rfl rfl k2<|by simp).trans (by simp[ZgO]);have f2:Fm [h.length] h (R.set h.length<|Zat [(O "cells",.ref k),(O "meant",.ref mk)]):=f1.trans (.set<|by simp);have k3:=ZcE (y:=Zat [(O "cells",.ref k),(O "meant",.ref mk)]) k2;generalize R.set h.length (Zat [(O "cells",.ref k),(O "meant",.ref mk)])=h2 at *;obtain⟨h3,fk,kv,e3,fG,lf,gS,ok,cd,inn⟩:=ZuJ H n (f2.at hk<|by simpa using nk hk) rd hz hn;have q3:ev (P.tbl<|n+4) (.call (O "free_beneath")<|.cons (.var 1)<|.cons (.var 2)<|.cons (.blt .tdk<|.cons (.var 3) .nil) .nil) [J<|.ref h.length,J<|.ref k,J<|nI m,J<|.ref mk] h2=.ok (.ref fk) h3:=Zi e3 (Zc rfl<|Zc rfl<|Zc (Zhr (Zc rfl rfl)<|ZtF (f2.at hm<|by simpa using nk hm) ks so) rfl);have j6:=gS.at k3 (by simp);have x3:xs1 (P.tbl<|n+4) Zbt [J<|.ref h.length,J<|.ref k,J<|nI m,J<|.ref mk] h2=.ok (.nx,[J<|.ref h.length,J<|.ref k,J<|nI m,J<|.ref mk]) (h3.set h.length<|Zat [(O "cells",.ref k),(O "meant",.ref mk),(O "free",.ref fk)]):=(ZgH q3 rfl j6<|by simp).trans (by simp[ZgO]);have f4:Fm [h.length] h (h3.set h.length<|Zat [(O "cells",.ref k),(O "meant",.ref mk),(O "free",.ref fk)]):=(f2.trans<|gS.sub<|by simp).trans (.set<|by simp);have nf:fk≠h.length:=by have:=ZF k3;lia
 have gI:=ZO (y:=Zat [(O "cells",.ref k),(O "meant",.ref mk),(O "free",.ref fk)]) fG nf;have k4:=ZcE (y:=Zat [(O "cells",.ref k),(O "meant",.ref mk),(O "free",.ref fk)]) j6;generalize h3.set h.length (Zat [(O "cells",.ref k),(O "meant",.ref mk),(O "free",.ref fk)])=h4 at *;have j5:(h4++[DO.dnk []])[h.length]?=J _:=keep k4;have lI:(h4++[DO.dnk []])[h4.length]?=J (.dnk []):=Z0;have iW:(h4++[DO.dnk []])[fk]?=J (.dnk kv):=keep gI;have x4:xs1 (P.tbl<|n+4) Zbs [J<|.ref h.length,J<|.ref k,J<|nI m,J<|.ref mk] h4=.ok (.nx,[J<|.ref h.length,J<|.ref k,J<|nI m,J<|.ref mk]) ((h4++[DO.dnk []]).set h.length<|Zat [(O "cells",.ref k),(O "meant",.ref mk),(O "free",.ref fk),(O "known",.ref h4.length)]):=(ZgH rfl rfl j5<|by simp).trans (by simp[ZgO]);have l4:=ZF k4;have nS:=ZF gI;have f5:Fm [h.length] h ((h4++[DO.dnk []]).set h.length<|Zat [(O "cells",.ref k),(O "meant",.ref mk),(O "free",.ref fk),(O "known",.ref h4.length)]):=(f4.trans .app).trans (.set<|by simp);have lH:=ZO (y:=Zat [(O "cells",.ref k),(O "meant",.ref mk),(O "free",.ref fk),(O "known",.ref h4.length)]) lI (show h4.length≠h.length by lia);have lJ:=ZO (y:=Zat [(O "cells",.ref k),(O "meant",.ref mk),(O "free",.ref fk),(O "known",.ref h4.length)]) iW nf;have k5:=ZcE (y:=Zat [(O "cells",.ref k),(O "meant",.ref mk),(O "free",.ref fk),(O "known",.ref h4.length)]) j5;have l5:((h4++[DO.dnk []]).set h.length<|Zat [(O "cells",.ref k),(O "meant",.ref mk),(O "free",.ref fk),(O "known",.ref h4.length)]).length=h4.length+1:=by simp
 generalize (h4++[DO.dnk []]).set h.length (Zat [(O "cells",.ref k),(O "meant",.ref mk),(O "free",.ref fk),(O "known",.ref h4.length)])=h5 at *;have q5:ev (P.tbl<|n+4) (.lstl .nil) [J<|.ref h.length,J<|.ref k,J<|nI m,J<|.ref mk] h5=.ok (.ref h5.length) (h5++[.lst []]):=Zh1 rfl (by simp);have x5:xs1 (P.tbl<|n+4) Zbr [J<|.ref h.length,J<|.ref k,J<|nI m,J<|.ref mk] h5=.ok (.nx,[J<|.ref h.length,J<|.ref k,J<|nI m,J<|.ref mk]) ((h5++[DO.lst []]).set h.length<|cpD ⟨h.length,k,mk,fk,h4.length,h5.length⟩):=(ZgH q5 rfl (keep k5)<|by simp).trans (by simp[ZgO,cpD,Zat]);have lB:(h5++[DO.lst []])[h5.length]?=J (.lst []):=Z0;have w:xs2 (P.tbl<|n+4) Zcc [J<|.ref h.length,J<|.ref k,J<|nI m,J<|.ref mk] (h++[Zat []])=.ok (.nx,_) _:=(Za x1).trans<|(Za x2).trans<|(Za x3).trans<|(Za x4).trans<|(Za x5).trans rfl;have f6:Fm [h.length] h ((h5++[DO.lst []]).set h.length<|cpD ⟨h.length,k,mk,fk,h4.length,h5.length⟩):=(f5.trans .app).trans (.set<|by simp);refine⟨⟨h.length,k,mk,fk,h4.length,h5.length⟩,(h5++[DO.lst []]).set h.length<|cpD ⟨h.length,k,mk,fk,h4.length,h5.length⟩,kv,?_,rfl,rfl,by show h.length<=h4.length;lia,by show h.length<=h5.length;lia,⟨ZcE<|keep k5,by rw[Yt];exact f6.at hk<|by simpa using nk hk,f6.at hm<|by simpa using nk hm,ZO (keep lJ) nf,ZO (keep lH) (by show h4.length≠h.length;lia),ZO lB (by show h5.length≠h.length;lia),.refl,by show k≠h5.length;lia,by show fk≠h4.length;lia⟩,ok,cd,inn,f6.cut λi hi=>.inr (by simp at hi;lia)⟩;have:=congrArg (λr=>(Ze r).bind λd h2=>match d with|.non=>qd.ok (D.ref h.length) h2|_=>qd.bad) w;exact this
def Pu.none:Pu G kv md nm [] [] [] []:=⟨rfl,.nil,λ_ h=>(by cases h),λ_ h=>(by cases h),λj p h=>(by cases h)⟩
def Zxr(H:Gs P)(n){A}{G}{kv}{md}{nm}{qb}{h}{m y}{t}(s:Sc A G kv md h h [] [] [])(ks:Zan md=J nm)(so:nm.all Yp=Ws)(hn:nm.length<=2)(ne:nm≠[])(hy:y<G.length)(rd:Rd (wo (gl G) y) m t)(hz:t.size<=20000)(mt:Mt G md qb nm)(mw:∀x∈nm,∀a v,ZH md (.inr x)=J (nI a)->get (qb.map λp=>(p.1,J p.2)) x=J v->Rd (wo (gl G) y) a v)(ok:ZhU G kv)(cd:ZoI G kv)(i:inN kv (m,nm)=Ws)(lG:G.length<=60000):∃N num h',run P (n+4) (mnm (O "Copier")<|O "copied") [.ref A.o,nI m] h=.ok (nI num) h'/\h'[A.k]?=J (cl<|G++N)/\Rd (wo (gl<|G++N) y) num (sub (arN qb nm) t)/\N.length<=cc nm t/\Fm [A.k,A.n,A.w] h h'/\∃K,Pu G kv md nm K N [] []/\Std G md K (m,nm) num:=by have big:=H.b.big;have oG:=Zc3 nm t;obtain⟨num,R,K1,N1,W1,e1,s1,u1,d1,_,b1,c1⟩:=ZmF H (n+1) (p:=(m,nm)) (X:=[]) s Pu.none ⟨rd.mono ZV,i,ne,hn,λ_ h=>h⟩ mt ok (by simp;lia) (by simp);simp only[List.length_nil,Nat.zero_add,show dz []=0 from rfl,show smz []=0 from rfl]at b1 c1;obtain⟨h2,K2,N2,e2,s2,u2,⟨L,z2⟩,b2⟩:=Zkb H n (S:=[J<|.ref A.o,J<|nI m,J<|nI num]) mt ok cd rfl P.L R K1 N1 W1 s1 u1 (by lia) (by lia) (by lia);refine⟨N2,num,h2,?_,s2.c,Zo9 hy mt mw u2 t.size t (m,nm) num (Oq _) rd (z2▸d1.mono L) λ_ h=>h,by rw[u2.l];lia,s2.fm,K2,u2,z2▸d1.mono L⟩;rw[Zde H.n_Copier_copied H.Copier_copied rfl];have w:xs2 (P.tbl<|n+3) Zda [J<|.ref A.o,J<|nI m,M] h=.ok (.rt<|nI num,_) h2:=(Za<|Zg (i:=2)<|ZfZ (i:=A.o) rfl s.o rfl (Zc rfl<|Zc (Zhr (Zc (ZyM s.o rfl) rfl)<|ZtF s.m ks so) rfl) e1).trans<|(Za (s:=Zcb)<|ZeO.trans e2).trans<|Zb<|Zk rfl;exact congrArg Ze w
def ZuM(H:Gs P)(n){S}{es}{e}{G}{h}{k mk m y}{md}{nm}{qb}{t}(mQ:evs (P.tbl<|n+5) es S h=.ok [.ref k,nI m,.ref mk] h)(he:∀h,ev (P.tbl<|n+5) e S h=.ok (nI m) h)(hk:h[k]?=J (cl G))(hm:h[mk]?=J (.dic md))(ks:Zan md=J nm)(so:nm.all Yp=Ws)(hn:nm.length<=2)(ne:nm≠[])(hy:y<G.length)(rd:Rd (wo (gl G) y) m t)(hz:t.size<=20000)(mt:Mt G md qb nm)(mw:∀x∈nm,∀a v,ZH md (.inr x)=J (nI a)->get (qb.map λp=>(p.1,J p.2)) x=J v->Rd (wo (gl G) y) a v)(lG:G.length<=60000):∃N num h',ev (P.tbl<|n+5) (.mcl (O "Copier") (O "copied") (.mk (O "Copier") es)<|.cons e .nil) S h=.ok (nI num) h'/\h'[k]?=J (cl<|G++N)/\Rd (wo (gl<|G++N) y) num (sub (arN qb nm) t)/\N.length<=cc nm t/\Fm [k] h h'/\∃kv K,Pu G kv md nm K N [] []/\Std G md K (m,nm) num:=by
 obtain⟨A,R,kv,e1,rfl,rfl,l1,l2,s1,ok,cd,i,f1⟩:=Zxo H n hk hm ks so hn (rd.mono ZV) hz;obtain⟨N,num,h2,e2,k2,r2,n2,f2,pu⟩:=Zxr H (n+1) s1 ks so hn ne hy rd hz mt mw ok cd i lG;refine⟨N,num,h2,?_,k2,r2,n2,((f1.sub<|by simp).trans f2).cut λj hj=>?_,kv,pu⟩
 . refine ZfZ ?_ s1.o rfl (Zc (he _) rfl) e2;rw[Zt1,mQ];trivial
 . simp at hj ⊢;rcases hj with rfl|rfl|rfl
   . simp
   . exact .inr l1
   . exact .inr l2
def Zjy(qb:List (Str×T)):arN qb (qb.map (·.1))=Fil.ar qb:=by unfold arN Fil.ar;rw[List.filter_eq_self.mpr];intro p hp;exact decide_eq_true (List.mem_map_of_mem hp)
def ccF:T->Nat
 |.fn x e=>cc [x] e
 |.rcc f x e=>cc [f,x] e
 |_=>0
def Zwe(t):ccF t<=t.size:=by
 cases t with
 |fn x e=>have:=Zc3 [x] e;have:=zf x e;simp only[ccF];lia
 |rcc f x e=>have:=Zc3 [f,x] e;have:=zr f x e;simp only[ccF];lia
 |_=>exact Yy _
inductive How(G:List Gc)(y iF iA:Nat)(tF tA:T)(N:List Gc)(num:Nat)(s':T):Prop
 |mk (md:List (Key×D)) (nm:List Str) (qb:List (Str×T)) (kv:List (NK×D)) (K:List Pr) (b:Nat) (t:T) (c:Gc) (e:gl G iF=J c) (eb:c.ps=[b]) (v:c.isV=Ws) (rb:Rd (wo (gl G) y) b t) (es:s'=sub (arN qb nm) t) (pu:Pu G kv md nm K N [] []) (sd:Std G md K (b,nm) num) (cond:∀x∈nm,(ZH md (.inr x)=J (nI iF)/\get (qb.map λp=>(p.1,J p.2)) x=J tF)\/(ZH md (.inr x)=J (nI iA)/\get (qb.map λp=>(p.1,J p.2)) x=J tA))
def v6(k iF iA:Nat)(a b c:Option D):Ev:=[J<|.ref k,J<|nI iF,J<|nI iA,a,b,c]
inductive Cld(P:Pg)(n:Nat)(G:List Gc)(h:Hd)(k iF iA y:Nat)(tF tA:T):Prop
 |no (b:bec (.call tF tA)=M) (q:run P (n+6) (O "called_graph") [.ref k,nI iF,nI iA] h=.ok .non h)
 |yes (s':T) (N:List Gc) (num:Nat) (c':Gc) (h':Hd) (b:bec (.call tF tA)=J s') (q:run P (n+6) (O "called_graph") [.ref k,nI iF,nI iA] h=.ok c'.d h') (k':h'[k]?=J (cl (G++N))) (m:Fm [k] h h') (e:(G++N)[num]?=J c') (r:Rd (wo (gl (G++N)) y) num s') (n':N.length<=ccF tF) (hw:How G y iF iA tF tA N num s')
section
variable {G:List Gc}{h:Hd}{k iF iA y b:Nat}{md:List (Key×D)}{nm:List Str}{qb:List (Str×T)}{t tA:T}{c:Gc}
inductive Cop(G:List Gc)(h:Hd)(k y b:Nat)(md:List (Key×D))(nm:List Str)(qb:List (Str×T))(t:T)(r:qd D):Prop
 |mk (N:List Gc) (num:Nat) (c':Gc) (h':Hd) (q:r=.ok c'.d h') (k':h'[k]?=J (cl (G++N))) (m:Fm [k] h h') (e:(G++N)[num]?=J c') (r:Rd (wo (gl (G++N)) y) num (sub (Fil.ar qb) t)) (n:N.length<=cc nm t) (kv:List (NK×D)) (K:List Pr) (pu:Pu G kv md nm K N [] []) (sd:Std G md K (b,nm) num)
def Znq(H:Gs P)(n)(hk:h[k]?=J (cl G))(hy:y<G.length)(lG:G.length<=60000)(hb:c.ps=[b])(hM:qb.map (·.1)=nm)(ks:Zan md=J nm)(so:nm.all Yp=Ws)(hn:nm.length<=2)(ne:nm≠[])(rd:Rd (wo (gl G) y) b t)(hz:t.size<=20000)(mt:Mt G md qb nm)(mw:∀x∈nm,∀a v,ZH md (.inr x)=J (nI a)->get (qb.map λp=>(p.1,J p.2)) x=J v->Rd (wo (gl G) y) a v):
 Cop G h k y b md nm qb t (Ze<|xs2 (P.tbl<|n+5) (.cons ZhS<|.cons ZhR .nil) (v6 k iF iA (J c.d) (J<|.ref h.length) M)<|h++[.dic md]):=by
 have k1:(h++[DO.dic md])[k]?=J (cl G):=keep hk;have m1:(h++[DO.dic md])[h.length]?=J (.dic md):=Z0;have f1:Fm [k] h (h++[DO.dic md]):=.app;obtain⟨N,num,h2,e2,k2,r2,n2,f2,kv,K,pu,sd⟩:=ZuM H n (S:=v6 k iF iA (J c.d) (J<|.ref h.length)<|J<|nI b) (es:=.cons (.var 0)<|.cons (.var 5)<|.cons (.var 4) .nil) (e:=.var 5) rfl (λ_=>rfl) k1 m1 ks so hn ne hy rd hz mt mw lG;obtain⟨c',e',_,_⟩:=r2.inv;rw[<-hM,Zjy]at r2;exact⟨N,num,c',h2,congrArg Ze<|(Za<|Zg (i:=5)<|(Zs (Zi (Zgq H.b.toTre (n+4) c) rfl) rfl).trans (by rw[hb];rfl)).trans<|Zb<|Zk<|(Zs (x:=.ref k) rfl e2).trans<|(ZA k2).trans (by rw[Zwt<|ZV _ _ e'];rfl),k2,f1.trans f2,ZV _ _ e',r2,n2,kv,K,pu,sd⟩
def ZqT(hk:h[k]?=J (cl G))(e:G[iF]?=J c):xs1 (P.tbl<|n+5) ZhT (v6 k iF iA M M M) h=.ok (.nx,v6 k iF iA (J c.d) M M) h:=Zg (ZbG rfl rfl hk e)
theorem Zwg(H:Gs P)(n){x}(hk:h[k]?=J (cl G))(hy:y<G.length)(lG:G.length<=60000)(e:G[iF]?=J (.fn x b))(rb:Rd (wo (gl G) y) b t)(rA:Rd (wo (gl G) y) iA tA)(wx:Yp x=Ws)(hz:t.size<=20000):Cld P n G h k iF iA y (.fn x t) tA:=by
 have vx:ZH [(.inr x,nI iA)] (.inr x)=J (nI iA):=by simp [ZH]
 have gx:Tm.get (([(x,tA)]).map λp=>(p.1,J p.2)) x=J tA:=by simp [Tm.get]
 obtain⟨N,num,c',h2,q,e2,e3,e4,e5,e6,kv,K,pu,sd⟩:=Znq H n (nm:=[x]) hk hy lG (c:=.fn x b) rfl rfl rfl (by simp_all) (by simp) (by simp) rb hz ⟨λz hz=>by
   rw [Ox.mp hz];exact⟨iA,tA,vx,gx,rA.mono ZV⟩⟩ (λz hz a v R h2=>by
   rw [Ox.mp hz] at R h2;rw [<-ZgX (YF<|vx.symm.trans R),<-YF (gx.symm.trans h2)];exact rA)
 exact .yes _ N num c' h2 rfl ((Zd H.called rfl).trans ((congrArg Ze ((Za<|ZqT hk e).trans ((Za<|(Zo<|Zm (ZaN (x:=O "fn") rfl rfl)<|by simp).trans rfl).trans (Za ((Zq<|Zm (ZaN (x:=O "fn") rfl rfl)<|decide_eq_true rfl).trans ((Za (Zg (i:=4) (by
   rw [Zkn,show evs (P.tbl<|n+5) _ _ h=.ok [.str x,nI iA] h from Zc rfl (Zc rfl rfl),Zu];simp [Zch,keyOf,ZbC,putD]))).trans rfl)))))).trans q)) e2 e3 e4 e5 e6 ⟨_,[x],[(x,tA)],kv,K,b,t,_,e,rfl,rfl,rb,by rw [show [x]=[(x,tA)].map (·.1) from rfl,Zjy],pu,sd,λz hz=>.inr (by rw [Ox.mp hz];exact⟨vx,gx⟩)⟩
theorem Zwf(H:Gs P)(n){g x}(hk:h[k]?=J (cl G))(hy:y<G.length)(lG:G.length<=60000)(e:G[iF]?=J (.rcc g x b))(rb:Rd (wo (gl G) y) b t)(rF:Rd (wo (gl G) y) iF (.rcc g x t))(rA:Rd (wo (gl G) y) iA tA)(wg:Yp g=Ws)(wx:Yp x=Ws)(gF:g≠x)(hz:t.size<=20000):Cld P n G h k iF iA y (.rcc g x t) tA:=by
 have vg:ZH [(.inr g,nI iF),(.inr x,nI iA)] (.inr g)=J (nI iF):=by simp [ZH]
 have vx:ZH [(.inr g,nI iF),(.inr x,nI iA)] (.inr x)=J (nI iA):=by simp [ZH,gF]
 have gg:Tm.get (([(g,T.rcc g x t),(x,tA)]).map λp=>(p.1,J p.2)) g=J (T.rcc g x t):=by simp [Tm.get]
 have gx:Tm.get (([(g,T.rcc g x t),(x,tA)]).map λp=>(p.1,J p.2)) x=J tA:=by simp [Tm.get,gF]
 obtain⟨N,num,c',h2,q,e2,e3,e4,e5,e6,kv,K,pu,sd⟩:=Znq H n (iF:=iF) (iA:=iA) (md:=[(.inr g,nI iF),(.inr x,nI iA)]) (nm:=[g,x]) (qb:=[(g,.rcc g x t),(x,tA)]) hk hy lG (c:=.rcc g x b) rfl rfl rfl (by simp [wg,wx]) (by simp) (by simp) rb hz ⟨λz hz=>by
   rcases O2.mp hz with rfl|hz
   . exact⟨iF,_,vg,gg,rF.mono ZV⟩
   . rw [Ox.mp hz];exact⟨iA,tA,vx,gx,rA.mono ZV⟩⟩ (λz hz a v R h2=>by
   rcases O2.mp hz with rfl|hz
   . rw [<-ZgX (YF<|vg.symm.trans R),<-YF (gg.symm.trans h2)];exact rF
   . rw [Ox.mp hz] at R h2;rw [<-ZgX (YF<|vx.symm.trans R),<-YF (gx.symm.trans h2)];exact rA)
 exact .yes _ N num c' h2 (by simp only [bec,Za6,if_neg gF]) ((Zd H.called rfl).trans ((congrArg Ze ((Za<|ZqT hk e).trans ((Za<|(Zo<|Zm (ZaN (x:=O "rec") rfl rfl)<|by simp).trans rfl).trans (Za ((Zo<|Zm (ZaN (x:=O "rec") rfl rfl)<|by simp).trans ((Za (Zg (i:=4) (by
   rw [Zkn,show evs (P.tbl<|n+5) _ _ h=.ok [.str g,nI iF,.str x,nI iA] h from Zc rfl (Zc rfl<|Zc rfl<|Zc rfl rfl),Zu];simp [Zch,keyOf,ZbC,putD,gF]))).trans rfl)))))).trans q)) e2 e3 e4 e5 e6 ⟨_,[g,x],[(g,.rcc g x t),(x,tA)],kv,K,b,t,_,e,rfl,rfl,rb,by rw [show [g,x]=[(g,T.rcc g x t),(x,tA)].map (·.1) from rfl,Zjy],pu,sd,λz hz=>by
   rcases O2.mp hz with rfl|hz
   . exact .inl ⟨vg,gg⟩
   . rw [Ox.mp hz];exact .inr ⟨vx,gx⟩⟩
end
def ZgL(H:Gs P)(n){G}{h}{k iF iA y}{tF tA}(hk:h[k]?=J (cl G))(hy:y<G.length)(rF:Rd (wo (gl G) y) iF tF)(rA:Rd (wo (gl G) y) iA tA)(vF:Tm.isV tF=Ws)(cF:Gn.Cl [] tF)(zF:tF.size<=20000)(lG:G.length<=60000):Cld P n G h k iF iA y tF tA:=by
 have r:=rF;cases r with
 |num e=>exact .no rfl ((Zd H.called rfl).trans<|congrArg Ze<|(Za<|ZqT hk<|ZV _ _ e).trans<|Zb<|(Zq<|Zm (ZaN rfl rfl)<|decide_eq_true rfl).trans<|Zb<|Zk rfl)
 |fn e rb=>exact Zwg H n hk hy lG (ZV _ _ e) rb rA cF.2.1 (by rw[zf]at zF;lia)
 |rcc e rb=>exact Zwf H n hk hy lG (ZV _ _ e) rb rF rA cF.2.2.1.1 cF.2.2.2.1 cF.2.1 (by rw[zr]at zF;lia)
 |_=>trivial
end
section
variable {P:Pg}{h:Hd}
def ZgK(H:Gs P)(n)(c:Gc)(hv:c.isV=Ws)(a b):run P (n+1) (O "chosen") [c.d,a,b] h=.ok (match c with|.num z=>if z=0 then b else a|_=>.non) h:=by
 rw[Zd H.chosen<|rfl];cases c with
 |num z=>by_cases e:z=0<;>simp[Zds,ZhQ,Zw,Gc.d,Gc.fr,e]
 |fn x e=>trivial
 |rcc f x e=>trivial
 |_=>trivial
def ZjR(H:Gs P)(n)(w:Wd)(a b:Gc)(va:a.isV=Ws)(vb:b.isV=Ws)(no:¬ ∃x y,a=.num x/\b=.num y):run P (n+1) (O "worked") [.str w.s,a.d,b.d] h=.ok .non h:=by
 have k:xs1 (P.tbl n) ZeI [J<|.str w.s,J a.d,J b.d] h=.ok (.rt .non,[J<|.str w.s,J a.d,J b.d]) h:=by
  cases a with
  |num x=>
   cases b with
   |num y=>exact absurd ⟨x,y,rfl,rfl⟩ no
   |fn _ _=>trivial
   |rcc _ _ _=>trivial
   |_=>trivial
  |fn _ _=>trivial
  |rcc _ _ _=>trivial
  |_=>trivial
 rw[Zd H.worked<|rfl];exact rt1 k rfl
def ccR:T->Nat
 |.call f _=>ccF f
 |_=>0
def Zwd(t):ccR t<=t.size:=by
 cases t with
 |call f a=>have:=Zwe f;have:=zc f a;simp only[ccR];lia
 |_=>exact Yy _
def ZlW(t u)(r:Red t)(c:Gn.Cl [] t)(e:bec t=J u):Gn.Cl [] u:=by
 cases t with
 |call F A=>
  cases F with
  |fn x b=>cases e;exact ZbH b (Zi9 (by simp;exact c.2) [x]<|by simp) c.1.1
  |rcc f x b=>cases e;simp[Za6,if_neg c.1.2.1];exact ZbH b (Zi9 (by simp;trivial) [x,f]<|by simp) c.1.1
  |_=>cases e
 |iff a b d=>
  cases a with
  |num m=>
   simp[bec]at e;subst e;split
   . exact c.2.2
   . exact c.2.1
  |_=>cases e
 |op w a b=>
  cases a with
  |num x=>
   cases b with
   |num y=>cases e;exact _root_.Rw.wk_ok w x y
   |_=>cases e
  |_=>cases e
 |_=>cases r
inductive Src(G:List Gc)(y:Nat)(N:List Gc)(c':Gc):Gc->T->T->Prop
 |call {iF iA num:Nat}{tF tA s':T}:(G++N)[num]?=J c'->How G y iF iA tF tA N num s'->Src G y N c' (.call iF iA) (.call tF tA) s'
 |thn {iC iT iE:Nat}{tC tT tE:T}:N=[]->G[iT]?=J c'->Src G y N c' (.iff iC iT iE) (.iff tC tT tE) tT
 |els {iC iT iE:Nat}{tC tT tE:T}:N=[]->G[iE]?=J c'->Src G y N c' (.iff iC iT iE) (.iff tC tT tE) tE
 |num {c0:Gc}{s:T}{z:Int}:N=[]->c'=.num z->Src G y N c' c0 s (.num z)
structure Wr(c0:Gc)(s:T)(G:List Gc)(k y:Nat)(h:Hd)(s':T)(N:List Gc)(c':Gc)(h':Hd):Prop where
 c:h'[k]?=J (cl<|G++N)
 m:Fm [k] h h'
 f:Fit c' s'
 p:Paired (Rd<|wo (gl<|G++N) y) c'.ps s'.parts
 n:N.length<=ccR s
 x:Src G y N c' c0 s s'
def ZnA{G}{k:Nat}(hk:h[k]?=J (cl G)):h[k]?=J (cl<|G++[]):=by simp_all
def Zi3{G}{i}{c}{t}(e:G[i]?=J c)(v:c.isV=Ws)(r:Rd (gl G) i t):Tm.isV t=Ws/\Fit c t:=by obtain⟨c',e',f,_⟩:=r.at;rw[e]at e';cases e';exact⟨((Zco f).2.2.1).symm.trans v,f⟩
inductive Wrn(P:Pg)(n:Nat)(G:List Gc)(h:Hd)(k y:Nat)(c:Gc)(s:T):Prop
 |no (q:run P (n+7) (O "written") [.ref k,c.d] h=.ok .non h) (b:bec s=M)
 |yes (s':T) (N:List Gc) (c':Gc) (h':Hd) (q:run P (n+7) (O "written") [.ref k,c.d] h=.ok c'.d h') (b:bec s=J s') (cs:Gn.Cl [] s') (w:Wr c s G k y h s' N c' h')
section
variable {G:List Gc}{k y:Nat}
def Zrf(H:Gs P)(n){iF iA}{tF tA}(hk:h[k]?=J (cl G))(hy:y<G.length)(rF:Rd (wo (gl G) y) iF tF)(rA:Rd (wo (gl G) y) iA tA)(vF:Tm.isV tF=Ws)(vA:Tm.isV tA=Ws)(cs:Gn.Cl [] (.call tF tA))(hz:(T.call tF tA).size<=20000)(lG:G.length<=60000):Wrn P n G h k y (.call iF iA) (.call tF tA):=by
 have up:∀{d}{h'},run P (n+6) (O "called_graph") [.ref k,nI iF,nI iA] h=.ok d h'->run P (n+7) (O "written") [.ref k,(Gc.call iF iA).d] h=.ok d h':=λ{d h'} q=>(Zd H.written rfl).trans<|congrArg Ze<|Zb<|(Zq<|Zm (ZaN rfl rfl)<|decide_eq_true rfl).trans<|Zb<|Zk<|Zi q rfl;rw[zc]at hz;rcases ZgL H n hk hy rF rA vF cs.1 (by lia) lG with⟨b,q⟩|⟨s',N,num,c',h',b,q,k',m',e',r',n',hw⟩
 . exact .no (up q) b
 . obtain⟨c2,e2,f2,p2⟩:=r'.inv;cases (ZV _ _ e2).symm.trans e';exact .yes s' N c' h' (up q) b (ZlW (.call tF tA) s' ⟨vF,vA⟩ cs b) ⟨k',m',f2,p2,n',.call e' hw⟩
def ZwG(H:Gs P)(n){iC iT iE}{c1}{tC tT tE}(hk:h[k]?=J (cl G))(e1:G[iC]?=J c1)(v1:c1.isV=Ws)(rC:Rd (gl G) iC tC)(rT:Rd (wo (gl G) y) iT tT)(rE:Rd (wo (gl G) y) iE tE)(cs:Gn.Cl [] (.iff tC tT tE)):Wrn P n G h k y (.iff iC iT iE) (.iff tC tT tE):=by
 have up:∀{d},run P (n+6) (O "gone_on") [.ref k,(Gc.iff iC iT iE).d] h=.ok d h->run P (n+7) (O "written") [.ref k,(Gc.iff iC iT iE).d] h=.ok d h:=λ{d} q=>(Zd H.written rfl).trans<|congrArg Ze<|(Za<|(Zo<|Zm (ZaN rfl rfl)<|rfl).trans rfl).trans<|Zb<|(Zq<|Zm (ZaN rfl rfl)<|decide_eq_true rfl).trans<|Zb<|Zk<|Zi q rfl;have qc:=ZgK H (n+4) c1 v1 (nI iT) (nI iE) (h:=h);have no:run P (n+5) (O "chosen") [c1.d,nI iT,nI iE] h=.ok .non h->run P (n+6) (O "gone_on") [.ref k,(Gc.iff iC iT iE).d] h=.ok .non h:=λq=>(Zd H.gone_on rfl).trans<|congrArg Ze<|(Za<|(λq=>Zg<|Zi q<|Zc (ZbG rfl rfl hk e1) rfl) q).trans<|Zb<|(Zq<|Zqq rfl).trans<|Zb<|Zk rfl;have yes:∀{i}{c':Gc},run P (n+5) (O "chosen") [c1.d,nI iT,nI iE] h=.ok (nI i) h->G[i]?=J c'->run P (n+6) (O "gone_on") [.ref k,(Gc.iff iC iT iE).d] h=.ok c'.d h:=λ{i c'} q e'=>(Zd H.gone_on rfl).trans (congrArg Ze<|(Za<|(λq=>Zg (i:=2)<|Zi q<|Zc (ZbG (k:=k) (n:=iC) rfl rfl hk e1) rfl) q).trans<|(Za<|(Zo<|ZsO (x:=nI i) rfl<|by simp[nI]).trans rfl).trans<|Zb<|Zk<|ZbG rfl rfl hk e');cases rC with
 |num e=>
  cases (e1.symm.trans e);rename_i z;have go:∀{i:Nat}{t:T},run P (n+5) (O "chosen") [(Gc.num z).d,nI iT,nI iE] h=.ok (nI i) h->Rd (wo (gl G) y) i t->bec (.iff (.num z) tT tE)=J t->(∀c',G[i]?=J c'->Src G y [] c' (.iff iC iT iE) (.iff (.num z) tT tE) t)->Wrn P n G h k y (.iff iC iT iE) (.iff (.num z) tT tE):=λ{i t} q r' b sr=>by obtain⟨c',e',f',p'⟩:=r'.inv;exact .yes t [] c' h (up<|yes q<|ZV _ _ e') b (ZlW (.iff (.num z) tT tE) t rfl cs b) ⟨ZnA hk,.refl,f',by rw[Yt];exact p',Yy _,sr c'<|ZV _ _ e'⟩
  by_cases z0:z=0
  . exact go (i:=iE) (t:=tE) (qc.trans<|by simp[z0]) rE (by simp[bec,z0]) (λ_ e=>.els rfl e)
  . exact go (i:=iT) (t:=tT) (qc.trans<|by simp[z0]) rT (by simp[bec,z0]) (λ_ e=>.thn rfl e)
 |fn e _|rcc e _=>cases (e1.symm.trans e);exact .no (up<|no qc) rfl
 |name e|call e _ _|op e _ _|iff e _ _ _=>cases (e1.symm.trans e);cases v1
def ZpX{c}{t}(e:G[i]?=J c)(r:Rd (gl G) i t):(∃z,c=.num z/\t=.num z)\/((∀z,c≠.num z)/\∀z,t≠.num z):=by
 cases r with
 |num q=>cases (e.symm.trans q);exact .inl ⟨_,rfl,rfl⟩
 |name q|fn q _|rcc q _|call q _ _|op q _ _|iff q _ _ _=>cases (e.symm.trans q);simp
def Zwl{w}{a b}(h:(∀z,a≠.num z)\/∀z,b≠.num z):bec (.op w a b)=M:=by
 cases a with
 |num x=>
  cases b with
  |num z=>simp_all
  |_=>rfl
 |_=>rfl
def ZwF(H:Gs P)(n:Nat){w:Wd}{iA iB:Nat}{c1 c2:Gc}{tA tB:T}(hk:h[k]?=J (cl G))(e1:G[iA]?=J c1)(v1:c1.isV=Ws)(e2:G[iB]?=J c2)(v2:c2.isV=Ws)(rA:Rd (gl G) iA tA)(rB:Rd (gl G) iB tB)(cs:Gn.Cl [] (.op w tA tB)):Wrn P n G h k y (.op w iA iB) (.op w tA tB):=by
 have up:∀{d:D},run P (n+6) (O "worked") [.str w.s,c1.d,c2.d] h=.ok d h->run P (n+7) (O "written") [.ref k,(Gc.op w iA iB).d] h=.ok d h:=λ{d} q=>by exact(Zd H.written rfl).trans (congrArg Ze<|(Za<|(Zo<|Zm (ZaN ((Zs rfl rfl).trans rfl) rfl) (by cases w<;>simp[Wd.s])).trans rfl).trans<|(Za<|(Zo<|Zm (ZaN ((Zs rfl rfl).trans rfl) rfl) (by cases w<;>simp[Wd.s])).trans rfl).trans<|Zb<|Zk<|Zi q<|Zc ((Zs rfl rfl).trans rfl)<|Zc (ZbG (k:=k) (n:=iA) rfl rfl hk e1)<|Zc (ZbG (k:=k) (n:=iB) rfl rfl hk e2) rfl)
 have no:¬ (∃x y,c1=.num x/\c2=.num y)->((∀z,tA≠.num z)\/∀z,tB≠.num z)->Wrn P n G h k y (.op w iA iB) (.op w tA tB):=λbo bn=>.no (up<|ZjR H (n+5) w c1 c2 v1 v2 bo)<|Zwl bn;rcases ZpX e1 rA with⟨x,rfl,rfl⟩|⟨n1,n2⟩
 . rcases ZpX e2 rB with⟨z,rfl,rfl⟩|⟨n1,n2⟩
   . exact .yes (.num<|_root_.Rw.wk w x z) [] (.num<|_root_.Rw.wk w x z) h (up<|_root_.Rw.worked_nn H.worked H.gb (n+5) w cs.1 cs.2) rfl (ZlW (.op w (.num x)<|.num z) _ ⟨rfl,rfl⟩ cs rfl) ⟨ZnA hk,.refl,rfl,.nil,Yy _,.num rfl rfl⟩
   . exact no (λ⟨_,z,_,q⟩=>n1 z q) (.inr n2)
 . exact no (λ⟨z,_,q,_⟩=>n1 z q) (.inl n2)
end
def ZnR(H:Gs P)(n){G}{k y}{c}{s}(hk:h[k]?=J (cl G))(rd:Rd (gl G) y s)(e:G[y]?=J c)(nv:Tm.isV s=Wt)(cs:Gn.Cl [] s)(hz:s.size<=20000)(wv:∀m∈c.pf,∃c,G[m]?=J c/\c.isV=Ws)(lG:G.length<=60000):Wrn P n G h k y c s:=by
 have r:=rd;cases r with
 |num _|fn _ _|rcc _ _=>trivial
 |name _=>trivial
 |call q rF rA=>cases (e.symm.trans q);obtain⟨c1,e1,v1⟩:=wv _<|.head _;obtain⟨c2,e2,v2⟩:=wv _<|.tail _<|.head _;exact Zrf H n hk (Ob.mp e).1 (Rd.wo rd rF (by rw[zc];lia)) (Rd.wo rd rA (by rw[zc];lia)) (Zi3 e1 v1 rF).1 (Zi3 e2 v2 rA).1 cs hz lG
 |iff q rC rT rE=>cases (e.symm.trans q);obtain⟨c1,e1,v1⟩:=wv _<|.head _;exact ZwG H n hk e1 v1 rC (Rd.wo rd rT (by rw[zi];lia)) (Rd.wo rd rE (by rw[zi];lia)) cs
 |op q rA rB=>cases (e.symm.trans q);obtain⟨c1,e1,v1⟩:=wv _<|.head _;obtain⟨c2,e2,v2⟩:=wv _<|.tail _<|.head _;exact ZwF H n hk e1 v1 e2 v2 rA rB cs
end
section
variable {h:Hd}
def st(k r:Nat):D:=.tup [.ref k,nI r]
def Zx5{h}(e:h[i]?=J (.lst xs)):Zaj GD .lst [.ref i] h=.ok (.ref h.length) (h++[.lst xs]):=by show Zq5 [.ref i] h=_;unfold Zq5 seqOf lstOf;simp[e]
noncomputable def loud:D->D:=λs=>.tup [.str<|O "loud",s]
def Zvj{v w}:IV.Zd3 Wt (.tup [.str v]) (.tup [.str w]) h=.ok (.bl<|Wu<|v=w) h:=by show(if min (PyData.tuple [.str v]).depth (PyData.tuple [.str w]).depth<=1100 then qd.ok (D.bl<|if Wt then !PyData.eqv (.tuple [.str v]) (.tuple [.str w])else PyData.eqv (.tuple [.str v]) (.tuple [.str w])) h else .bad)=_;simp[PyData.eqv,PyData.eqvAll];trivial
end
namespace Q
noncomputable def tp(y:Nat):Q->Q
 |.num _ n=>.num y n
 |.name _ x=>.name y x
 |.fn _ x e=>.fn y x e
 |.rcc _ f x e=>.rcc y f x e
 |.call _ a b=>.call y a b
 |.iff _ a b c=>.iff y a b c
 |.op _ w a b=>.op y w a b
def ZwY(q:Q):(q.tp y).no=y:=by cases q<;>rfl
def ZwZ(q:Q):(q.tp y).er=q.er:=by cases q<;>rfl
def Zmt(q:Q):(q.tp y).deep=q.deep:=by cases q<;>rfl
def Zut{q:Q}(h:q.Uns):(q.tp y).Uns:=by cases q<;>exact h
def ZoX(q:Q):∀n∈(q.tp y).opn,n=y\/n∈q.opn:=by
 intro n hn;cases q with
 |num i z=>trivial
 |fn i x e=>trivial
 |rcc i f x e=>trivial
 |name i x=>exact .inl (Ox.mp hn)
 |call i a b|iff i a b c|op i w a b=>exact(O2.mp hn).imp id λz=>.tail _ z
def Zuu{q:Q}(h:q.One)(ho:y ∉ q.opn)(hd:y ∉ q.deep):(q.tp y).One:=by
 refine⟨?_,λn hn=>?_⟩
 . cases q with
   |num i z=>exact .nil
   |fn i x e=>exact .nil
   |rcc i f x e=>exact .nil
   |name i x=>exact List.nodup_cons.mpr ⟨λz=>(by cases z),.nil⟩
   |call i a b|iff i a b c|op i w a b=>exact List.nodup_cons.mpr ⟨λz=>ho<|.tail _ z,(List.nodup_cons.mp h.1).2⟩
 . rw[Zmt];rcases ZoX q n hn with rfl|z
   . trivial
   . exact h.2 n z
def Zym{g}:∀{q:Q},q.ok g->∀n∈q.all,∃c,g n=J c:=by
 intro q;induction q with
 |num i z|name i z=>intro h n hn;rw[Ox.mp hn];exact⟨_,h⟩
 |fn i x e ih|rcc i f x e ih=>intro h n hn;exact(O2.mp hn).elim (λz=>⟨_,z▸h.1⟩) (ih h.2 n)
 |call i a b ia ib|op i w a b ia ib=>intro h n hn;exact(O2.mp hn).elim (λz=>⟨_,z▸h.1⟩) λz=>(OD.mp z).elim (ia h.2.1 n) (ib h.2.2 n)
 |iff i a b c ia ib ic=>intro h n hn;exact(O2.mp hn).elim (λz=>⟨_,z▸h.1⟩) λz=>(OD.mp z).elim (ia h.2.1 n) λz=>(OD.mp z).elim (ib h.2.2.1 n) (ic h.2.2.2 n)
def ZtV{g}{q:Q}(h:q.ok (wo g y)):y ∉ q.all:=λz=>by obtain⟨c,e⟩:=Zym h y z;simp[wo]at e
theorem ZwX{g g'}{c}(ne:∀ i,i≠y->g' i=g i){q:Q}(h:q.ok (wo g y))(e:g q.no=J c)(ey:g' y=J c):(q.tp y).ok g':=by
 have k:∀ {r:Q},r.ok (wo g y)->r.ok g':=λ{r} hr=>mono (λi _ c e=>by
   unfold wo at e
   simp_all) hr
 have t:∀ {c1},wo g y q.no=J c1->g' y=J c1:=λ{c1} z=>by rw [ey,<-e,ZV _ _ z]
 cases q with
 |num i z=>exact t h
 |name i x=>exact t h
 |fn i x e|rcc i f x e=>exact⟨t h.1,k h.2⟩
 |call i a b|op i w a b=>exact⟨t h.1,k h.2.1,k h.2.2⟩
 |iff i a b c=>exact⟨t h.1,k h.2.1,k h.2.2.1,k h.2.2.2⟩
def ZxK{q:Q}(h:q.isV=Ws):q.opn=[]:=by cases q<;>first|rfl|cases h
end Q
theorem Zyq{G N}{y num}{s'}{qF qA:Q}(hy:y<G.length)(oF:qF.ok (wo (gl G) y))(oA:qA.ok (wo (gl G) y))(vF:qF.isV=Ws)(vA:qA.isV=Ws)(uF:qF.Uns)(uA:qA.Uns)(hw:How G y qF.no qA.no qF.er qA.er N num s'):∃ q':Q,q'.ok (wo (gl<|G++N) y)/\q'.no=num/\q'.er=s'/\q'.One/\q'.Uns/\(∀ n∈q'.opn,G.length<=n)/\∀ n∈q'.deep,G.length<=n\/n∈qF.all\/n∈qA.all:=by
 obtain⟨md,nm,qb,kv,K,b,t,c,e,eb,bM,rb,es,pu,sd,cond⟩:=hw;have jK:∀ {q:Q},q.ok (wo (gl G) y)->∀ n∈q.all,n<G.length:=λ{q} h n hn=>by
   obtain⟨c,e⟩:=Q.Zym h n hn;exact(Ob.mp<|ZV _ _ e).1
 have body:∀ (q:Q),q.ok (wo (gl G) y)->q.no=b->q.One->q.Uns->(∀ n∈q.all,n∈qF.all)->∃ q':Q,q'.ok (wo (gl<|G++N) y)/\q'.no=num/\q'.er=s'/\q'.One/\q'.Uns/\(∀ n∈q'.opn,G.length<=n)/\∀ n∈q'.deep,G.length<=n\/n∈qF.all\/n∈qA.all:=λq ok no one un sub'=>by
   have sm:∀ n,n∈q.all\/(n∈qF.all\/n∈qA.all)->n<G.length:=λn hn=>by
     rcases hn with hn|hn|hn
     . exact jK ok n hn
     . exact jK oF n hn
     . exact jK oA n hn
   have te:t=q.er:=by
     have:=Q.rd ok;rw [no] at this;exact rb.one this
   obtain⟨q',c'⟩:=cpy hy (λx hx=>by
   rcases cond x hx with⟨a1,a2⟩|⟨a1,a2⟩
   . exact⟨qF,oF,vF,a1,a2,λn hn=>.inl hn,uF⟩
   . exact⟨qA,oA,vA,a1,a2,λn hn=>.inr hn,uA⟩) pu q nm num ok un sm (no▸sd) (λ_ h=>h)
   obtain⟨l,_,p⟩:=c'.o;refine⟨q',c'.ok,c'.no,by rw [c'.er,es,te],c'.one one sm,c'.u,λn hn=>?_,λn hn=>?_⟩
   . obtain⟨i,_,j,_,z⟩:=Paired.mem_r p n hn
     lia
   . rcases c'.d n hn with⟨i,bG,⟨j,_,z⟩,_⟩|z|z
     . exact .inl (by lia)
     . exact .inr (.inl<|sub' n z)
     . exact .inr z
 cases qF with
 |num i z =>
   have:=YF<|e.symm.trans<|ZV _ _ oF;subst this;cases eb
 |fn i x q|rcc i f x q =>
   have:=YF<|e.symm.trans<|ZV _ _ oF.1;subst this;exact body q oF.2 (List.cons.inj eb).1 uF.1 uF.2 λn hn=>.tail _ hn
 |_=>cases vF
def Zlh{G N}{c'}{y}{r q:Q}(hy:y<G.length)(yo:y∈r.opn)(o:q.ok (wo (gl<|G++N) y))(e':(G++N)[q.no]?=J c')(one:q.One)(un:q.Uns)(ho:∀n∈q.opn,n∈r.opn\/G.length<=n)(hd:∀n∈q.deep,n∈r.deep\/G.length<=n\/∃c,gl G n=J c/\c.isV=Ws):∃u:Q,u.ok (gl<|(G++N).set y c')/\u.no=y/\u.er=q.er/\Q.Fits (gl G) G.length r u:=⟨q.tp y,Q.ZwX (λi hi=>Oc hi.symm) o e'<|Ol (by simp;lia),Q.ZwY q,Q.ZwZ q,Q.Zuu one (λz=>Q.ZtV o<|Q.ZC _ z)<|λz=>Q.ZtV o<|Q.ZG _ z,Q.Zut un,λn h=>(Q.ZoX q n h).elim (λz=>.inl<|z▸yo)<|ho n,λn h=>hd n<|Q.Zmt q▸h⟩
def Zs5{r:Q}(h:r.er=.call s t):∃i a b,r=.call i a b/\a.er=s/\b.er=t:=by cases r<;>cases h;exact⟨_,_,_,rfl,rfl,rfl⟩
def Zv7{r:Q}(h:r.er=.iff s t u):∃i a b c,r=.iff i a b c/\a.er=s/\b.er=t/\c.er=u:=by cases r<;>cases h;exact⟨_,_,_,_,rfl,rfl,rfl,rfl⟩
def ZpS{a b}(h:(Q.call i a b).One):(i ∉ a.opn/\i ∉ a.deep)/\i ∉ b.opn/\i ∉ b.deep:=by simp_all [Q.One,Q.opn,Q.deep]
def Zsq{a b c}(h:(Q.iff i a b c).One):(i ∉ b.opn/\i ∉ b.deep/\b.One)/\i ∉ c.opn/\i ∉ c.deep/\c.One:=by simp_all [Q.One,Q.opn,Q.deep,List.nodup_append]
def Zxe{G N}{c c'}{y}{s'}{r}(hr:r.ok (gl G))(no:r.no=y)(nv:r.isV=Wt)(one:r.One)(un:r.Uns)(e:G[y]?=J c)(wv:∀m∈c.pf,∃c,G[m]?=J c/\c.isV=Ws)(sr:Src G y N c' c r.er s'):∃u:Q,u.ok (gl<|(G++N).set y c')/\u.no=y/\u.er=s'/\Q.Fits (gl G) G.length r u:=by
 have hy:=(Ob.mp e).1;have yo:y∈r.opn:=by subst no;cases r<;>first|exact .head _|trivial
 have gT:∀{q:Q},q.ok (gl G)->y ∉ q.opn->y ∉ q.deep->q.ok (wo (gl G) y):=λh a b=>Q.ZgT (λi hi=>Zml hi) (Q.ZcF hr y yo) h a b;generalize hre:r.er=s at sr;cases sr with
 |@num _ _ z hN hc=>subst hc;exact⟨.num y z,Ol (by simp;lia),rfl,rfl,⟨⟨.nil,λn hn=>by cases hn⟩,trivial,λn hn=>(by cases hn),λn hn=>(by cases hn)⟩⟩
 |call e' hw=>
  obtain⟨i,a,b,rfl,rfl,rfl⟩:=Zs5 hre;cases no;cases YF (e.symm.trans hr.1);obtain⟨⟨n1,n2⟩,n3,n4⟩:=ZpS one;have vis:∀{q:Q},q.ok (gl G)->q.no∈[a.no,b.no]->q.isV=Ws/\∀n∈q.all,n∈q.deep\/∃c,gl G n=J c/\c.isV=Ws:=λ{q} h m=>by obtain⟨c1,e1,v1⟩:=wv _ m;have:=(Zi3 e1 v1<|Q.rd h).1;rw[Q.Zcn]at this;exact⟨this,λn hn=>(Q.three h n hn).elim (λz=>by rw[Q.ZxK this]at z;cases z) id⟩
  obtain⟨va,ta⟩:=vis hr.2.1<|.head _;obtain⟨vb,tb⟩:=vis hr.2.2<|.tail _<|.head _;obtain⟨q',o',n',rfl,dg,kU,la,nC⟩:=Zyq hy (gT hr.2.1 n1 n2) (gT hr.2.2 n3 n4) va vb un.1 un.2 hw;exact Zlh hy yo o' (n'.symm▸e') dg kU (λn z=>.inr<|la n z) λn z=>(nC n z).elim (λz=>.inr<|.inl z) λz=>z.elim (λz=>(ta n z).elim (λz=>.inl<|Ys _ z) λz=>.inr<|.inr z) λz=>(tb n z).elim (λz=>.inl<|Ov _ z) λz=>.inr (.inr z)
 |thn hN e'|els hN e'=>
  subst hN;obtain⟨i,a,b,d,rfl,rfl,rfl,rfl⟩:=Zv7 hre;cases no;cases YF (e.symm.trans hr.1);obtain⟨⟨n1,n2,n3⟩,n4,n5,n6⟩:=Zsq one
  first|exact Zlh hy yo (by rw[Yt];exact gT hr.2.2.1 n1 n2) (by rw[Yt];exact e') n3 un.2.1 (λn z=>.inl<|by simp[Q.opn,z]) λn z=>.inl (by simp[Q.deep,z])|exact Zlh hy yo (by rw[Yt];exact gT hr.2.2.2 n4 n5) (by rw[Yt];exact e') n6 un.2.2 (λn z=>.inl<|by simp[Q.opn,z]) λn z=>.inl (by simp[Q.deep,z])
section
variable {P:Pg}{h:Hd}
def ZfL{G}{q:Q}(o:q.ok (gl G)):∃c,G[q.no]?=J c/\c.isV=q.isV:=by obtain⟨c,e,f,_⟩:=(Q.rd o).at;exact⟨c,e,by rw[(Zco f).2.2.1,Q.Zcn]⟩
def Zyt{G}{q:Q}{c}(o:q.ok (gl G))(v:q.isV=Wt)(ct:Gn.Cl [] q.er)(e:G[q.no]?=J c):(fop G c.pf=M/\q.bt=q)\/∃p:Q,fop G c.pf=J p.no/\q.bt=p.bt/\p.isV=Wt/\p.ok (gl G)/\Gn.Cl [] p.er/\p.er.size<q.er.size:=by
 cases q with
 |num i z=>cases v
 |fn i x b=>cases v
 |rcc i f x b=>cases v
 |name i x=>trivial
 |call i a b=>
  cases YF (e.symm.trans o.1);obtain⟨ca,ea,va⟩:=ZfL o.2.1;obtain⟨cb,eb,vb⟩:=ZfL o.2.2;have zz:=zc a.er b.er;cases wa:a.isV with
  |false=>exact .inr ⟨a,by simp[Gc.pf,Gc.ps,fop,ea,va,wa],by simp[Q.bt,wa],wa,o.2.1,ct.1,by show a.er.size<(T.call a.er b.er).size;lia⟩
  |true=>
   cases wb:b.isV with
   |false=>exact .inr ⟨b,by simp[Gc.pf,Gc.ps,fop,ea,va,wa,eb,vb,wb],by simp[Q.bt,wa,wb],wb,o.2.2,ct.2,by show b.er.size<(T.call a.er b.er).size;lia⟩
   |true=>exact .inl ⟨by simp[Gc.pf,Gc.ps,fop,ea,va,wa,eb,vb,wb],by simp[Q.bt,wa,wb]⟩
 |op i w a b=>
  cases YF (e.symm.trans o.1);obtain⟨ca,ea,va⟩:=ZfL o.2.1;obtain⟨cb,eb,vb⟩:=ZfL o.2.2;have zz:=zo w a.er b.er;cases wa:a.isV with
  |false=>exact .inr ⟨a,by simp[Gc.pf,Gc.ps,fop,ea,va,wa],by simp[Q.bt,wa],wa,o.2.1,ct.1,by show a.er.size<(T.op w a.er b.er).size;lia⟩
  |true=>
   cases wb:b.isV with
   |false=>exact .inr ⟨b,by simp[Gc.pf,Gc.ps,fop,ea,va,wa,eb,vb,wb],by simp[Q.bt,wa,wb],wb,o.2.2,ct.2,by show b.er.size<(T.op w a.er b.er).size;lia⟩
   |true=>exact .inl ⟨by simp[Gc.pf,Gc.ps,fop,ea,va,wa,eb,vb,wb],by simp[Q.bt,wa,wb]⟩
 |iff i a b d=>
  cases YF (e.symm.trans o.1);obtain⟨ca,ea,va⟩:=ZfL o.2.1;have zz:=zi a.er b.er d.er;cases wa:a.isV with
  |false=>exact .inr ⟨a,by simp[Gc.pf,fop,ea,va,wa],by simp[Q.bt,wa],wa,o.2.1,ct.1,by show a.er.size<(T.iff a.er b.er d.er).size;lia⟩
  |true=>exact .inl ⟨by simp[Gc.pf,fop,ea,va,wa],by simp[Q.bt,wa]⟩
theorem Zm2(H:Gs P)(n){G}{h}(hk:h[k]?=J (cl G)):∀(z) (q:Q) (c) (F),q.er.size<=z->z<F->q.ok (gl G)->q.isV=Wt->Gn.Cl [] q.er->G[q.no]?=J c->ZE (tst (P.tbl<|n+3) Zcq) (xs2 (P.tbl<|n+3) Zej) F (vn k r q.no<|fop G c.pf) h=.ok (.nx,vn k r q.bt.no M) h/\q.bt.isV=Wt/\Gn.Cl [] q.bt.er/\q.bt.er.size<=q.er.size/\∃d,G[q.bt.no]?=J d/\fop G d.pf=M
 |z,q,c,0,_,hF,_,_,_,_=>by lia
 |z,q,c,F+1,hz,hF,o,v,ct,e=>by
  have tt:tst (P.tbl<|n+3) Zcq (vn k r q.no<|fop G c.pf) h=.ok (!Wu (oI (fop G c.pf)=.non)) h:=ZlF rfl;rcases Zyt o v ct e with⟨f0,b0⟩|⟨p,f0,b0,pv,po,pc,pz⟩
  . rw[f0]at tt ⊢;rw[b0];exact⟨ZcC<|Zm tt<|by simp[oI],v,ct,Oq _,c,e,f0⟩
  . rw[f0]at tt ⊢;obtain⟨c2,e2,f2,p2,eN⟩:=(Q.rd po).at;obtain⟨x,a1,a2,a3,a4⟩:=Zm2 H n (r:=r) hk (z-1) p c2 F (by lia) (by lia) po pv pc e2;rw[b0];refine⟨(Zaz (Zm tt<|by simp[oI,nI])<|(Za<|Zg (i:=2) rfl).trans<|(Za<|Zg (i:=3)<|Zi (Zpi H n c2 hk eN)<|Zc rfl<|Zc (ZbG (k:=k) (n:=p.no) rfl rfl hk e2) rfl).trans rfl).trans x,a1,a2,by lia,a4⟩
def ZrH(H:Gs P)(n){G}{h}{q:Q}(hk:h[k]?=J (cl G))(o:q.ok (gl G))(v:q.isV=Wt)(ct:Gn.Cl [] q.er)(hz:q.er.size<=20000):run P (n+4) (O "next_cell") [.ref k,nI q.no] h=.ok (nI q.bt.no) h/\q.bt.isV=Wt/\Gn.Cl [] q.bt.er/\q.bt.er.size<=q.er.size/\∃d,G[q.bt.no]?=J d/\fop G d.pf=M:=by obtain⟨c,e,f,p,hn⟩:=(Q.rd o).at;have big:=H.b.big;obtain⟨x,a⟩:=Zm2 H n hk q.er.size q c P.L (Oq _) (by lia) o v ct e;refine⟨?_,a⟩;rw[Zd H.next_cell rfl];have w:xs2 (P.tbl<|n+3) Zf4 [J<|.ref k,J<|nI q.no,M,M] h=.ok (.rt<|nI q.bt.no,vn k q.no q.bt.no M) h:=(Za<|Zg rfl).trans<|(Za<|Zg<|Zi (Zpi H n c hk hn)<|Zc rfl<|Zc (ZbG rfl rfl hk e) rfl).trans<|(Za (s:=Zes)<|ZeO.trans x).trans<|Zb<|Zk rfl;exact congrArg Ze w
structure Gq(G:List Gc)(q:Q):Prop where
 ok:q.ok (gl G)
 one:q.One
 uns:q.Uns
 cl:Gn.Cl [] q.er
def ZrG(H:Gs P)(n){G}{sk}{q}(hk:h[sk]?=J (cl G))(gq:Gq G q)(hz:q.er.size<=20000)(lG:G.length<=60000):(Tm.isV q.er=Ws/\run P (n+8) (O "graph_step") [st sk q.no] h=.ok (.tup [.str<|O "value"]) h)\/(Tm.isV q.er=Wt/\next q.er=M/\∃h',run P (n+8) (O "graph_step") [st sk q.no] h=.ok (.tup [.str<|O "stuck"]) h'/\Fm [] h h')\/(Tm.isV q.er=Wt/\∃k h' G' q',run P (n+8) (O "graph_step") [st sk q.no] h=.ok (loud<|st k q.no) h'/\Fm [] h h'/\h'[k]?=J (cl G')/\h.length<=k/\next q.er=J q'.er/\q'.no=q.no/\Gq G' q'/\G.length<=G'.length/\G'.length<=G.length+ccR (bot q.er)):=by
 rw[Zd H.graph_step rfl];obtain⟨c0,e0,v0⟩:=ZfL gq.ok;have t0:tst (P.tbl<|n+7) Zdx [J<|st sk q.no,M,M,M] h=.ok c0.isV h:=ZbF<|Zi (ZqW H (n+6) c0)<|Zc (ZbG (k:=sk) (n:=q.no) rfl rfl hk e0) rfl;rw[v0]at t0;cases v:q.isV with
 |true=>rw[v]at t0;refine .inl ⟨by rw[Q.Zcn];exact v,?_⟩;exact congrArg Ze (Zb<|(Zq t0).trans<|Zb<|Zk<|Zak rfl<|by simp)
 |false=>
  rw[v]at t0;right;have x2:xs1 (P.tbl<|n+7) ZdK [J<|st sk q.no,M,M,M] h=.ok (.nx,[J<|st sk q.no,J<|.ref h.length,M,M]) (h++[cl G]):=Zg (i:=1)<|Zhr (Zc (x:=.ref sk) rfl rfl)<|Zx5 hk;have k1:(h++[cl G])[h.length]?=J (cl G):=Z0;have f1:Fm [] h (h++[cl G]):=.app;generalize h++[cl G]=R at *;obtain⟨e3,bv,bc,bz,c,ec,kJ⟩:=ZrH H (n+3) k1 gq.ok v gq.cl hz;have rb:=Q.rd<|Q.Zm q gq.ok;obtain⟨c',kL,f,pp,hn⟩:=rb.at;rw[ec]at kL;cases kL;have x3:xs1 (P.tbl<|n+7) ZdJ [J<|st sk q.no,J<|.ref h.length,M,M] R=.ok (.nx,[J<|st sk q.no,J<|.ref h.length,J<|nI q.bt.no,M]) R:=Zg (i:=2)<|Zi e3 rfl;have q4:∀{d:D}{h2:Hd},run P (n+7) (O "written") [.ref h.length,c.d] R=.ok d h2->xs1 (P.tbl<|n+7) ZdI [J<|st sk q.no,J<|.ref h.length,J<|nI q.bt.no,M] R=.ok (.nx,[J<|st sk q.no,J<|.ref h.length,J<|nI q.bt.no,J d]) h2:=λz=>Zg (i:=3)<|Zi z<|Zc rfl<|Zc (ZbG (k:=h.length) (n:=q.bt.no) rfl rfl k1 ec) rfl;have nL:Tm.isV q.bt.er=Wt:=by rw[Q.Zcn];exact bv
  have nd:=(Q.ZeY q).nodup_iff.mp gq.one.1;have dg:q.bt.One:=⟨(List.nodup_append.mp nd).2.1,λm hm hd=>gq.one.2 m ((Q.ZeY q).mem_iff.mpr<|Ov _ hm)<|(Q.ZfI q).mem_iff.mpr<|Ov _ hd⟩
  have jX:next q.er=(bec q.bt.er).map (Zcg<|pth q.er):=by rw[Q.Zkq];rfl
  rcases ZnR H n k1 rb ec nL bc (OE bz hz) (Zhf kJ λm hm=>hn m<|ZtS m hm) lG with⟨z,zb⟩|⟨s',N,c',h2,z,zb,cs,w⟩
  . left;refine⟨by rw[Q.Zcn];exact v,by rw[jX,zb];rfl,R,?_,f1⟩;have w:xs2 (P.tbl<|n+7) ZcR [J<|st sk q.no,M,M,M] h=.ok (.rt<|.tup [.str<|O "stuck"],_) R:=(Za<|(Zo t0).trans rfl).trans ((Za x2).trans<|(Za x3).trans<|(Za<|q4 z).trans<|Zb<|(Zq<|Zqq rfl).trans<|Zb<|Zk<|Zak rfl<|by simp);exact congrArg Ze w
  . right;obtain⟨u,uo,un,ue,fits⟩:=Zxe (Q.Zm q gq.ok) rfl bv dg (Q.Zmq q gq.uns) ec (Zhf kJ λm hm=>hn m<|ZtS m hm) w.x;have lm:q.bt.no<G.length:=(Ob.mp ec).1;have lx:q.bt.no<(G++N).length:=by simp;lia
    have ne:∀i,i≠q.bt.no->gl ((G++N).set q.bt.no c') i=gl (G++N) i:=λi hi=>Oc hi.symm;have oN:q.ok (gl<|G++N):=Q.mono (λi _ c h=>Zbd h) gq.ok;obtain⟨r1,r2⟩:=Q.ZmR ne (Q.ZcF oN _<|Q.ZiB q v) uo un q oN v rfl gq.one.1<|gq.one.2 _<|Q.ZiB q v;have one2:=Q.Zvi (g:=gl G) (L:=G.length) (λm c e=>(Ob.mp e).1) gq.ok gq.one fits;have ez:next q.er=J (Q.rp u q).er:=by rw[jX,zb,Q.Zkp,ue];rfl
    have nH:Gn.Cl [] (Q.rp u q).er:=by rw[Q.Zkp,ue];exact(ZjY q.er s' gq.cl cs).1
    have wn:=w.n;rw[Q.Zkq]at wn;refine⟨by rw[Q.Zcn];exact v,h.length,h2.set h.length<|cl<|(G++N).set q.bt.no c',_,Q.rp u q,?_,Fm.cut (S_:=[h.length]) ((f1.sub<|by simp).trans<|w.m.trans<|.set<|by simp) λi hi=>.inr (by simp at hi;lia),by rw[Ol<|ZF w.c],Oq _,ez,r2,⟨r1,one2,Q.Zmp fits.uns q gq.uns,nH⟩,by simp,by simp;lia⟩;have x5:xs1 (P.tbl<|n+7) ZdH [J<|st sk q.no,J<|.ref h.length,J<|nI q.bt.no,J c'.d] h2=.ok (.nx,[J<|st sk q.no,J<|.ref h.length,J<|nI q.bt.no,J c'.d]) h2:=(Zo<|ZsO (x:=c'.d) rfl<|by simp[Gc.d]).trans rfl;have x6:xs1 (P.tbl<|n+7) ZdG [J<|st sk q.no,J<|.ref h.length,J<|nI q.bt.no,J c'.d] h2=.ok (.nx,[J<|st sk q.no,J<|.ref h.length,J<|nI q.bt.no,J c'.d]) (h2.set h.length<|cl<|(G++N).set q.bt.no c'):=ZtQ rfl rfl rfl<|Zpp w.c lx;have ww:xs2 (P.tbl<|n+7) ZcR [J<|st sk q.no,M,M,M] h=.ok (.rt<|loud<|st h.length q.no,_) (h2.set h.length<|cl<|(G++N).set q.bt.no c'):=(Za<|(Zo t0).trans rfl).trans ((Za x2).trans<|(Za x3).trans<|(Za<|q4 z).trans<|(Za x5).trans<|(Za x6).trans<|Zb<|Zk<|Zak (xs:=[.str<|O "loud",st h.length q.no]) (Zc rfl<|Zc (Zak (xs:=[.ref h.length,nI q.no]) rfl<|by simp) rfl)<|by simp);exact congrArg Ze ww
structure Sg(G:List Gc)(sk pe fk wk:Nat)(h0 h:Hd)(u:Int)(F:List T)(W:List (Nat×T)):Prop where
 s:h[sk]?=J (cl G)
 p:h[pe]?=J (Zbw (.int 120) u)
 f:h[fk]?=J (.lst<|F.map tf)
 w:h[wk]?=J (.lst (W.map λp=>nI p.1).reverse)
 m:Fm [pe,fk,wk] h0 h
 sf:sk≠fk
 sw:sk≠wk
 fw:fk≠wk
def Sg.ne(q:Sg G sk pe fk wk h0 h u F W):pe≠sk/\pe≠fk/\pe≠wk:=by have k:∀{i j:Nat}{x y},h[i]?=J x->h[j]?=J y->x≠y->i≠j:=λa b c z=>c (by simp_all);exact⟨k q.p q.s<|by simp[Zbw,cl],k q.p q.f<|by simp[Zbw],k q.p q.w<|by simp[Zbw]⟩
def eg(sk r pe fk wk:Nat)(o:Option D):Ev:=[J<|st sk r,J<|.ref pe,J<|.ref fk,J<|.ref wk,o]
noncomputable def tot(W:List (Nat×T)):Nat:=(W.map λp=>p.2.size).sum
def ZeP(p)(W):tot (p::W)=p.2.size+tot W:=rfl
noncomputable def zp:List Nat->List T->List (Nat×T)
 |n::ns,t::ts=>(n,t)::zp ns ts
 |_,_=>[]
theorem Zty{qd:Nat->T->Prop}:∀{ns:List Nat}{ts:List T},Paired qd ns ts->(∀p∈zp ns ts,qd p.1 p.2)/\(zp ns ts).map (·.1)=ns/\tot (zp ns ts)=(ts.map T.size).sum/\(zp ns ts).map (·.2)=ts
 |_,_,.nil=>⟨λ_ h=>(by cases h),rfl,rfl,rfl⟩
 |_,_,.cons r q=>by
  obtain⟨a,b,c,d⟩:=Zty q;refine⟨λp hp=>?_,by simp[zp,b],by rw[zp,ZeP,c];simp,by simp[zp,d]⟩;rcases O2.mp hp with rfl|hp
  . exact r
  . exact a p hp
def ZtR(H:Grr P)(n){G}{h0}{i}{t}{F}{W}{c}(q:Sg G sk pe fk wk h0 h u F ((i,t)::W))(e:G[i]?=J c)(o):xs1 (P.tbl<|n+1) ZcA (eg sk r pe fk wk o) h=.ok (.nx,eg sk r pe fk wk<|J c.d) (h.set wk<|.lst (W.map λp=>nI p.1).reverse)/\Sg G sk pe fk wk h0 (h.set wk<|.lst (W.map λp=>nI p.1).reverse) u F W:=by
 have kw:h[wk]?=J (.lst<|(W.map λp=>nI p.1).reverse++[nI i]):=by rw[q.w];simp
 have s1:Sg G sk pe fk wk h0 (h.set wk<|.lst (W.map λp=>nI p.1).reverse) u F W:=⟨ZO q.s q.sw,ZO q.p q.ne.2.2,ZO q.f q.fw,ZcE q.w,q.m.trans<|.set<|by simp,q.sf,q.sw,q.fw⟩
 exact⟨Zg<|(Zs rfl<|Zdu rfl kw rfl<|Zdg kw).trans<|(ZA s1.s).trans (by rw[Zwt e];rfl),s1⟩
theorem Zw2(H:Grr P)(n){G:List Gc}{h0}{i}{t}{F:List T}{W:List (Nat×T)}{u}(q:Sg G sk pe fk wk h0 h u F ((i,t)::W))(hu:u+1<=120)(rd:Rd (gl G) i t)(hF:F.length<=1000)(hW:W.length<=1000)(o:Option D):∃ h' o' V,xs2 (P.tbl<|n+1) Z6 (eg sk r pe fk wk o) h=.ok (.nx,eg sk r pe fk wk o') h'/\Sg G sk pe fk wk h0 h' (u+1) (F++[t]) (V++W)/\(∀ p∈V,Rd (gl G) p.1 p.2)/\tot V+1=t.size/\V.map (·.2)=t.parts:=by
 obtain⟨c,e,f,pp,_⟩:=rd.at;obtain⟨x1,q1⟩:=ZtR H n (r:=r) q e o;generalize h.set wk (.lst (W.map λp=>nI p.1).reverse)=R at *;have x2:xs1 (P.tbl<|n+1) Zcz (eg sk r pe fk wk<|J c.d) R=.ok (.nx,eg sk r pe fk wk<|J c.d) (R.set pe<|Zbw (.int 120)<|u+1):=Zb2<|ZfZ (i:=pe) rfl q1.p rfl rfl<|Zpf H.b n (.inr ⟨120,rfl,hu⟩) q1.p;have q2:Sg G sk pe fk wk h0 (R.set pe<|Zbw (.int 120)<|u+1) (u+1) F W:=⟨ZO q1.s q.ne.1.symm,ZcE q1.p,ZO q1.f q.ne.2.1.symm,ZO q1.w q.ne.2.2.symm,q1.m.trans<|.set<|by simp,q.sf,q.sw,q.fw⟩
 generalize R.set pe (Zbw (.int 120)<|u+1)=h2 at *;have ft:D.tup c.fr=tf t:=by rw [(Zco f).1];rfl
 have x3:xs1 (P.tbl<|n+1) Zcy (eg sk r pe fk wk<|J c.d) h2=.ok (.nx,eg sk r pe fk wk<|J c.d) (h2.set fk<|.lst<|(F++[t]).map tf):=by
   rw [List.map_append,List.map_singleton,<-ft];exact Zb2 (Zdu (i:=fk) rfl q2.f (Zc (Zi (Zns H.s.b n c) rfl) rfl)<|Z5 q2.f (by rw [YC];simp;lia))
 have q3:Sg G sk pe fk wk h0 (h2.set fk<|.lst<|(F++[t]).map tf) (u+1) (F++[t]) W:=⟨ZO q2.s q.sf,ZO q2.p q.ne.2.1,ZcE q2.f,ZO q2.w q.fw.symm,q2.m.trans<|.set<|by simp,q.sf,q.sw,q.fw⟩
 generalize h2.set fk (.lst<|(F++[t]).map tf)=h3 at *;obtain⟨a,b,cc,d⟩:=Zty pp;have l3:=Zex c;have lw:=ZF q3.w;refine⟨_,J c.d,zp c.ps t.parts,(Za x1).trans ((Za x2).trans ((Za x3).trans ((Za (Zb2 (Zdu (i:=wk) rfl q3.w (Zc (by
     rw [Zv2,show ev (P.tbl<|n+1) (.call (O "parts_of")<|.cons (.var 4) .nil) (eg sk r pe fk wk<|J c.d) h3=_ from Zi (Zgq H.b.toTre n c) rfl,Zu];rfl) rfl) (Zj6 (keep q3.w) Z0 (by lia) (by simp;lia))))).trans rfl))),⟨ZO (keep q3.s) q.sw,ZO (keep q3.p) q.ne.2.2,ZO (keep q3.f) q.fw,?_,(q3.m.trans .app).trans<|.set<|by simp,q.sf,q.sw,q.fw⟩,a,by rw [cc,Zf t];lia,d⟩
 have eb:c.ps.map nI=(zp c.ps t.parts).map λp=>nI p.1:=(congrArg (List.map nI) b).symm.trans<|List.map_map;rw [ZcE<|keep q3.w,List.map_append,List.reverse_append,eb]
def Zy5(H:Grr P)(n){G}{h0}{i}{t}{F}{W}(q:Sg G sk pe fk wk h0 h 120 F ((i,t)::W))(rd:Rd (gl G) i t)(o):∃h',xs2 (P.tbl<|n+1) Z6 (eg sk r pe fk wk o) h=.exc (O "Wide") h'/\Fm [pe,fk,wk] h0 h':=by obtain⟨c,e,f,pp,_⟩:=rd.at;obtain⟨x1,q1⟩:=ZtR H n q e o;refine⟨_,(Za x1).trans<|Zgs<|Zt4<|ZfZ rfl q1.p rfl rfl<|ZjS H.b H.w n q1.p,q1.m⟩
def Znb(n){G}{h0}{F}{W}(q:Sg G sk pe fk wk h0 h u F W)(o):tst (P.tbl<|n+1) ZaI (eg sk r pe fk wk o) h=.ok (!W.isEmpty) h:=Zm (ZgA rfl q.w) (by simp)
theorem ZmY:∀W ,W.length<=tot W
 |[]=>Oq _
 |p::W=>by have:=ZmY W;have:=ZI p.2;rw[ZeP,Os];lia
def ZdP(V W):tot (V++W)=tot V+tot W:=by simp[tot]
theorem Zyf(H:Grr P)(n){G}{h0}:∀(fuel) (W) (F) (u:Int) (h) (o),tot W<fuel->(∀p∈W,Rd (gl G) p.1 p.2)->u+tot W<=120->F.length+tot W<=1000->tot W<=1000->Sg G sk pe fk wk h0 h u F W->∃h' o' u',ZE (tst (P.tbl<|n+1) ZaI) (xs2 (P.tbl<|n+1) Z6) fuel (eg sk r pe fk wk o) h=.ok (.nx,eg sk r pe fk wk o') h'/\Sg G sk pe fk wk h0 h' u' (F++W.flatMap λp=>p.2.places) []
 |0,W,F,u,h,o,hf,_,_,_,_,_=>by lia
 |fuel+1,[],F,u,h,o,hf,_,_,_,_,q=>⟨h,o,u,ZcC<|Znb n q o,by simp_all⟩
 |fuel+1,(i,t)::W,F,u,h,o,hf,hs,hu,hF,hz,q=>by
  rw[ZeP]at hf hu hF hz;simp only at hf hu hF hz;have lw:=ZmY W;have st:=ZI t;obtain⟨R,o1,V,x,q1,hV,zV,pV⟩:=Zw2 H n (r:=r) q (by lia) (hs (i,t)<|.head _) (by lia) (by lia) o;have ta:=ZdP V W;obtain⟨h2,o2,u2,y,q2⟩:=Zyf H n (r:=r) fuel (V++W) (F++[t]) (u+1) R o1 (by lia) (λp hp=>(OD.mp hp).elim (hV p) λz=>hs p<|.tail _ z) (by lia) (by simp;lia) (by lia) q1;refine⟨h2,o2,u2,(Zaz (Zm (Znb n q o) rfl) x).trans y,?_⟩;have e:F++((i,t)::W).flatMap (λp=>p.2.places)=F++[t]++(V++W).flatMap λp=>p.2.places:=by rw[List.flatMap_cons,List.flatMap_append,T.places_parts,<-pV];simp[List.flatMap_map]
  rw[e];exact q2
theorem Zye(H:Grr P)(n){G}{h0}:∀(fuel z:Nat) (W) (F) (u) (h) (o),z<fuel->u+(z:Int)=120->(∀p∈W,Rd (gl G) p.1 p.2)->z<tot W->F.length+z<=1000->W.length+3*z<=1000->Sg G sk pe fk wk h0 h u F W->∃h',ZE (tst (P.tbl<|n+1) ZaI) (xs2 (P.tbl<|n+1) Z6) fuel (eg sk r pe fk wk o) h=.exc (O "Wide") h'/\Fm [pe,fk,wk] h0 h'
 |0,z,W,F,u,h,o,hf,_,_,_,_,_,_=>by lia
 |fuel+1,z,[],F,u,h,o,hf,_,_,ht,_,_,q=>by simp[tot]at ht
 |fuel+1,0,(i,t)::W,F,u,h,o,hf,hu,hs,ht,hF,hW,q=>by
  have:u=120:=by lia
  subst this;obtain⟨R,x,m⟩:=Zy5 H n (r:=r) q (hs (i,t)<|.head _) o;exact⟨R,Zmn (Zm (Znb n q o) rfl) x,m⟩
 |fuel+1,z+1,(i,t)::W,F,u,h,o,hf,hu,hs,ht,hF,hW,q=>by
  rw[ZeP]at ht;simp only[Os]at ht hW;obtain⟨R,o1,V,x,q1,hV,zV,pV⟩:=Zw2 H n (r:=r) q (by lia) (hs (i,t)<|.head _) (by lia) (by lia) o;have ta:=ZdP V W;have lV:V.length<=3:=by rw[<-Yu (f:=(·.2)),pV];cases t<;>simp[T.parts]
  obtain⟨h2,y,m⟩:=Zye H n (r:=r) fuel z (V++W) (F++[t]) (u+1) R o1 (by lia) (by lia) (λp hp=>(OD.mp hp).elim (hV p) λz=>hs p<|.tail _ z) (by lia) (by simp;lia) (by simp;lia) q1;exact⟨h2,(Zaz (Zm (Znb n q o) rfl) x).trans y,m⟩
theorem Zpg (H:Grr P) (n) {G}{sk r}{t} (hk:h[sk]?=J (cl G)) (rd:Rd (gl G) r t):∃ h',Fm [] h h'/\run P (n+3) (O "graph_read") [st sk r] h=if t.size<=120 then .ok t.d h' else .exc (O "Wide") h':=by
 rw [Zd H.graph_read rfl];have lk:=ZF hk;have big:=H.b.big;have x1:=Zg (i:=1) (by
     rw [Zt1,show evs (P.tbl<|n+2) (.cons (.glo<|O "WIDEST") .nil) [J<|st sk r,M,M,M,M] h=.ok [.int 120] h from Zc (congrArg (λo=>qd.ofO o h) H.gw) rfl,Zu];exact ZtO H.b (n+1) (.int 120) h)
 have x3:xs1 (P.tbl<|n+2) ZdL [J<|st sk r,J<|.ref h.length,J<|.ref<|h.length+1,M,M] (h++[Zbw (.int 120) 0,.lst []])=.ok (.nx,eg sk r h.length (h.length+1) (h.length+2) M) (h++[Zbw (.int 120) 0,.lst [],.lst [nI r]]):=Zg (i:=3) (by
     rw [Zh1 (xs:=[nI r]) (Zc rfl rfl)<|by simp];simp)
 have cut:∀ {h'},Fm [h.length,h.length+1,h.length+2] h h'->Fm [] h h':=λf=>f.cut λi hi=>.inr (by simp at hi;lia);have tt:tot [(r,t)]=t.size:=by simp [tot]
 by_cases hz:t.size<=120
 . obtain⟨R,o1,u1,e1,q1⟩:=Zyf H (n+1) (r:=r) P.L [(r,t)] [] 0 _ M (by lia) (λp hp=>by rw [Ox.mp hp];exact rd) (by lia) (by simp;lia) (by lia) ⟨keep hk,Z0,Zq7,ZyN,.app,by lia,by lia,by lia⟩;obtain⟨g,eb⟩:=ZmG H.b n t (h:=R) (fk:=h.length+1) (by rw [q1.f];simp) (by lia);refine⟨R++g,(cut q1.m).trans .app,?_⟩;rw [if_pos hz];have w:xs2 (P.tbl<|n+2) ZcS [J<|st sk r,M,M,M,M] h=.ok (.rt t.d,_) (R++g):=(Za x1).trans ((Za<|by simp [ZbN,YC]).trans<|(Za x3).trans<|(Za (s:=ZbM)<|ZeO.trans e1).trans<|Zb<|Zk<|Zi eb rfl);exact congrArg Ze w
 . obtain⟨R,e1,m1⟩:=Zye H (n+1) (r:=r) P.L 120 [(r,t)] [] 0 _ M (by lia) (by lia) (λp hp=>by rw [Ox.mp hp];exact rd) (by lia) (by simp) (by simp) ⟨keep hk,Z0,Zq7,ZyN,.app,by lia,by lia,by lia⟩;refine⟨R,cut m1,?_⟩;rw [if_neg hz];have w:xs2 (P.tbl<|n+2) ZcS [J<|st sk r,M,M,M,M] h=.exc (O "Wide") R:=(Za x1).trans ((Za<|by simp [ZbN,YC]).trans<|(Za x3).trans<|Zgs (s:=ZbM)<|ZeO.trans e1);exact congrArg Ze w
end
section
variable {P:Pg}
def Zbf:Nat->List T->List (Nat×T)
 |_,[]=>[]
 |i,t::ts=>(i,t)::Zbf (i+t.size) ts
noncomputable def nJ(p:Nat×T):D:=.int (p.1:Int)
def cell(i:Nat)(t:T):D:=.tup (fr t++(Zbf (i+1) t.parts).map nJ)
def cells:Nat->T->List D
 |i,.num n=>[cell i<|.num n]
 |i,.name x=>[cell i<|.name x]
 |i,.fn x e=>cell i (.fn x e)::cells (i+1) e
 |i,.rcc f x e=>cell i (.rcc f x e)::cells (i+1) e
 |i,.call f a=>cell i (.call f a)::(cells (i+1) f++cells (i+1+f.size) a)
 |i,.iff c t e=>cell i (.iff c t e)::(cells (i+1) c++(cells (i+1+c.size) t++cells (i+1+c.size+t.size) e))
 |i,.op w a b=>cell i (.op w a b)::(cells (i+1) a++cells (i+1+a.size) b)
def ZaU:Nat->List T->List D
 |_,[]=>[]
 |i,t::ts=>cells i t++ZaU (i+t.size) ts
def szs(ts:List T):Nat:=(ts.map T.size).sum
def ZeQ(t)(ts):szs (t::ts)=t.size+szs ts:=rfl
def ZjM(t:T):t.size=1+szs t.parts:=Zf t
def Zf2(i)(t):cells i t=cell i t::ZaU (i+1) t.parts:=by cases t<;>simp[cells,ZaU,T.parts]
theorem ZgV:∀(ts) (i),(Zbf i ts).length=ts.length
 |[],_=>rfl
 |t::ts,i=>by simp[Zbf,ZgV ts]
theorem ZfK:∀(m) (t) (i),t.size<=m->(cells i t).length=t.size
 |0,t,i,h=>by have:=ZI t;omega
 |m+1,t,i,h=>by
  have L:∀(ts) (i),szs ts<=m->(ZaU i ts).length=szs ts:=by
   intro ts;induction ts with
   |nil=>intro i _;rfl
   |cons t ts ih=>intro i q;rw[ZeQ]at q ⊢;rw[ZaU,OA,ZfK m t i<|by omega,ih _<|by omega]
  have:=ZjM t;rw[Zf2,Os,L _ _<|by omega];omega
theorem ZeG:∀(ts) (i),(ZaU i ts).length=szs ts
 |[],i=>rfl
 |t::ts,i=>by rw[ZaU,OA,ZfK t.size t i<|Oq _,ZeG ts,ZeQ]
theorem ZmZ:∀ts ,ts.length<=szs ts
 |[]=>Oq _
 |t::ts=>by have:=ZmZ ts;have:=ZI t;rw[ZeQ,Os];omega
def Zrd{h0 h}{fk dk}{fs ds}(b:B_ h0 h fk dk fs ds)(hf:h0.length<=fk)(es):B_ h0 (h.set fk<|.lst es) fk dk es ds:=⟨by rw[Ol<|ZF b.f],(Oc b.ne.symm).trans b.d,b.ne,b.o1,by simpa using b.ol,λi hi=>(Oc<|by omega).trans<|b.old i hi⟩
def gb1:Sx:=.s 5 (.comp [O "part",O "numbers"] [M,J 3] (.pl<|.f "parts_of"<|.o V4) (.nm 0) M<|.meth .pop V1 .n)
def gb2:Sx:=.drp (.meth .app V2<|.o<|.bin .Add (.f "front_of"<|.o V4)<|.blt .tup<|.o V5)
def gb3:Sx:=.drp (.meth .app V3<|.o<|.bin .Sub (.blt .len<|.o V1)<|.blt .len<|.o V2)
def ZmX:Sxs:=.u gb1 gb2 gb3
def Zyr:Zaq=.forr (.nm 4) (.rev<|.var 1) ZmX:=rfl
def Zza(H:Trs P)(n){h0 h}{tk ck nk i}{tl C N}(t)(ht:h0[tk]?=J (.lst tl))(hc:h0.length<=ck)(b:B_ h0 h ck nk C (N++((Zbf (i+1) t.parts).map nJ).reverse))(hi:C.length+1+i=tl.length)(hz:tl.length<=1000)(hN:N.length<=1000)(o0 o5:Option D):∃h' b9,
 xs2 (P.tbl<|n+1) ZmX [o0,J<|.ref tk,J<|.ref ck,J<|.ref nk,J t.d,o5] h=.ok (.nx,[o0,J<|.ref tk,J<|.ref ck,J<|.ref nk,J t.d,b9]) h'/\B_ h0 h' ck nk (C++[cell i t]) (N++[.int<|i]):=by
 have hp:t.parts.length<=3:=by cases t<;>simp[T.parts]
 have hf:(fr t).length<=3:=by cases t<;>simp[fr]
 have hl:=ZgV t.parts<|i+1;obtain⟨R,q1,b1⟩:=ZqU (U:=P.tbl<|n+1) (t.parts.map T.d) ((Zbf (i+1) t.parts).map nJ) N [] h (by simp[hl]) (by simp[hl];omega) b;have b2:=b1.app (g:=[.lst<|(Zbf (i+1) t.parts).map nJ]);have b3:=Zrd b2 hc<|C++[cell i t];refine⟨_,J<|.ref R.length,?_,b3.set<|N++[.int (i:Int)]⟩;have x1:xs1 (P.tbl<|n+1) gb1 [o0,J<|.ref tk,J<|.ref ck,J<|.ref nk,J t.d,o5] h=.ok (.nx,[o0,J<|.ref tk,J<|.ref ck,J<|.ref nk,J t.d,J<|.ref R.length]) (R++[.lst<|(Zbf (i+1) t.parts).map nJ]):=by
  have ei:evi (P.tbl<|n+1) (.pl<|.call (O "parts_of")<|.cons (.var 4) .nil) [o0,J<|.ref tk,J<|.ref ck,J<|.ref nk,J t.d,o5] h=.ok ⟨[],t.parts.map T.d⟩ h:=by have e1:ev (P.tbl<|n+1) (.call (O "parts_of")<|.cons (.var 4) .nil) [o0,J<|.ref tk,J<|.ref ck,J<|.ref nk,J t.d,o5] h=.ok (.tup<|t.parts.map T.d) h:=Gn.Zgl H.toTre n t h;rw[ZlO,e1,Zu];rfl
  rw[gb1,Zgi,Zgp,ei,Zu];simp only[Za7,Op,Oy,Option.bind_none,Yz];rw[show([o0,J<|.ref tk,J<|.ref ck,J<|D.ref nk,J t.d,o5][3]?).join=J (.ref nk)from rfl,q1];rfl
 have x2:xs1 (P.tbl<|n+1) gb2 [o0,J<|.ref tk,J<|.ref ck,J<|.ref nk,J t.d,J<|.ref R.length] (R++[.lst<|(Zbf (i+1) t.parts).map nJ])=.ok (.nx,[o0,J<|.ref tk,J<|.ref ck,J<|.ref nk,J t.d,J<|.ref R.length]) (List.set (R++[.lst<|(Zbf (i+1) t.parts).map nJ]) ck<|.lst<|C++[cell i t]):=by
  have ap:=Z5 (d:=cell i t) b2.f (by rw[YC];omega);have il:=Zbz b2.f;have ef:=ZiQ H n t<|R++[.lst<|(Zbf (i+1) t.parts).map nJ];have ad:∀h',opB .Add (.tup<|fr t) (.tup<|(Zbf (i+1) t.parts).map nJ) h'=.ok (cell i t) h':=λh'=>Ze0 (by rw[YC];simp[hl];omega);have kk:(R++[DO.lst<|(Zbf (i+1) t.parts).map nJ])[R.length]?=J (.lst<|(Zbf (i+1) t.parts).map nJ):=Z0;generalize R++[DO.lst<|(Zbf (i+1) t.parts).map nJ]=h2 at *;have tu:Zaj P.GD .tup [.ref R.length] h2=.ok (.tup<|(Zbf (i+1) t.parts).map nJ) h2:=by simp only[Zaj,ZkS,lstOf,kk];rfl
  generalize (Zbf (i+1) t.parts).map nJ=ns at *;simp[gb2,Pg.tbl,il,ef,tu,ad,ap]
 have x3:xs1 (P.tbl<|n+1) gb3 [o0,J<|.ref tk,J<|.ref ck,J<|.ref nk,J t.d,J<|.ref R.length] (List.set (R++[.lst<|(Zbf (i+1) t.parts).map nJ]) ck<|.lst<|C++[cell i t])=.ok (.nx,[o0,J<|.ref tk,J<|.ref ck,J<|.ref nk,J t.d,J<|.ref R.length]) (List.set (List.set (R++[.lst<|(Zbf (i+1) t.parts).map nJ]) ck<|.lst<|C++[cell i t]) nk<|.lst<|N++[.int (i:Int)]):=by
  have ap:=Z5 (d:=.int (i:Int)) b3.d (by rw[YC];omega);have il:=Zbz b3.d;have kt:=(b3.old tk<|ZF ht).trans ht;have kc:=b3.f;generalize List.set (R++[DO.lst<|(Zbf (i+1) t.parts).map nJ]) ck (.lst<|C++[cell i t])=h3 at *;have l1:Zaj P.GD .len [.ref tk] h3=.ok (.int (tl.length:Int)) h3:=by simp[Zaj,Zjw,seqOf,lstOf,kt]
  have l2:Zaj P.GD .len [.ref ck] h3=.ok (.int<|(C.length:Int)+1) h3:=by simp[Zaj,Zjw,seqOf,lstOf,kc]
  have hs:(tl.length:Int)-((C.length:Int)+1)=(i:Int):=by omega
  simp[gb3,Pg.tbl,il,l1,l2,hs,ap]
 rw[ZmX,Za x1,Za x2,Za x3];rfl
def wg(P:Pg)(n tk ck nk:Nat)(tl:List D)(o0:Option D)(ag:List D)(o4 o5:Option D)(h:Hd):qd (Fl×Ev):=ZW [(tk,tl)] (.nm 4) (xs2 (P.tbl<|n+1) ZmX) ag [o0,J<|.ref tk,J<|.ref ck,J<|.ref nk,o4,o5] h
def Gt(P:Pg)(n:Nat)(h0:Hd)(tk ck nk:Nat)(tl:List D)(o0:Option D)(xs C0 N0 C1 N1:List D):Prop:=∀(ag:List D) (h:Hd) (o4 o5:Option D),B_ h0 h ck nk C0 N0->∃h' iO b9,wg P n tk ck nk tl o0 (xs++ag) o4 o5 h=wg P n tk ck nk tl o0 ag iO b9 h'/\B_ h0 h' ck nk C1 N1
section
variable {n:Nat}{h0:Hd}{tk ck nk:Nat}{tl:List D}{o0:Option D}{xs ys C0 C1 C2 N0 N1 N2:List D}
def Gt.nil:Gt P n h0 tk ck nk tl o0 [] C0 N0 C0 N0:=λag h o2 o3 b=>⟨h,o2,o3,rfl,b⟩
def Gt.trans(a:Gt P n h0 tk ck nk tl o0 xs C0 N0 C1 N1)(b:Gt P n h0 tk ck nk tl o0 ys C1 N1 C2 N2):Gt P n h0 tk ck nk tl o0 (xs++ys) C0 N0 C2 N2:=λag h o2 o3 q=>by obtain⟨R,iR,gz,e1,q1⟩:=a (ys++ag) h o2 o3 q;obtain⟨h2,iQ,iP,e2,q2⟩:=b ag R iR gz q1;exact⟨h2,iQ,iP,by simp_all,q2⟩
end
theorem Zqt(H:Trs P){n}{h0}{tk ck nk}{tl}{o0}(ht:h0[tk]?=J (.lst tl))(hc:h0.length<=ck)(hz:tl.length<=1000):∀(m) (t) (i) (C N),t.size<=m->C.length+t.size+i=tl.length->N.length+t.size<=1000 ->
 Gt P n h0 tk ck nk tl o0 (t.places.map T.d).reverse C N (C++(cells i t).reverse) (N++[.int i])
 |0,t,i,C,N,h,_,_=>by have:=ZI t;omega
 |m+1,t,i,C,N,h,hi,hN=>by
  have L:∀(ts:List T) (i:Nat) (C N:List D),szs ts<=m->C.length+szs ts+i<=tl.length->C.length+szs ts+i=tl.length->N.length+szs ts<=1000 ->
   Gt P n h0 tk ck nk tl o0 ((ts.flatMap T.places).map T.d).reverse C N (C++(ZaU i ts).reverse) (N++((Zbf i ts).map nJ).reverse):=by
   intro ts;induction ts with
   |nil=>intro i C N _ _ _ _;simpa[ZaU,Zbf]using Gt.nil
   |cons t ts ih=>intro i C N q1 _ q2 q3;rw[ZeQ]at q1 q2 q3;have lt:=ZmZ ts;simpa[ZaU,Zbf,nJ]using (ih (i+t.size) C N (by omega) (by omega) (by omega)<|by omega).trans (Zqt H (n:=n) (nk:=nk) (o0:=o0) ht hc hz m t i (C++(ZaU (i+t.size) ts).reverse) (N++((Zbf (i+t.size) ts).map nJ).reverse) (by omega) (by simp[ZeG];omega) (by simp[ZgV];omega))
  have e:=ZjM t;have hb:Gt P n h0 tk ck nk tl o0 [t.d] (C++(ZaU (i+1) t.parts).reverse) (N++((Zbf (i+1) t.parts).map nJ).reverse) (C++(ZaU (i+1) t.parts).reverse++[cell i t]) (N++[.int<|i]):=λag h o4 o5 b=>by obtain⟨h',b9,q,b'⟩:=Zza H n t ht hc b (by simp[ZeG];omega) hz (by omega) o0 o5;exact⟨h',J t.d,b9,Zdm ((b.old tk<|ZF ht).trans ht) rfl q,b'⟩
  rw[T.places_parts,Zf2];simpa using (L t.parts (i+1) C N (by omega) (by omega) (by omega)<|by omega).trans hb
theorem ZvY{h R:Hd}(hl:h.length<=R.length)(q:∀ i,i<h.length->R[i]?=h[i]?):∃ g,R=h++g:=⟨R.drop h.length,by
 apply List.ext_getElem?;intro i;rcases Nat.lt_or_ge i h.length with c|c
 . rw [q i c,Oe c]
 . rw [Om c]
   simp_all⟩
def ZrM(H:Gs P)(n)(t)(hz:t.size<=120)(h):∃g k,run P (n+3) (O "graph_begun") [t.d] h=.ok (.tup [.ref k,.int 0]) (h++g)/\h.length<=k/\(h++g)[k]?=J (.lst<|cells 0 t):=by
 rw[Zd H.graph_begun<|by rfl];have ep:=Gn.ZjT H.b.toTre H.pl n t h (by omega);have hl:(t.places.map T.d).length=t.size:=by simp[T.size]
 have ht:(h++[DO.lst<|t.places.map T.d,.lst []])[h.length]?=J (.lst<|t.places.map T.d):=by simp
 have ol:h.length<=(h++[DO.lst<|t.places.map T.d,.lst []]).length:=by simp
 have old:∀i,i<h.length->(h++[DO.lst<|t.places.map T.d,.lst []])[i]?=h[i]? := λi hi=>Oe hi;generalize htl:t.places.map T.d=tl at *;generalize h++[DO.lst tl,.lst []]=h0 at *;have b0:B_ h0 (h0++[.lst [],.lst []]) h0.length (h0.length+1) [] []:=⟨by simp,by simp,by omega,by omega,by simp,λi hi=>Oe hi⟩
 obtain⟨R,o4,o5,e1,b1⟩:=Zqt H.b (n:=n+1) (nk:=h0.length+1) (o0:=J t.d) ht (Oq h0.length) (by omega) t.size t 0 [] [] (Oq _) (by simp;omega) (by simp;omega) [] _ M M b0;have kt:=(b1.old h.length<|ZF ht).trans ht;have e2:wg P (n+1) h.length h0.length (h0.length+1) tl (J t.d) [] o4 o5 R=.ok (.nx,[J t.d,J<|.ref h.length,J<|.ref h0.length,J<|.ref<|h0.length+1,o4,o5]) R:=Ze8 kt;rw[e2,Yt,htl]at e1;have x1:xs1 (P.tbl<|n+2) Zbh [J t.d,M,M,M,M,M] h=.ok (.nx,[J t.d,J<|.ref h.length,M,M,M,M]) h0:=Zg<|Zi ep rfl;have x2:xs1 (P.tbl<|n+2) Zas [J t.d,J<|.ref h.length,M,M,M,M] h0=.ok (.nx,[J t.d,J<|.ref h.length,J<|.ref h0.length,M,M,M]) (h0++[.lst []]):=by simp[Zas,YC]
 have x3:xs1 (P.tbl<|n+2) Zar [J t.d,J<|.ref h.length,J<|.ref h0.length,M,M,M] (h0++[.lst []])=.ok (.nx,[J t.d,J<|.ref h.length,J<|.ref h0.length,J<|.ref<|h0.length+1,M,M]) (h0++[.lst [],.lst []]):=by simp[Zar,YC]
 have x4:xs1 (P.tbl<|n+2) Zaq [J t.d,J<|.ref h.length,J<|.ref h0.length,J<|.ref<|h0.length+1,M,M] (h0++[.lst [],.lst []])=.ok (.nx,[J t.d,J<|.ref h.length,J<|.ref h0.length,J<|.ref<|h0.length+1,o4,o5]) R:=by
  have ei:evi (P.tbl<|n+2) (.rev<|.var 1) [J t.d,J<|.ref h.length,J<|.ref h0.length,J<|.ref<|h0.length+1,M,M] (h0++[.lst [],.lst []])=.ok ⟨[(h.length,tl)],tl.reverse⟩ (h0++[.lst [],.lst []]):=by have:=(b0.old h.length<|ZF ht).trans ht;generalize h0++[DO.lst [],.lst []]=hh at *;simp[Zgv,this]
  rw[Zyr,Zdl ei];exact e1
 have b2:=Zrd b1 (Oq _)<|cells 0 t;have x5:xs1 (P.tbl<|n+2) Zap [J t.d,J<|.ref h.length,J<|.ref h0.length,J<|.ref<|h0.length+1,o4,o5] R=.ok (.nx,[J t.d,J<|.ref h.length,J<|.ref h0.length,J<|.ref<|h0.length+1,o4,o5]) (R.set h0.length<|.lst<|cells 0 t):=by
  have k:=b1.f;have il:=Zbz k;simp only[OB]at k;have rv:Zax .rev (.ref h0.length) [] R=.ok .non (R.set h0.length<|.lst<|cells 0 t):=by simp[Zax,k,Zfv,Zvs]
  simp[Zap,il,rv]
 obtain⟨g,hg⟩:=ZvY (h:=h) (R:=R.set h0.length<|.lst<|cells 0 t) (by have:=b2.ol;omega) (λi hi=>by rw[b2.old i<|by omega,old i hi]);refine⟨g,h0.length,?_,ol,by rw[<-hg];exact b2.f⟩;show Ze (xs2 (P.tbl<|n+2) (.cons Zbh<|.cons Zas<|.cons Zar<|.cons Zaq<|.cons Zap<|.cons Zc9 .nil) [J t.d,M,M,M,M,M] h)=_;rw[Za x1,Za x2,Za x3,Za x4,Za x5,<-hg];rfl
def Za3(i:Nat):T->Gc
 |.num n=>.num n
 |.name x=>.name x
 |.fn x _=>.fn x (i+1)
 |.rcc f x _=>.rcc f x (i+1)
 |.call f _=>.call (i+1) (i+1+f.size)
 |.iff c t _=>.iff (i+1) (i+1+c.size) (i+1+c.size+t.size)
 |.op w a _=>.op w (i+1) (i+1+a.size)
def Zy0(i)(t):(Za3 i t).d=cell i t:=by cases t<;>rfl
def gcs:Nat->T->List Gc
 |i,.num n=>[Za3 i<|.num n]
 |i,.name x=>[Za3 i<|.name x]
 |i,.fn x e=>Za3 i (.fn x e)::gcs (i+1) e
 |i,.rcc f x e=>Za3 i (.rcc f x e)::gcs (i+1) e
 |i,.call f a=>Za3 i (.call f a)::(gcs (i+1) f++gcs (i+1+f.size) a)
 |i,.iff c t e=>Za3 i (.iff c t e)::(gcs (i+1) c++(gcs (i+1+c.size) t++gcs (i+1+c.size+t.size) e))
 |i,.op w a b=>Za3 i (.op w a b)::(gcs (i+1) a++gcs (i+1+a.size) b)
theorem Zek:∀(t) (i),(gcs i t).map Gc.d=cells i t
 |.num _,_=>rfl
 |.name _,_=>rfl
 |.fn x e,i|.rcc f x e,i=>by rw[gcs,Op,Zek e];rfl
 |.call f a,i=>by rw[gcs,Op,List.map_append,Zek f,Zek a];rfl
 |.iff c t e,i=>by rw[gcs,Op,List.map_append,List.map_append,Zek c,Zek t,Zek e];rfl
 |.op w a b,i=>by rw[gcs,Op,List.map_append,Zek a,Zek b];rfl
def Ze7(t)(i):(gcs i t).length=t.size:=by rw[<-Yu ,Zek,ZfK t.size t i<|Oq _]
def seg_at{A pre post}{c}{l}(e:A=pre++(c::l)++post)(hl:pre.length=i):gl A i=J c:=by
 show A[i]?=_
 simp_all
end
section
variable {P:Pg}{h:Hd}
namespace Q
def ZxU{i}{a b:Q}(h:(i::(a.all++b.all)).Nodup):a.all.Nodup/\b.all.Nodup/\i ∉ a.all/\i ∉ b.all/\∀n,n∈a.all->n ∉ b.all:=by rw[List.nodup_cons,OD,not_or,List.nodup_append]at h;exact⟨h.2.1,h.2.2.1,h.1.1,h.1.2,λn x y=>h.2.2.2 n x n y rfl⟩
def one2{i}{a b:Q}(h:(i::(a.all++b.all)).Nodup)(oa:a.One)(ob:b.One):(i::(a.opn++b.opn)).Nodup/\∀n∈i::(a.opn++b.opn),n ∉ a.deep++b.deep:=by
 obtain⟨_,_,ia,ib,dj⟩:=ZxU h;refine⟨List.nodup_cons.mpr ⟨λz=>?_,List.nodup_append.mpr ⟨oa.1,ob.1,λx hx y hy e=>dj x (ZC x hx)<|e▸ZC y hy⟩⟩,λn hn hd=>?_⟩
 . rcases OD.mp z with z|z
   . exact ia (ZC _ z)
   . exact ib (ZC _ z)
 . rcases OD.mp hd with hd|hd
   . rcases O2.mp hn with rfl|hn
     . exact ia (ZG _ hd)
     . rcases OD.mp hn with hn|hn
       . exact oa.2 n hn hd
       . exact dj n (ZG _ hd) (ZC _ hn)
   . rcases O2.mp hn with rfl|hn
     . exact ib (ZG _ hd)
     . rcases OD.mp hn with hn|hn
       . exact dj n (ZC _ hn) (ZG _ hd)
       . exact ob.2 n hn hd
theorem nod:∀{q:Q},q.all.Nodup->q.One/\q.Uns
 |.num i z,_=>⟨⟨.nil,λn hn=>by trivial⟩,trivial⟩
 |.name i x,_=>⟨⟨List.nodup_cons.mpr ⟨λz=>(by cases z),.nil⟩,λn hn hd=>by cases hd⟩,trivial⟩
 |.fn i x e,h|.rcc i f x e,h=>⟨⟨.nil,λn hn=>by trivial⟩,nod (List.nodup_cons.mp h).2⟩
 |.call i a b,h|.op i w a b,h=>by obtain⟨na,nb,_⟩:=ZxU h;obtain⟨oa,ua⟩:=nod na;obtain⟨ob,ub⟩:=nod nb;exact⟨one2 h oa ob,ua,ub⟩
 |.iff i a b c,h=>by
  simp only[all,List.nodup_cons,OD,not_or,List.nodup_append]at h;obtain⟨⟨ia,ib,ic⟩,na,⟨nb,nc,jL⟩,da⟩:=h;obtain⟨oa,ua⟩:=nod na;obtain⟨ob,ub⟩:=nod nb;obtain⟨oc,uc⟩:=nod nc;refine⟨⟨?_,λn hn hd=>?_⟩,ua,ub,uc⟩
  . simp only[opn,List.nodup_cons,OD,not_or,List.nodup_append];exact⟨⟨λz=>ia<|ZC _ z,λz=>ib<|ZC _ z,λz=>ic<|ZC _ z⟩,oa.1,⟨ob.1,oc.1,λx hx y hy=>jL x (ZC x hx) y<|ZC y hy⟩,λx hx y hy=>da x (ZC x hx) y<|hy.imp (ZC y)<|ZC y⟩
  . simp only[opn,deep,O2,OD]at hn hd;rcases hn with rfl|hn|hn|hn<;>rcases hd with hd|hd|hd
    . exact ia (ZG _ hd)
    . exact ib (ZG _ hd)
    . exact ic (ZG _ hd)
    . exact oa.2 n hn hd
    . exact da n (ZC _ hn) n (.inl<|ZG _ hd) rfl
    . exact da n (ZC _ hn) n (.inr<|ZG _ hd) rfl
    . exact da n (ZG _ hd) n (.inl<|ZC _ hn) rfl
    . exact ob.2 n hn hd
    . exact jL n (ZC _ hn) n (ZG _ hd) rfl
    . exact da n (ZG _ hd) n (.inr<|ZC _ hn) rfl
    . exact jL n (ZG _ hd) n (ZC _ hn) rfl
    . exact oc.2 n hn hd
end Q
def qs:Nat->T->Q
 |i,.num n=>.num i n
 |i,.name x=>.name i x
 |i,.fn x e=>.fn i x (qs (i+1) e)
 |i,.rcc f x e=>.rcc i f x (qs (i+1) e)
 |i,.call f a=>.call i (qs (i+1) f) (qs (i+1+f.size) a)
 |i,.iff c t e=>.iff i (qs (i+1) c) (qs (i+1+c.size) t) (qs (i+1+c.size+t.size) e)
 |i,.op w a b=>.op i w (qs (i+1) a) (qs (i+1+a.size) b)
def Zee(i)(t):(qs i t).no=i:=by cases t<;>rfl
theorem Zef:∀(t) (i),(qs i t).er=t
 |.num _,_=>rfl
 |.name _,_=>rfl
 |.fn x e,i|.rcc f x e,i=>by simp[qs,Q.er,Zef e]
 |.call f a,i=>by simp[qs,Q.er,Zef f,Zef a]
 |.iff c t e,i=>by simp[qs,Q.er,Zef c,Zef t,Zef e]
 |.op w a b,i=>by simp[qs,Q.er,Zef a,Zef b]
theorem Zae:∀(t) (i n),n∈(qs i t).all->i<=n/\n<i+t.size
 |.num z,i,n,h=>by have:=ZI<|.num z;rw[Ox.mp h];lia
 |.name z,i,n,h=>by have:=ZI<|.name z;rw[Ox.mp h];lia
 |.fn x e,i,n,h=>by
  have:=zf x e;rcases O2.mp h with rfl|h
  . lia
  . have:=Zae e _ n h;lia
 |.rcc f x e,i,n,h=>by
  have:=zr f x e;rcases O2.mp h with rfl|h
  . lia
  . have:=Zae e _ n h;lia
 |.call f a,i,n,h=>by
  have:=zc f a;simp only[qs,Q.all,O2,OD]at h;rcases h with rfl|h|h
  . lia
  . have:=Zae f _ n h;lia
  . have:=Zae a _ n h;lia
 |.iff c t e,i,n,h=>by
  have:=zi c t e;simp only[qs,Q.all,O2,OD]at h;rcases h with rfl|h|h|h
  . lia
  . have:=Zae c _ n h;lia
  . have:=Zae t _ n h;lia
  . have:=Zae e _ n h;lia
 |.op w f a,i,n,h=>by
  have:=zo w f a;simp only[qs,Q.all,O2,OD]at h;rcases h with rfl|h|h
  . lia
  . have:=Zae f _ n h;lia
  . have:=Zae a _ n h;lia
theorem ZgM:∀ (t) (i),(qs i t).all.Nodup
 |.num z,i|.name z,i=>List.nodup_cons.mpr ⟨λz=>(by cases z),.nil⟩
 |.fn x e,i|.rcc f x e,i=>List.nodup_cons.mpr ⟨λz=>by have:=Zae e _ _ z;lia,ZgM e _⟩
 |.call f a,i|.op w f a,i=>List.nodup_cons.mpr ⟨λz=>by
     rcases OD.mp z with z|z
     . have:=Zae f _ _ z;lia
     . have:=Zae a _ _ z;lia,List.nodup_append.mpr ⟨ZgM f _,ZgM a _,λx hx y hy=>by have:=Zae f _ _ hx;have:=Zae a _ _ hy;lia⟩⟩
 |.iff c t e,i=>List.nodup_cons.mpr ⟨λz=>by
     rcases OD.mp z with z|z
     . have:=Zae c _ _ z;lia
     . rcases OD.mp z with z|z
       . have:=Zae t _ _ z;lia
       . have:=Zae e _ _ z;lia,List.nodup_append.mpr ⟨ZgM c _,List.nodup_append.mpr ⟨ZgM t _,ZgM e _,λx hx y hy=>by have:=Zae t _ _ hx;have:=Zae e _ _ hy;lia⟩,λx hx y hy=>by
       have:=Zae c _ _ hx;rcases OD.mp hy with hy|hy
       . have:=Zae t _ _ hy;lia
       . have:=Zae e _ _ hy;lia⟩⟩
theorem Zed{A}:∀(t) (i) (pre post),A=pre++gcs i t++post->pre.length=i->(qs i t).ok (gl A)
 |.num _,i,pre,post,e,hl=>seg_at e hl
 |.name _,i,pre,post,e,hl=>seg_at e hl
 |.fn x b,i,pre,post,e,hl=>⟨by rw[Zee];exact seg_at e hl,Zed b (i+1) (pre++[Za3 i<|.fn x b]) post (by rw[e,gcs];simp)<|by simp_all⟩
 |.rcc f x b,i,pre,post,e,hl=>⟨by rw[Zee];exact seg_at e hl,Zed b (i+1) (pre++[Za3 i<|.rcc f x b]) post (by rw[e,gcs];simp)<|by simp_all⟩
 |.call f a,i,pre,post,e,hl=>⟨by rw[Zee,Zee];exact seg_at e hl,Zed f (i+1) (pre++[Za3 i<|.call f a]) (gcs (i+1+f.size) a++post) (by rw[e,gcs];simp)<|by simp[hl],Zed a (i+1+f.size) (pre++[Za3 i<|.call f a]++gcs (i+1) f) post (by rw[e,gcs];simp) (by simp[hl,Ze7];lia)⟩
 |.iff c t d,i,pre,post,e,hl=>⟨by rw[Zee,Zee,Zee];exact seg_at e hl,Zed c (i+1) (pre++[Za3 i<|.iff c t d]) (gcs (i+1+c.size) t++gcs (i+1+c.size+t.size) d++post) (by rw[e,gcs];simp)<|by simp[hl],Zed t (i+1+c.size) (pre++[Za3 i<|.iff c t d]++gcs (i+1) c) (gcs (i+1+c.size+t.size) d++post) (by rw[e,gcs];simp) (by simp[hl,Ze7];lia),Zed d (i+1+c.size+t.size) (pre++[Za3 i<|.iff c t d]++gcs (i+1) c++gcs (i+1+c.size) t) post (by rw[e,gcs];simp) (by simp[hl,Ze7];lia)⟩
 |.op w f a,i,pre,post,e,hl=>⟨by rw[Zee,Zee];exact seg_at e hl,Zed f (i+1) (pre++[Za3 i<|.op w f a]) (gcs (i+1+f.size) a++post) (by rw[e,gcs];simp)<|by simp[hl],Zed a (i+1+f.size) (pre++[Za3 i<|.op w f a]++gcs (i+1) f) post (by rw[e,gcs];simp) (by simp[hl,Ze7];lia)⟩
def Zwk(H:Gs P)(n)(t)(ct:Gn.Cl [] t)(hz:t.size<=120)(h):∃g k G q,run P (n+3) (O "graph_begun") [t.d] h=.ok (st k 0) (h++g)/\h.length<=k/\(h++g)[k]?=J (cl G)/\Gq G q/\q.no=0/\q.er=t/\G.length=t.size:=by obtain⟨g,k,e,l,a⟩:=ZrM H n t hz h;obtain⟨o,u⟩:=Q.nod<|ZgM t 0;refine⟨g,k,gcs 0 t,qs 0 t,e,l,?_,⟨Zed t 0 [] [] (by simp) rfl,o,u,by rw[Zef];trivial⟩,Zee 0 t,Zef t 0,Ze7 t 0⟩;rw[a,Grf.cl,Zek]
end
end Grf
namespace Tm
open PySem L2 IV
section
variable {P:Pg}
def row:Nat->T->List T×Str
 |0,t=>([t],if isV t then O "value" else match next t with
  |none=>O "stuck"
  |some _=>O "open")
 |m+1,t=>if isV t then([t],O "value")else match next t with
  |none=>([t],O "stuck")
  |some u=>if 120<u.size then([t],O "wide")else(t::(row m u).1,(row m u).2)
def ZuH(H:Trw P)(n)(t:T)(hz:t.size<=800000)(h):run P (n+3) (O "is_wide") [t.d] h=.ok (.bl<|Wu<|120<t.size) (h++[.lst<|t.places.map T.d,.lst []]):=by
 rw[Zd H.is_wide<|by rfl];have l:(h++[DO.lst<|t.places.map T.d,.lst []])[h.length]?=J (.lst<|t.places.map T.d):=by simp
 have c:Wu ((120)<(t.places.length:Int))=Wu (120<t.size):=by
  rw[Bool.eq_iff_iff];simp only[decide_eq_true_eq];unfold T.size
  lia
 simp[ZfB,ZiH,Zw,Gn.ZjT H.toTrm.toTre H.pl n t h hz,H.gw,Zaj,Zjw,seqOf,lstOf,c]
def rw1:Sx:=.iff (.x .Gt (.blt .len<|.o V2) V1) (.o<|.ret<|.tupl<|.w V2<|.Ci_ "open") .n
def rw2:Sx:=.iff (.ex<|.f "is_wide"<|.o<|.ix V3 F1) (.o<|.ret<|.tupl<|.w V2<|.Ci_ "wide") .n
def rw3:Sx:=.drp (.meth .app V2<|.o<|.ix V3 F1)
def rw4:Sx:=.s 3 (.f "stepped"<|.o<|.ix V3 F1)
def Zqc:Sxs:=.z rw1 rw2 rw3 rw4
def rwc:Tx:=.q (.ix V3 F0) (.Ci_ "loud")
def rwR:Sxs:=.o (.ret<|.tupl<|.w V2<|.ix V3 F0)
def rwF(U:Tb)(r:qd (Fl×Ev)):qd D:=Ze (r.bnd λp R=>match p with
 |(.nx,ρ1)=>xs2 U rwR ρ1 R
 |p=>.ok p R)
noncomputable def vr(E:D)(qb rk:Nat)(a:D):Ev:=[J E,J<|.int (qb:Int),J<|.ref rk,J a]
theorem ZtY(H:Trw P)(n)(qb)(hM:qb<=1000):∀(m) (t) (A) (g:Hd) (fuel),A.length+m=qb->m<fuel->Gn.Cl [] t->t.size<=120->∃g',
 rwF (P.tbl<|n+7) (ZE (tst (P.tbl<|n+7) rwc) (xs2 (P.tbl<|n+7) Zqc) fuel (vr E qb h.length<|ans t) (h++.lst ((A++[t]).map T.d)::g))=.ok (.tup [.ref h.length,.str (row m t).2]) (h++.lst ((A++(row m t).1).map T.d)::g')
 |m,t,A,g,0,_,hf,_,_=>by lia
 |m,t,A,g,fuel+1,hA,hf,c,hz=>by
  have stop:∀w:Str,w≠O "loud" -> ans t=.tup [.str w]->row m t=([t],w)->∃g',rwF (P.tbl<|n+7) (ZE (tst (P.tbl<|n+7) rwc) (xs2 (P.tbl<|n+7) Zqc) (fuel+1) (vr E qb h.length<|ans t) (h++.lst ((A++[t]).map T.d)::g))=.ok (.tup [.ref h.length,.str (row m t).2]) (h++.lst ((A++(row m t).1).map T.d)::g'):=by intro w hw e1 e2;rw[e1,e2];exact⟨g,(congrArg (rwF _)<|ZcC<|Zm (ZaN rfl rfl)<|decide_eq_false hw).trans rfl⟩
  cases nv:isV t with
  |true=>exact stop (O "value") (by simp) (by simp[ans,nv]) (by cases m<;>simp[row,nv])
  |false=>
   cases hn:next t with
   |none=>exact stop (O "stuck") (by simp) (by simp[ans,nv,hn]) (by cases m<;>simp[row,nv,hn])
   |some u=>
    obtain⟨cu,su⟩:=Zp1 nv c hz hn;rw[show ans t=.tup [.str<|O "loud",u.d] by simp[ans,nv,hn]];have te:∀h',tst (P.tbl<|n+7) rwc (vr E qb h.length<|.tup [.str<|O "loud",u.d]) h'=.ok Ws h':=λh'=>Zm (ZaN rfl rfl)<|decide_eq_true rfl;have tl:∀g,tst (P.tbl<|n+7) (.ex<|.cmp .Gt (.blt .len<|.cons (.var 2) .nil)<|.var 1) (vr E qb h.length<|.tup [.str<|O "loud",u.d]) (h++.lst ((A++[t]).map T.d)::g)=.ok (Wu<|(qb:Int)<((A++[t]).map T.d).length) (h++.lst ((A++[t]).map T.d)::g):=λg=>ZsS (Zhr rfl<|Zm0 Z0) rfl;cases m with
    |zero=>
     have e:row 0 t=([t],O "open"):=by simp[row,nv,hn]
     rw[e];exact⟨g,(congrArg (rwF _)<|ZjD (te _)<|Zb<|(Zq<|Zm (tl g)<|decide_eq_true (by simp;lia)).trans<|Zb<|Zk<|Zak (Zc rfl<|Zc rfl rfl)<|by simp).trans rfl⟩
    |succ m=>
     have x1:=(Zo (U:=P.tbl<|n+7) (a:=.cons (.ret<|.tupl<|.cons (.var 2)<|.cons (.Ci_ "open") .nil) .nil) (b:=.nil)<|Zm (tl g)<|decide_eq_false (by simp;lia)).trans rfl;obtain⟨g1,ew⟩:∃g1,run P (n+7) (O "is_wide") [u.d] (h++.lst ((A++[t]).map T.d)::g)=.ok (.bl<|Wu<|120<u.size) (h++.lst ((A++[t]).map T.d)::g1):=⟨_,(ZuH H (n+4) u (by lia) _).trans (by rw[Oz];rfl)⟩
     by_cases hw:120<u.size
     . have e:row (m+1) t=([t],O "wide"):=by simp[row,nv,hn,hw]
       rw[e];rw[decide_eq_true hw]at ew;exact⟨g1,(congrArg (rwF _)<|ZjD (te _)<|(Za x1).trans<|Zb<|(Zq<|ZbF<|Zi ew rfl).trans<|Zb<|Zk<|Zak (Zc rfl<|Zc rfl rfl)<|by simp).trans rfl⟩
     . have er:row (m+1) t=(t::(row m u).1,(row m u).2):=by simp[row,nv,hn,hw]
       rw[decide_eq_false hw]at ew;have ap:=Z5 (d:=u.d) (Z0 (h:=h) (x:=.lst<|(A++[t]).map T.d) (r:=g1)) (by rw[YC];simp;lia);rw[Zpq,show(A++[t]).map T.d++[u.d]=(A++[t]++[u]).map T.d by simp]at ap;obtain⟨g2,es⟩:=Zij H.toTrm n (h:=h++.lst ((A++[t]++[u]).map T.d)::g1) u cu (by lia);obtain⟨g',e⟩:=ZtY H n (h:=h) (E:=E) qb hM m u (A++[t]) (g1++g2) fuel (by simp;lia) (by lia) cu (by lia);rw[er,show A++(t::(row m u).1,(row m u).2).1=A++[t]++(row m u).1 by simp];refine⟨g',(congrArg (rwF _)<|Zaz (te _)<|(Za x1).trans<|(Za<|(Zo<|ZbF<|Zi ew rfl).trans rfl).trans<|(Za<|Zb2<|Zdu rfl Z0 (Zc rfl rfl) ap).trans<|(Za<|Zg<|Zi es rfl).trans rfl).trans ?_⟩;rw[Oz h];exact e
def Zxn(H:Trw P)(n)(t)(qb:Nat)(hM:qb<=1000)(c:Gn.Cl [] t)(hz:t.size<=120)(h):∃g,run P (n+8) (O "row_of") [t.d,.int qb] h=.ok (.tup [.ref h.length,.str (row qb t).2]) (h++.lst ((row qb t).1.map T.d)::g):=by rw[Zd H.row_of<|by rfl];obtain⟨g1,es⟩:=Zij H.toTrm n (h:=h++[.lst [t.d]]) t c (by lia);have big:=H.big;obtain⟨g',e⟩:=ZtY H n (h:=h) (E:=t.d) qb hM qb t [] g1 P.L (by simp) (by lia) c hz;exact⟨g',Eq.trans (congrArg Ze<|(Za<|Zg<|Zh1 (Zc rfl rfl)<|by simp).trans<|(Za<|Zg<|Zi es rfl).trans (by rw[Oz];rfl)) e⟩
end
end Tm
namespace Gn
open PySem L2 IV
inductive Sl(rd:Nat->Option PyData)(ds:List D)(n k:Nat):Prop
 |mk (p:List PyData) (e:D.pys rd ds=J p) (s:PyData.showableAll p=Ws) (i:PyData.intsShortAll 13 p=Ws) (w:PyData.weightAll p<=70*n+21*k) (d:PyData.depthAll p<=n)
inductive Sh(rd:Nat->Option PyData)(x:D)(n:Nat):Prop
 |mk (p:List PyData) (e:D.py rd x=J (.tuple p)) (s:PyData.showableAll p=Ws) (i:PyData.intsShortAll 13 p=Ws) (w:PyData.weightAll p<70*n) (d:PyData.depthAll p<n)
def Sl.nl:Sl rd [] 0 0:=⟨[],rfl,rfl,rfl,Oq _,Oq _⟩
def Sl.st(h:x.cps.size<=20):Sl rd ds n k->Sl rd (.str x::ds) n (k+1)
 |⟨p,e,s,i,w,d⟩=>⟨.str x::p,by simp[D.pys,D.py,e],by trivial,by trivial,by simp[PyData.weightAll,PyData.weight];lia,by trivial⟩
def Sl.cn(q:Sh rd x a):Sl rd ds n k->Sl rd (x::ds) (a+n) k
 |⟨p,e,s,i,w,d⟩=>by obtain⟨p',e',s',i',w',d'⟩:=q;exact⟨.tuple p'::p,by simp[D.pys,e,e'],by simp[PyData.showableAll,PyData.showable,s,s'],by simp[PyData.intsShortAll,PyData.intsShort,i,i'],by simp[PyData.weightAll,PyData.weight];lia,by simp[PyData.depthAll,PyData.depth];lia⟩
def Sl.it(h:0<=z/\z<1000000):Sl rd [.int z] 0 1:=by
 obtain⟨h0,R⟩:=h;have hl:z.natAbs.log2<20:=by
  by_cases e:z.natAbs=0
  . rw[e];decide
  . exact(Nat.log2_lt e).mpr (by lia)
 have ht:(toString z).length<=7:=int_text_length_le10 (by simp) (by lia);refine⟨[.int z],rfl,?_,?_,?_,Oq _⟩
 . simp[PyData.showable,PyData.showableAll,decide_eq_true_eq];lia
 . simp only[PyData.intsShortAll,Bool.and_true];exact decide_eq_true (by show(Str.ofString<|toString z).length<=13;rw[ofString_length];lia)
 . simp[PyData.weight,PyData.weightAll];split<;>lia
def Sl.tp(hk:k<=3):Sl rd ds n k->Sh rd (.tup ds) (n+1)
 |⟨p,e,s,i,w,d⟩=>⟨p,by simp[D.py,e],s,i,by lia,by lia⟩
theorem ZhW:∀(t) (sc),(∀y∈sc,Wl 20 y)->Cl sc t->Sh rd t.d t.size
 |.num n,sc,hs,c=>((Sl.it c).st<|by decide).tp (by simp)
 |.name x,sc,hs,c=>((Sl.nl.st (hs x c).2).st<|by decide).tp (by decide)
 |.fn x e,sc,hs,c=>(((Sl.nl.cn<|ZhW e (x::sc) (List.forall_mem_cons.mpr ⟨c.2,hs⟩) c.1).st c.2.2).st<|by decide).tp (by decide)
 |.rcc f x e,sc,hs,c=>((((Sl.nl.cn<|ZhW e (x::f::sc) (List.forall_mem_cons.mpr ⟨c.2.2.2,List.forall_mem_cons.mpr ⟨c.2.2.1,hs⟩⟩) c.1).st c.2.2.2.2).st c.2.2.1.2).st<|by decide).tp (by decide)
 |.call f a,sc,hs,c=>by rw[Tm.zc,Nat.add_comm];exact(((Sl.nl.cn<|ZhW a sc hs c.2).cn<|ZhW f sc hs c.1).st<|by decide).tp (by decide)
 |.op w f a,sc,hs,c=>by rw[Tm.zo,Nat.add_comm];exact(((Sl.nl.cn<|ZhW a sc hs c.2).cn<|ZhW f sc hs c.1).st (by cases w<;>decide)).tp (by decide)
 |.iff p f a,sc,hs,c=>by rw[Tm.zi,Nat.add_comm];exact((((Sl.nl.cn<|ZhW a sc hs c.2.2).cn<|ZhW f sc hs c.2.1).cn<|ZhW p sc hs c.1).st<|by decide).tp (by decide)
def Zxg(c:Cl [] t)(hz:t.size<=500)(h):∃x,shD t.d h=.ok x h:=by
 obtain⟨p,e,s,i,w,d⟩:=ZhW (rd:=ZiO h 4) t [] nofun c;have ok:L2.ZnO (.tuple p)=Ws:=by simp[L2.ZnO];exact⟨rfl,s,i,by simp[PyData.weight];lia,by simp[PyData.depth];lia⟩
 unfold shD Zk8
 simp_all
end Gn
namespace K43L
open PySem L2 IV
def Zgg:Sx:=.s 1 (.cst .non)
def Zet:Sxs:=.c Zgg (.trq 1 2 (O "graph_read") (.o V0) (O "StrideError") (O "Wide") (O "Wide") (O "NoName")<|O "NoTerm")
def Zem:Fd:=fd_ 1 ["_law_state","_law_caught","e"] Zet
def Ztt:Sx:=.s 1 (.f "_law_program"<|.w V0 F1)
def Zjt:Sx:=.set (.two 2 3) (.f "row_of"<|.w V1<|.bin .Mod (.f "_law_mixed"<|.w (.f "_law_cell_at"<|.w V0 F0) F1)<|.ci 61)
def Zts:Sx:=.s 4 (.f "graph_begun"<|.o V1)
def Ztr:Sx:=.s 5 (.cst .non)
def Zi6:Ix:=.enu V2
def Zox:Tx:=.ex (.rpn Ws (.f "graph_read"<|.o V4) V7)
def Zjs:Sx:=.ret (.cst<|.bl Wt)
def Zoe:Sxs:=.o Zjs
def ZfM:Sx:=.iff Zox Zoe .n
def ZoC:Sx:=.s 5 (.f "graph_step"<|.o V4)
def Ziz:Tx:=.x .Lt (.bin .Add V6 F1) (.blt .len<|.o V2)
def Zjn:Tx:=.nq (.ix V5 F0) (.Ci_ "loud")
def Zgh:Sx:=.ret (.cst<|.bl Wt)
def Zi2:Sxs:=.o Zgh
def Zjr:Sx:=.iff Zjn Zi2 .n
def Zjq:Sx:=.s 4 (.ix V5 F1)
def Zod:Sxs:=.w Zjr Zjq
def ZoB:Sx:=.iff Ziz Zod .n
def Zm4:Sxs:=.u ZfM ZoC ZoB
def Ztq:Sx:=.forr (.two 6 7) Zi6 Zm4
def Ztd:Tx:=.ors (.c (.q V3<|.Ci_ "value")<|.one<|.q V3<|.Ci_ "stuck")
def Zl7:Sx:=.ret (.cmp .Eq V5<|.tupl<|.o V3)
def ZsF:Sxs:=.o Zl7
def Znx:Sx:=.iff Ztd ZsF .n
def Znw:Sx:=.ret (.ands<|.w (.cmp .Eq (.ix V5 F0)<|.Ci_ "loud")<|.ors<|.w (.cmp .NotEq V3<|.Ci_ "wide")<|.f "_law_refused"<|.o<|.ix V5 F1)
def ZyJ:Sxs:=.c Ztt (.c Zjt<|.y Zts Ztr Ztq Znx Znw)
def Zkj:Fd:=fd_ 1 ["_law_script","_law_told","_law_terms","_law_word","_law_state","_law_answer","_law_k","_law_one"] ZyJ
structure Lw(P:Pg):Prop where
 s:Grf.Gs P
 r:Grf.Grr P
 t:Tm.Trw P
 m:Gn.Mkr P
 cell:P.tb.lookup (O "_law_cell_at")=J Gn.Za0
 law_refused:P.tb.lookup (O "_law_refused")=J Zem
 law:P.tb.lookup (O "law")=J Zkj
end K43L
namespace K43L
open PySem L2 IV Grf
section
variable {P:Pg}{h:Hd}
noncomputable def ce(k:Nat):List T->List D
 |[]=>[]
 |t::r=>.tup [.int (k:Int),t.d]::ce (k+1) r
theorem Znp:∀(ts) (k),((ts.map T.d).mapIdx λi x=>D.tup [.int (k+i:Nat),x])=ce k ts
 |[],_=>rfl
 |t::r,k=>by
  rw[Op,List.mapIdx_cons,ce,<-Znp r (k+1)];congr 1;congr 1;funext i x;congr 4
  lia
def ZnS(H:Lw P)(n){G}{k r}{t}(hk:h[k]?=J (cl G))(rd:Rd (gl G) r t)(w:120<t.size):∃h',run P (n+4) (O "_law_refused") [st k r] h=.ok (.bl Ws) h':=by
 obtain⟨h',_,e⟩:=Zpg H.r n hk rd;rw[if_neg<|by lia]at e;refine⟨h',?_⟩;rw[Zd H.law_refused rfl];have x:xs2 (P.tbl<|n+3) Zet [J<|st k r,M,M] h=.ok (.rt<|.bl Ws,[J<|st k r,J .non,M]) h':=by show ZlT (O "Wide") [J<|st k r,J .non,M] (run P (n+3) (O "graph_read") [st k r] h)=_;rw[e];trivial
 exact congrArg Ze x
inductive En(h:Hd):Str->D->Prop
 |fin (w:Str) (hw:w=O "value" \/ w=O "stuck"):En h w (.tup [.str w])
 |opn (s:D):En h (O "open") (loud s)
 |wide (k r:Nat) (G:List Gc) (t:T) (hk:h[k]?=J (cl G)) (rd:Rd (gl G) r t) (w:120<t.size):En h (O "wide") (loud (st k r))
noncomputable def vl(x0 x1 x2 x3:Option D)(s:D)(a:Option D)(x6 x7:Option D):Ev:=[x0,x1,x2,x3,J s,a,x6,x7]
variable {x0 x1 x3:Option D}
def ZzP{w v}{U}{S}{ds}(e:ev U (.var 5) S h=.ok (.tup (.str w::ds)) h):tst U (.ex<|.cmp .NotEq (.ix (.var 5)<|.ci 0)<|.cst<|.str v) S h=.ok (!Wu (w=v)) h:=ZbF ((Zt ((Zs e rfl).trans Zqn) rfl).trans<|rfl)
def Zzu{U}{S}{R}{t}{a b}(c:Gn.Cl [] t)(hz:t.size<=500)(p:ev U a S h=.ok t.d R)(q:ev U b S R=.ok t.d R):tst U (.ex<|.rpn Ws a b) S h=.ok Wt R:=by
 obtain⟨x,s⟩:=Gn.Zxg c hz R
 simp_all
abbrev wlk(P:Pg)(L:List T)(rk:Nat)(x0 x1 x3:Option D)(ts:List D)(s:D)(a x6 x7:Option D)(h:Hd):qd (Fl×Ev):=ZW [(rk,L.map T.d)] (.two 6 7) (xs2 (P.tbl 100) Zm4) ts (vl x0 x1 (J<|.ref rk) x3 s a x6 x7) h
inductive Wn(P:Pg)(L:List T)(rk:Nat)(x0 x1 x3:Option D)(r:qd (Fl×Ev))(w:Str):Prop
 |mk (s a':D) (y6 y7:Option D) (h':Hd) (e:r=.ok (.nx,vl x0 x1 (J (.ref rk)) x3 s (J a') y6 y7) h') (en:En h' w a')
inductive Tn(P:Pg)(L:List T)(rk j m:Nat)(x0 x1 x3:Option D)(t:T)(G:List Gc)(r:qd (Fl×Ev)):Prop
 |stop (w:Wn P L rk x0 x1 x3 r (Tm.row m t).2)
 |go (m' k':Nat) (G':List Gc) (q':Q) (h2:Hd) (a x6 x7:Option D) (em:m=m'+1) (hr:h2[rk]?=J (.lst (L.map T.d))) (hk:h2[k']?=J (cl G')) (gq:Gq G' q') (qn:q'.no=0) (hz:q'.er.size<=120) (lG:G'.length<=G.length+120) (er:Tm.row m t=(t::(Tm.row m' q'.er).1,(Tm.row m' q'.er).2)) (e:r=wlk P L rk x0 x1 x3 (ce (j+1) (Tm.row m' q'.er).1) (st k' 0) a x6 x7 h2)
def ZrB(m)(t):0<(Tm.row m t).1.length:=by cases m<;>simp[Tm.row]<;>(repeat' split)<;>simp
section
variable {rk j k:Nat}{L:List T}{t:T}{G:List Gc}{q:Q}{a x6 x7:Option D}
def b_1(H:Lw P)(hk:h[k]?=J (cl G))(rd:Rd (gl G) 0 t)(ct:Gn.Cl [] t)(hz:t.size<=120):∃R,Fm [] h R/\xs1 (P.tbl 100) ZfM (vl x0 x1 (J<|.ref rk) x3 (st k 0) a (J<|.int<|j)<|J t.d) h=.ok (.nx,vl x0 x1 (J<|.ref rk) x3 (st k 0) a (J<|.int<|j)<|J t.d) R:=by obtain⟨R,m1,e1⟩:=Zpg H.r 97 hk rd;rw[if_pos hz]at e1;exact⟨R,m1,(Zo<|Zzu ct (by lia) (Zi e1 rfl) rfl).trans rfl⟩
def t_3(hr:h[rk]?=J (.lst<|L.map T.d)){d}:tst (P.tbl 100) Ziz (vl x0 x1 (J<|.ref rk) x3 (st k 0) (J d) (J<|.int<|j)<|J t.d) h=.ok (Wu<|(j)+1<(L.length:Int)) h:=Yu (f:=T.d)▸ZsC ((Zr rfl rfl).trans rfl) (Zhr (Zc rfl rfl)<|Zm0 hr)
def last{m}{d}{R h2}{w}(hr:h[rk]?=J (.lst<|L.map T.d))(b1:xs1 (P.tbl 100) ZfM (vl x0 x1 (J<|.ref rk) x3 (st k 0) a (J<|.int<|j)<|J t.d) h=.ok (.nx,vl x0 x1 (J<|.ref rk) x3 (st k 0) a (J<|.int<|j)<|J t.d) R)(e:run P 100 (O "graph_step") [st k 0] R=.ok d h2)(bE:h2[rk]?=J (.lst<|L.map T.d))(er:Tm.row m t=([t],w))(en:En h2 w d)(hL:L.length=j+(Tm.row m t).1.length):Wn P L rk x0 x1 x3 (wlk P L rk x0 x1 x3 (ce j (Tm.row m t).1) (st k 0) a x6 x7 h) (Tm.row m t).2:=by rw[er]at hL ⊢;have hL:L.length=j+1:=hL;exact⟨st k 0,d,J<|.int<|j,J t.d,h2,(Tm.Zdm hr rfl<|(Za b1).trans<|(Za<|Zg<|Zi e rfl).trans<|(Za<|(Zo<|Zm (t_3 bE)<|decide_eq_false<|by lia).trans rfl).trans rfl).trans<|Tm.Ze8 bE,en⟩
def turn(H:Lw P){m}(hr:h[rk]?=J (.lst<|L.map T.d))(hk:h[k]?=J (cl G))(gq:Gq G q)(qn:q.no=0)(qe:q.er=t)(hz:t.size<=120)(lG:G.length<=59000)(hL:L.length=j+(Tm.row m t).1.length):Tn P L rk j m x0 x1 x3 t G (wlk P L rk x0 x1 x3 (ce j (Tm.row m t).1) (st k 0) a x6 x7 h):=by
 subst qe;have rd:=Q.rd gq.ok;rw[qn]at rd;obtain⟨R,m1,b1⟩:=b_1 H hk rd gq.cl hz;have jh:=m1.at hr (by simp);have bF:=ZrG H.s 92 (m1.at hk<|by simp) gq (by lia) (by lia);rw[qn]at bF;rcases bF with⟨v,e⟩|⟨v,nn,h2,e,m2⟩|⟨v,k',h2,G',q',e,m2,kr,_,nx,jU,kG,_,lA⟩
 . exact .stop (last hr b1 e jh (by cases m<;>simp[Tm.row,v]) (.fin _<|.inl rfl) hL)
 . exact .stop (last hr b1 e (m2.at jh<|by simp) (by cases m<;>simp[Tm.row,v,nn]) (.fin _<|.inr rfl) hL)
 . have bE:=m2.at jh (by simp);cases m with
   |zero=>exact .stop (last hr b1 e bE (by simp[Tm.row,v,nx]) (.opn _) hL)
   |succ m=>
    by_cases w:120<q'.er.size
    . have c8:=Q.rd kG.ok;rw[jU]at c8;exact .stop (last hr b1 e bE (by simp[Tm.row,v,nx,w]) (.wide k' 0 G' _ kr c8 w) hL)
    . have er:Tm.row (m+1) q.er=(q.er::(Tm.row m q'.er).1,(Tm.row m q'.er).2):=by simp[Tm.row,v,nx,w]
      have lc:=OE (Zwd<|Tm.bot q.er) (Tm.Zb5 q.er v gq.cl).2.2;have lp:=ZrB m q'.er;have hL:L.length=j+((Tm.row m q'.er).1.length+1):=by rw[er]at hL;exact hL
      refine .go m k' G' q' h2 (J<|loud<|st k' 0) (J<|.int<|j) (J q.er.d) rfl bE kr kG jU (by lia) (by lia) er ?_;rw[er];exact Tm.Zdm hr rfl ((Za b1).trans<|(Za<|Zg (i:=5)<|Zi e rfl).trans<|(Za<|(Zq<|Zm (t_3 bE)<|decide_eq_true<|by lia).trans<|(Za<|(Zo<|Zm (ZzP rfl)<|by simp).trans rfl).trans<|(Za<|Zg (i:=4) (d:=st k' 0) rfl).trans rfl).trans rfl)
end
def Zyd(H:Lw P){rk}{L}:∀(m) (t) (j k) (G) (q) (h) (a x6 x7),h[rk]?=J (.lst<|L.map T.d)->h[k]?=J (cl G)->Gq G q->q.no=0->q.er=t->t.size<=120->G.length+120*m<=59000->L.length=j+(Tm.row m t).1.length->Wn P L rk x0 x1 x3 (wlk P L rk x0 x1 x3 (ce j (Tm.row m t).1) (st k 0) a x6 x7 h) (Tm.row m t).2:=by
 intro m;induction m with
 |zero=>
  intro t j k G q h a x6 x7 hr hk gq qn qe hz lG hL;cases turn H hr hk gq qn qe hz (by lia) hL with
  |stop w=>exact w
  |go m' k' G' q' h2 a x6 x7 em=>trivial
 |succ m ih=>
  intro t j k G q h a x6 x7 hr hk gq qn qe hz lG hL;cases turn H (x6:=x6) (x7:=x7) hr hk gq qn qe hz (by lia) hL with
  |stop w=>exact w
  |go m' k' G' q' h2 a x6 x7 em hr hk gq qn hz lA er e=>cases em;rw[e];rw[er]at hL ⊢;exact ih q'.er (j+1) k' G' q' h2 a x6 x7 hr hk gq qn rfl hz (by lia) (by simp only[Os]at hL;lia)
def ZuN(H:P.tb.lookup (O "_law_cell_at")=J Gn.Za0)(n)(zs:List Int)(h):∃v,run P (n+1) (O "_law_cell_at") [.ro<|zs.map .int,.int 0] h=.ok (.int v) h:=by
 rw[Zd H rfl];cases zs with
 |nil=>exact⟨0,rfl⟩
 |cons z zs=>refine⟨z,?_⟩;simp[Gn.Za0,Gn.Zeu,Zw,Zaj,Zjw,seqOf,lstOf]
theorem Zyh(H:Lw P){w}{a}{x2 x4 x6 x7}(en:En h w a):∃ h' S,xs2 (P.tbl 100) (.cons Znx<|.cons Znw .nil) [x0,x1,x2,J<|.str w,x4,J a,x6,x7] h=.ok (.rt<|.bl Ws,S) h':=by
 cases en with
 |fin w hw =>
   exact⟨h,_,Zb ((Zq (by
     rcases hw with rfl|rfl
     . trivial
     trivial)).trans<|Zb<|Zk<|(Zt (x:=.tup [.str w]) rfl<|Zak (xs:=[.str w]) rfl<|by simp).trans<|Zvj.trans<|by simp)⟩
 |opn s =>
   refine⟨h,_,(Za<|(Zo<|Zn1 (Zm ((λv=>ZaN rfl rfl) _)<|rfl)<|Zm ((λv=>ZaN rfl rfl) _)<|rfl).trans rfl).trans<|Zb<|Zk ?_⟩;trivial
 |wide k r G t hk rd w =>
   obtain⟨h',e⟩:=ZnS H 96 hk rd w;have q1:ev (P.tbl 100) (.cmp .Eq (.ix (.var 5)<|.ci 0)<|.Ci_ "loud") [x0,x1,x2,J<|.str<|O "wide",x4,J<|loud<|st k r,x6,x7] h=.ok (.bl Ws) h:=(Zt (x:=.str<|O "loud") rfl rfl).trans (by rw [Zlk,ZeZ];simp);have q2:ev (P.tbl 100) (.cmp .NotEq (.var 3)<|.Ci_ "wide") [x0,x1,x2,J<|.str<|O "wide",x4,J<|loud<|st k r,x6,x7] h=.ok (.bl Wt) h:=(Zt (x:=.str<|O "wide") rfl rfl).trans (by rw [Zvf,ZeZ];simp);refine⟨h',_,(Za<|(Zo<|Zn1 (Zm ((λv=>ZaN rfl rfl) _)<|by simp)<|Zm ((λv=>ZaN rfl rfl) _)<|by simp).trans rfl).trans<|Zb<|Zk ?_⟩;rw [Zjd,ZfE,q1,Zu];simp only;rw [Zon,ZqD,Zko,q2,Zu];exact Zi e rfl
def Zxp(H:Lw P)(zs:List Int)(hz:zs.length<=63):∃h',run P (100+1) (O "law") [.ro<|zs.map .int] []=.ok (.bl Ws) h':=by
 obtain⟨t,R,e1,ct,bh,_,_,_⟩:=Gn.ZnT H.m (N:=99) (by lia) zs 1 [] (by lia);obtain⟨v,e2⟩:=ZuN H.cell 99 zs R;have q1:opB .Mod (.int<|Gn.mixed v 1) (.int 61) R=.ok (.int<|Gn.mixed v 1%61) R:=ZU (by decide);have b2:=Int.emod_lt_of_pos (Gn.mixed v 1) (b:=61) (by decide);obtain⟨qb,eM⟩:∃qb:Nat,Gn.mixed v 1%61=(qb):=⟨(Gn.mixed v 1%61).toNat,(Int.toNat_of_nonneg<|Int.emod_nonneg (Gn.mixed v 1) (b:=61)<|by decide).symm⟩
 rw[eM]at q1 b2;obtain⟨g,e4⟩:=Tm.Zxn H.t 92 t qb (by lia) ct (by lia) R;have hr:(R++.lst ((Tm.row qb t).1.map T.d)::g)[R.length]?=J (.lst<|(Tm.row qb t).1.map T.d):=Z0;generalize R++.lst ((Tm.row qb t).1.map T.d)::g=h2 at *;obtain⟨g2,k,G,q,e5,_,hk,gq,qn,qe,lG⟩:=Zwk H.s 97 t ct (by lia) h2;have bE:(h2++g2)[R.length]?=J (.lst<|(Tm.row qb t).1.map T.d):=Tm.keep hr;generalize h2++g2=h3 at *;rw[Zd H.law<|by rfl];generalize D.ro (zs.map .int)=ro at *;obtain⟨s,a',y6,y7,h4,e6,en⟩:=Zyd H (x0:=J ro) (x1:=J t.d) (x3:=J<|.str (Tm.row qb t).2) (rk:=R.length) (L:=(Tm.row qb t).1) qb t 0 k G q h3 (J .non) M M bE hk gq qn qe (by lia) (by lia) (by simp);obtain⟨h5,S,e7⟩:=Zyh H (x0:=J ro) (x1:=J t.d) (x2:=J<|.ref R.length) (x4:=J s) (x6:=y6) (x7:=y7) en;refine⟨h5,?_⟩;have ei:evi (P.tbl 100) Zi6 (vl (J ro) (J t.d) (J<|.ref R.length) (J<|.str (Tm.row qb t).2) (st k 0) (J .non) M M) h3=.ok ⟨[(R.length,(Tm.row qb t).1.map T.d)],ce 0 (Tm.row qb t).1⟩ h3:=by have:=Znp (Tm.row qb t).1 0;rw[Zi6,Znh,show ev (P.tbl 100) (.var 2) (vl (J ro) (J t.d) (J<|.ref R.length) (J<|.str (Tm.row qb t).2) (st k 0) (J .non) M M) h3=.ok (.ref R.length) h3 from rfl,Zu];simp only[Nat.zero_add]at this;simp[Zgw,bE,Zdv,this]
 exact congrArg Ze ((Za<|Zg (i:=1)<|Zi e1 rfl).trans <|
  (Za (s:=Zjt) (ρ1:=[J ro,J t.d,J<|.ref R.length,J<|.str (Tm.row qb t).2,M,M,M,M]) (by rw[Zjt,Zgi,Zi e4<|Zc (x:=t.d) rfl<|Zc ((Zr (Zi (Gn.ZrJ H.m 99 v 1 R<|by decide)<|Zc (Zi e2 rfl) rfl) rfl).trans q1) rfl,Zu];rfl)).trans <|
  (Za<|Zg (i:=4)<|Zi e5 rfl).trans <|
  (Za<|Zg (i:=5) (d:=.non) rfl).trans <|
  (Za<|(Zdl ei).trans e6).trans e7)
end
end K43L
section
set_option maxHeartbeats 4000000
namespace K43
open PySem L2 IV PyProof.Rows
def Zwm:Sxs:=.o .any
def ZvW:Fd:=fd_ 1 ["k"] Zwm
def ZfS:Sxs:=.w (.iff (.q (.a "Pen" V0 "used")<|.a "Pen" V0 "most") (.o<|.rai (O "Wide")<|.Ci_ "more places than an expression that is told may have") .n) (.auga [O "Pen"] V0 (O "used") F1)
def ZfC:Fd:=fd_ 1 ["self"] ZfS
def Zjv:Sxs:=.o (.drp<|.f "_wall"<|.o F0)
def Zjb:Fd:=fd_ 3 ["self","front","parts"] Zjv
def Zmf:Sxs:=.w (.s 2<|.f "opened"<|.o V1) (.ret<|.m "Pen" "filled" V0<|.w (.ix V2 F0)<|.ix V2 F1)
def ZlM:Fd:=fd_ 2 ["self","thing","pair"] Zmf
noncomputable def cG:List (Str×D):=[(O "WIDEST",.int 120),(O "VALUES",(.tup [(.str<|O "num"),(.str<|O "fn"),(.str<|O "rec")])),(O "BEYOND",.int 1000000),(O "FORMS",.kd<|O "FORMS")]
noncomputable def cD:List (Str×List (Key×D)):=[(O "FORMS",[(.inr<|O "fn",(.tup [.int 1,.int 1])),(.inr<|O "rec",(.tup [.int 2,.int 1])),(.inr<|O "call",(.tup [.int 0,.int 2])),(.inr<|O "if",(.tup [.int 0,.int 3])),(.inr<|O "+",(.tup [.int 0,.int 2])),(.inr<|O "-",(.tup [.int 0,.int 2])),(.inr<|O "*",(.tup [.int 0,.int 2])),(.inr<|O "<",(.tup [.int 0,.int 2]))])]
noncomputable def dl:List (Str×Str×Fd×Nat):=[(O "_wall",O "_wall",ZvW,0),(O "bound_names",O "bound_names",Tm.Za1,9),(O "parts_of",O "parts_of",Gn.Zhm,10),(O "front_of",O "front_of",Tm.ZeD,11),(O "count_parts",O "count_parts",Tm.Zep,12),(O "built",O "built",Tm.Zja,13),(O "places",O "places",Gn.Zdo,14),(O "is_wide",O "is_wide",Tm.ZfB,15),(O "bound_to",O "bound_to",Tm.Zhp,17),(O "opened",O "opened",Tm.Zki,18),(O "meant_by",O "meant_by",Tm.ZcM,19),(O "within",O "within",Tm.Zhi,20),(O "is_value",O "is_value",Tm.ZbE,25),(O "put_in",O "put_in",Tm.Zhk,26),(O "parts_first",O "parts_first",Tm.ZR,27),(O "first_open_terms",O "first_open",Tm.ZaF,28),(O "way_down",O "way_down",Tm.Zhj,30),(O "called_terms",O "called",Tm.Zdt,31),(O "chosen",O "chosen",Tm.Zds,33),(O "worked",O "worked",Tm.Zdn,34),(O "become",O "become",Tm.Zkk,35),(O "put_back",O "put_back",Tm.Zhl,36),(O "stepped",O "stepped",Tm.Ziu,37),(O "row_of",O "row_of",Tm.Zkh,38),(O "graph_begun",O "graph_begun",Grf.Zeo,40),(O "first_open_graph",O "first_open",Grf.ZaF,41),(O "next_cell",O "next_cell",Grf.ZfX,43),(O "beneath",O "beneath",Grf.Ziw,44),(O "is_meant",O "is_meant",Grf.Zho,45),(O "free_beneath",O "free_beneath",Grf.Zdr,46),(O "called_graph",O "called",Grf.Zdt,48),(O "gone_on",O "gone_on",Grf.Ziv,50),(O "written",O "written",Grf.Zit,51),(O "graph_step",O "graph_step",Grf.Zfa,52),(O "graph_read",O "graph_read",Grf.Zfb,53),(O "_law_cell_at",O "_law_cell_at",Gn.Za0,55),(O "_law_mixed",O "_law_mixed",Gn.Zb0,56),(O "_law_next",O "_law_next",Gn.Zhn,57),(O "_law_names",O "_law_names",Gn.ZbZ,58),(O "_law_there",O "_law_there",Gn.Zdp,59),(O "_law_plain",O "_law_plain",Gn.ZfY,60),(O "_law_function",O "_law_function",Gn.Zdq,61),(O "_law_number",O "_law_number",Gn.Ze9,62),(O "_law_any",O "_law_any",Gn.Zd1,63),(O "_law_width",O "_law_width",Gn.ZbY,64),(O "_law_deep",O "_law_deep",Gn.ZcN,65),(O "_law_program",O "_law_program",Gn.Zen,66),(O "_law_refused",O "_law_refused",K43L.Zem,67),(O "law",O "law",K43L.Zkj,68)]
noncomputable def tb:List (Str×Fd):=dl.map λp=>(p.1,p.2.2.1)
noncomputable def mo1:List Ml:=[(O "take_place",O "Pen.take_place",ZfC,21,1),(O "joined",O "Pen.joined",Zjb,21,2),(O "filled",O "Pen.filled",Tm.Zfc,21,3),(O "told",O "Pen.told",ZlM,21,4)]
noncomputable def mo2:List Ml:=[(O "stand_in",O "Copier.stand_in",Grf.Zb1,47,1),(O "write_next",O "Copier.write_next",Grf.Zbk,47,2),(O "copied",O "Copier.copied",Grf.Zc1,47,3)]
def ms:List (Str×Fd):=[(mnm (O "Pen")<|O "__init__",Tm.ZaG),(mnm (O "Copier")<|O "__init__",Grf.ZaH)]++mo1.map (λp=>(mnm (O "Pen") p.1,p.2.2.1))++mo2.map (λp=>(mnm (O "Copier") p.1,p.2.2.1))
def pg:Pg:=⟨tb,λx=>cG.lookup x,λx=>cD.lookup x,1000000,ms⟩
noncomputable def kl:Kl:=⟨[O "Pen",O "Copier"],[O "cells",O "free",O "known",O "meant",O "most",O "used",O "waiting"],mo1.map (λp=>(O "Pen",p.1))++mo2.map (λp=>(O "Copier",p.1)),[O "Pen",O "Copier"],[O "Wide"],[(O "StrideError",O "Wide")],[(O "Wide",O "NoName",Wt),(O "Wide",O "NoTerm",Wt),(O "Wide",O "Wide",Ws)]⟩
abbrev Zkj:Fd:=K43L.Zkj
noncomputable def top(i:Nat):Stmt:=PySem.Challenge.pw_samestride_k43_whole_graph_in_step.main.body.getD i (.Pass ⟨0,0,0,0⟩)
def mt(i j:Nat):Stmt:=inClass (top i) j
noncomputable def fs:List Str:=tb.map (·.1)
local macro_rules|`(tactic| wtm_at "al")=>`(tactic| repeat' first|exact trivial|refine' And.intro ?_ ?_)
local macro_rules|`(tactic| wtm_at "chk")=>`(tactic| exact⟨by constructor<;>decide +kernel,λ_ _ _ _ _ _ us hl=>by
 first
 |(have e:=ZwN (show us.length=0 from hl);subst e;rfl)
 |(obtain⟨a0,e⟩:=ZwM (show us.length=1 from hl);subst e;rfl)
 |(obtain⟨a0,a1,e⟩:=ZwL (show us.length=2 from hl);subst e;rfl)
 |(obtain⟨a0,a1,a2,e⟩:=ZwK (show us.length=3 from hl);subst e;rfl)
 |(obtain⟨a0,a1,a2,a3,e⟩:=ZwJ (show us.length=4 from hl);subst e;rfl)
 |(obtain⟨a0,a1,a2,a3,a4,e⟩:=ZwI (show us.length=5 from hl);subst e;rfl)
 |(obtain⟨a0,a1,a2,a3,a4,a5,e⟩:=Zy9 (show us.length=6 from hl);subst e;rfl)
 |(obtain⟨a0,a1,a2,a3,a4,a5,a6,e⟩:=us_7 (show us.length=7 from hl);subst e;rfl),by decide +kernel⟩)
def kd:All (λp:Str×Str×Fd×Nat=>Chk kl fs p.2.1 p.2.1 p.2.2.1<|top p.2.2.2) dl:=by
 wtm_at "al"
 all_goals wtm_at "chk"
def km1:All (λp:Ml=>Chk kl fs p.1 p.2.1 p.2.2.1<|mt p.2.2.2.1 p.2.2.2.2) mo1:=by
 wtm_at "al"
 all_goals wtm_at "chk"
def kk1:All (λp:Ml=>pg.look (mnm (O "Pen") p.1)=J p.2.2.1) mo1:=by
 wtm_at "al"
 all_goals kernel_rfl
def ki1:Chk kl fs (O "__init__") (O "Pen.__init__") Tm.ZaG (mt 21 0):=by wtm_at "chk"
def km2:All (λp:Ml=>Chk kl fs p.1 p.2.1 p.2.2.1<|mt p.2.2.2.1 p.2.2.2.2) mo2:=by
 wtm_at "al"
 all_goals wtm_at "chk"
def kk2:All (λp:Ml=>pg.look (mnm (O "Copier") p.1)=J p.2.2.1) mo2:=by
 wtm_at "al"
 all_goals kernel_rfl
def ki2:Chk kl fs (O "__init__") (O "Copier.__init__") Grf.ZaH (mt 47 0):=by wtm_at "chk"
end K43
end
namespace K43
open PySem L2 IV
def ZvA:pg.tb.lookup (O "law")=J Zkj:=by kernel_rfl
def mkr:Gn.Mkr pg:=⟨⟨by kernel_rfl,by kernel_rfl,by kernel_rfl,by kernel_rfl,by kernel_rfl,.same<|by kernel_rfl,.same<|by kernel_rfl,.same<|by kernel_rfl,by kernel_rfl⟩,by kernel_rfl,.same<|by kernel_rfl⟩
def tre:Gn.Tre pg:=by
 constructor
 all_goals (first|kernel_rfl|decide)
def wid:Tm.Wid pg:=⟨.str<|O "more places than an expression that is told may have",by kernel_rfl⟩
def trb:Tm.Trb pg:=by
 constructor
 case toTre=>exact tre
 case tk=>obtain⟨m,e⟩:=wid;exact⟨_,e⟩
 all_goals kernel_rfl
def trm:Tm.Trm pg:=by
 constructor
 case toTrb=>exact trb
 all_goals kernel_rfl
def trw:Tm.Trw pg:=by
 constructor
 case toTrm=>exact trm
 all_goals kernel_rfl
def gs:Grf.Gs pg:=by
 constructor
 case b=>exact⟨tre,by kernel_rfl,by kernel_rfl⟩
 all_goals kernel_rfl
def lw:K43L.Lw pg:=⟨gs,⟨trb,wid,gs,by kernel_rfl,by kernel_rfl⟩,trw,mkr,by kernel_rfl,by kernel_rfl,by kernel_rfl⟩
def runs:∀ns:List Int,ns.length<=63->∃h',run pg (100+1) (O "law") [.ro<|ns.map .int] []=.ok (.bl Ws) h':=λns hl=>K43L.Zxp lw ns hl
end K43
section
set_option maxHeartbeats 4000000
namespace K43
open PySem L2 IV PyProof.Rows
def tp2{K:Yl}(h:K.lookup a=J ⟨.type "tuple",od,.seq #[.int x t,.int y u] n,sl⟩):RD ⟨K,mg⟩ H B (.tup [.int x,.int y]) (.ref a):=.tup (ZtK (vs:=[.int x,.int y]) h (by show 2<=Yc;decide)<|.cons ZeV<|.cons ZeV .nil) (.cons (.int _)<|.cons (.int _) .nil)
theorem md{Pr:Yi}{w:Yh}{K:Yl}{h:YG}{mg:Str->Option Yk}(X:K.In h)(G:h.Ns Ye mg)
   (h9:Zgz K=Ws)
   (dd:All (λp:Str×Str×Fd×Nat=>Zwx K p.1 p.2.1<|top p.2.2.2) dl)
   (eZ:Ym K Ye (O "Pen")=J (J<|.ref ca1)) (gh:Cls K ca1)
   (n1:All (λf=>YJ K (.ref ca1) f=J M) kl.ats)
   (g7:PySem.W.makesIn K ca1=Ws) (g8:Wb K (.ref ca1)=Ws)
   (i1:Zmj K ca1 (O "__init__") (O "Pen.__init__") (mt 21 0))
   (u1:All (λp:Ml=>Zmj K ca1 p.1 p.2.1<|mt p.2.2.2.1 p.2.2.2.2) mo1)
   (eY:Ym K Ye (O "Copier")=J (J<|.ref ca2)) (gf:Cls K ca2)
   (n2:All (λf=>YJ K (.ref ca2) f=J M) kl.ats)
   (gZ:PySem.W.makesIn K ca2=Ws) (g6:Wb K (.ref ca2)=Ws)
   (i2:Zmj K ca2 (O "__init__") (O "Copier.__init__") (mt 47 0))
   (u2:All (λp:Ml=>Zmj K ca2 p.1 p.2.1<|mt p.2.2.2.1 p.2.2.2.2) mo2)
   (cA:Ym K Ye (O "Wide")=J (J<|.ref xa1)) (iV:PySem.W.typeIn K (.ref xa1)=J (.type "type")) (gD:PySem.W.isClsIn K xa1=Ws) (gC:YT K (.ref xa1) (.type "BaseException")=J Ws) (iU:PySem.W.excIn K xa1 [.type "ValueError",.type "Exception",.type "BaseException",.type "object"] "ValueError.__new__"=Ws) (iS:YT K (.ref xa1) (.ref xa1)=J Ws)
   (iI:Ym K Ye (O "StrideError")=J (J<|.ref pa1))
   (iH:PySem.W.typeIn K (.ref pa1)=J (.type "type"))
   (p1c:PySem.W.isClsIn K pa1=Ws)
   (iG:YT K (.ref pa1) (.type "BaseException")=J Ws)
   (iD:YT K (.ref xa1) (.ref pa1)=J Ws)
   (iz:YJ K (.ref xa1) "__getattribute__"=J (J<|.builtin "BaseException.__getattribute__"))
   (iy:YJ K (.ref xa1) "__getattr__"=J M)
   (iw:YJ K (.ref xa1) "__class__"=J (J<|.builtin "object.__class__"))
   (p1i:PySem.W.specialIn K (.builtin "object.__class__") "__get__"=J (J<|.builtin "getset_descriptor.__get__"))
   (iu:PySem.W.takesIn K (.builtin "object.__class__")=J Ws)
   (ir:PySem.W.mroIn K xa1 (.type "object")=J Ws)
   (iq:PySem.W.kitOne K (.ref xa1) (.ref xa1)=J Ws)
   (hJ:Ym K Ye (O "NoName")=J (J<|.ref wa1))
   (hG:Ym K Ye (O "NoTerm")=J (J<|.ref wa2))
   (iZ:PySem.W.kitOne K (.ref xa1) (.ref wa1)=J Wt)
   (iY:PySem.W.kitOne K (.ref xa1) (.ref wa2)=J Wt)
   (iX:PySem.W.kitOne K (.ref xa1) (.ref xa1)=J Ws)
   (zz:All (λx:Str=>Ym K Ye x=J M) Znu)
   (eB:Ym K Ye (O "WIDEST")=J (J<|.int 120 t101))
   (d9:K.lookup q103=J ⟨.type "tuple",r104,.seq #[.str (O "num") t108,.str (O "fn") t109,.str (O "rec") t110] n105,v106⟩)
   (eA:Ym K Ye (O "VALUES")=J (J<|.ref q103))
   (eu:Ym K Ye (O "BEYOND")=J (J<|.int 1000000 t112))
   (d0:K.lookup q121=J ⟨.type "tuple",r122,.seq #[.int 1 t126,.int 1 t127] n123,v124⟩)
   (dZ:K.lookup q130=J ⟨.type "tuple",r131,.seq #[.int 2 t135,.int 1 t136] n132,v133⟩)
   (dY:K.lookup q139=J ⟨.type "tuple",r140,.seq #[.int 0 t144,.int 2 t145] n141,v142⟩)
   (dX:K.lookup q148=J ⟨.type "tuple",r149,.seq #[.int 0 t153,.int 3 t154] n150,v151⟩)
   (dU:K.lookup q157=J ⟨.type "tuple",r158,.seq #[.int 0 t162,.int 2 t163] n159,v160⟩)
   (dR:K.lookup q166=J ⟨.type "tuple",r167,.seq #[.int 0 t171,.int 2 t172] n168,v169⟩)
   (dQ:K.lookup q175=J ⟨.type "tuple",r176,.seq #[.int 0 t180,.int 2 t181] n177,v178⟩)
   (dP:K.lookup q184=J ⟨.type "tuple",r185,.seq #[.int 0 t189,.int 2 t190] n186,v187⟩)
   (bT:Ym K Ye (O "FORMS")=J (J<|.ref q114))
   (d7:K.lookup q114=J ⟨.type "dict",M,.dict #[⟨j119,.str (O "fn") t120,.ref q121⟩,⟨j128,.str (O "rec") t129,.ref q130⟩,⟨j137,.str (O "call") t138,.ref q139⟩,⟨j146,.str (O "if") t147,.ref q148⟩,⟨j155,.str (O "+") t156,.ref q157⟩,⟨j164,.str (O "-") t165,.ref q166⟩,⟨j173,.str (O "*") t174,.ref q175⟩,⟨j182,.str (O "<") t183,.ref q184⟩] e115,#[]⟩)
   (cV:j119=hashStr w (O "fn"))
   (cU:j128=hashStr w (O "rec"))
   (cT:j137=hashStr w (O "call"))
   (cS:j146=hashStr w (O "if"))
   (cR:j155=hashStr w (O "+"))
   (cQ:j164=hashStr w (O "-"))
   (cP:j173=hashStr w (O "*"))
   (cO:j182=hashStr w (O "<"))
   (cW:(q114==Yf)=Wt):Md Pr w K mg pg kl:=by
 have cy:∃ a aj,mg (O "FORMS")=J (.ref a)/\DkK Pr w K a aj/\∀ H B,RKs ⟨K,mg⟩ H B (cD.lookup (O "FORMS") |>.getD []) aj:=by
   refine⟨q114,[(YE<|O "fn",.ref q121),(YE<|O "rec",.ref q130),(YE<|O "call",.ref q139),(YE<|O "if",.ref q148),(YE<|O "+",.ref q157),(YE<|O "-",.ref q166),(YE<|O "*",.ref q175),(YE<|O "<",.ref q184)],YO X G bT,⟨_,_,_,[(YE<|O "fn",.ref q121),(YE<|O "rec",.ref q130),(YE<|O "call",.ref q139),(YE<|O "if",.ref q148),(YE<|O "+",.ref q157),(YE<|O "-",.ref q166),(YE<|O "*",.ref q175),(YE<|O "<",.ref q184)],d7,⟨rfl,rfl,rfl⟩,rfl,?_,(.cons (Zv _ t120) rfl<|.cons (Zv _ t129) rfl<|.cons (Zv _ t138) rfl<|.cons (Zv _ t147) rfl<|.cons (Zv _ t156) rfl<|.cons (Zv _ t165) rfl<|.cons (Zv _ t174) rfl<|.cons (Zv _ t183) rfl .nil),(by show ([YE<|O "fn",YE<|O "rec",YE<|O "call",YE<|O "if",YE<|O "+",YE<|O "-",YE<|O "*",YE<|O "<"]:List Key).Nodup;decide +kernel),(.cons ⟨rfl,ZaB⟩<|.cons ⟨rfl,ZaB⟩<|.cons ⟨rfl,ZaB⟩<|.cons ⟨rfl,ZaB⟩<|.cons ⟨rfl,ZaB⟩<|.cons ⟨rfl,ZaB⟩<|.cons ⟨rfl,ZaB⟩<|.cons ⟨rfl,ZaB⟩ .nil),(by show 8<=Yc;decide),cW⟩,λ_ _=>(.cons (tp2 d0)<|.cons (tp2 dZ)<|.cons (tp2 dY)<|.cons (tp2 dX)<|.cons (tp2 dU)<|.cons (tp2 dR)<|.cons (tp2 dQ)<|.cons (tp2 dP) .nil)⟩;exact(by
       intro e he;simp only [List.mem_toArray,O2,List.not_mem_nil,or_false] at he;rcases he with rfl|rfl|rfl|rfl|rfl|rfl|rfl|rfl
       . exact⟨YE<|O "fn",Zv (O "fn") t120,cV⟩
       . exact⟨YE<|O "rec",Zv (O "rec") t129,cU⟩
       . exact⟨YE<|O "call",Zv (O "call") t138,cT⟩
       . exact⟨YE<|O "if",Zv (O "if") t147,cS⟩
       . exact⟨YE<|O "+",Zv (O "+") t156,cR⟩
       . exact⟨YE<|O "-",Zv (O "-") t165,cQ⟩
       . exact⟨YE<|O "*",Zv (O "*") t174,cP⟩
       . exact⟨YE<|O "<",Zv (O "<") t183,cO⟩
     )
 refine⟨h9,λx kvs hx=>?_,λx d hx=>?_,?_,λx fd hx=>?_,?_,?_,?_,?_,?_,?_⟩
 . have hm:(x,kvs)∈cD:=lookup_mem hx;have e:(x,kvs)=(O "FORMS",(cD.lookup (O "FORMS") |>.getD [])):=by
     simp only [cD,O2,List.not_mem_nil,or_false] at hm;exact hm
   cases e;exact cy
 . have hm:(x,d)∈cG:=lookup_mem hx;have all:All (λp:Str×D=>∃ v u,mg p.1=J u/\RelV v u/\∀ H B,RD ⟨K,mg⟩ H B p.2 v) cG:=⟨⟨.int 120,_,YO X G eB,ZeV,λ_ _=>(.int _)⟩,⟨.ref q103,_,YO X G eA,ZaB,λ_ _=>(.tup (ZtK (vs:=[(.str<|O "num"),(.str<|O "fn"),(.str<|O "rec")]) d9 (by show 3<=Yc;decide)<|.cons ZgI<|.cons ZgI<|.cons ZgI .nil)<|.cons (.str _<|by decide +kernel)<|.cons (.str _<|by decide +kernel)<|.cons (.str _<|by decide +kernel) .nil)⟩,⟨.int 1000000,_,YO X G eu,ZeV,λ_ _=>(.int _)⟩,⟨.ref q114,_,YO X G bT,rfl,λ_ _=>.kd<|YO X G bT⟩,trivial⟩;exact all.mem _ hm
 . exact(Zj3 X G zz).mem
 . exact(Znk X G dd kd).mem _ (lookup_mem hx)
 . have all:All (λC=>∃ a,mg C=J (.ref a)/\Cls K a/\∀ f∈kl.ats,ZaZ K a f) kl.cs:=⟨⟨ca1,YO X G eZ,gh,n1.mem⟩,⟨ca2,YO X G eY,gf,n2.mem⟩,trivial⟩
   exact all.mem
 . exact(show All _ kl.ms from((Zi0 (P:=pg) X G eZ gh u1 km1 kk1).app<|Zi0 (P:=pg) X G eY gf u2 km2 kk2)).mem
 . have all:All (λC:Str=>∃ a f aq fd st q,mg C=J (.ref a)/\Mk K a f/\pg.look (mnm C<|O "__init__")=J fd/\BodyOk K kl (pg.tb.map (·.1)) (O "__init__") q fd st f aq) kl.is:=⟨Zp5 X G eZ g7 g8 i1 ki1<|by kernel_rfl,Zp5 X G eY gZ g6 i2 ki2<|by kernel_rfl,trivial⟩
   exact all.mem
 . have all:All (λC:Str=>∃ a,mg C=J (.ref a)/\XOk K a) kl.xs:=⟨⟨xa1,YO X G cA,⟨⟨iV,L2.isSome_of gD,gC⟩,iU,iS⟩⟩,trivial⟩
   exact all.mem
 . have all:All (λp:Str×Str=>∃ a b,mg p.1=J (.ref a)/\mg p.2=J (.ref b)/\XAs K a b) kl.xa:=⟨⟨pa1,xa1,YO X G iI,YO X G cA,⟨⟨iH,L2.isSome_of p1c,iG⟩,iD,⟨iz,iy,iw,p1i,iu,ir,gC,L2.isSome_of gD⟩,iq⟩⟩,trivial⟩
   exact all.mem
 . have all:All (λp:Str×Str×Bool=>∃ b v,mg p.1=J (.ref b)/\L2.ClV mg p.2.1 v/\PySem.W.kitOne K (.ref b) v=J p.2.2) kl.xi:=⟨⟨xa1,.ref wa1,YO X G cA,.inl ⟨YO X G hJ,_,rfl⟩,iZ⟩,⟨xa1,.ref wa2,YO X G cA,.inl ⟨YO X G hG,_,rfl⟩,iY⟩,⟨xa1,.ref xa1,YO X G cA,.inl ⟨YO X G cA,_,rfl⟩,iX⟩,trivial⟩
   exact all.mem
end K43
end
section
set_option maxHeartbeats 4000000
open PySem PySem.W PyProof.Rows
local macro_rules|`(tactic| wtm_at "al")=>`(tactic| repeat' first|exact trivial|refine' And.intro ?_ ?_)
local macro_rules|`(tactic| wtm_at "dg")=>`(tactic| (refine' ⟨_,_,?na,L2.Zqw ?l ?c ?k⟩;(case na=>k_is);(case l=>k_is);(case c=>k_is);(case k=>k_is)))
local macro_rules|`(tactic| wtm_at "mg")=>`(tactic| (refine' ⟨_,_,?na,?f,?k,L2.Zqw ?l ?c ?kk⟩;(case na=>k_is);(case f=>k_is);(case l=>k_is);(case c=>k_is);(case k=>k_is);(case kk=>k_is)))
set_option maxRecDepth 100000 in
set_option maxHeartbeats 0 in
theorem PySem.Challenge.cw_samestride_k43_whole_graph_in_step_holds : PySem.Challenge.rw_samestride_k43_whole_graph_in_step.Holds := by
 refine K43hd ?_
 k_fill
 refine IV.ZwH (l:=PySem.Challenge.rw_samestride_k43_whole_graph_in_step) (P:=K43.pg) 100 rfl rfl rfl ⟨rfl,by decide,by decide,rfl⟩ (kl:=K43.kl) (λw h Y=>PySem.W.kIn_of Y) K43.ZvA rfl K43.runs ?MM0
 case MM0=>
  intro w mg h KX G;refine' K43.md KX G ?h9 ?dd ?eZ ?gh ?n1 ?g7 ?g8 ?i1 ?u1 ?eY ?gf ?n2 ?gZ ?g6 ?i2 ?u2 ?cA ?iV ?gD ?gC ?iU ?iS ?iI ?iH ?p1c ?iG ?iD ?iz ?iy ?iw ?p1i ?iu ?ir ?iq ?hJ ?hG ?iZ ?iY ?iX ?zz ?eB ?d9 ?eA ?eu ?d0 ?dZ ?dY ?dX ?dU ?dR ?dQ ?dP ?bT ?d7 ?cV ?cU ?cT ?cS ?cR ?cQ ?cP ?cO ?cW
  (case h9=>(first|k_is|kernel_rfl|decide +kernel))
  (case eZ=>k_is)
  (case gh=>(refine⟨?_,?_,?_,?_⟩<;>k_is))
  (case n1=>(wtm_at "al";all_goals (dsimp only;k_is)))
  (case g7|g8=>k_is)
  (case i1=>wtm_at "mg")
  (case u1=>(wtm_at "al";all_goals wtm_at "mg"))
  (case eY=>k_is)
  (case gf=>(refine⟨?_,?_,?_,?_⟩<;>k_is))
  (case n2=>(wtm_at "al";all_goals (dsimp only;k_is)))
  (case gZ|g6=>k_is)
  (case i2=>wtm_at "mg")
  (case u2=>(wtm_at "al";all_goals wtm_at "mg"))
  (case cA|iV=>k_is)
  (case gD|gC=>k_is)
  (case iU=>k_exc)
  (case iS|iI=>k_is)
  (case iH|p1c=>k_is)
  (case iG|iD=>k_is)
  (case iz|iy=>k_is)
  (case iw|p1i=>k_is)
  (case iu|ir=>k_is)
  (case iq=>kit_is)
  (case hJ=>rfl)
  (case hG=>rfl)
  (case iZ=>kit_is)
  (case iY=>kit_is)
  (case iX=>kit_is)
  (case dd=>(wtm_at "al";all_goals wtm_at "dg"))
  (case zz=>(wtm_at "al";all_goals (dsimp only;k_is)))
  (case eB|eA=>k_is)
  (case d9|eu=>k_is)
  (case bT|d7=>k_is)
  (case d0|dZ=>k_is)
  (case dY|dX=>k_is)
  (case dU|dR=>k_is)
  (case dQ|dP=>k_is)
  (case cV=>(first|rfl|k_is|fail))
  (case cU=>(first|rfl|k_is|fail))
  (case cT=>(first|rfl|k_is|fail))
  (case cS=>(first|rfl|k_is|fail))
  (case cR=>(first|rfl|k_is|fail))
  (case cQ=>(first|rfl|k_is|fail))
  (case cP=>(first|rfl|k_is|fail))
  (case cO=>(first|rfl|k_is|fail))
  (case cW=>rfl)
end
