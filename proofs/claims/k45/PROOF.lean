import PyProof.Rows.All
import Wide.All
import OpenK.AllK
import Wide.FinOn
import PyProof.EqAt
import PyProof.EqKinds
import PyProof.TupleCall
import Lean
import PySem.Challenge.RW_samestride_k45_graph_cells_told
noncomputable section
set_option Elab.async false
set_option linter.all false
set_option maxRecDepth 100000
open PySem renaming wpAny_bind->Ya,Shared->Yb,sizeLine->Yc,wpAny_pure->Yd,mainGlobals->Ye,sysModules->Yf,wpAny_mono->Yg,World->Yh,Program->Yi,Addr->Yj,Value->Yk,wpAny_newObj_type->Yr,starEach->YA,wpAny->YB,sizeLine_eq->YC,Heap->YG,Around->YH,mem_of_lookup->YI,compareOp->YM,wpAny_field->YR,backTo->YS,wpAny_Call_Name_kw->YW,wpAny_callSpecial?_slot->YY,wpAny_holding->Wb,wpAny_call_entry->Wc,wpAny_of_eq->Wi
open PySem.W renaming Frag->Yl,nsIn->Ym,findIn->YJ,mg_of->YO,subIn->YU,keepIn->Wa,instObj->We
open PySem.Heap renaming lt_size->Yn,get?_update_other->YN,get?_update_self->YV,get?_push_of_some->Od,get?_push_size->Oj
open PySem.NameKind renaming free->Yo
open PySem.PyData renaming strOk->Yp,eqv->YQ
open PySem.StrLaws renaming sliceText->Yq
open List renaming mem_append_left->Ys,append_nil->Yt,length_map->Yu,replicate->YK,any_cons->YZ,lookup->Wf,find?_cons->Wm,getElem?_eq_some_iff->Ob,getElem?_set_ne->Oc,getElem?_append_left->Oe,size_toArray->Of,getElem?_eq_getElem->Og,mem_cons_of_mem->Oh,mem_cons_self->Oi,mem_of_getElem?->O1,getElem?_set_self->Ol,getElem?_append_right->Om,getElem?_map->On,map_cons->Op,mem_cons->O2,length_cons->Os,mem_append_right->Ov,mem_singleton->Ox,map_nil->Oy,append_assoc->Oz,length_append->OA,nil_append->OB,all_eq_true->OC,mem_append->OD,lookup_cons->OF,sum_cons->OI,getElem?_cons_zero->OJ,getElem?_cons_succ->O0
open Option renaming map_some->Yv,bind_some->Yz,some->J,none->M,map_eq_some_iff->Oo
open Nat renaming lt_irrefl->Yw,zero_le->Yy,le_refl->Oq,lt_of_lt_of_le->Ot,ne_of_lt->Ou,le_trans->OE,lt_succ_self->OH
open PySem.Value renaming ref->YD
open Sum renaming inr->YE
open Option.some renaming inj->YF
open Ne renaming symm->YL
open PySem.F renaming plain_max_loop->YT
open PySem.Obj renaming data_mapFields->YX
open PyProof.Rows renaming slot_tuple_getitem->Wg
open PySem.Builtin.List renaming listTooLong->Wj
open Bool renaming or_eq_true->Wn,true->Wq,false->Ws,and_eq_true->Oa,false_ne_true->Ow,false_eq_true->OG
open Decidable renaming decide->Wu
open PySem.Str renaming ofString->O
set_option genSizeOf false
set_option genInjectivity false
theorem Eq.I{a b c:α}(h:a=b)(g:b=c):a=c:=h.trans g
theorem Iff.I(h:a<->b)(g:b<->c):a<->c:=h.trans g
section
open PySem PySem.W PyProof.Rows
set_option maxHeartbeats 0
structure PySem.W.Fast:Prop where(tw10395288036864836286 tw12063992876998529918 tw17353279740835993556 tw17444931014613148213 tw1558118068099901443 tw12747706966542491517 tw3738039449864755241 tw1424591799412460946 tw18058285998016391781 tw10442462071284272399 tw1077870485608260522 tw13690776591309983973 tw8986032247225375366 tw17210375844226960109 tw5061509228410708844 tw10428480465702286739 tw8938815598554920023 tw50684235409661533 tw14270198689064926941 tw4342958194345450128 tw664075984703823580 tw13517362830729318712 tw15446847067413195598 tw16044993587048759424 tw9756810608719658758 tw15917382137722376074 tw15366599175865422291 tw14572729724826993612 tw14511071837494773222 tw824622704906418641 tw10369142800152147480 tw5082190773499816627 tw11859346185358764278 tw7556995248854032982 tw15697283940908253240 tw10162358208475682014 tw17758033117005823767 tw17962564460221682526 tw14578656668956618824 tw11561722114613531271 tw5676826492182648928 tw10903247421054153302 tw12111981783230235474 tw4432173685227239113 tw7585083120549744196 tw14421112819047941870 tw9065927529463688196 tw16403719305549977799 tw17296053357593760201 tw2064736987504566444 tw14621934551187432923 tw5027212428385355102 tw6809611716097738984 tw7457354167966309375 tw18234320561072401995 tw4064815580727702386 tw840723462785201945 tw5285758208084892652 tw6951257364389576722 tw1205703069199700475 tw3881740706272416348 tw12176403610346361846 tw358748405229380032 tw18010077080510840203 tw12223083313339267620 tw7395987713352151409 tw13383308967584403552 tw3177988534503401336 tw9038243598338806431 tw3700644421831523504 tw18391040077094679114 tw10613897384792724424 tw13233941286336932752 tw2925146059997037473 tw12982843326688267002 tw17346009283459375306 tw15666740110567130732 tw16976843324673776557 tw9595446451271132890 tw9882399268129036275 tw816961275804428019 tw1660868510323498397 tw14313098592789538323 tw13810452807519911827 tw529779287328084493 tw5242047068489944549 tw12549580878373340370 tw11194805395210393783 tw33413920232002901 tw4655154790820767172 tw6178500714027261967 tw12397525968879691836 tw17974433535387989084 tw7514923564788483367 tw11348094834998109937 tw16773922959633820154 tw891556501708184885 tw13801992676593924724 tw9335582793674395351 tw8042180146787841132 tw5867205979177417911 tw13805344340234977843 tw10015812645126022082 tw14873623795100911509 tw16562165029724587130 tw10199036760342607208 tw10532267559555075839 tw17172696654288933189 tw14524292321764164414 tw1471368692345191109 tw2049775702736774241 tw13755247401183913579 tw13170416624899798231 tw12436633964496250323 tw2679077521116346566 tw15692354164242280081 tw8242742370319629814 tw12075172721655149011 tw12639267408020581123 tw7837901800715567269 tw17701046931900911086 tw17031305549202984302 tw8043441768005093218 tw227234420199696911 tw607020488556883456 tw10339788927421634846 tw9081993623140024198 tw7905065445133299097 tw4237138802472139497 tw7086649656100558276 tw1201386632816046233 tw4916582855679806400 tw3145955614839687852 tw4075523145122140263 tw8391410023464851629 tw8006559463852241563 tw9452143227228372978 tw16763861150223671790 tw17604450394197749838 tw7223561131450748732 tw4770123296081522410 tw15892652018287557710 tw1232210060961650818 tw4131857224691402248 tw7068026703143025714 tw6823301575825354277 tw8692954742259789709 tw3827095934028463717 tw14380185977382215898 tw16915091444533587489 tw10036363382535777627 tw3792182492248863485 tw3098045558379081225 tw9775268508727482677 tw10637356840536755955 tw1125784674360371254 tw11146230173316313264 tw6169797425740370852 tw2678947065701017557 tw11289520195085989392 tw850115638661480462 tw4236775185447599887 tw3118732182388800011 tw926754076520962333 tw16880506637324699235 tw590118711082952639 tw7360561695312582971 tw9215868001146079708 tw16387607229634229386 tw13727217050396564981 tw14157929470874756795 tw3729416259963489437 tw11701945858762860590 tw13659609170829636519 tw6070701905257918646 tw10177004576298517517 tw12710520228051634113 tw17407714266542779083 tw1790632334278314453 tw13204824077169195418 tw1895946661829498618 tw7857051572862965086 tw6642864982662725501 tw4490116250337845343 tw10318587394795956316 tw10480647408020712031 tw7924524982773251123 tw14326426727988130361 tw128107260575744361 tw13922561186239793980 tw9378610438628375026 tw1359194795096108760 tw12953100538529480928 tw9694342801351689219 tw12419334316182849793 tw7473114398329751220 tw2734972530721754006 tw5002319476612567841 tw5092306482742248940 tw16829135358660548261 tw12470549339951368098 tw10819639076684439807 tw12260687753388666795 tw9281506464054482856 tw3121817743119603137 tw1571406351936698360 tw11665926754296383392 tw14676894982770992416 tw14281117595559723811 tw11875531138830093120 tw18291132765321090052 tw12385059752842273636 tw13126619296519143461 tw2884304574018296773 tw8978938291928346922 tw8728197883029919515 tw16889020850725879195 tw10771777519416439583 tw17400920530536129001 tw14006196673945591362 tw10772266372923389325 tw7231937974859010803 tw18171968074064553236 tw6178915462175930368 tw9573326771433661030 tw6225943217406768017 tw88245557710845301 tw5983463147957075833 tw10658714165821109241 tw7000752756541170760 tw8248427406458242244 tw11307307136149747361 tw5834690806341776913 tw17221421445316189715 tw14495035105515502451 tw7319596805517641410 tw5786104662862649096 tw6133567689578204417 tw9340479176311449410 tw11263652362719664613 tw7481869080175305798 tw8029991995291156582 tw14512182384733406823 tw5278754673418655724 tw8546704624765830158 tw11101819992875079279 tw13684169946546743504 tw13886798372657162608 tw3716772478063743666 tw2787375821625320883 tw3725037906993096502 tw9818092802065491096 tw452186473502155096 tw12723949496002053081 tw11568439949858445542 tw7353564279987788907 tw4774880463374304284 tw14934645678958767136 tw6007878278435014735 tw2198482734199775710 tw17332846940191791909 tw6087755774045947074 tw4106439325266548894 tw11189366634690862376 tw14497490714336801152 tw3955231830080031050 tw1006151707866008094 tw1678684790963269290 tw7662957064233273037 tw15552234140415109393 tw263227177713714558 tw17261801343160767138 tw10254607261988131304 tw2366999550528415339 tw12867285296578434194 tw2208796023296575778 tw16030726831299323277 tw7022257418642702385 tw10884209194029220117 tw3595937673097872127 tw15955323526216907173 tw556638355340629758 tw136114473316945957 tw10994703573638627855 tw3706758916649983470 tw16837168035199292591 tw86547958807392307 tw9050915289717375799 tw446068983473274590 tw3840694260097027666 tw1855942840589870994 tw15853702354871625019 tw7768595294768979512 tw4393694353234018427 tw2264901019182667755:True)
open_top K45hd for PySem.Challenge.rw_samestride_k45_graph_cells_told
end
namespace L2
open PySem PySem.Spec PyProof.Rows
noncomputable abbrev NK:=Int×List Str
section
variable {prog:Yi}{w:Yh}{A:YH}{E:Yk->Yb->Prop}{s:Yb}
def Zfi(prog:Yi)(w:Yh)(h:YG)(k:NK)(a:Yj):Prop:=∃o t b m,h.get? a=J o/\o.cls=.type "tuple" /\ o.data=.seq #[.int k.1 t,.ref b] m/\IsTupleKey (PySem.strKind prog w) h k.2 b
def Zfi.typeIs{k}(x:Zfi prog w s.heap k a):s.TypeIs (.ref a) "tuple" := let⟨o,_,_,_,b,c,_⟩:=x;⟨o,b,c⟩
theorem Zfi.inj{h}{x y}(hx:Zfi prog w h x a)(hy:Zfi prog w h y a):x=y:=by obtain⟨o,t,b,m,ho,_,d,e⟩:=hx;obtain⟨f,k,l,n,g,_,c,i⟩:=hy;obtain rfl:o=f:=YF<|ho.symm.I g;rw[d]at c;injection c with R _;simp at R;obtain⟨⟨j,_⟩,rfl⟩:=R;exact Prod.ext j (e.inj i)
theorem Zfi.keeps{h h'}{k}{a d}{o}{es ep}(x:Zfi prog w h k a)(ho:h.get? d=J o)(hd:o.data=.dict es ep)(hs:Heap.SameBut d h h'):Zfi prog w h' k a:=by
 obtain⟨o',t,b,m,bI,hc,bj,hi⟩:=x;exact⟨_,t,b,m,(hs.2 a (by
  rintro rfl
  simp_all)).I bI,hc,bj,hi.keeps ho hd hs⟩
noncomputable def Zm8(w:Yh)(k:NK):Int:=reduceHash (Builtin.Tuple.tupleHashOf [hashInt k.1,reduceHash<|Builtin.Tuple.tupleHashOf<|k.2.map<|hashStr w])
def Zuh{k}{a}{Q}(hu:A.units+1<cLine)(hk:Zfi prog w s.heap k a)(h:Q (Zm8 w k) {s with toks:=s.toks+(k.2.length+3)}):
 YB (model prog w) A (pyHash<|.ref a) Q E s:=by
 have hT:=hk.typeIs;obtain⟨o,t,b,m,ho,_,hd,hi⟩:=hk
 first|refine Ya (wpAny_cRoomFor_or (.inr<|by lia) ?_)|lia
 refine Ya<|wpAny_specialOf hT PySem.F.slot_tuple_hash.lookup<|Ya<|wpAny_specialOf hT PySem.F.slot_tuple_hash.lookup ?_;refine Ya<|wpAny_callSpecialIfBoundUnlessNone?_slot hT PySem.F.slot_tuple_hash<|Wc PySem.F.slot_tuple_hash hT PySem.F.entry_tuple_hash ?_<|PySem.F.args_tuple_hash_1 _;show YB _ _ (Builtin.Tuple.tupleItemsOf _ >>= _) _ _ s;refine Ya<|wpAny_tupleItemsOf ho hd<|Ya ?_;rw[<-Array.forIn_toList];refine wpAny_forIn_list _
  (λac (r) s'=>(ac=[.int k.1 t,.ref b]/\r=#[]/\s'=s)\/(ac=[.ref b]/\r.toList=[hashInt k.1]/\s'={s with toks:=s.toks+1})\/(ac=[]/\r.toList=[hashInt k.1,reduceHash<|Builtin.Tuple.tupleHashOf<|k.2.map<|hashStr w]/\s'={s with toks:=s.toks+1+(k.2.length+1)}))
  _ ?_ ?_ _ _ (.inl ⟨rfl,rfl,rfl⟩)
 . rintro x ac r s' (⟨e,rfl,rfl⟩|⟨e,hr,rfl⟩|⟨e,_⟩)
   . cases e;refine Ya (wpAny_pyHash_int ?_)
     first
      |exact Yd (.inr (.inl ⟨rfl,rfl,rfl⟩))
      |exact Ya (Yd (Yd (.inr (.inl ⟨rfl,rfl,rfl⟩))))
   . cases e;refine Ya (wpAny_pyHash_tuple (knd:=PySem.strKind prog w) (ks:=k.2) ?_ hi ?_)
     . first|exact hu|lia
     . first
        |exact Yd (.inr (.inr ⟨rfl,by simp[hr];rfl,rfl⟩))
        |exact Ya (Yd (Yd (.inr (.inr ⟨rfl,by simp ;rfl,rfl⟩))))
   . cases e
 . rintro r s' (⟨e,_⟩|⟨e,_⟩|⟨_,hr,rfl⟩)
   . cases e
   . cases e
   . show YB _ _ (retInt<|Builtin.Tuple.tupleHashOf r.toList) _ _ _;rw[hr];refine wpAny_ret_mkInt ?_;unfold Zm8 at h;generalize Builtin.Tuple.tupleHashOf [hashInt k.1,reduceHash<|Builtin.Tuple.tupleHashOf<|k.2.map<|hashStr w]=z at h;show YB _ _ (if (Wu (-(2)^63<=z)&&Wu (z<2^63))=Wq then _ else _) Q E _;unfold reduceHash at h;have e:s.toks+1+(k.2.length+1)+1=s.toks+(k.2.length+3):=by lia
     by_cases hr:(Wu (-(2)^63<=z)&&Wu (z<2^63))=Wq
     . rw[if_pos hr];rw[if_pos hr]at h;exact Yd (by simpa[e]using h)
     . rw[if_neg hr];rw[if_neg hr]at h;exact Ya (wpAny_rule<|Yd<|by simpa[e]using h)
def Znx{x y}{a b}{P}(hu:A.units<cLine)(hx:Zfi prog w s.heap x a)(hy:Zfi prog w s.heap y b)(h:P (.done<|.ret<|.bool<|Wu<|x=y) s):
 YB (model prog w) A (Builtin.«tuple.__eq__» ⟨[.ref a,.ref b],[]⟩) P E s:=by
 have my:=hy.typeIs;obtain⟨oa,ta,ba,na,lE,_,mh,lW⟩:=hx;obtain⟨ob,tb,bb,nb,lD,_,bu,lU⟩:=hy;show YB _ _ (isInstance _ _ >>= _) _ _ s;refine Ya (wpAny_isInstance my isSubtype_tuple_tuple (Ya (wpAny_tupleItemsOf lE mh (Ya (wpAny_tupleItemsOf lD bu (Ya (wpAny_forIn_list _
  (λac r s'=>r.1=M/\s'=s/\(ac=[(Value.int _ _,Value.int _ _),(.ref _,.ref _)]\/(ac=[(.ref ba,.ref bb)]/\x.1=y.1)\/(ac=[]/\x=y)))
  _ ?_ ?_ _ _ ⟨rfl,rfl,.inl rfl⟩)))))))
 . rintro ⟨u,v⟩ ac r s' ⟨hr,rfl,e|⟨e,e1⟩|⟨e,_⟩⟩
   . cases e;refine Ya<|wpAny_eqBool_int ?_;by_cases hk:x.1=y.1
     . rw[show(x.1==y.1)=Wq by simpa using hk];simp only;exact Yd ⟨rfl,rfl,by first|exact .inr (.inl ⟨trivial,hk⟩)|simp ⟩
     . rw[show(x.1==y.1)=Ws by simpa using hk];simp only;rw[decide_eq_false λe=>hk<|by rw[e]]at h;exact Ya (Yd<|Yd<|Yd h)
   . cases e;refine Ya<|wpAny_eqBool_tuple (knd:=PySem.strKind prog w) hu lW lU ?_;by_cases hk:x.2=y.2
     . rw[decide_eq_true hk];simp only;exact Yd ⟨rfl,rfl,by first|exact .inr (.inr ⟨trivial,Prod.ext e1 hk⟩)|simp ⟩
     . rw[decide_eq_false hk];simp only;rw[decide_eq_false λe=>hk<|by rw[e]]at h;exact Ya (Yd<|Yd<|Yd h)
   . cases e
 . rintro ⟨r1,r2⟩ s' ⟨hr,rfl,e|⟨e,_⟩|⟨_,e⟩⟩
   . cases e
   . cases e
   . simp only at hr;subst hr;refine Yd ?_;rw[decide_eq_true e]at h;exact h
def Zz5{x y}{a b}{Q}(hu:A.units+1<cLine)(hx:Zfi prog w s.heap x a)(hy:Zfi prog w s.heap y b)(h:Q (Wu<|x=y) s):
 YB (model prog w) A (eqBool (.ref a)<|.ref b) Q E s:=by
 unfold eqBool
 try with_reducible refine Wb ?_
 by_cases cB:(YD a==YD b)=Wq
 . rw[if_pos cB];have e:=by injection eq_of_beq cB
   subst e;obtain rfl:=hx.inj hy;exact Ya (wpAny_rule<|Yd<|by simp_all)
 . rw[if_neg cB];exact Ya (wpAny_richCompare_same_room (op:=.Eq) hx.typeIs hy.typeIs PySem.F.slot_tuple_eq
    (Wc PySem.F.slot_tuple_eq hx.typeIs PySem.F.entry_tuple_eq (Znx (by simp_all) hx hy ⟨_,rfl,(λe=>nomatch e),wpAny_truthy_bool h⟩)<|PySem.F.args_tuple_eq_2 _ _)<|by lia)
def Zq0{n}{ks}{a}{Q}(hk:IsTupleKey (PySem.strKind prog w) s.heap ks a)(h:Q Wq s):YB (model prog w) A (eqIsQuiet (n+1)<|.ref a) Q E s:=by
 have hT:=hk.typeIs;obtain⟨o,items,n,ho,_,hd,hi⟩:=hk;unfold eqIsQuiet;refine Ya<|wpAny_specialOf hT PySem.F.slot_tuple_eq.lookup<|Ya<|wpAny_isInstance hT isSubtype_tuple_tuple<|Ya<|wpAny_seqItems ho hd<|Ya ?_;rw[<-Array.forIn_toList];refine wpAny_forIn_list _ (λac r s'=>r.1=M/\s'=s/\∀v∈ac,carriedByValue v=Wq) _ ?_ ?_ _ _ ⟨rfl,rfl,hi.byValue⟩
 . rintro v ac r s' ⟨hr,rfl,bx⟩;rw[eqIsQuiet_byValue _<|bx v Oi];exact Yd ⟨rfl,rfl,λu lq=>bx u<|Oh _ lq⟩
 . rintro ⟨r1,r2⟩ s' ⟨hr,rfl,_⟩;subst hr;exact Yd h
def ZqZ{k}{a}{Q}(hk:Zfi prog w s.heap k a)(h:Q Wq s):YB (model prog w) A (eqIsQuiet 8<|.ref a) Q E s:=by
 have hT:=hk.typeIs;obtain⟨o,t,b,n,ho,_,hd,hi⟩:=hk;unfold eqIsQuiet;refine Ya<|wpAny_specialOf hT PySem.F.slot_tuple_eq.lookup<|Ya<|wpAny_isInstance hT isSubtype_tuple_tuple<|Ya<|wpAny_seqItems ho hd<|Ya ?_;rw[<-Array.forIn_toList];refine wpAny_forIn_list _ (λac r s'=>r.1=M/\s'=s/\(ac=[Value.int _ t,.ref b]\/ac=[.ref b]\/ac=[])) _ ?_ ?_ _ _ ⟨rfl,rfl,.inl rfl⟩
 . rintro v ac r s' ⟨hr,rfl,e|e|e⟩
   . cases e;exact Yd ⟨rfl,rfl,by simp⟩
   . cases e;refine Ya<|Zq0 hi ?_;simp only;exact Yd ⟨rfl,rfl,by simp_all⟩
   trivial
 . rintro ⟨r1,r2⟩ s' ⟨hr,rfl,_⟩;simp only at hr;subst hr;exact Yd h
end
def Zm7(prog:Yi)(w:Yh):HeapKind prog w NK where
 is:=Zfi prog w
 hash:=Zm8 w
 draws:=λk=>k.2.length+3
 room:=λA=>A.units+1<cLine
 inj:=λhx hy=>hx.inj hy
 keeps:=λx ho hd hs=>x.keeps ho hd hs
 pyHash:=λhu hk h=>Zuh hu hk h
 eqBool:=λhu hx hy h=>Zz5 hu hx hy h
 quiet:=λhk h=>ZqZ hk h
noncomputable abbrev Key:=Sum Int Str
noncomputable def ZiE:Key->Yk->Bool
 |.inl k,v=>Value.isInt k v
 |.inr x,v=>Value.isStrOf x v
noncomputable def ZBv(w:Yh):Key->Int
 |.inl k=>hashInt k
 |.inr x=>hashStr w x
def ZK:∀{k}{v},ZiE k v=Wq->(∃i t,k=Sum.inl i/\v=Value.int i t)\/(∃x t,k=YE x/\v=Value.str x t)
 |.inl i,v,h=>by obtain⟨t,e⟩:=Value.isInt_shape h;exact .inl ⟨i,t,rfl,e⟩
 |.inr x,v,h=>by obtain⟨t,e⟩:=Value.isStrOf_shape h;exact .inr ⟨x,t,rfl,e⟩
def ZpU(i)(t):ZiE (.inl i) (.int i t)=Wq:=by simp[ZiE,Value.isInt]
def Zx(x)(t):ZiE (.inr x) (.str x t)=Wq:=by simp[ZiE,Value.isStrOf]
def Zw8(a b):Wu ((Sum.inl a:Key)=Sum.inl b)=(a==b):=by
 by_cases e:a=b
 . subst e;simp
 simp_all
def Zw5(a b):Wu ((YE a:Key)=YE b)=Wu (a=b):=by simp
def Zw7(a)(b):Wu ((Sum.inl a:Key)=YE b)=Ws:=decide_eq_false (λq=>nomatch q)
def Zw6(a)(b):Wu ((YE a:Key)=Sum.inl b)=Ws:=decide_eq_false (λq=>nomatch q)
def ZH(prog:Yi)(w:Yh):PySem.KeyKind prog w Key where
 is:=ZiE
 hash:=ZBv w
 inj:=λv a b ha hb=>by
  rcases ZK ha with⟨i,t,rfl,rfl⟩|⟨x,t,rfl,rfl⟩
  . rcases ZK hb with⟨j,u,rfl,e⟩|⟨y,u,rfl,e⟩
    . injection e with e1 _;rw[e1]
    . exact nomatch e
  . rcases ZK hb with⟨j,u,rfl,e⟩|⟨y,u,rfl,e⟩
    . exact nomatch e
    . injection e with e1 _;rw[e1]
 byValue:=λk v h=>by rcases ZK h with⟨i,t,rfl,rfl⟩|⟨x,t,rfl,rfl⟩<;>rfl
 pyHash:=λhv h=>by
  rcases ZK hv with⟨i,t,rfl,rfl⟩|⟨x,t,rfl,rfl⟩
  . exact wpAny_pyHash_int h
  . exact wpAny_pyHash_str h
 eqBool:=λhu hv h=>by
  rcases ZK hu with⟨i,t,rfl,rfl⟩|⟨x,t,rfl,rfl⟩
  . rcases ZK hv with⟨j,u,rfl,rfl⟩|⟨y,u,rfl,rfl⟩
    . rw[Zw8]at h;exact wpAny_eqBool_int h
    . rw[Zw7]at h;exact SeqAt.EqAt.int_str i t y u _ _ _ _ h
  . rcases ZK hv with⟨j,u,rfl,rfl⟩|⟨y,u,rfl,rfl⟩
    . rw[Zw6]at h;exact SeqAt.EqAt.str_int x t j u _ _ _ _ h
    . rw[Zw5]at h;exact wpAny_eqBool_str h
 «strs»:=λk x t v h=>by
  rcases ZK h with⟨i,u,rfl,e⟩|⟨y,u,rfl,e⟩
  . exact nomatch e
  . injection e with e1 _;subst e1;cases v<;>rfl
def ZlP(prog)(w)(i)(t):(ZH prog w).is (.inl i) (.int i t)=Wq:=ZpU i t
def ZlO(prog)(w)(x)(t):(ZH prog w).is (.inr x) (.str x t)=Wq:=Zx x t
set_option genInjectivity true in
inductive V where
 |non|bl (b:Bool)|int (i:Int)|str (x:Str)|byt (b:Array UInt8)|flt (b:UInt64)|ref (a:Yj)|ty (n:String)
 deriving DecidableEq
def RelV:V->Yk->Prop
 |.non,u=>u=Value.none
 |.bl b,u=>u=Value.bool b
 |.int i,u=>∃t,u=Value.int i t
 |.str x,u=>∃t,u=Value.str x t
 |.byt b,u=>∃t,u=Value.bytes b t
 |.flt b,u=>∃t,u=Value.float b t
 |.ref a,u=>u=YD a
 |.ty n,u=>u=Value.type n
abbrev Zs:List V->List Yk->Prop:=Paired RelV
theorem Zs.length(r:Zs xs us):xs.length=us.length:=Paired.length r
theorem Zs.get:∀{xs}{us}{i:Nat}{x},Zs xs us->xs[i]?=J x->∃u,us[i]?=J u/\RelV x u
 |_,_,_,_,.nil,e=>by trivial
 |_,_,0,_,.cons r _,e=>by simp at e;subst e;exact⟨_,rfl,r⟩
 |_,_,i+1,x,.cons _ t,e=>by obtain⟨u,R,a⟩:=Zs.get t (by trivial);exact⟨u,by trivial,a⟩
theorem Zs.set(r:RelV x u):∀{xs}{us} (i),Zs xs us->Zs (xs.set i x) (us.set i u)
 |_,_,_,.nil=>.nil
 |_,_,0,.cons _ t=>.cons r t
 |_,_,i+1,.cons q t=>.cons q (Zs.set r i t)
theorem Zs.append:∀{xs ys}{us ws},Zs xs us->Zs ys ws->Zs (xs++ys) (us++ws)
 |_,_,_,_,.nil,s=>s
 |_,_,_,_,.cons r t,s=>.cons r (Zs.append t s)
theorem Zs.take:∀{xs}{us} (n),Zs xs us->Zs (xs.take n) (us.take n)
 |_,_,0,_=>.nil
 |_,_,_+1,.nil=>.nil
 |_,_,n+1,.cons r t=>.cons r (Zs.take n t)
theorem Zs.drop:∀{xs}{us} (n),Zs xs us->Zs (xs.drop n) (us.drop n)
 |_,_,0,r=>r
 |_,_,_+1,.nil=>.nil
 |_,_,n+1,.cons _ t=>Zs.drop n t
def ZfV:Option V->Option Yk->Prop
 |some v,J u=>RelV v u
 |none,M=>True
 |_,_=>False
def KV:List (κ×V)->List (κ×Yk)->Prop:=Paired λ(p:κ×V) (q:κ×Yk)=>p.1=q.1/\RelV p.2 q.2
noncomputable def kV:Key->V
 |.inl i=>.int i
 |.inr x=>.str x
set_option genInjectivity true in
inductive HO where
 |lst (xs:List V)
 |tup (xs:List V)
 |dK (kvs:List (Key×V))|dT (kvs:List (NK×Yj×Yk))
 |set (S_:Int->Bool) (n:Nat)
 |ins (C dx:Yj) (fs:List (Str×V))
 |own (x:Yj)
 |xd (fs:List (Str×V))
 |met (f x:Yj)
 |rng (lo hi:Int)
 |frz (o:Obj) (u:HO)
 |tbl (ps:Array Yk)
 |ext (φ:YG->Prop)
abbrev Hp:=Yj->Option HO
noncomputable def upd(H:Hp)(a:Yj)(o:HO):Hp:=λb=>if b=a then J o else H b
def Zj:upd H a o a=J o:=by unfold upd;simp
def Zo(h:b≠a):upd H a o b=H b:=by unfold upd;rw[if_neg h]
def ZV{H:Hp}(h:H a=J o)(h':H b=M):a≠b:=by intro e;simp_all
section
variable (P:Yi)(w:Yh)
def Zbl(h:YG)(a:Yj)(items:Array Yk):Prop:=∃o,h.get? a=J o/\o.cls=.type "tuple" /\ o.dict=M/\∃n,o.data=.seq items n
theorem Zbl.tup(x:Zbl h a items):IsTup h a items:=let⟨o,b,c,_,r⟩:=x;⟨o,b,c,r⟩
theorem Zbl.fresh(h:YG)(items):Zbl (h.push {cls:=.type "tuple",data:=.seq items}) h.objs.size items:=⟨_,Oj _ rfl,rfl,rfl,_,rfl⟩
def Zai(H:Hp)(h:YG)(a:Yj):HO->Prop
 |.lst d=>d.length<=Yc/\∃(c:List Yk) (n:Nat),Zs d c/\h.get? a=J {cls:=.type "list",data:=.seq c.toArray n}
 |.tup d=>d.length<=Yc/\∃c:List Yk,Zs d c/\Zbl h a c.toArray
 |.dK b=>b.length<=Yc/\(a==Yf)=Ws/\∃vs,KV b vs/\h.DictOf (ZH P w) a vs
 |.dT b=>b.length<=Yc/\(a==Yf)=Ws/\∃o g j,h.get? a=J o/\o.ExactDict/\o.data=.dict g j/\g.toList=b.map (entryOfKey<|Zm7 P w)/\(b.map (·.1)).Nodup
 |.set S_ n=>h.SetOf (intKind P w) a S_ n
 |.ins C e fs=>H e=J (.own a)/\fs.length<=1000/\e≠a/\h.get? a=J (We C e) /\
  ∃mA,h.Ns1 e mA/\(∀f,ZfV (fs.lookup f)<|mA f)/\PySem.Within mA (fs.map (·.1))
 |.own _=>∃o,h.get? a=J o
 |.xd fs=>∃mA,h.Ns1 a mA/\∀f,ZfV (fs.lookup f) (mA f)
 |.rng k l=>∃t u v,h.get? a=J {cls:=.type "range",data:=.fields #[.int k t,.int l u,.int 1 v]}
 |.frz o u=>h.get? a=J o/\Zai H h a u
 |.tbl ps=>h.get? a=J {cls:=.none,data:=.fields ps}
 |.met f x=>h.get? a=J (PySem.W.methodObj (.ref f)<|.ref x)
 |.ext φ=>φ h/\(∃o,h.get? a=J o)/\∀R i:YG,φ R->(∀o,R.get? a=J o->i.get? a=J o)->φ i
def HOk(H:Hp)(h:YG):Prop:=∀a o,H a=J o->Zai P w H h a o
end
section
variable {P:Yi}{w:Yh}{H H':Hp}{h h':YG}{a:Yj}{o:HO}
theorem Zai.lt(x:Zai P w H h a o):a<h.objs.size:=by
 cases o with
 |lst c=>obtain⟨_,_,_,_,e⟩:=x;exact Yn e
 |tup c=>obtain⟨_,_,_,p⟩:=x;exact p.tup.lt
 |dK b=>obtain⟨_,_,_,_,o,_,_,e,_⟩:=x;exact Yn e
 |dT b=>obtain⟨_,_,o,_,_,e,_⟩:=x;exact Yn e
 |set S_ n=>obtain⟨o,_,_,_,e,_⟩:=x;exact Yn e
 |ins C d fs=>exact Yn x.2.2.2.1
 |own y=>obtain⟨_,e⟩:=x;exact Yn e
 |xd fs=>obtain⟨_,⟨_,_,_,e,_⟩,_⟩:=x;exact Yn e
 |rng g i=>obtain⟨_,_,_,e⟩:=x;exact Yn e
 |frz ob u=>exact Yn x.1
 |tbl ps=>exact Yn (x)
 |met f y=>exact Yn (x)
 |ext φ=>obtain⟨_,⟨_,e⟩,_⟩:=x;exact Yn e
theorem Paired.mapP:∀{l₁:List α}{l₂:List β},Paired F l₁ l₂->(∀a b,F a b->G a b)->Paired G l₁ l₂
 |_,_,.nil,_=>.nil
 |_,_,.cons r t,f=>.cons (f _ _ r) (Paired.mapP t f)
def Zai.stay(x:Zai P w H h a o)(k:∀b u,(b=a\/H b=J (.own a))->h.get? b=J u->h'.get? b=J u)
 (ho:∀b,H b=J (.own a)->H' b=J (.own a)) (ht:∀b xs,H b=J (.tup xs)->H' b=J (.tup xs)):Zai P w H' h' a o:=by
 induction o with
 |lst xs=>obtain⟨z,j,n,r,e⟩:=x;exact⟨z,_,n,r,k _ _ (.inl rfl) e⟩
 |tup xs=>obtain⟨z,j,r,ob,e,c⟩:=x;exact⟨z,_,r,_,k _ _ (.inl rfl) e,c⟩
 |dK l=>obtain⟨z,y,vs,r,ob,g,i,e,c⟩:=x;exact⟨z,y,_,r,_,_,_,k _ _ (.inl rfl) e,c⟩
 |dT l=>obtain⟨z,y,ob,g,i,e,c⟩:=x;exact⟨z,y,_,_,_,k _ _ (.inl rfl) e,c⟩
 |set S_ n=>obtain⟨ob,g,i,t,e,c⟩:=x;exact⟨_,_,_,t,k _ _ (.inl rfl) e,c⟩
 |ins C D fs=>obtain⟨d,z,ne,e,m,⟨s,g,i,A,c⟩,r⟩:=x;exact⟨ho _ d,z,ne,k _ _ (.inl rfl) e,_,⟨_,_,_,k _ _ (.inr d) A,c⟩,r⟩
 |own y=>obtain⟨ob,e⟩:=x;exact⟨_,k _ _ (.inl rfl) e⟩
 |xd fs=>obtain⟨m,⟨s,g,i,e,c⟩,r⟩:=x;exact⟨_,⟨_,_,_,k _ _ (.inl rfl) e,c⟩,r⟩
 |rng E F=>obtain⟨t,u,v,e⟩:=x;exact⟨t,u,v,k _ _ (.inl rfl) e⟩
 |frz ob u B=>exact⟨k _ _ (.inl rfl) x.1,B x.2⟩
 |tbl ps=>exact k a _ (.inl rfl) x
 |met f y=>exact k a _ (.inl rfl) x
 |ext φ=>obtain⟨p,⟨o,e⟩,st⟩:=x;exact⟨st _ _ p λo q=>k _ _ (.inl rfl) q,⟨o,k _ _ (.inl rfl) e⟩,st⟩
theorem HOk.lt(x:HOk P w H h)(e:H a=J o):a<h.objs.size:=(x a o e).lt
def HOk.fresh(x:HOk P w H h)(e:h.objs.size<=a):H a=M:=by
 cases q:H a with
 |none=>rfl
 |some u=>exact absurd (Ot (x.lt q) e) (Yw _)
def HOk.kept(x:HOk P w H h)(k:∀b u,h.get? b=J u->h'.get? b=J u):HOk P w H h':=λa o e=>(x a o e).stay (λb u _ q=>k b u q) (λ_ q=>q) λ_ _ q=>q
def HOk.laid(x:HOk P w H h)(k:∀b u,h.get? b=J u->h'.get? b=J u)(hp:h.objs.size<=a)(new:Zai P w (upd H a o) h' a o):HOk P w (upd H a o) h':=λb u e=>by
 by_cases d:b=a
 . subst d;rw[Zj]at e;simp_all
 . rw[Zo d]at e;exact(x b u e).stay (λc v _ q=>k c v q) (λc q=>(Zo<|ZV q<|x.fresh hp).I q) λc f q=>(Zo<|ZV q<|x.fresh hp).I q
end
def Rd(H:Hp)(a:Yj)(u:HO):Prop:=H a=J u\/∃o,H a=J (.frz o u)
def Rd.ok{P}{w}{H}{h}{a}{u}(r:Rd H a u)(x:HOk P w H h):Zai P w H h a u:=by
 rcases r with r|⟨o,r⟩
 . exact x a u r
 . obtain⟨_,q⟩:=x a _ r;exact q
def Mut:Option HO->Prop
 |some (.lst _)=>True
 |some (.dK _)=>True
 |some (.dT _)=>True
 |some (.set _ _)=>True
 |some (.ins _ _ _)=>True
 |some (.ext _)=>True
 |_=>False
section
variable {P:Yi}{w:Yh}{H:Hp}{h h':YG}{x e:Yj}{o':HO}
def HOk.write(ok:HOk P w H h)(mu:Mut (H x))(he:e=x\/H e=J (.own x))(k:∀b u,b≠e->h.get? b=J u->h'.get? b=J u)(fH:∃u,h'.get? e=J u)
 (new:Zai P w (upd H x o') h' x o'):HOk P w (upd H x o') h':=λb u q=>by
 by_cases hb:b=x
 . subst hb;rw[Zj]at q;simp_all
 . rw[Zo hb]at q;by_cases hbe:b=e
   . have q':H b=J (.own x):=by simp_all
     rw[q]at q';cases q';obtain⟨v,hv⟩:=fH;exact⟨v,by simp_all⟩
   . refine(ok b u q).stay (λc v hc r=>k c v ?_ r) (λc r=>(Zo<|(λc y r z=>by subst z;rw[r]at mu;exact mu) c b r).I r) λc xs r=>(Zo<|(λc xs r z=>by subst z;rw[r]at mu;exact mu) c xs r).I r;rcases hc with rfl|hc
     . exact hbe
     . rintro rfl;rcases he with z|z
       . exact(λc y r z=>by subst z;rw[r]at mu;exact mu) c b hc z
       lia
end
structure Un(fs ex:List Yj)(H H':Hp)(h h':YG):Prop where
 keep:∀b o,h.get? b=J o->H b=M->b ∉ fs->b ∉ ex->h'.get? b=J o
 slot:∀b o,h.get? b=J o->H b=M->b∈fs->b ∉ ex->∃sl,h'.get? b=J {o with slots:=sl}
 free:∀b o,h.get? b=J o->H b=M->b ∉ ex->H' b=M
 there:∀b o,h.get? b=J o->b ∉ ex->∃o',h'.get? b=J o'
 tups:∀b xs,H b=J (.tup xs)->H' b=J (.tup xs)
 frzs:∀b o u,H b=J (.frz o u)->H' b=J (.frz o u)
 tbls:∀b ps,H b=J (.tbl ps)->∃more,H' b=J (.tbl<|ps++more)
section
variable {fs ex:List Yj}{H H1 H2:Hp}{h R h2 h':YG}{a x e:Yj}{o:HO}
def Un.any(u:Un fs ex H H1 h R)(q:h.get? b=J ob)(n:H b=M)(hx:b ∉ ex):∃sl,R.get? b=J {ob with slots:=sl}:=by
 by_cases a:b∈fs
 . exact u.slot b _ q n a hx
 . exact⟨_,u.keep b _ q n a hx⟩
def Un.I(a:Un fs ex H H1 h R)(b:Un fs ex H1 H2 R h2):Un fs ex H H2 h h2 where
 keep:=λc ob q n hc hx=>b.keep c _ (a.keep c _ q n hc hx) (a.free c _ q n hx) hc hx
 slot:=λc ob q n hc hx=>by obtain⟨sl,e1⟩:=a.slot c _ q n hc hx;obtain⟨eE,e2⟩:=b.slot c _ e1 (a.free c _ q n hx) hc hx;exact⟨_,e2⟩
 free:=λc ob q n hx=>by obtain⟨o',e1⟩:=a.there c _ q hx;exact b.free c _ e1 (a.free c _ q n hx) hx
 there:=λc ob q hx=>by obtain⟨o',e1⟩:=a.there c _ q hx;exact b.there c _ e1 hx
 tups:=λc xs q=>b.tups c _ (a.tups c _ q)
 frzs:=λc ob xs q=>b.frzs c _ _ (a.frzs c _ _ q)
 tbls:=λc ps q=>by obtain⟨m1,e1⟩:=a.tbls c _ q;obtain⟨m2,e2⟩:=b.tbls c _ e1;exact⟨m1++m2,by simp_all⟩
def Un.kept(k:∀b u,h.get? b=J u->h'.get? b=J u):Un fs ex H H h h':=⟨λb ob q _ _ _=>k b _ q,λb ob q _ _ _=>⟨_,k b ob q⟩,λ_ _ _ n _=>n,λb ob q _=>⟨_,k b _ q⟩,λ_ _ q=>q,λ_ _ _ q=>q,λ_ ps q=>⟨#[],by trivial⟩⟩
def Un.refl:Un fs ex H H h h:=Un.kept λ_ _ q=>q
def Un.laid(k:∀b u,h.get? b=J u->h'.get? b=J u)(hp:h.objs.size<=a)(hn:H a=M):Un fs ex H (upd H a o) h h' where
 keep:=λb u q _ _ _=>k b u q
 slot:=λb u q _ _ _=>⟨_,k b u q⟩
 free:=λb u q n _=>(Zo<|Ou<|Ot (Yn q) hp).I n
 there:=λb u q _=>⟨u,k b u q⟩
 tups:=λb xs q=>(Zo<|ZV q hn).I q
 frzs:=λb u xs q=>(Zo<|ZV q hn).I q
 tbls:=λb ps q=>⟨#[],by rw[Zo<|ZV q hn,q];simp⟩
def Un.write(mu:Mut (H x))(he:e=x\/H e=J (.own x))(k:∀b u,b≠e->h.get? b=J u->h'.get? b=J u)(fH:∃u,h'.get? e=J u):Un fs ex H (upd H x o) h h':=by
 have hx:∀b,H b=M->b≠x:=λb n z=>by subst z;rw[n]at mu;exact mu
 have hm:∀b u,H b=J u->¬ Mut (J u)->b≠x:=λb u q nm z=>by simp_all
 refine⟨λb u q n _ _=>k b u (λb n z=>by simp_all b n) q,λb u q n _ _=>⟨_,k b u (λb n z=>by simp_all b n) q⟩,λb u q n _=>(Zo<|hx b n).I n,λb u q _=>?_,
  λb c q=>(Zo<|hm b _ q λz=>z).I q,λb u c q=>(Zo<|hm b _ q λz=>z).I q,λb ps q=>⟨#[],by rw[Zo<|hm b _ q λz=>z,q];simp⟩⟩
 by_cases a:b=e
 . simp_all
 . exact⟨u,k b u a q⟩
end
def trk(h:YG)(H:Hp):List Yj:=(List.range h.objs.size).filter λa=>(H a).isSome
def ZpX(h:YG)(H:Hp):YG:=PySem.W.hideAll h (trk h H)
def ZpW(h)(H):(ZpX h H).objs.size=h.objs.size:=PySem.W.hideAll_size _ _
def ZlZ(e:h.get? b=J o)(n:H b=M):(ZpX h H).get? b=J o:=
 PySem.W.hideAll_get _ e λhm=>by
  have q:=(List.mem_filter.mp hm).2
  simp_all
def ZtV(e:(ZpX h H).get? b=J o):h.get? b=J o/\H b=M:=by
 have a:=PySem.W.of_hideAll _ e;refine⟨a,?_⟩;cases q:H b with
 |none=>rfl
 |some x=>
  have z:(ZpX h H).get? b=M:=PySem.W.hideAll_none _ (List.mem_filter.mpr ⟨List.mem_range.mpr<|Yn a,by simp[q]⟩)
  simp_all
structure Mod(K:Yl)(mg:Str->Option Yk)(base:YG):Prop where
 kin:K.In base
 glob:base.Ns Ye mg
 blt:∃mb,base.Ns builtinsNs mb/\∀x:Str,x ≠ "__name__" -> mb x=bootBuiltins x
 nolimit:base.NoLimit
structure Cx where
 prog:Yi
 w:Yh
 K:Yl
 mg:Str->Option Yk
 base:YG
 A:YH
 N:List Str
 s₀:Yb
 H₀:Hp
 env:Env
 outer:List Env
 stack:List Env
 ex:List Yj
 fn:Str->Bool
 calm:Bool
 pn:List (Yj×Obj)
 xe:Yk->Yb->Prop
noncomputable def frs(l:List Env):List Yj:=l.filterMap (·.frame)
abbrev Cx.fs(X:Cx):List Yj:=frs X.outer
def Vis(sc:Scope)(x:Str):Prop:=sc.names.lookup x=J .local\/sc.names.lookup x=J .cell\/sc.names.lookup x=J .free
def Loc(sc:Scope)(x:Str):Prop:=sc.names.lookup x=J .local\/sc.names.lookup x=J .cell
def Look(env:Env)(h:YG)(m:Str->Option Yk)(x:Str)(u:Yk):Prop:=(env.kindOf x=J .local/\m x=J u)\/((env.kindOf x=J .cell\/env.kindOf x=J .free)/\∃c,env.cells.lookup x=J c/\h.IsCell c (J u))
structure Cx.Ok(X:Cx):Prop where
 mod:Mod X.K X.mg X.base
 kind:X.env.scope.kind=.function
 glob:X.env.globals=Ye
 blt:X.env.builtins=builtinsNs
 above:X.s₀.heap.objs.size<=X.env.locals
 inj:∀x y c,X.env.cells.lookup x=J c->X.env.cells.lookup y=J c->x=y
 has:∀x,(X.env.kindOf x=J .cell\/X.env.kindOf x=J .free)->∃c,X.env.cells.lookup x=J c
 cab:∀x c,X.fn x=Wq->X.env.cells.lookup x=J c->X.s₀.heap.objs.size<=c
 hd:X.calm=Wq->X.A.handled=M
 frames:X.A.frames=J X.stack
 stk:X.stack=X.outer\/(X.stack=X.env::X.outer/\X.env.frame=J X.env.locals)
 exf:∀b∈X.ex,b≠X.env.locals/\∀x c,X.env.cells.lookup x=J c->c≠b
 bs:∀b o,X.base.get? b=J o->X.s₀.heap.get? b=J o/\X.H₀ b=M
 bsz:X.base.objs.size<=X.s₀.heap.objs.size
 noex:∀b o,X.base.get? b=J o->b ∉ X.ex
 exfs:∀b∈X.ex,b ∉ X.fs
 funs:X.s₀.heap.FunFrames X.base X.outer
 frf:∀b∈X.fs,X.H₀ b=M
structure Inv(X:Cx)(aa:List (Yj×Obj))(Z:List (Option V))(H:Hp)(s:Yb):Prop where
 ok:X.Ok
 os:s.os=X.s₀.os
 bare:AllBare s.gens
 base:Un X.fs X.ex X.H₀ H X.s₀.heap s.heap
 loc:∃m,s.heap.Ns X.env.locals m/\∀(i:Nat) (x:Str) (v:V),X.N[i]?=J x->Z[i]?=J (J v)->Vis X.env.scope x->∃u,RelV v u/\Look X.env s.heap m x u
 cell:∀x c,X.env.cells.lookup x=J c->∃v,s.heap.IsCell c v
 free:H X.env.locals=M
 freeC:∀x c,X.env.cells.lookup x=J c->H c=M
 pin:∀p∈X.pn++aa,s.heap.get? p.1=J p.2/\H p.1=M/\p.1≠X.env.locals/\p.1 ∉ X.fs/\∀v,p.2.data≠.cell v
 hok:HOk X.prog X.w H s.heap
 len:Z.length=X.N.length
section
variable {X:Cx}{aa:List (Yj×Obj)}{Z:List (Option V)}{H H':Hp}{s:Yb}{h':YG}
def Cx.Ok.nofr(ok:X.Ok)(e:X.base.get? b=J o):b ∉ X.fs:=λa=>by
 have:=(ok.funs.mem a).1
 simp_all
theorem Inv.bs(I:Inv X aa Z H s):∀b o,X.base.get? b=J o->s.heap.get? b=J o/\H b=M:=λb o e=>⟨I.base.keep b o (I.ok.bs b o e).1 (I.ok.bs b o e).2 (I.ok.nofr e)<|I.ok.noex b o e,I.base.free b o (I.ok.bs b o e).1 (I.ok.bs b o e).2<|I.ok.noex b o e⟩
def Inv.bk(I:Inv X aa Z H s):∀b o,X.base.get? b=J o->s.heap.get? b=J o:=λb o e=>(I.bs b o e).1
theorem Inv.mod(I:Inv X aa Z H s):Mod X.K X.mg X.base:=I.ok.mod
def Inv.kIn(I:Inv X aa Z H s):X.K.In s.heap:=I.ok.mod.kin.keeps I.bk
theorem Inv.lt(I:Inv X aa Z H s):X.env.locals<s.heap.objs.size:=let⟨_,a,_⟩:=I.loc;a.lt
def Inv.sz(I:Inv X aa Z H s):X.s₀.heap.objs.size<=s.heap.objs.size:=OE I.ok.above (Nat.le_of_lt I.lt)
def Inv.nofs(I:Inv X aa Z H s)(h:s.heap.objs.size<=a):a ∉ X.fs:=λhb=>by obtain⟨_,o,ho,_⟩:=I.ok.funs.mem hb;exact absurd (Ot (Yn ho)<|OE I.sz h) (Yw _)
def Inv.cne(I:Inv X aa Z H s):∀x c,X.env.cells.lookup x=J c->c≠X.env.locals:=λx c e z=>by
 obtain⟨v,o,a,b⟩:=I.cell x c e;obtain⟨m,⟨d,f,g,h,i,_⟩,_⟩:=I.loc
 simp_all
theorem Inv.funs(I:Inv X aa Z H s):s.heap.FunFrames X.base X.outer:=by
 have all:∀(l),(∀b∈frs l,b∈X.fs)->X.s₀.heap.FunFrames X.base l->s.heap.FunFrames X.base l:=by
  intro l;induction l with
  |nil=>intro _ _;trivial
  |cons env r ih=>rintro hs⟨hk,⟨L,o,hf,hn,ho,hd⟩,hr⟩;have hL:=hs L (by unfold frs;simp_all);obtain⟨sl,e⟩:=I.base.slot L o ho (I.ok.frf L hL) hL λz=>I.ok.exfs L z hL;exact⟨hk,⟨L,_,hf,hn,e,hd⟩,ih (λb hb=>hs b (by unfold frs;rw[List.filterMap_cons,hf];exact Oh _ hb)) hr⟩
 exact all _ (λ_ hb=>hb) I.ok.funs
theorem Inv.stack(I:Inv X aa Z H s):s.heap.FunFrames X.base X.stack:=by
 rcases I.ok.stk with e|⟨e,a⟩
 . rw[e];exact I.funs
 . rw[e];obtain⟨m,b,_⟩:=I.loc;exact .cons (by rw[I.ok.kind];decide) a b (Heap.get?_none_of_le<|OE I.ok.bsz I.ok.above) I.funs
def Inv.stkSub(I:Inv X aa Z H s):∀b∈frs X.stack,b∈X.env.locals::X.fs:=λb a=>by
 rcases I.ok.stk with e|⟨e,c⟩
 . simp_all
 . rw[e]at a;unfold frs at a;rw[List.filterMap_cons,c]at a;trivial
def Inv.stkFree(I:Inv X aa Z H s):∀b∈frs X.stack,H b=M:=λb hb=>by
 rcases O2.mp (I.stkSub b hb)with e|hb
 . rw[e];exact I.free
 . obtain⟨_,o,a,_⟩:=I.ok.funs.mem hb;exact I.base.free b o a (I.ok.frf b hb) λz=>I.ok.exfs b z hb
def Inv.step{g'}{t'}{d'}{ch:List _}(I:Inv X aa Z H s)
 (b8:∀b∈ch,(b∈X.ex\/X.s₀.heap.objs.size<=b)/\b≠X.env.locals/\(∀x c,X.env.cells.lookup x=J c->c≠b)/\∀p∈X.pn++aa,p.1≠b)
 (keep:∀b o,b≠X.env.locals->b ∉ X.fs->b ∉ ch->s.heap.get? b=J o->H b=M->h'.get? b=J o)
 (slot:∀b o,b≠X.env.locals->b∈X.fs->b ∉ ch->s.heap.get? b=J o->H b=M->∃sl,h'.get? b=J {o with slots:=sl}) (free:∀b o,b ∉ ch->s.heap.get? b=J o->H b=M->H' b=M)
 (there:∀b o,b ∉ ch->s.heap.get? b=J o->∃o',h'.get? b=J o')
 (tups:∀b xs,H b=J (.tup xs)->H' b=J (.tup xs)) (frzs:∀b o u,H b=J (.frz o u)->H' b=J (.frz o u)) (tbls:∀b ps,H b=J (.tbl ps)->∃more,H' b=J (.tbl<|ps++more))
 (ns:∀m,s.heap.Ns X.env.locals m->h'.Ns X.env.locals m) (hok:HOk X.prog X.w H' h') (hg:AllBare g') :
 Inv X aa Z H' {s with heap:=h',gens:=g',drawn:=d',toks:=t'}:=by
 have jj:∀b o,X.s₀.heap.get? b=J o->b≠X.env.locals:=λb o e=>Ou<|Ot (Yn e) I.ok.above;have gi:∀b o,X.s₀.heap.get? b=J o->b ∉ X.ex->b ∉ ch:=λb o e hx hb=>by
  rcases(b8 b hb).1 with z|z
  . exact hx z
  . exact absurd (Ot (Yn e) z) (Yw _)
 have cS:∀x c,X.env.cells.lookup x=J c->∀v,s.heap.IsCell c v->h'.IsCell c v:=λx c e v ⟨o,ho,hd⟩=>by
  have fc:c ∉ ch:=λz=>(b8 c z).2.2.1 x c e rfl;by_cases hc:c∈X.fs
  . obtain⟨sl,q⟩:=slot c o (I.cne x c e) hc fc ho<|I.freeC x c e;exact⟨_,q,hd⟩
  . exact⟨o,keep c o (I.cne x c e) hc fc ho<|I.freeC x c e,hd⟩
 refine⟨I.ok,I.os,hg,⟨λb o e n hb hx=>?_,λb o e n hb hx=>?_,λb o e n hx=>?_,λb o e hx=>?_,λb xs e=>tups b _<|I.base.tups b _ e,λb o xs e=>frzs b o _<|I.base.frzs b o _ e,λb ps e=>?_⟩,?_,λx c e=>?_,?_,λx c e=>?_,λp hp=>?_,hok,I.len⟩
 . exact keep b o (jj b o e) hb (gi b o e hx) (I.base.keep b o e n hb hx) (I.base.free b o e n hx)
 . obtain⟨sl,e1⟩:=I.base.slot b o e n hb hx;obtain⟨eE,e2⟩:=slot b _ (jj b o e) hb (gi b o e hx) e1<|I.base.free b o e n hx;exact⟨eE,e2⟩
 . obtain⟨o',e1⟩:=I.base.there b o e hx;exact free b o' (gi b o e hx) e1 (I.base.free b o e n hx)
 . obtain⟨o',e1⟩:=I.base.there b o e hx;exact there b o' (gi b o e hx) e1
 . obtain⟨m1,e1⟩:=I.base.tbls b ps e;obtain⟨m2,e2⟩:=tbls b _ e1;exact⟨m1++m2,by rw[e2,Array.append_assoc]⟩
 . obtain⟨m,hn,hl⟩:=I.loc;refine⟨m,ns m hn,λi x v e1 e2 e3=>?_⟩;obtain⟨u,r,l⟩:=hl i x v e1 e2 e3;refine⟨u,r,?_⟩;rcases l with l|⟨k,c,e,z⟩
   . exact .inl l
   . exact .inr ⟨k,c,e,cS x c e _ z⟩
 . obtain⟨v,z⟩:=I.cell x c e;exact⟨v,cS x c e v z⟩
 . obtain⟨m,⟨o,_,_,ho,_⟩,_⟩:=I.loc;exact free _ o (λz=>(b8 _ z).2.1 rfl) ho I.free
 . obtain⟨v,o,ho,hd⟩:=I.cell x c e;exact free c o (λz=>(b8 c z).2.2.1 x c e rfl) ho (I.freeC x c e)
 . obtain⟨e,n,ne,nf,d⟩:=I.pin p hp;have fc:p.1 ∉ ch:=λz=>(b8 p.1 z).2.2.2 p hp rfl;exact⟨keep p.1 p.2 ne nf fc e n,free p.1 p.2 fc e n,ne,nf,d⟩
theorem Inv.un{t'}(I:Inv X aa Z H s)(u:Un X.fs [] H H' s.heap h')(hok:HOk X.prog X.w H' h'):Inv X aa Z H' {s with heap:=h',toks:=t'}:=by
 obtain⟨m,⟨o,h,i,c,r⟩,_⟩:=id I.loc;obtain⟨j,f⟩:=u.any c I.free (by simp);exact I.step (ch:=[]) (λ_ z=>nomatch z) (λb o _ a _ e n=>u.keep b o e n a<|by simp) (λb o _ a _ e n=>u.slot b o e n a<|by simp) (λb o _ e n=>u.free b o e n<|by simp) (λb o _ e=>u.there b o e<|by simp) u.tups u.frzs u.tbls (λk hm=>by
   obtain⟨l,p,q,d,g⟩:=hm;rw [c] at d;cases d;exact⟨_,_,_,f,g⟩) hok I.bare
theorem Inv.call{g'}{t'}{d'}{ch}(I:Inv X aa Z H s)(u:Un (frs X.stack) ch H H' s.heap h')(hok:HOk X.prog X.w H' h')(hg:AllBare g')
   (b8:∀ b∈ch,(b∈X.ex\/X.s₀.heap.objs.size<=b)/\b≠X.env.locals/\(∀ x c,X.env.cells.lookup x=J c->c≠b)/\∀ p∈X.pn++aa,p.1≠b) :
   Inv X aa Z H' {s with heap:=h',gens:=g',drawn:=d',toks:=t'}:=by
 obtain⟨m,⟨o,j,k,f,r⟩,_⟩:=id I.loc;obtain⟨l,d⟩:=u.any f I.free λz=>(b8 _ z).2.1 rfl;exact I.step b8 (λb o d h a e n=>u.keep b o e n (λz=>(O2.mp<|I.stkSub b z).elim d h) a) (λb o _ _ a e n=>u.any e n a) (λb o a e n=>u.free b o e n a) (λb o a e=>u.there b o e a) u.tups u.frzs u.tbls (λq hm=>by
   obtain⟨t,v,y,g,i⟩:=hm;rw [f] at g;cases g;exact⟨_,_,_,d,i⟩) hok hg
def Inv.turned{t'}{it}(I:Inv X aa Z H s)(k:∀b o,b≠it->s.heap.get? b=J o->h'.get? b=J o)(hn:H it=M)(hL:it≠X.env.locals)
 (R:it∈X.ex\/X.s₀.heap.objs.size<=it) (h2:∀x c,X.env.cells.lookup x=J c->c≠it) (h3:∀p∈X.pn++aa,p.1≠it):Inv X aa Z H {s with heap:=h',toks:=t'}:=by
 have d:∀b u,H b=J u->b≠it:=λb u e z=>by simp_all
 refine I.step (ch:=[it]) (λb f=>?_) (λb o _ _ a e _=>k b o (λz=>a<|by simp[z]) e) (λb o _ _ a e _=>⟨_,k b o (λz=>a<|by simp[z]) e⟩) (λ_ _ _ _ n=>n)
  (λb o a e=>⟨o,k b o (λz=>a<|by simp[z]) e⟩) (λ_ _ e=>e) (λ_ _ _ e=>e) (λb ps e=>⟨#[],by trivial⟩) (λm hm=>?_) (λb u e=>?_) I.bare
 . cases by simpa using f
   trivial
 . obtain⟨o,h,i,g,r⟩:=hm;exact⟨o,_,_,k _ o (YL hL) g,r⟩
 . refine(I.hok b u e).stay (λc v a q=>k c v ?_ q) (λ_ q=>q) λ_ _ q=>q;rcases a with z|z
   . rw[z];exact d b u e
   . exact d c _ z
def Inv.tok(I:Inv X aa Z H s)(t):Inv X aa Z H {s with toks:=t}:=I.un Un.refl I.hok
theorem Inv.kept{t'}(I:Inv X aa Z H s)(k:∀b u,s.heap.get? b=J u->h'.get? b=J u):Inv X aa Z H {s with heap:=h',toks:=t'}:=I.un (Un.kept k) (I.hok.kept k)
theorem Inv.laid{a:Yj}{o}{t'}(I:Inv X aa Z H s)(k:∀b u,s.heap.get? b=J u->h'.get? b=J u)(hp:s.heap.objs.size<=a)(new:Zai X.prog X.w (upd H a o) h' a o):
 Inv X aa Z (upd H a o) {s with heap:=h',toks:=t'}:=I.un (Un.laid k hp<|I.hok.fresh hp) (I.hok.laid k hp new)
theorem Inv.write(I:Inv X aa Z H s)(mu:Mut (H x))(he:e=x\/H e=J (.own x))(k:∀b u,b≠e->s.heap.get? b=J u->h'.get? b=J u)(fH:∃u,h'.get? e=J u)
 (new:Zai X.prog X.w (upd H x o) h' x o):Inv X aa Z (upd H x o) {s with heap:=h',toks:=t'}:=I.un (Un.write mu he k fH) (I.hok.write mu he k fH new)
def Inv.weak(I:Inv X aa Z H s)(hl:σ'.length=Z.length)(w:∀(i:Nat) v,σ'[i]?=J (J v)->Z[i]?=J (J v)):Inv X aa σ' H s:=⟨I.ok,I.os,I.bare,I.base,let⟨m,b,a⟩:=I.loc;⟨m,b,λi x v c d e=>a i x v c (w i v d) e⟩,I.cell,I.free,I.freeC,I.pin,I.hok,hl.I I.len⟩
def Inv.pins_of(I:Inv X aa Z H s)(h:∀p∈eY,s.heap.get? p.1=J p.2/\H p.1=M/\p.1≠X.env.locals/\p.1 ∉ X.fs/\∀v,p.2.data≠.cell v):Inv X eY Z H s:=⟨I.ok,I.os,I.bare,I.base,I.loc,I.cell,I.free,I.freeC,λp a=>(OD.mp a).elim (λz=>I.pin p<|Ys _ z)<|h p,I.hok,I.len⟩
def ZlN{N:List Str}(hN:N.Nodup){i j:Nat}{x}(a:N[i]?=J x)(b:N[j]?=J x):i=j:=by obtain⟨R,c⟩:=Ob.mp a;obtain⟨e,d⟩:=Ob.mp b;exact(List.getElem_inj hN).mp (c.I d.symm)
def ZjP{qb:Model}{A:YH}{Q:Unit->Yb->Prop}(I:Inv X aa Z H s)(hN:X.N.Nodup)(hi:X.N[i]?=J x)(hx:Loc X.env.scope x)(r:RelV v u)
 (h:∀s',Inv X aa (Z.set i<|J v) H s'->(∃a,Heap.SameBut a s.heap s'.heap/\(a=X.env.locals\/X.env.cells.lookup x=J a))->Q () s') (hf:X.fn x=Wq\/X.env.scope.names.lookup x=J .local:=by first|exact .inl rfl|exact .inr rfl|assumption):YB qb A (storeName X.env x u) Q E s:=by
 obtain⟨m,hn,hl⟩:=id I.loc;have hiσ:i<Z.length:=I.len▸(Ob.mp hi).1;have bF:∀{a:Yj}{h':YG},(∃o,s.heap.get? a=J o/\H a=M)->Heap.SameBut a _ _->HOk _ _ H h':=λ{a h'} ha hs b ob e=>by
  obtain⟨_,_,fE⟩:=ha;refine(I.hok b _ e).stay (λc w' hc q=>(hs.2 c ?_).I q) (λ_ q=>q) λ_ _ q=>q
  lia
 rcases hx with hk|hk
 . refine wpAny_storeName_local hk hn (λh' lM hs=>?_) (by rw[I.ok.kind];rfl);obtain⟨oL,_,_,lF,_⟩:=id hn;refine h _ ⟨I.ok,I.os,I.bare,⟨λb o e n hb hx=>?_,λb o e n hb hx=>?_,I.base.free,λb o e hx=>?_,I.base.tups,I.base.frzs,I.base.tbls⟩,⟨_,lM,λj y v' e1 e2 e3=>?_⟩,λy c e=>?_,I.free,I.freeC,λp hp=>?_,bF ⟨_,lF,I.free⟩ hs,by simpa using I.len⟩ ⟨_,hs,.inl rfl⟩
   . exact(hs.2 b<|Ou<|Ot (Yn e) I.ok.above).I (I.base.keep b o e n hb hx)
   . obtain⟨sl,e1⟩:=I.base.slot b o e n hb hx;exact⟨sl,(hs.2 b<|Ou<|Ot (Yn e) I.ok.above).I e1⟩
   . obtain⟨o',e1⟩:=I.base.there b o e hx;exact⟨o',(hs.2 b<|Ou<|Ot (Yn e) I.ok.above).I e1⟩
   . by_cases hj:j=i
     . subst hj;rw[hi]at e1;cases e1;rw[Ol hiσ]at e2;cases e2;exact⟨u,r,.inl ⟨hk,by simp⟩⟩
     . rw[Oc<|YL hj]at e2;obtain⟨u',r',q⟩:=hl j y v' e1 e2 e3;refine⟨u',r',?_⟩;rcases q with⟨k,e⟩|⟨k,c,e,z⟩
       . refine .inl ⟨k,?_⟩;have:y≠x:=λe=>hj<|ZlN hN e1<|e▸hi;simp[this,e]
       . exact .inr ⟨k,c,e,z.sameBut hs<|I.cne y c e⟩
   . obtain⟨w',z⟩:=I.cell y c e;exact⟨w',z.sameBut hs<|I.cne y c e⟩
   . obtain⟨e,n,ne,nf,d⟩:=I.pin p hp;exact⟨(hs.2 p.1 ne).I e,n,ne,nf,d⟩
 . have iL:X.fn x=Wq:=by
    rcases hf with z|z
    . exact z
    . rw[z]at hk;cases hk
   obtain⟨c,hc⟩:=I.ok.has x<|.inl hk;obtain⟨w',z⟩:=I.cell x c hc;refine wpAny_storeName_cell I.ok.kind hk hc z<|λh' dL hs=>?_;obtain⟨oc,gt,iy⟩:=id z;refine h {s with heap:=h'} ⟨I.ok,I.os,I.bare,⟨λb o e n hb hx=>?_,λb o e n hb hx=>?_,I.base.free,λb o e hx=>?_,I.base.tups,I.base.frzs,I.base.tbls⟩,⟨m,hn.sameBut hs<|YL<|I.cne x c hc,λj y v' e1 e2 e3=>?_⟩,λy c' e=>?_,I.free,I.freeC,λp hp=>?_,bF ⟨oc,gt,I.freeC x c hc⟩ hs,by simpa using I.len⟩ ⟨c,hs,.inr hc⟩
   . exact(hs.2 b<|Ou<|Ot (Yn e)<|I.ok.cab x c iL hc).I (I.base.keep b o e n hb hx)
   . obtain⟨sl,e1⟩:=I.base.slot b o e n hb hx;exact⟨sl,(hs.2 b<|Ou<|Ot (Yn e)<|I.ok.cab x c iL hc).I e1⟩
   . obtain⟨o',e1⟩:=I.base.there b o e hx;exact⟨o',(hs.2 b<|Ou<|Ot (Yn e)<|I.ok.cab x c iL hc).I e1⟩
   . by_cases hj:j=i
     . subst hj;rw[hi]at e1;cases e1;rw[Ol hiσ]at e2;cases e2;exact⟨u,r,.inr ⟨.inl hk,c,hc,dL⟩⟩
     . rw[Oc<|YL hj]at e2;obtain⟨u',r',q⟩:=hl j y v' e1 e2 e3;refine⟨u',r',?_⟩;rcases q with q|⟨k,c',e,z'⟩
       . exact .inl q
       . refine .inr ⟨k,c',e,z'.sameBut hs ?_⟩;rintro rfl;exact hj (ZlN hN e1<|I.ok.inj _ _ _ e hc▸hi)
   . by_cases hcc:c'=c
     . subst hcc;exact⟨_,dL⟩
     . obtain⟨w2,z2⟩:=I.cell y c' e;exact⟨w2,z2.sameBut hs hcc⟩
   . obtain⟨e,n,ne,nf,d⟩:=I.pin p hp;refine⟨(hs.2 p.1 ?_).I e,n,ne,nf,d⟩;intro q;rw[q,gt]at e;exact d w' (YF e▸iy)
def Zie(I:Inv X aa Z H s)(hN:X.N.Nodup)(hi:X.N[i]?=J x)(hx:Loc X.env.scope x)(r:RelV v u)
 (h:∀s',Inv X aa (Z.set i<|J v) H s'->Q () s') (hf:X.fn x=Wq\/X.env.scope.names.lookup x=J .local:=by first|exact .inl rfl|exact .inr rfl|assumption):YB qb A (storeName X.env x u) Q E s:=
 ZjP I hN hi hx r (λs' I' _=>h _ I') hf
def Inv.call'(I:Inv X aa Z H s)(ho:s'.os=s.os)(u:Un (frs X.stack) ch H H' s.heap s'.heap)(hok:HOk X.prog X.w H' s'.heap)(hg:AllBare s'.gens)
 (b8:∀b∈ch,(b∈X.ex\/X.s₀.heap.objs.size<=b)/\b≠X.env.locals/\(∀x c,X.env.cells.lookup x=J c->c≠b)/\∀p∈X.pn++aa,p.1≠b):Inv X aa Z H' s':=by
 obtain⟨a,d,e,f,g⟩:=s';subst ho;exact I.call u hok hg b8
end
abbrev XK:=Yk->Option Yj->Hp->Prop
noncomputable abbrev St:=List (Option V)
abbrev VK:=V->Hp->Prop
abbrev TE:=St->Hp->VK->Prop
abbrev TT:=St->Hp->(Bool->Hp->Prop)->Prop
abbrev TA:=St->Hp->(List V->Hp->Prop)->Prop
structure Ends where
 nx:St->Hp->Prop
 rt:VK
 bk:St->Hp->Prop:=λ_ _=>False
 ct:St->Hp->Prop:=λ_ _=>False
abbrev TS:=Ends->St->Hp->Prop
def EP(X:Cx)(aa:List (Yj×Obj))(Z:St)(Q:VK)(u:Yk)(s':Yb):Prop:=∃v H',Inv X aa Z H' s'/\RelV v u/\Q v H'
def TP(X:Cx)(aa:List (Yj×Obj))(Z:St)(Q:Bool->Hp->Prop)(b:Bool)(s':Yb):Prop:=∃H',Inv X aa Z H' s'/\Q b H'
def AP(X:Cx)(aa:List (Yj×Obj))(Z:St)(Q:List V->Hp->Prop)(us:List Yk)(s':Yb):Prop:=∃vs H',Inv X aa Z H' s'/\Zs vs us/\Q vs H'
def SP(X:Cx)(aa:List (Yj×Obj))(D:Ends)(f:Flow)(s':Yb):Prop:=
 match f with
 |.next=>∃σ' H',Inv X aa σ' H' s'/\D.nx σ' H'
 |.brk=>∃σ' H',Inv X aa σ' H' s'/\D.bk σ' H'
 |.cont=>∃σ' H',Inv X aa σ' H' s'/\D.ct σ' H'
 |.ret u=>∃v σ' H',Inv X aa σ' H' s'/\RelV v u/\D.rt v H'
def PE(X:Cx)(e:Expr)(t:TE):Prop:=∀(aa:List (Yj×Obj)) (s:Yb) (Z:St) (H:Hp) (Q:VK),Inv X aa Z H s->t Z H Q->YB (model X.prog X.w) X.A (eval e X.env) (EP X aa Z Q) X.xe s
def PT(X:Cx)(e:Expr)(t:TT):Prop:=∀(aa:List (Yj×Obj)) (s:Yb) (Z:St) (H:Hp) (Q:Bool->Hp->Prop),Inv X aa Z H s->t Z H Q->YB (model X.prog X.w) X.A (isTrue e X.env<|eval e X.env) (TP X aa Z Q) X.xe s
def PW(X:Cx)(e:Expr)(t:TT):Prop:=∀(aG:Sem Yk) (aa:List (Yj×Obj)) (s:Yb) (Z:St) (H:Hp) (Q:Bool->Hp->Prop),Inv X aa Z H s->t Z H Q->YB (model X.prog X.w) X.A (isTrue e X.env aG) (TP X aa Z Q) X.xe s
def PW.pt(h:PW X e t):PT X e t:=h _
def PA(X:Cx)(es:List Expr)(t:TA):Prop:=∀(pos:Pos) (aa:List (Yj×Obj)) (s:Yb) (Z:St) (H:Hp) (Q:List V->Hp->Prop),Inv X aa Z H s->t Z H Q->YB (model X.prog X.w) X.A (spliced<|YS pos<|YA es X.env) (AP X aa Z Q) X.xe s
def PS(X:Cx)(st:Stmt)(t:TS):Prop:=∀(aa:List (Yj×Obj)) (s:Yb) (Z:St) (H:Hp) (D:Ends),Inv X aa Z H s->t D Z H->YB (model X.prog X.w) X.A (exec st X.env) (SP X aa D) X.xe s
def PSs(X:Cx)(st:List Stmt)(t:TS):Prop:=∀(aa:List (Yj×Obj)) (s:Yb) (Z:St) (H:Hp) (D:Ends),Inv X aa Z H s->t D Z H->YB (model X.prog X.w) X.A (execs st X.env) (SP X aa D) X.xe s
def thn(h:YB qb A t Q E s)(hQ:∀a s,Q a s->Q' a s):YB qb A t Q' E s:=Yg h hQ λ_ _ x=>x
section
variable {X:Cx}
noncomputable def ZAN(i:Nat):TE:=λZ H Q=>∃v,Z[i]?=J (J v)/\Q v H
noncomputable def tC(v:V):TE:=λ_ H Q=>Q v H
def Zwm(hN:X.N[i]?=J x)(hv:Vis X.env.scope x)(hd:(x == "__debug__")=Ws:=by decide)(b9:(x == "__classdict__")=Ws:=by decide):PE X (.Name x pos) (ZAN i):=by
 rintro aa s Z H Q I⟨v,e,h⟩;obtain⟨m,hn,hl⟩:=I.loc;obtain⟨u,r,l⟩:=hl i x v hN e hv;have fin:EP X _ _ Q u s:=⟨v,H,I,r,h⟩
 rcases l with⟨hk,hm⟩|⟨hk,c,hc,aL⟩
 . exact wpAny_Name (wpAny_loadName_local I.ok.kind hk hn hm fin) hd
 . rcases hk with hk|hk
   . exact wpAny_Name (wpAny_loadName_cell I.ok.kind hk hc aL fin) hd
   . exact wpAny_Name (wpAny_loadName_free I.ok.kind hk hc aL fin b9) hd
def Zws{i j pos}:PE X (.Constant (.int i) j pos) (tC<|.int i):=λ_ _ _ H _ I h=>wpAny_Constant_int ⟨.int i,H,I.tok _,⟨_,rfl⟩,h⟩
def Zva{b j pos}:PE X (.Constant (.bool b) j pos) (tC<|.bl b):=λ_ _ _ H _ I h=>Constant_bool ⟨.bl b,H,I,rfl,h⟩
def Zwq{j pos}:PE X (.Constant .none j pos) (tC .non):=λ_ _ _ H _ I h=>Constant_none ⟨.non,H,I,rfl,h⟩
def Zwo{x j pos}:PE X (.Constant (.str x) j pos) (tC<|.str x):=λ_ _ _ H _ I h=>Calls.Constant_str ⟨.str x,H,I.tok _,⟨_,rfl⟩,h⟩
def Gl(X:Cx)(x:Str):Prop:=X.env.kindOf x=J .globalImplicit
def Zdg(I:Inv X aa Z H s)(hg:Gl X x)(hm:X.mg x=J u)(h:Q u s)
 (hd:(x == "__debug__")=Ws:=by decide):YB (model X.prog X.w) X.A (eval (.Name x pos) X.env) Q E s:=
 Calls.Name_function_global I.ok.kind hg (Calls.loadGlobal_global (I.ok.glob▸I.mod.glob.keeps I.bk) hm h) hd
def ZcK(I:Inv X aa Z H s)(hg:Gl X x)(hm:X.mg x=M)(hv:bootBuiltins x=J u)(h:Q u s)
 (hn:x ≠ "__name__" := by decide) (hd:(x == "__debug__")=Ws:=by decide):YB (model X.prog X.w) X.A (eval (.Name x pos) X.env) Q E s:=by
 obtain⟨b,R,a⟩:=I.mod.blt;exact Calls.Name_function_global I.ok.kind hg (Calls.loadGlobal_builtin (I.ok.glob▸I.mod.glob.keeps I.bk) hm (I.ok.blt▸R.keeps I.bk) ((a x hn).I hv) h) hd
def Ztw(hg:Gl X x)(hm:X.mg x=J u)(r:RelV v u)(hd:(x == "__debug__")=Ws:=by decide):PE X (.Name x pos) (tC v):=λ_ _ _ H _ I h=>Zdg I hg hm ⟨v,H,I,r,h⟩ hd
def ZtA(hg:Gl X x)(hm:X.mg x=M)(hv:bootBuiltins x=J u)(r:RelV v u)(hn:x ≠ "__name__" := by decide)(hd:(x == "__debug__")=Ws:=by decide):PE X (.Name x pos) (tC v):=λ_ _ _ H _ I h=>ZcK I hg hm hv ⟨v,H,I,r,h⟩ hn hd
variable {a b:Expr}{ta tb:TE}{pos:Pos}
variable {tA f9:TT}{ac:List Expr}
noncomputable def ZA0(t u:TT):TT:=λZ H Q=>t Z H λc H1=>if c=Wq then u Z H1 Q else Q Ws H1
noncomputable def tOr(t u:TT):TT:=λZ H Q=>t Z H λc H1=>if c=Wq then Q Wq H1 else u Z H1 Q
noncomputable def ZAS(t:TT):TT:=λZ H Q=>t Z H λc H1=>Q (!c) H1
def Ztg(ha:PT X a tA):PW X (.BoolOp .And [a] pos) tA:=by
 intro b d s Z H Q I h;refine isTrue_and<|thn (ha _ s _ H Q I h) λc f e=>?_;cases c with
 |true=>exact isTrue_and_nil e
 |false=>exact e
def Zwb(ha:PT X a tA):PW X (.BoolOp .Or [a] pos) tA:=by
 intro b d s Z H Q I h;refine isTrue_or<|thn (ha _ s _ H Q I h) λc f e=>?_;cases c with
 |false=>exact isTrue_or_nil e
 |true=>exact e
def Zwc(ha:PT X a tA)(hb:PW X (.BoolOp .And (b::ac) pos) f9):PW X (.BoolOp .And (a::b::ac) pos) (ZA0 tA f9):=by
 intro e f s Z H Q I h;refine isTrue_and<|thn (ha _ s _ H _ I h) λc g ⟨H1,I1,d⟩=>?_;cases c with
 |true=>exact hb _ _ _ _ _ Q I1 d
 |false=>trivial
def Zy7(ha:PT X a tA)(hb:PW X (.BoolOp .Or (b::ac) pos) f9):PW X (.BoolOp .Or (a::b::ac) pos) (tOr tA f9):=by
 intro e f s Z H Q I h;refine isTrue_or<|thn (ha _ s _ H _ I h) λc g ⟨H1,I1,d⟩=>?_;cases c with
 |true=>trivial
 |false=>exact hb _ _ _ _ _ Q I1 d
def Zwe(ha:PT X a tA):PT X (.UnaryOp .Not a pos) (ZAS tA):=by intro b s Z H Q I h;exact isTrue_not (ha _ s _ H _ I h)
def ZyL(ta tb:TE):TE:=λZ H Q=>ta Z H λx H1=>∃c,x=.bl c/\if c=Wq then tb Z H1 Q else Q (.bl Ws) H1
def ZAR(ta tb:TE):TE:=λZ H Q=>ta Z H λx H1=>∃c,x=.bl c/\if c=Wq then Q (.bl Wq) H1 else tb Z H1 Q
noncomputable def ZyE(ta:TE):TE:=λZ H Q=>ta Z H λx H1=>∃c,x=.bl c/\Q (.bl<|!c) H1
def Zri{op}(h:PE X a t):PE X (.BoolOp op [a] pos) t:=λc s Z H Q I b=>BoolOp_one (h _ s _ H Q I b)
def Zww(ha:PE X a ta)(hb:PE X (.BoolOp .And (b::ac) pos) tb):PE X (.BoolOp .And (a::b::ac) pos) (ZyL ta tb):=by
 intro g s Z H Q I h;refine BoolOp_and<|thn (ha _ s _ H _ I h) λv i e=>?_;obtain⟨x,H1,I1,f,d⟩:=e;obtain⟨c,rfl,d⟩:=d;cases f;refine wpAny_truthy_bool ?_;cases c with
 |true=>exact hb _ _ _ _ Q I1 d
 |false=>exact⟨.bl _,_,I1,rfl,d⟩
def Zzd(ha:PE X a ta)(hb:PE X (.BoolOp .Or (b::ac) pos) tb):PE X (.BoolOp .Or (a::b::ac) pos) (ZAR ta tb):=by
 intro g s Z H Q I h;refine BoolOp_or<|thn (ha _ s _ H _ I h) λv i e=>?_;obtain⟨x,H1,I1,f,d⟩:=e;obtain⟨c,rfl,d⟩:=d;cases f;refine wpAny_truthy_bool ?_;cases c with
 |false=>exact hb _ _ _ _ Q I1 d
 |true=>exact⟨.bl _,_,I1,rfl,d⟩
def Zwp(ha:PE X a ta):PE X (.UnaryOp .Not a pos) (ZyE ta):=by intro aa s Z H Q I h;refine UnaryOp_<|thn (ha _ s _ H _ I h) λv s1 z9=>?_;obtain⟨x,H1,I1,r1,q1⟩:=z9;obtain⟨c,rfl,q1⟩:=q1;cases r1;exact not_of (wpAny_truthy_bool ⟨.bl _,_,I1,rfl,q1⟩)
def tIf(t:TT)(ta tb:TE):TE:=λZ H Q=>t Z H λc H1=>if c=Wq then ta Z H1 Q else tb Z H1 Q
def Zrl(hc:PT X c tA)(ha:PE X a ta)(hb:PE X b tb):PE X (.IfExp c a b pos) (tIf tA ta tb):=by
 intro g s Z H Q I h;refine wpAny_IfExp<|thn (hc _ s _ H _ I h) λd i f=>?_;obtain⟨H1,I1,e⟩:=f;cases d with
 |true=>exact ha _ _ _ _ Q I1 e
 |false=>exact hb _ _ _ _ Q I1 e
end
def SqL(K:Yl)(H:Hp)(a:Yj)(xs:List V):Prop:=
 Rd H a (.lst xs) \/
  ∃(o:Obj) (b:Array Yk) (n:Nat),K.lookup a=J o/\o.cls=.type "list" /\ o.dict=M/\o.data=.seq b n/\b.size<=Yc/\Zs xs b.toList
def SqT(K:Yl)(H:Hp)(a:Yj)(xs:List V):Prop:=
 Rd H a (.tup xs) \/
  ∃(o:Obj) (b:Array Yk) (n:Nat),K.lookup a=J o/\o.cls=.type "tuple" /\ o.data=.seq b n/\b.size<=Yc/\Zs xs b.toList
noncomputable def ZBQ:Yk->Option V
 |.none=>J .non
 |.bool b=>J (.bl b)
 |.int i _=>J (.int i)
 |.str x _=>J (.str x)
 |.bytes b _=>J (.byt b)
 |.float b _=>J (.flt b)
 |.ref a=>J (.ref a)
 |.type n=>J (.ty n)
 |_=>M
def RelV.abs(r:RelV x u):ZBQ u=J x:=by
 cases x with
 |non=>cases r;rfl
 |bl _=>cases r;rfl
 |int _=>obtain⟨t,rfl⟩:=r;rfl
 |str _=>obtain⟨t,rfl⟩:=r;rfl
 |byt _=>obtain⟨t,rfl⟩:=r;rfl
 |flt _=>obtain⟨t,rfl⟩:=r;rfl
 |ref _=>cases r;rfl
 |ty _=>cases r;rfl
def RelV.inj(r:RelV x u)(q:RelV y u):x=y:=YF (r.abs.symm.I q.abs)
theorem Zs.inj:∀{xs ys}{us},Zs xs us->Zs ys us->xs=ys
 |_,_,_,.nil,.nil=>rfl
 |_,_,_,.cons r t,.cons a b=>by rw[r.inj a,Zs.inj t b]
section
variable {X:Cx}{aa:List (Yj×Obj)}{Z:St}{H:Hp}{s:Yb}{a:Yj}{xs ys:List V}
def SqL.of{K}(h:H a=J (.lst xs)):SqL K H a xs:=.inl (.inl h)
def Inv.list(I:Inv X aa Z H s)(h:SqL X.K H a xs):∃its:List _,Zs xs its/\PlainL s.heap a its.toArray/\xs.length<=Yc:=by
 rcases h with h|⟨o,its,n,b,c,d,f,g,r⟩
 . obtain⟨z,its,n,r,e⟩:=h.ok I.hok;exact⟨_,r,⟨_,n,e,rfl,rfl,rfl⟩,z⟩
 . refine⟨_,r,⟨o,n,I.kIn a o b,c,d,by trivial⟩,?_⟩;have e:=r.length
   simp_all
def Inv.tuple(I:Inv X aa Z H s)(h:SqT X.K H a xs):∃its:List _,Zs xs its/\IsTup s.heap a its.toArray/\xs.length<=Yc:=by
 rcases h with h|⟨o,its,n,b,c,d,f,r⟩
 . obtain⟨z,its,r,p⟩:=h.ok I.hok;exact⟨_,r,p.tup,z⟩
 . refine⟨_,r,⟨o,I.kIn a o b,c,n,by trivial⟩,?_⟩;have e:=r.length
   simp_all
def Inv.list_inj(I:Inv X aa Z H s)(h:SqL X.K H a xs)(h':SqL X.K H a ys):xs=ys:=by
 obtain⟨f,r,⟨o,n,e,_,_,d⟩,_⟩:=I.list h;obtain⟨j,g,⟨k,l,b,_,_,c⟩,_⟩:=I.list h';rw[e]at b;cases b;rw[d]at c;injection c with i _;have:=by simpa using congrArg Array.toList i
 subst this;exact r.inj g
def Inv.tuple_inj(I:Inv X aa Z H s)(h:SqT X.K H a xs)(h':SqT X.K H a ys):xs=ys:=by
 obtain⟨f,r,⟨o,e,_,n,d⟩,_⟩:=I.tuple h;obtain⟨j,g,⟨k,b,_,l,c⟩,_⟩:=I.tuple h';rw[e]at b;cases b;rw[d]at c;injection c with i _;have:=by simpa using congrArg Array.toList i
 subst this;exact r.inj g
end
noncomputable abbrev Cx.wish(X:Cx)(E:Yk->Yb->Prop):Cx:={X with xe:=E}
abbrev Cx.nox(X:Cx):Cx:=X.wish λ_ _=>False
theorem Cx.Ok.wish{X:Cx}(ok:X.Ok)(E):(X.wish E).Ok:=⟨ok.mod,ok.kind,ok.glob,ok.blt,ok.above,ok.inj,ok.has,ok.cab,ok.hd,ok.frames,ok.stk,ok.exf,ok.bs,ok.bsz,ok.noex,ok.exfs,ok.funs,ok.frf⟩
def Cx.Ok.unwish{X:Cx}{E}(ok:(X.wish E).Ok):X.Ok:=⟨ok.mod,ok.kind,ok.glob,ok.blt,ok.above,ok.inj,ok.has,ok.cab,ok.hd,ok.frames,ok.stk,ok.exf,ok.bs,ok.bsz,ok.noex,ok.exfs,ok.funs,ok.frf⟩
section
variable {X:Cx}{aa:List (Yj×Obj)}{Z:St}{H:Hp}{s:Yb}{E:Yk->Yb->Prop}
theorem Inv.wish(I:Inv X aa Z H s)(E):Inv (X.wish E) aa Z H s:=⟨I.ok.wish E,I.os,I.bare,I.base,I.loc,I.cell,I.free,I.freeC,I.pin,I.hok,I.len⟩
theorem Inv.unwish(I:Inv (X.wish E) aa Z H s):Inv X aa Z H s:=⟨I.ok.unwish,I.os,I.bare,I.base,I.loc,I.cell,I.free,I.freeC,I.pin,I.hok,I.len⟩
end
section
variable {X:Cx}{st:Stmt}{ac:List Stmt}{t u:TS}{e:Expr}{te:TE}{pos:Pos}
noncomputable def Zu2:TS:=λD Z H=>D.nx Z H
noncomputable def ZAP(t u:TS):TS:=λD Z H=>t {D with nx:=u D} Z H
def Ztj:PSs X [] Zu2:=λ_ _ Z H _ I h=>wpAny_execs_nil ⟨_,H,I,h⟩
def Zq5(R:PS X st t)(h2:PSs X ac u):PSs X (st::ac) (ZAP t u):=by
 intro a s Z H D I h;refine wpAny_execs_cons<|thn (R _ s _ H _ I h) λf b q=>?_;cases f with
 |next=>obtain⟨σ',H',I',q⟩:=q;exact h2 _ _ _ _ D I' q
 |ret v=>exact q
 |brk=>exact q
 |cont=>exact q
def Zti(R:PS X st t):PSs X [st] t:=by
 intro a s Z H D I h;refine wpAny_execs_cons<|thn (R _ s _ H D I h) λf b q=>?_;cases f with
 |next=>exact wpAny_execs_nil q
 |ret v=>exact q
 |brk=>exact q
 |cont=>exact q
noncomputable def ZvW:TS:=λD Z H=>D.bk Z H
noncomputable def ZyI:TS:=λD Z H=>D.ct Z H
def Ztk:PS X (.Pass pos) Zu2:=λ_ _ Z H _ I h=>wpAny_Pass ⟨_,H,I,h⟩
def Zra:PS X (.Break pos) ZvW:=λ_ _ Z H _ I h=>wpAny_Break ⟨_,H,I,h⟩
def ZlF:PS X (.Continue pos) ZyI:=λ_ _ Z H _ I h=>wpAny_Continue ⟨_,H,I,h⟩
def Inv.quiet(I:Inv X aa Z H s):interactive X.env=Ws:=by simp[interactive,I.ok.kind]
noncomputable def ZyG(te:TE):TS:=λD Z H=>te Z H λ_ H1=>D.nx Z H1
def Ztl(he:PE X e te)(hs:swapsWith e M pos.line X.env=pure Ws:=by rfl):PS X (.Expr e pos) (ZyG te):=by intro c s Z H D I h;exact wpAny_Expr_any (thn (he _ s _ H _ I h) λv d a=>by obtain⟨x,H1,I1,f,b⟩:=a;exact⟨_,_,I1,b⟩) I.quiet hs
noncomputable def ZAQ(te:TE):TS:=λD Z H=>te Z H D.rt
def Zq8(he:PE X e te):PS X (.Return (J e) pos) (ZAQ te):=by intro d s Z H D I h;exact wpAny_Return_some (thn (he _ s _ H _ I h) λv f a=>by obtain⟨x,H1,I1,b,c⟩:=a;exact⟨x,_,_,I1,b,c⟩)
noncomputable def ZAU(c:TT)(t u:TS):TS:=λD Z H=>c Z H λb H1=>if b=Wq then t D Z H1 else u D Z H1
def Zza(hc:PT X c tc)(ha:PSs X a t)(hb:PSs X b u):PS X (.If c a b pos) (ZAU tc t u):=by
 intro g s Z H D I h;refine wpAny_If<|thn (hc _ s _ H _ I h) λd i f=>?_;obtain⟨H1,I1,e⟩:=f;cases d with
 |true=>exact ha _ _ _ _ D I1 e
 |false=>exact hb _ _ _ _ D I1 e
end
abbrev TG:=V->St->Hp->(St->Hp->Prop)->Prop
abbrev TGs:=List V->St->Hp->(St->Hp->Prop)->Prop
def PG(X:Cx)(target:Expr)(t:TG):Prop:=
 ∀(aa:List (Yj×Obj)) (s:Yb) (Z:St) (H:Hp) (v:V) (u:Yk) (Q:St->Hp->Prop),Inv X aa Z H s->RelV v u->t v Z H Q ->
  YB (model X.prog X.w) X.A (assign target X.env u) (λ_ s'=>∃σ' H',Inv X aa σ' H' s'/\Q σ' H') X.xe s
def PGs(X:Cx)(ts:List Expr)(t:TGs):Prop:=
 ∀(aa:List (Yj×Obj)) (s:Yb) (Z:St) (H:Hp) (vs:List V) (us:List Yk) (Q:St->Hp->Prop),Inv X aa Z H s->Zs vs us->t vs Z H Q ->
  YB (model X.prog X.w) X.A (assignInOrder ((assignEach ts X.env).map (·.2)) us) (λ_ s'=>∃σ' H',Inv X aa σ' H' s'/\Q σ' H') X.xe s
abbrev Zqf:=V->V->V->Hp->(Hp->Prop)->Prop
def Zqh(X:Cx)(t:Zqf):Prop:=
 ∀(aa:List (Yj×Obj)) (s:Yb) (Z:St) (H:Hp) (o i v:V) (ov iv u:Yk) (Q:Hp->Prop),Inv X aa Z H s->RelV o ov->RelV i iv->RelV v u->t o i v H Q ->
  YB (model X.prog X.w) X.A (setItem ov iv u) (λ_ s'=>∃H',Inv X aa Z H' s'/\Q H') X.xe s
abbrev TIp:=V->V->Hp->VK->Prop
def PIp(X:Cx)(op:Operator)(t:TIp):Prop:=
 ∀(aa:List (Yj×Obj)) (s:Yb) (Z:St) (H:Hp) (x y:V) (v u:Yk) (Q:VK),Inv X aa Z H s->RelV x v->RelV y u->t x y H Q ->
  YB (model X.prog X.w) X.A (inplaceOp op v u) (EP X aa Z Q) X.xe s
section
variable {X:Cx}{pos:Pos}
noncomputable def Zec(i:Nat):TG:=λv Z H Q=>Q (Z.set i<|J v) H
def Zop(hN:X.N.Nodup)(hi:X.N[i]?=J x)(hx:Loc X.env.scope x)(hf:X.fn x=Wq\/X.env.scope.names.lookup x=J .local:=by first|exact .inl rfl|exact .inr rfl|assumption):PG X (.Name x pos) (Zec i):=by intro a s Z H v u Q I r h;exact wpAny_assign_Name (Zie I hN hi hx r (λb I'=>⟨_,H,I',h⟩) hf)
def Zuk:TGs:=λvs Z H Q=>vs=[]/\Q Z H
def Zl1(t:TG)(u:TGs):TGs:=λvs Z H Q=>∃v r,vs=v::r/\t v Z H λσ' H'=>u r σ' H' Q
def Zon:PGs X [] Zuk:=by intro a s Z H vs b Q I r h;exact assignInOrder_nil ⟨_,H,I,h.2⟩
def Zip(R:PG X e t)(h2:PGs X es u)
 (hs:(assignEach (e::es) X.env).map (·.2)=assign e X.env::(assignEach es X.env).map (·.2):=by rfl):PGs X (e::es) (Zl1 t u):=by
 intro f s Z H vs g Q I r h;obtain⟨v,i,a,h⟩:=h;subst a;cases r with
 |cons r b=>rw[hs];exact assignInOrder_cons (thn (R _ s _ H _ _ _ I r h) λ_ j c=>by obtain⟨σ1,H1,I1,d⟩:=c;exact h2 _ _ _ _ _ _ Q I1 b d)
noncomputable def Zuj(K:Yl)(n:Nat)(t:TGs):TG:=λv Z H Q=>∃a b,v=.ref a/\SqT K H a b/\b.length=n/\t b Z H Q
def Zre(hc:X.calm=Wq)(h:PGs X es t)
 (hn:(assignEach es X.env).length=n:=by rfl) (hst:(assignEach es X.env).findIdx? (·.1)=M:=by rfl):PG X (.Tuple es k pos) (Zuj X.K n t):=by
 rintro aa s Z H v u Q I r⟨a,xs,e1,hq,hl,hw⟩;subst e1;cases r;obtain⟨its,rv,ht,hz⟩:=I.tuple hq;exact assign_Tuple_tuple (I.ok.hd hc) ht (by simp[hn,<-hl,rv.length]) hst λh' hx=>h _ _ _ H _ _ Q (I.kept (t':=s.toks) λb o e=>hx b o (Ou<|Yn e) e) (by trivial) hw
noncomputable def ZBB(to ti:TE)(t:Zqf):TG:=λv Z H Q=>to Z H λo H1=>ti Z H1 λi H2=>t o i v H2 λH3=>Q Z H3
def Zrf(ho:PE X o to)(hi:PE X i ti)(hs:Zqh X t)
 (ha:∀v,assign (.Subscript o i pos) X.env v=(do
  let ov <- holding [v] (eval o X.env);let iv <- holding [v,ov] (eval i X.env)
  standAt pos
  holding [v,ov,iv] (setItem ov iv v)
  release [v,ov,iv] []):=by intro _;rfl):PG X (.Subscript o i pos) (ZBB to ti t):=by
 intro g s Z H v u Q I r h;rw[ha];exact Ya (Wb (thn (ho _ s _ H _ I h) λov j a=>by obtain⟨x,H1,I1,b,c⟩:=a;exact Ya<|Wb (thn (hi _ _ _ _ _ I1 c) λiv k a=>by obtain⟨y,H2,I2,d,e⟩:=a;exact Ya<|wpAny_standAt<|Ya<|Wb<|thn (hs _ _ _ _ x y v _ _ u _ I2 b d r e) λ_ l ⟨H3,I3,f⟩=>wpAny_release ⟨_,_,I3,f⟩)))
noncomputable def ZmM(te:TE)(g:TG):TS:=λD Z H=>te Z H λx H1=>g x Z H1 D.nx
def ZmY(he:PE X e te)(hg:PG X tg g)(hs:swapsWithSole [tg] e pos.line X.env=pure Ws:=by rfl)(hw:swappedStores [tg] e X.env=pure M:=by rfl)
 (R:(assignEach [tg] X.env).map (·.2)=[assign tg X.env]:=by rfl):PS X (.Assign [tg] e pos) (ZmM te g):=by
 intro d s Z H D I h;refine wpAny_Assign_stores (thn (he _ s _ H _ I h) λv f a=>?_) hs hw;obtain⟨x,H1,I1,b,c⟩:=a;rw[R];exact thn (hg _ _ _ _ x v _ I1 b c) λ_ i q=>q
def Zq7(hN:X.N.Nodup)(hi:X.N[i]?=J x)(hx:Loc X.env.scope x)(he:PE X e te)(hs:swapsWith e (J<|.Name x bU) pos.line X.env=pure Ws:=by rfl)(hf:X.fn x=Wq\/X.env.scope.names.lookup x=J .local:=by first|exact .inl rfl|exact .inr rfl|assumption):
 PS X (.Assign [.Name x bU] e pos) (ZmM te<|Zec i):=by
 intro d s Z H D I h;exact wpAny_Assign_Name (thn (he _ s _ H _ I h) λv f a=>by obtain⟨y,H1,I1,b,c⟩:=a;exact Zie I1 hN hi hx b (λg I2=>⟨_,_,I2,c⟩) hf) hs
noncomputable def ZAZ(i:Nat)(te:TE)(ti:TIp):TS:=λD Z H=>∃x,Z[i]?=J (J x)/\te Z H λy H1=>ti x y H1 λz H2=>D.nx (Z.set i<|J z) H2
def Zwh(hN:X.N.Nodup)(hi:X.N[i]?=J x)(hx:Loc X.env.scope x)(he:PE X e te)(ho:PIp X op ti)(hf:X.fn x=Wq\/X.env.scope.names.lookup x=J .local:=by first|exact .inl rfl|exact .inr rfl|assumption):
 PS X (.AugAssign (.Name x bU) op e pos) (ZAZ i te ti):=by
 intro aa s Z H D I h;obtain⟨v,e1,h⟩:=h;obtain⟨m,hn,hl⟩:=I.loc;obtain⟨u,r,l⟩:=hl i x v hi e1 (by rcases hx with k|k;exact .inl k;exact .inr<|.inl k);refine wpAny_AugAssign_Name ?_;have go:YB _ _ _ (λw s₂=>YB _ _ _ (λr s₃=>YB (model X.prog X.w) X.A _ (λ_=>SP X _ D .next) X.xe _) _ _) _ s:=thn (he _ s _ H _ I h) λw s1 z9=>by obtain⟨y,H1,I1,r1,q1⟩:=z9;exact thn (ho _ _ _ _ v y u w _ I1 r r1 q1) λz s2 z9=>by obtain⟨zv,H2,I2,r2,q2⟩:=z9;exact Zie I2 hN hi hx r2 (λs3 I3=>⟨_,_,I3,q2⟩) hf
 rcases l with⟨hk,hm⟩|⟨hk,c,hc,aL⟩
 . exact wpAny_loadName_local I.ok.kind hk hn hm go
 . rcases hk with hk|hk
   . exact wpAny_loadName_cell I.ok.kind hk hc aL go
   . rcases hx with k|k
     . have:X.env.scope.names.lookup x=J _:=hk;rw[k]at this;cases this
     . have:X.env.scope.names.lookup x=J _:=hk;rw[k]at this;cases this
noncomputable def ipI(f:Int->Int->Int):TIp:=λx y H Q=>∃i j,x=.int i/\y=.int j/\Q (.int<|f i j) H
def Zxg:PIp X .Add (ipI λi j=>i+j):=by rintro aa s Z H x y v u Q I r1 r2⟨i,j,e1,e2,q⟩;subst e1;subst e2;obtain⟨t,rfl⟩:=r1;obtain⟨t',rfl⟩:=r2;exact iadd_int ⟨.int _,H,I.tok _,⟨_,rfl⟩,q⟩
def ZqA(c:TT)(tb:TS):TS:=λD Z H=>∃W:Nat->St->Hp->Prop,(∃m,W m Z H)/\∀m Z H,W m Z H ->
 c Z H λb H1=>if b=Wq then ∃N:St->Hp->Prop,(∀σ' H',N σ' H'->∃a,a<m/\W a σ' H')/\tb {D with nx:=N,ct:=N,bk:=D.nx} Z H1 else D.nx Z H1
def Zq6(hp:PassesOwn (model X.prog X.w) X.A X.env X.xe)(hc:PT X c tc)(hb:PSs X body tb):PS X (.While c body [] pos) (ZqA tc tb):=by
 rintro aa s Z H D I⟨W,⟨m0,w0⟩,turn⟩;refine wpAny_While<|codeAny_whileLoop (λn s'=>∃σ' H',Inv X _ σ' H' s'/\W n σ' H') ?_ _ ⟨_,H,I,w0⟩;rintro n s1 ⟨σ1,H1,I1,w1⟩;refine wpAny_passesOwn hp<|thn (hc _ _ _ _ _ I1<|turn n _ _ w1) λb s2 z9=>?_;obtain⟨H2,I2,q2⟩:=z9;cases b with
 |true=>
  obtain⟨N,hN,q2⟩:=q2;refine wpAny_passesOwn hp<|thn (hb _ _ _ _ _ I2 q2) λf s3 q3=>?_;cases f with
  |next=>obtain⟨σ3,H3,I3,n3⟩:=q3;obtain⟨m',hm,w3⟩:=hN _ _ n3;exact⟨_,hm,_,_,I3,w3⟩
  |cont=>obtain⟨σ3,H3,I3,n3⟩:=q3;obtain⟨m',hm,w3⟩:=hN _ _ n3;exact⟨_,hm,_,_,I3,w3⟩
  |brk=>trivial
  |ret v=>trivial
 |false=>exact wpAny_execs_nil ⟨_,_,I2,q2⟩
end
structure It where
 go:Nat->Hp->Prop
 yld:Nat->Hp->V->Hp->Prop
 stop:Nat->Hp->Prop
def ZeP(X:Cx)(aa:List (Yj×Obj))(H:Hp)(b:Yj):Prop:=H b=M/\b≠X.env.locals/\b ∉ X.fs/\(b∈X.ex\/X.s₀.heap.objs.size<=b)/\(∀x c,X.env.cells.lookup x=J c->c≠b)/\∀p∈X.pn++aa,p.1≠b
def Inv.fpOk(I:Inv X aa Z H s)(hb:s.heap.objs.size<=b)(hn:H' b=M):ZeP X aa H' b:=by
 refine⟨hn,Nat.ne_of_gt<|Ot I.lt hb,I.nofs hb,.inr<|OE I.sz hb,λx c e z=>?_,λp hp z=>?_⟩
 . obtain⟨v,q⟩:=I.cell x c e;exact absurd (Ot q.lt<|by simp_all) (Yw _)
 . exact absurd (Ot (Yn (I.pin p hp).1)<|by simp_all) (Yw _)
structure Turn(P:Yi)(w:Yh)(K:Yl)(tg:Expr)(qa:It)(fp:List Yj)(it:Yj)(tn:Nat->YG->Prop):Prop where
 mem:it∈fp
 obj:∀i h,tn i h->∀b∈fp,∃o,h.get? b=J o/\∀v,o.data≠.cell v
 keep:∀i h h',tn i h->(∀b∈fp,∀o,h.get? b=J o->h'.get? b=J o)->tn i h'
 item:∀(X:Cx),X.prog=P->X.w=w->X.K=K->X.calm=Wq->∀(i:Nat) (aa:List (Yj×Obj)) (s:Yb) (Z:St) (H:Hp) (E:Yk->Yb->Prop),Inv X aa Z H s->(∀b∈fp,ZeP X aa H b)->tn i s.heap->qa.go i H ->
  YB (model P w) X.A (pyNext<|.ref it) (λr s1=>∃u,r=J u /\
   YB (model P w) X.A (letOwnedTupleGo tg (.ref it) u) (λ_ s2=>∃x H',Inv X aa Z H' s2/\RelV x u/\qa.yld i H x H'/\tn (i+1) s2.heap/\∀b∈fp,H' b=M) E s1) E s
 done:∀(X:Cx),X.prog=P->X.w=w->X.K=K->X.calm=Wq->∀(i:Nat) (aa:List (Yj×Obj)) (s:Yb) (Z:St) (H:Hp) (E:Yk->Yb->Prop),Inv X aa Z H s->(∀b∈fp,ZeP X aa H b)->tn i s.heap->qa.stop i H ->
  YB (model P w) X.A (pyNext<|.ref it) (λr s1=>r=M/\Inv X aa Z H s1) E s
 self:∀(A:YH) (i:Nat) (s:Yb) (Q:Yk->Yb->Prop) (E:Yk->Yb->Prop),tn i s.heap->Q (.ref it) s->YB (model P w) A (pyIter<|.ref it) Q E s
abbrev TI:=St->Hp->(It->Hp->Prop)->Prop
def PIE(X:Cx)(aa:List (Yj×Obj))(Z:St)(tg:Expr)(qd:It->Hp->Prop)(g9:Yk)(s2:Yb):Prop:=∃(it:Yj) (a:List Yj) (c:Nat->YG->Prop) (d:It) (H':Hp),g9=.ref it/\Inv X aa Z H' s2/\Turn X.prog X.w X.K tg d a it c/\c 0 s2.heap/\(∀b∈a,ZeP X aa H' b)/\qd d H'
def PI(X:Cx)(tg iter:Expr)(wi:TI):Prop:=
 ∀(aa:List (Yj×Obj)) (s:Yb) (Z:St) (H:Hp) (qd:It->Hp->Prop),Inv X aa Z H s->wi Z H qd ->
  YB (model X.prog X.w) X.A (eval iter X.env) (λv s1=>YB (model X.prog X.w) X.A (pyIter v) (PIE X aa Z tg qd) X.xe s1) X.xe s
theorem Zj0(ho:s.heap.get? it=J o)(hc:o.cls=.type n)(hd:o.data=.fields vs)
   (hn:["enumerate", "zip", "dict_itemiterator", "dict_reverseitemiterator", "odict_iterator", "itertools.zip_longest", "itertools.pairwise"].contains n=Ws) (hQ:Q () s):YB qb A (letOwnedTupleGo tg (.ref it) u) Q E s:=by
 cases tg<;>first
   |exact Yd hQ
   | (cases u<;>first
       |exact Yd hQ
       | (refine Ya (wpAny_load ho ?_)
          rw [hc,hd];show YB qb A (if (["enumerate", "zip", "dict_itemiterator", "dict_reverseitemiterator", "odict_iterator", "itertools.zip_longest", "itertools.pairwise"].contains n&&vs[0]?==J _)=Wq then _ else _) Q E s;rw [if_neg (by intro h;rw [hn,Bool.false_and] at h;lia)];exact Yd hQ))
noncomputable def Itl(K:Yl)(a:Yj):It:=⟨λi H=>∃b x,SqL K H a b/\b[i]?=J x,λi H x H'=>H'=H/\∀b,SqL K H a b->b[i]?=J x,λi H=>∃b,SqL K H a b/\b.length<=i⟩
noncomputable def Itt(K:Yl)(a:Yj):It:=⟨λi H=>∃b x,SqT K H a b/\b[i]?=J x,λi H x H'=>H'=H/\∀b,SqT K H a b->b[i]?=J x,λi H=>∃b,SqT K H a b/\b.length<=i⟩
noncomputable def Itr(lo:Int)(n:Nat):It:=⟨λi _=>i<n,λi H x H'=>H'=H/\x=.int (lo+i),λi _=>n<=i⟩
def Zpk{P}{w}{K}{tg}(a it):Turn P w K tg (Itl K a) [it] it (λi h=>h.IsListIter it a i) where
 mem:=by simp
 obj:=λi h st b f=>by
  have e:=by simpa using f
  subst e;obtain⟨o,e,c,d⟩:=st
  simp_all
 keep:=λi h j st k=>st.at λo e=>k _ (by simp) o e
 item:=by intro X l hw m z i B s Z H E I hf st n;subst l hw m;obtain⟨xs,x,g,q⟩:=n;obtain⟨r,t,p,C⟩:=I.list g;obtain⟨u,J,D⟩:=t.get q;obtain⟨f0,f1,f2,v,f4,y⟩:=hf it (by simp);refine wpAny_pyNext_list_item st p.isList (x:=u) (by simp_all) λj A sb=>?_;obtain⟨o,e,c,d⟩:=id A;exact⟨u,rfl,Zj0 (s:={s with heap:=j}) e c d (by decide) ⟨x,H,I.turned (t':=s.toks) (λb o f e=>(sb.2 b f).I e) f0 f1 v f4 y,D,⟨rfl,λL F=>I.list_inj F g▸q⟩,A,λb f=>(hf b f).1⟩⟩
 done:=by intro X l hw m z i B s Z H E I hf st n;subst l hw m;obtain⟨xs,g,q⟩:=n;obtain⟨r,t,p,C⟩:=I.list g;obtain⟨f0,f1,f2,v,f4,y⟩:=hf it (by simp);have N:=t.length;exact wpAny_pyNext_list_end (I.ok.hd z) st p.isList (by simp;lia) λj G=>⟨rfl,I.turned (t':=s.toks) (λb o f e=>G b o f e) f0 f1 v f4 y⟩
 self:=λ_ _ _ _ _ st h=>wpAny_pyIter_listiter st h
def ZmK{P}{w}{K}{tg}(a it):Turn P w K tg (Itt K a) [it] it (λi h=>h.IsTupleIter it a i) where
 mem:=by simp
 obj:=λi h st b f=>by
  have e:=by simpa using f
  subst e;obtain⟨o,e,c,d⟩:=st
  simp_all
 keep:=λi h l st k=>st.at λo e=>k _ (by simp) o e
 item:=by intro X m hw n z i B s Z H E I hf st q;subst m hw n;obtain⟨xs,x,j,r⟩:=q;obtain⟨g,t,p,C⟩:=I.tuple j;obtain⟨u,J,D⟩:=t.get r;obtain⟨f0,f1,f2,v,f4,y⟩:=hf it (by simp);refine wpAny_pyNext_tuple_item st (show s.heap.IsTuple a _ from p) (x:=u) (by simp_all) λl A sb=>?_;obtain⟨o,e,c,d⟩:=id A;exact⟨u,rfl,Zj0 (s:={s with heap:=l}) e c d (by decide) ⟨x,H,I.turned (t':=s.toks) (λb o f e=>(sb.2 b f).I e) f0 f1 v f4 y,D,⟨rfl,λL F=>I.tuple_inj F j▸r⟩,A,λb f=>(hf b f).1⟩⟩
 done:=by intro X m hw n z i B s Z H E I hf st q;subst m hw n;obtain⟨xs,j,r⟩:=q;obtain⟨g,t,p,C⟩:=I.tuple j;obtain⟨f0,f1,f2,v,f4,y⟩:=hf it (by simp);have N:=t.length;exact wpAny_pyNext_tuple_end (I.ok.hd z) st (show s.heap.IsTuple a g.toArray from p) (by simp;lia) λl G=>⟨rfl,I.turned (t':=s.toks) (λb o f e=>G b o f e) f0 f1 v f4 y⟩
 self:=λ_ _ _ _ _ st h=>wpAny_pyIter_tupleiter st h
def ZmL{P}{w}{K}{tg}(it)(lo)(n):Turn P w K tg (Itr lo n) [it] it (λi h=>IsRangeIter h it (lo+i*1) (n-i) 1) where
 mem:=by simp
 obj:=λi h st b a=>by simp_all
 keep:=λi h c st k=>k _ (by simp) _ st
 item:=by intro X d hw f g i q s Z H E I hf st j;subst d hw f;obtain⟨f0,f1,f2,l,f4,m⟩:=hf it (by simp);refine(Walks.range (prog:=X.prog) (w:=X.w) (I.ok.hd g) _ _ 1 n).item i s _ _ j st λv c r u p x=>?_;obtain⟨t,rfl⟩:=u;refine⟨_,rfl,Zj0 (s:={s with heap:=c,toks:=r}) (n := "range_iterator") p rfl rfl (by decide) ⟨.int _,H,I.turned (λb o a e=>x b o (by simp_all) e) f0 f1 l f4 m,⟨t,?_⟩,⟨rfl,rfl⟩,p,λb a=>(hf b a).1⟩⟩;simp
 done:=by intro X d hw f g i q s Z H E I hf st j;subst d hw f;obtain⟨f0,f1,f2,l,f4,m⟩:=hf it (by simp);exact wpAny_pyNext_range_end (I.ok.hd g) st (by have:n<=i:=j;lia) λc y=>⟨rfl,I.turned (t':=s.toks) (λb o a e=>y b o a e) f0 f1 l f4 m⟩
 self:=λ_ _ _ _ _ st h=>wpAny_pyIter_rangeiter st h
section
variable {X:Cx}{tg:Expr}
def ZqO{aa}{Z:St}{H}{s}{qd}{E}{lo hi}{t u v}{tk}(I:Inv X aa Z H s)(R:-(2^62)<=lo)(h2:lo<2^62)(h3:-(2^62)<=hi)(h4:hi<2^62)
 (q:qd (Itr lo (hi-lo).toNat) H):YB (model X.prog X.w) X.A (pyIter<|.ref s.heap.objs.size) (PIE X aa Z tg qd) E {s with heap:=s.heap.push {cls:=.type "range",data:=.fields #[.int lo t,.int hi u,.int 1 v]},toks:=tk}:=by
 refine wpAny_pyIter_range (IsRange.new ..) (small_one R h2 h3 h4) ?_;have I1:Inv X _ _ H {s with heap:=s.heap.push {cls:=.type "range",data:=.fields #[.int lo t,.int hi u,.int 1 v]},toks:=tk}:=I.kept λb o e=>Od _ e;refine⟨_,_,_,_,H,rfl,
  I1.kept λb o e=>Od _ e,ZmL _ _ _,?_,λb a=>?_,q⟩
 . have c:lo+(0:Nat)*1=lo:=by simp
   have d:((hi-lo).toNat)-(0:Nat)=Builtin.Range.rangeSize lo hi 1:=by rw[rangeSize_one];lia
   rw[c,d];exact Oj _ rfl
 . have e:b=(s.heap.push {cls:=.type "range",data:=.fields #[.int lo t,.int hi u,.int 1 v]}).objs.size:=by simpa using a
   subst e;exact I1.fpOk (Oq _) (I1.hok.fresh<|Oq _)
def ZzU(ta:TA):TI:=λZ H qd=>ta Z H λvs H1=>∃j:Int,vs=[.int j]/\-(2^62)<=j/\j<2^62/\qd (Itr 0 j.toNat) H1
def ZpB{a}{ta}{p pos}(hg:Gl X "range")(hm:X.mg "range"=M)(ha:PA X [a] ta)(hs:YA [a] X.env=[(Ws,eval a X.env)]:=by rfl):PI X tg (.Call (.Name "range" p) [a] [] pos) (ZzU ta):=by
 intro i s Z H qd I h;refine Call_<|ZcK I hg hm boot_range<|PyProof.Rows.callWith_type1 (thn (ha _ _ s _ H _ I h) λk l c=>?_) hs rfl;obtain⟨vs,H1,I1,d,b⟩:=c;obtain⟨j,e,b,f,q⟩:=b;subst e;cases d with
 |cons r g=>cases g;obtain⟨t,rfl⟩:=r;exact call_range_1 (ZqO I1 (by lia) (by lia) b f<|by simp_all)
def ZAV(wi:TI)(g:TG)(tb:TS):TS:=λD Z H=>wi Z H λa H1=>∃W:Nat->Nat->St->Hp->Prop,(∃m,W 0 m Z H1)/\∀i m Z H,W i m Z H ->
 (a.stop i H/\D.nx Z H)\/(a.go i H/\∃N:St->Hp->Prop,(∀σ' H',N σ' H'->∃b,b<m/\W (i+1) b σ' H')/\∀x H',a.yld i H x H'->g x Z H' λσ2 H2=>tb {D with nx:=N,ct:=N,bk:=D.nx} σ2 H2)
noncomputable def Zio(fp:List Yj)(h:YG):List (Yj×Obj):=fp.filterMap λb=>(h.get? b).map λo=>(b,o)
def Zdf(hb:b∈fp)(e:h.get? b=J o):(b,o)∈Zio fp h:=List.mem_filterMap.mpr ⟨b,hb,by simp_all⟩
def ZpK(hp:p∈Zio fp h):p.1∈fp/\h.get? p.1=J p.2:=by
 obtain⟨b,c,e⟩:=List.mem_filterMap.mp hp;cases q:h.get? b with
 |none=>simp_all
 |some o=>rw[q]at e;have a:=YF e;subst a;trivial
def Inv.pinned(I:Inv X aa Z H s)(hf:∀b∈fp,ZeP X aa H b)(ho:∀b∈fp,∃o,s.heap.get? b=J o/\∀v,o.data≠.cell v):Inv X (aa++Zio fp s.heap) Z H s:=
 I.pins_of λp c=>(OD.mp c).elim (λz=>I.pin p<|Ov _ z) λz=>by
  obtain⟨a,e⟩:=ZpK z;obtain⟨f,g,h,_⟩:=hf _ a;obtain⟨o,i,d⟩:=ho _ a
  simp_all
def Inv.unpinned(I:Inv X (aa++pl) Z H s):Inv X aa Z H s:=I.pins_of λp a=>I.pin p (Ov _<|Ys _ a)
def Zwf(hp:PassesOwn (model X.prog X.w) X.A X.env X.xe)(hc:X.calm=Wq)(hi:PI X tg iter wi)(hg:PG X tg g)(hb:PSs X body tb)
 (hs:∀x,foldedSetIterable iter X.env x=pure x:=by intro _;rfl):PS X (.For tg iter body [] pos) (ZAV wi g tb):=by
 intro aa s Z H D I h;refine wpAny_For (thn (hi _ s _ H _ I h) λv s1 R=>thn R λg9 s2 h2=>?_) hs;obtain⟨it,fp,tn,qa,H2,e,I2,T,cH,f2,W,⟨m0,w0⟩,turn⟩:=h2;subst e;have bC:∀{H':Hp},(∀b∈fp,H' b=M)->∀b∈fp,ZeP X _ _ b:=λhn b hb=>⟨hn b hb,(f2 b hb).2⟩
 refine codeAny_forLoop_any (λn s'=>∃i σ' H',Inv X _ σ' H' s'/\tn i s'.heap/\(∀b∈fp,H' b=M)/\W i n σ' H') ?_ m0 ⟨0,Z,H2,I2,cH,λb hb=>(f2 b hb).1,w0⟩;rintro n s3 ⟨i,σ3,H3,I3,st3,fr3,w3⟩;rcases turn i n σ3 H3 w3 with⟨stop,qn⟩|⟨go,N,hN,step⟩
 . refine wpAny_passesOwn hp (thn (T.done X rfl rfl rfl hc i aa s3 σ3 H3 X.xe I3 (bC fr3) st3 stop) λr s4 ⟨hr,I4⟩=>?_);subst hr;exact wpAny_execs_nil ⟨σ3,H3,I4,qn⟩
 . refine wpAny_passesOwn hp (thn (T.item X rfl rfl rfl hc i aa s3 σ3 H3 X.xe I3 (bC fr3) st3 go) λr s4 ⟨u,hr,h4⟩=>?_);subst hr;refine wpAny_passesOwn hp<|thn h4 λ_ s5 z9=>?_;obtain⟨x,H5,I5,r5,y5,eB,gB⟩:=z9;refine wpAny_passesOwn hp<|thn (hg _ s5 σ3 H5 x u _ (I5.pinned (bC gB)<|T.obj _ _ eB) r5<|step x H5 y5) λ_ s6 z9=>?_;obtain⟨σ6,H6,I6,q6⟩:=z9;refine wpAny_passesOwn hp<|thn (hb _ s6 σ6 H6 _ I6 q6) λf s7 q7=>?_;have again:∀{σ7:St}{H7:Hp},Inv X (aa++Zio fp s5.heap) σ7 H7 s7->N σ7 H7->∃m,m<n/\∃i σ' H',Inv X aa σ' H' s7/\tn i s7.heap/\(∀b∈fp,H' b=M)/\W i m σ' H':=λ{σ7 H7} I7 n7=>by obtain⟨m',hm,w7⟩:=hN σ7 H7 n7;refine⟨m',hm,i+1,σ7,H7,I7.unpinned,T.keep _ _ _ eB λb hb o e=>(I7.pin (b,o)<|Ov _<|Ov _<|Zdf hb e).1,λb hb=>?_,w7⟩;obtain⟨o,e,d⟩:=T.obj _ _ eB b hb;exact(I7.pin (b,o)<|Ov _<|Ov _<|Zdf hb e).2.1
   cases f with
   |next=>obtain⟨σ7,H7,I7,n7⟩:=q7;exact again I7 n7
   |cont=>obtain⟨σ7,H7,I7,n7⟩:=q7;exact again I7 n7
   |brk=>obtain⟨σ7,H7,I7,q7⟩:=q7;exact⟨σ7,H7,I7.unpinned,q7⟩
   |ret v=>obtain⟨x7,σ7,H7,I7,r7,q7⟩:=q7;exact⟨x7,σ7,H7,I7.unpinned,r7,q7⟩
end
abbrev R2:=V->V->Hp->VK->Prop
def OpR(X:Cx)(f:Yk->Yk->Sem Yk)(r:R2):Prop:=
 ∀(aa:List (Yj×Obj)) (s:Yb) (Z:St) (H:Hp) (x y:V) (v u:Yk) (Q:VK),Inv X aa Z H s->RelV x v->RelV y u->r x y H Q ->
  YB (model X.prog X.w) X.A (f v u) (EP X aa Z Q) X.xe s
def UnR(X:Cx)(f:Yk->Sem Yk)(r:V->Hp->VK->Prop):Prop:=
 ∀(aa:List (Yj×Obj)) (s:Yb) (Z:St) (H:Hp) (x:V) (v:Yk) (Q:VK),Inv X aa Z H s->RelV x v->r x H Q ->
  YB (model X.prog X.w) X.A (f v) (EP X aa Z Q) X.xe s
def Zaa(X:Cx)(f:Yk)(r:List V->Hp->VK->Prop):Prop:=
 ∀(aa:List (Yj×Obj)) (s:Yb) (Z:St) (H:Hp) (xs:List V) (us:List Yk) (Q:VK),Inv X aa Z H s->Zs xs us->r xs H Q ->
  YB (model X.prog X.w) X.A (call f us) (EP X aa Z Q) X.xe s
def ZBR(X:Cx)(r:V->Hp->(Bool->Hp->Prop)->Prop):Prop:=
 ∀(aa:List (Yj×Obj)) (s:Yb) (Z:St) (H:Hp) (x:V) (v:Yk) (Q:Bool->Hp->Prop),Inv X aa Z H s->RelV x v->r x H Q ->
  YB (model X.prog X.w) X.A (truthy v) (TP X aa Z Q) X.xe s
def tOp(r:R2)(ta tb:TE):TE:=λZ H Q=>ta Z H λx H1=>tb Z H1 λy H2=>r x y H2 Q
noncomputable def tUn(r:V->Hp->VK->Prop)(ta:TE):TE:=λZ H Q=>ta Z H λx H1=>r x H1 Q
noncomputable def rI(C:Int->Int->Prop)(g:Int->Int->V):R2:=λx y H Q=>∃i j,x=.int i/\y=.int j/\C i j/\Q (g i j) H
noncomputable def rI0(g:Int->Int->V):R2:=λx y H Q=>∃i j,x=.int i/\y=.int j/\Q (g i j) H
def rU(g:Int->V):V->Hp->VK->Prop:=λx H Q=>∃i,x=.int i/\Q (g i) H
section
variable {X:Cx}{a b c:Expr}{ta tb tc:TE}{pos:Pos}
def ZxQ(ha:PE X a ta)(hb:PE X b tb){aa}{s}{Z:St}{H}{qd:V->V->Hp->Prop}(I:Inv X aa Z H s)
 (h:ta Z H λx H1=>tb Z H1 λy H2=>qd x y H2) {Q}{f:Yk->Yk->Sem Yk}
 (hf:∀v u s2 x y H2,Inv X aa Z H2 s2->RelV x v->RelV y u->qd x y H2->YB (model X.prog X.w) X.A (f v u) Q X.xe s2) :
 YB (model X.prog X.w) X.A (eval a X.env) (λv s₁=>YB (model X.prog X.w) X.A (eval b X.env) (λu s₂=>YB (model X.prog X.w) X.A (f v u) Q X.xe s₂) X.xe s₁) X.xe s:=thn (ha _ s _ H _ I h) λv j c=>by obtain⟨x,H1,I1,d,e⟩:=c;exact thn (hb _ _ _ _ _ I1 e) λu s2 c=>by obtain⟨y,H2,I2,g,i⟩:=c;exact hf v u _ x y _ I2 d g i
def Zze{op}{r}(ho:OpR X (binaryOp op) r)(ha:PE X a ta)(hb:PE X b tb):PE X (.BinOp a op b pos) (tOp r ta tb):=by intro e s Z H Q I h;exact wpAny_BinOp (ZxQ ha hb I h λv u f x y H2 I2 c d q=>ho _ _ _ _ x y v u Q I2 c d q)
def Zzc{op}{r}(ho:UnR X (unaryOp op) r)(ha:PE X a ta):PE X (.UnaryOp op a pos) (tUn r ta):=by intro e s Z H Q I h;exact UnaryOp_ (thn (ha _ s _ H _ I h) λv f b=>by obtain⟨x,H1,I1,c,d⟩:=b;exact ho _ _ _ _ x v Q I1 c d)
def opI{f}{C}{g:Int->Int->Int}
 (rule:∀(i j) (t u) (s) (Q) (E),C i j->Q (.int (g i j) s.toks) {s with toks:=s.toks+1}->YB (model X.prog X.w) X.A (f (.int i t)<|.int j u) Q E s) :
 OpR X f (rI C λi j=>.int<|g i j):=by
 rintro aa s Z H x y v u Q I rx ry⟨i,j,rfl,rfl,hc,q⟩;obtain⟨t,rfl⟩:=rx;obtain⟨t',rfl⟩:=ry;exact rule i j t _ s _ _ hc ⟨.int _,H,I.tok _,⟨_,rfl⟩,q⟩
def Zzo{g:Int->Int->Int}
 (rule:∀(i j) (t u) (s) (Q) (E),Q (.int (g i j) s.toks) {s with toks:=s.toks+1}->YB (model X.prog X.w) X.A (f (.int i t)<|.int j u) Q E s) :
 OpR X f (rI0 λi j=>.int<|g i j):=by
 rintro aa s Z H x y v u Q I rx ry⟨i,j,rfl,rfl,q⟩;obtain⟨t,rfl⟩:=rx;obtain⟨t',rfl⟩:=ry;exact rule i j t _ s _ _ ⟨.int _,H,I.tok _,⟨_,rfl⟩,q⟩
def ZtS{g:Int->Int->Bool}
 (rule:∀(i j) (t u) (s) (Q) (E),Q (.bool<|g i j) s->YB (model X.prog X.w) X.A (f (.int i t)<|.int j u) Q E s) :
 OpR X f (rI0 λi j=>.bl<|g i j):=by
 rintro aa s Z H x y v u Q I rx ry⟨i,j,rfl,rfl,q⟩;obtain⟨t,rfl⟩:=rx;obtain⟨t',rfl⟩:=ry;exact rule i j t _ s _ _ ⟨.bl _,H,I,rfl,q⟩
def ZBT(i j:Int):Prop:=0<j/\j<1073741824
def ZBS(i j:Int):Prop:=0<=j/\j<=1000000/\i.natAbs<2^64
def ZwE:OpR X (binaryOp .Add) (rI0 λi j=>.int<|i+j):=Zzo λ_ _ _ _ _ _ _ q=>add_int q
def Zwx:OpR X (binaryOp .Sub) (rI0 λi j=>.int<|i-j):=Zzo λ_ _ _ _ _ _ _ q=>sub_int q
def ZtH:OpR X (binaryOp .FloorDiv) (rI ZBT λi j=>.int<|i/j):=opI λi j _ _ _ _ _ a q=>by have R:=a.1;have b:=a.2;exact floordiv_int (by lia) (by rw[Int.fdiv_eq_ediv_of_nonneg i<|by lia];exact q) (.inl<|PyProof.noPylong_small<|by lia)
def Zwz:OpR X (binaryOp .Mod) (rI (λ_ j=>0<j) λi j=>.int<|i%j):=opI λi j _ _ _ _ _ a q=>mod_int' (by lia) (by rw[Int.fmod_eq_emod_of_nonneg i<|by lia];exact q)
def Zwy:OpR X (binaryOp .Pow) (rI ZBS λi j=>.int<|i^j.toNat):=opI λ_ _ _ _ _ _ _ a q=>pow_int_small a.1 a.2.1 a.2.2 q
def unI{g:Int->Int}
 (rule:∀(i) (t) (s) (Q) (E),Q (.int (g i) s.toks) {s with toks:=s.toks+1}->YB (model X.prog X.w) X.A (f<|.int i t) Q E s) :
 UnR X f (rU λi=>.int<|g i):=by
 rintro aa s Z H x v Q I rx⟨i,rfl,q⟩;obtain⟨t,rfl⟩:=rx;exact rule i t s _ _ ⟨.int _,H,I.tok _,⟨_,rfl⟩,q⟩
def ZvG:UnR X (unaryOp .USub) (rU λi=>.int<|-i):=unI λ_ _ _ _ _ q=>neg_int q
def Zr0(I:Inv X aa Z H s)(q:Q (.bl k) H)(e:k=k'):EP X aa Z Q (.bool k') s:=by subst e;exact⟨.bl k,H,I,rfl,q⟩
def Zzi:OpR X (YM .Lt) (rI0 λi j=>.bl<|Wu<|i<j):=ZtS λ_ _ _ _ _ _ _ q=>lt_int q
def Zzj:OpR X (YM .LtE) (rI0 λi j=>.bl<|Wu<|i<=j):=ZtS λ_ _ _ _ _ _ _ q=>le_int q
def Zzk:OpR X (YM .Gt) (rI0 λi j=>.bl<|Wu<|j<i):=ZtS λ_ _ _ _ _ _ _ q=>gt_int q
def Zzl:OpR X (YM .GtE) (rI0 λi j=>.bl<|Wu<|j<=i):=ZtS λ_ _ _ _ _ _ _ q=>ge_int q
def ZwA:OpR X (YM .Is) (λx y H Q=>y=.non/\Q (.bl<|Wu<|x=.non) H):=by
 rintro aa s Z H x y v u Q I rx ry⟨rfl,q⟩;cases ry;refine is_none_gen<|Zr0 I q ?_;cases x<;>first
  |lia
  |(obtain⟨t,rfl⟩:=rx;rfl)
def ZtF:OpR X (YM .IsNot) (λx y H Q=>y=.non/\Q (.bl<|!Wu (x=.non)) H):=by
 rintro aa s Z H x y v u Q I rx ry⟨rfl,q⟩;cases ry;refine isnot_none_gen<|Zr0 I q ?_;cases x<;>first
  |lia
  |(obtain⟨t,rfl⟩:=rx;rfl)
def Zoq{op}{r}(ho:OpR X (YM op) r)(ha:PE X a ta)(hb:PE X b tb)(hm:behindInMarks op b=Ws):PE X (.Compare a [op] [b] pos) (tOp r ta tb):=by intro e s Z H Q I h;exact wpAny_Compare1 (ZxQ ha hb I h λv u f x y H2 I2 c d q=>ho _ _ _ _ x y v u Q I2 c d q) hm
noncomputable def Zu1(t:TE):TT:=λZ H Q=>t Z H λx H'=>∃k,x=.bl k/\Q k H'
def Zom{op}{r}(ho:OpR X (YM op) r)(ha:PE X a ta)(hb:PE X b tb)(hm:behindInMarks op b=Ws):PT X (.Compare a [op] [b] pos) (Zu1<|tOp r ta tb):=by
 intro n s Z H Q I h;refine wpAny_isTrue_Compare1 (thn (ha _ s _ H _ I h) λv o d=>?_) hm;obtain⟨x,H1,I1,f,g⟩:=d;refine thn (hb _ _ _ _ _ I1 g) λu p d=>?_
 obtain⟨y,H2,I2,i,j⟩:=d;refine thn (ho _ _ _ _ x y v u _ I2 f i j) λc q d=>?_;obtain⟨z,H3,I3,l,k,e,m⟩:=d;subst e;cases l;exact wpAny_truthy_bool ⟨_,I3,m⟩
def ZqC(r r':R2)(ta tb tc:TE):TE:=λZ H Q=>ta Z H λx H1=>tb Z H1 λy H2=>r x y H2 λz H3=>∃k,z=.bl k /\
 (if k=Wq then tc Z H3 λa H4=>r' y a H4 Q else Q (.bl Ws) H3)
def Zro(ho:OpR X (YM op) r)(bI:OpR X (YM bK) r')(ha:PE X a ta)(hb:PE X b tb)(hc:PE X c tc)
 (hm:lastMarks [op,bK] [b,c]=Ws:=by with_unfolding_all rfl):PE X (.Compare a [op,bK] [b,c] pos) (ZqC r r' ta tb tc):=by
 intro aa s Z H Q I h;refine Compare_chain (thn (ha _ s _ H _ I h) λv s1 ⟨x,H1,I1,r1,q1⟩=>chain_link<|thn (hb _ _ _ _ _ I1 q1) λu s2 ⟨y,H2,I2,r2,q2⟩=>thn (ho _ _ _ _ x y v u _ I2 r1 r2 q2) λd s3 ⟨z,H3,I3,r3,k,e,q3⟩=>?_) hm
 subst e;cases r3;refine wpAny_truthy_bool ?_;cases k with
 |false=>exact ite_ff ⟨.bl _,_,I3,rfl,q3⟩
 |true=>exact ite_tt (chain_last<|thn (hc _ _ _ _ _ I3 q3) λw' s4 ⟨z',H4,I4,r4,q4⟩=>bI _ _ _ _ y _ u _ Q I4 r2 r4 q4)
def Zq4(ho:OpR X (YM op) r)(bI:OpR X (YM bK) r')(ha:PE X a ta)(hb:PE X b tb)(hc:PE X c tc)
 (hm:lastMarks [op,bK] [b,c]=Ws:=by with_unfolding_all rfl):PT X (.Compare a [op,bK] [b,c] pos) (Zu1<|ZqC r r' ta tb tc):=by
 intro aa s Z H Q I h;refine isTrue_chain (thn (ha _ s _ H _ I h) λv s1 ⟨x,H1,I1,r1,q1⟩=>test_link<|thn (hb _ _ _ _ _ I1 q1) λu s2 ⟨y,H2,I2,r2,q2⟩=>thn (ho _ _ _ _ x y v u _ I2 r1 r2 q2) λd s3 ⟨z,H3,I3,r3,k,e,q3⟩=>?_) hm
 subst e;cases r3;refine wpAny_truthy_bool ?_;cases k with
 |false=>obtain⟨k',e',q'⟩:=q3;cases e';exact ite_ff ⟨_,I3,q'⟩
 |true=>refine ite_tt<|test_last<|thn (hc _ _ _ _ _ I3 q3) λw' s4 ⟨z',H4,I4,r4,q4⟩=>thn (bI _ _ _ _ y _ u _ _ I4 r2 r4 q4) λd' s5 ⟨z2,H5,I5,r5,k2,e2,q5⟩=>?_;subst e2;cases r5;exact wpAny_truthy_bool ⟨_,I5,q5⟩
def Zx1(K:Yl)(x:V)(H:Hp)(k:Bool):Prop:=
 match x with
 |.non=>k=Ws
 |.bl b=>k=b
 |.int i=>k=(i != 0)
 |.str y=>y.length<=Yc/\k=((y.length:Int) != 0)
 |.byt y=>y.size<=Yc/\k=((y.size:Int) != 0)
 |.ref p=>(∃a,SqL K H p a/\k=!a.isEmpty)\/(∃a,SqT K H p a/\k=!a.isEmpty)\/∃c,H p=J (.dK c)/\k=!c.isEmpty
 |_=>False
def Znn(r:KV kvs vs):(!vs.isEmpty)=!kvs.isEmpty:=by cases r<;>rfl
def ZiF(r:Zs xs its):(!its.toArray.isEmpty)=!xs.isEmpty:=by cases r<;>simp
def ZcJ:Yc<2^63:=by trivial
def ZvM:ZBR X (λx H Q=>∃k,Zx1 X.K x H k/\Q k H):=by
 rintro aa s Z H x v Q I rx⟨k,e,q⟩;have hs:=YC;cases x with
 |non=>cases rx;subst e;exact truthy_none ⟨H,I,q⟩
 |bl b=>cases rx;subst e;exact wpAny_truthy_bool ⟨H,I,q⟩
 |int i=>obtain⟨t,rfl⟩:=rx;subst e;exact PySem.P.truthy_int ⟨H,I,q⟩
 |str y=>obtain⟨t,rfl⟩:=rx;obtain⟨hy,e'⟩:y.length<=Yc/\k=((y.length:Int) != 0):=e;subst e';exact PySem.P.truthy_str (by lia) ⟨H,I.tok _,q⟩
 |byt y=>obtain⟨t,rfl⟩:=rx;obtain⟨hy,e'⟩:y.size<=Yc/\k=((y.size:Int) != 0):=e;subst e';exact PySem.W.truthy_bytes (by lia) ⟨H,I.tok _,q⟩
 |ref p=>
  cases rx;have e':(∃xs,SqL X.K H p xs/\k=!xs.isEmpty)\/(∃xs,SqT X.K H p xs/\k=!xs.isEmpty)\/∃kvs,H p=J (.dK kvs)/\k=!kvs.isEmpty:=e;rcases e' with⟨xs,hx,e'⟩|⟨xs,hx,e'⟩|⟨kvs,hx,e'⟩
  . subst e';obtain⟨its,r,pl,hz⟩:=I.list hx;have au:=r.length;exact wpAny_truthy_list pl.isList (by simp only[Of];lia) ⟨H,I.tok _,by rw[ZiF r];exact q⟩
  . subst e';obtain⟨its,r,pl,hz⟩:=I.tuple hx;have au:=r.length;exact truthy_tuple pl (by simp only[Of];lia) ⟨H,I.tok _,by rw[ZiF r];exact q⟩
  . subst e';obtain⟨hz,hS,vs,r,m⟩:kvs.length<=Yc/\(p==Yf)=Ws/\∃vs,KV kvs vs/\s.heap.DictOf (ZH X.prog X.w) p vs:=I.hok p _ hx;have au:kvs.length=vs.length:=Paired.length r;exact wpAny_truthy_dict hS m (by lia) ⟨H,I.tok _,by rw[Znn r];exact q⟩
 |_=>exact(show False from e).elim
def Zq3(ha:PE X a ta)(he:∀aG,isTrue a X.env aG=(do let v <- aG;standAt a.pos;holding [v]<|truthy v)):
 PT X a (λZ H Q=>ta Z H λx H'=>∃k,Zx1 X.K x H' k/\Q k H'):=by
 intro e s Z H Q I h;exact isTrue_plain (thn (ha _ s _ H _ I h) λv f b=>by obtain⟨x,H1,I1,c,d⟩:=b;exact ZvM _ _ _ _ x v Q I1 c d) (he _)
def Zm3:OpR X (binaryOp .Add) (λx y H Q=>∃i j,x=.str i/\y=.str j/\i.length+j.length<=Yc/\Q (.str<|i++j) H):=by rintro aa s Z H x y v u Q I rx ry⟨i,j,rfl,rfl,hz,q⟩;obtain⟨t,rfl⟩:=rx;obtain⟨t',rfl⟩:=ry;exact add_str (λt' tk=>⟨.str _,H,I.tok _,⟨_,rfl⟩,q⟩) hz
def vals1{x}{us}(r:Zs [x] us):∃u,us=[u]/\RelV x u:=by
 cases r with
 |cons a b=>cases b;exact⟨_,rfl,a⟩
def vals2{x y}{us}(r:Zs [x,y] us):∃u w',us=[u,w']/\RelV x u/\RelV y w':=by
 cases r with
 |cons a b=>
  cases b with
  |cons c d=>cases d;exact⟨_,_,rfl,a,c⟩
def Zj9:Zaa X (.type "int") (λxs H Q=>(∃i,xs=[.int i]/\Q (.int i) H)\/∃k,xs=[.bl k]/\Q (.int<|if k then 1 else 0) H):=by
 intro b s Z H xs c Q I r h;rcases h with⟨i,rfl,q⟩|⟨k,rfl,q⟩
 . obtain⟨u,rfl,t,rfl⟩:=vals1 r;exact call_int_int ⟨.int i,H,I,⟨_,rfl⟩,q⟩
 . obtain⟨u,rfl,a⟩:=vals1 r;cases a;exact call_int_bool ⟨.int _,H,I.tok _,⟨_,rfl⟩,q⟩
end
structure ObjM(h:YG)(x dx C:Yj)(mA:Str->Option Yk):Prop where
 obj:h.get? x=J (We C dx)
 ns:h.Ns1 dx mA
 ne:dx≠x
def ZpP{h:YG}(n:h.Ns1 dx mA):∃od,h.get? dx=J od/\∀name,PySem.W.lookIn name od=J (mA name):=by
 obtain⟨o,es,ep,ho,hd,hk,_,hm⟩:=n;refine⟨o,ho,λname=>?_⟩;have e:=hm name;unfold nsFind findBy at e;rw[<-Array.find?_toList]at e;unfold PySem.W.lookIn;rw[hd];dsimp;split
 . simp_all
 . have a:es.toList.any (·.refKey)=Ws:=by rw[List.any_eq_false];intro y hy;obtain⟨z,t,bf⟩:=hk y<|Array.mem_toList_iff.mp hy;simp[DictEntry.refKey,bf]
   simp_all
def ObjM.look(I:ObjM h x dx C mA):∃od,PySem.W.InstAt h x (We C dx) C (J od)/\∀name,PySem.W.lookIn name od=J (mA name):=
 let⟨od,a,b⟩:=ZpP I.ns
 ⟨_,⟨I.obj,rfl,rfl,a⟩,b⟩
section
variable {prog:Yi}{w:Yh}{A:YH}{E:Yk->Yb->Prop}{s:Yb}{K:Yl}{x dx C f:Yj}{mA:Str->Option Yk}{name:Str}{v:Yk}
def Zui(X:K.In s.heap)(I:ObjM s.heap x dx C mA)(hg:PySem.W.plainGet K C name=Wq)(hh:PySem.W.hasDictIn K C=Wq)
 (ha:YJ K (.ref C) name=J M) (hv:mA name=J v) (cq:PySem.W.handedIn v=Wq) (h:Q v {s with toks:=s.toks+1}) :
 YB (model prog w) A (getAttr (.ref x) name expr) Q E s:=by
 obtain⟨b,a,c⟩:=I.look;exact PySem.W.get_value X a (PySem.W.plainGet_of hg).1 (PySem.W.findObj_own hh ha rfl<|by simp_all) cq h
def ZrU(X:K.In s.heap)(I:ObjM s.heap x dx C mA)(hg:PySem.W.plainGet K C name=Wq)
 (hf:YJ K (.ref C) name=J (J<|.ref f)) (ht:PySem.W.isFn K (.ref f)=Wq) (hv:mA name=M) (h:Q (.ref f,[.ref x]) s) :
 YB (model prog w) A (getMethod (.ref x) name pl) Q E s:=by
 obtain⟨b,a,c⟩:=I.look;exact PySem.W.method_fn X a (PySem.W.plainGet_of hg).1 (PySem.W.plainGet_of hg).2 hf (beq_iff_eq.mp ht) (by show(PySem.W.lookIn _ _).map _=J _;simp_all) h
def ZsY(X:K.In s.heap)(I:ObjM s.heap x dx C mA)
 (hs:YJ K (.ref C) "__setattr__"=J (J<|.builtin "object.__setattr__")) (hp:PySem.W.plainOver K C=Wq) (ht:PySem.W.takerIn K C name=J M) (hh:PySem.W.hasDictIn K C=Wq)
 (hw:PySem.Within mA ns) (aR:ns.length<=Yc)
 (h:∀h',ObjM h' x dx C (λy=>if y=name then J v else mA y)->Heap.SameBut dx s.heap h'->Q () {s with heap:=h',toks:=s.toks+2}) :
 YB (model prog w) A (setAttr (.ref x) name v) Q E s:=by
 obtain⟨k,a,l⟩:=I.look;refine PySem.W.set_plain X a hs<|PySem.W.osa_open X a hp ht λb=>?_;obtain⟨m,e,f⟩:=PySem.W.any_some hh;refine Ya<|Yd<|Ya<|Ya<|wpAny_loadPart I.obj<|Ya<|PySem.W.Looks.here (PySem.W.looks_clsIn X e) ?_;rw[f];refine Yd<|Ya<|Yd<|Ya<|wpAny_nsSet1 I.ns λh' c d=>?_;obtain⟨n,o,p,g,i,j⟩:=c.count<|PySem.Within.cons _ v hw;exact Ya (wpAny_lookBehind g (i▸pastItsLine_dict (OE j<|by simp_all))<|Yd<|h _ ⟨(d.2 _<|YL I.ne).I I.obj,c,I.ne⟩ d)
def ZrH(X:K.In s.heap)(hm:PySem.W.makesIn K C=Wq)
 (hi:YJ K (.ref C) "__init__"=J (J<|.ref f)) (hf:PySem.W.typeIn K (.ref f)=J (.type "function"))
 (h:codeAny (model prog w) (A.under<|.builtin "type.__call__" ⟨.ref C::vs,kw⟩) (.call (.ref f) ⟨.ref (s.heap.objs.size+1)::vs,kw⟩) (PySem.W.InitBack (s.heap.objs.size+1) qd)
  {s with heap:=(s.heap.push PySem.W.emptyDict).push<|We C s.heap.objs.size}) :
 codeAny (model prog w) A (.call (.ref C) ⟨vs,kw⟩) qd s:=PySem.W.make_core (PySem.W.makes_of X hm) (PySem.W.looks_findIn X hi) (λa=>PySem.W.bind_fn X _ hf) (.inl rfl) h
end
noncomputable def ZcT(f:Str)(v:V):List (Str×V)->List (Str×V)
 |[]=>[(f,v)]
 |(g,x)::r=>if g=f then(g,v)::r else(g,x)::ZcT f v r
theorem Zht(f g)(v):∀fs ,(ZcT f v fs).lookup g=if g=f then J v else fs.lookup g
 |[]=>by
  show Wf g [(f,v)]=_;by_cases h:g=f
  . simp_all
  simp_all
 |(k,x)::r=>by
  have ih:=Zht f g v r;rw[show ZcT f v _=(if k=f then(k,v)::r else(k,x)::ZcT f v r)from rfl];by_cases hk:k=f
  . rw[if_pos hk];by_cases h:g=k
    . simp_all
    . simp[Wf,beq_eq_false_iff_ne.mpr h,if_neg (λe:g=f=>h<|e.I hk.symm)]
  . rw[if_neg hk];by_cases h:g=k
    . simp_all
    . simp[Wf,beq_eq_false_iff_ne.mpr h];trivial
theorem Zha(f)(v):∀fs:List (Str×V),f∈(ZcT f v fs).map (·.1)/\∀g,g∈fs.map (·.1)->g∈(ZcT f v fs).map (·.1)
 |[]=>⟨by simp[ZcT],λg h=>by simp_all⟩
 |(k,x)::r=>by
  obtain⟨i1,i2⟩:=Zha f v r;rw[show ZcT f v _=(if k=f then(k,v)::r else(k,x)::ZcT f v r)from rfl];by_cases hk:k=f
  . rw[if_pos hk];subst hk;simp
  . rw[if_neg hk];refine⟨?_,λg h=>?_⟩
    . exact Oh _ i1
    . rcases O2.mp h with e|e
      . exact O2.mpr (.inl e)
      . exact Oh _ (i2 g e)
theorem Zhu(f)(v):∀fs ,(ZcT f v fs).length<=fs.length+1
 |[]=>by simp[ZcT]
 |(k,x)::r=>by
  have a:=Zhu f v r;rw[show ZcT f v _=(if k=f then(k,v)::r else(k,x)::ZcT f v r)from rfl];by_cases b:k=f
  . simp_all
  simp_all
def ZfV.some_of(r:ZfV (J v) o):∃u,o=J u/\RelV v u:=by
 cases o with
 |none=>trivial
 |some u=>exact⟨u,rfl,r⟩
def ZfV.none_of(r:ZfV M o):o=M:=by
 cases o with
 |none=>rfl
 |some u=>trivial
def ZpY(r:RelV v u):PySem.W.handedIn u=Wq:=by
 cases v with
 |non=>cases (r);rfl
 |bl b=>cases (r);rfl
 |int i=>obtain⟨t,e⟩:=(r);cases e;rfl
 |str x=>obtain⟨t,e⟩:=(r);cases e;rfl
 |byt b=>obtain⟨t,e⟩:=(r);cases e;rfl
 |flt b=>obtain⟨t,e⟩:=(r);cases e;rfl
 |ref a=>cases (r);rfl
 |ty n=>cases (r);rfl
section
variable {P:Yi}{w:Yh}{H:Hp}{h:YG}{a C dx:Yj}{fs:List (Str×V)}
def ZkL(hok:HOk P w H h)(e:H a=J (.ins C dx fs)):∃mA,ObjM h a dx C mA/\(∀f,ZfV (fs.lookup f)<|mA f)/\PySem.Within mA (fs.map (·.1))/\fs.length<=1000/\H dx=J (.own a):=by
 obtain⟨d,z,ne,ob,mA,n,r,q⟩:=(hok a _ e)
 exact⟨_,⟨ob,n,ne⟩,r,q,z,d⟩
end
structure Cls(K:Yl)(C:Yj):Prop where
 pg:PySem.W.plainGet K C Str.empty=Wq
 hd:PySem.W.hasDictIn K C=Wq
 po:PySem.W.plainOver K C=Wq
 sa:YJ K (.ref C) "__setattr__"=J (J<|.builtin "object.__setattr__")
def Cls.get{K}(c:Cls K C)(f):PySem.W.plainGet K C f=Wq:=c.pg
def Za5(K:Yl)(C:Yj)(f:Str):Prop:=YJ K (.ref C) f=J M
def Za5.taker{K}(n:Za5 K C f):PySem.W.takerIn K C f=J M:=by unfold PySem.W.takerIn;rw[n];rfl
structure Meth(K:Yl)(C:Yj)(m:Str)(f:Yj):Prop where
 at_:YJ K (.ref C) m=J (J<|.ref f)
 fn:PySem.W.isFn K (.ref f)=Wq
 kp:Wa K (.ref f)=Wq
section
variable {X:Cx}{aa:List (Yj×Obj)}{Z:St}{H:Hp}{s:Yb}{a C dx:Yj}{fs:List (Str×V)}{f:Str}{v:V}{A:YH}{E:Yk->Yb->Prop}
def ZiL(I:Inv X aa Z H s)(e:H a=J (.ins C dx fs))(c:Cls X.K C)(n:Za5 X.K C f)(l:fs.lookup f=J v)
 (h:∀u s',Inv X aa Z H s'->RelV v u->Q u s'):YB (model X.prog X.w) A (getAttr (.ref a) f b) Q E s:=by
 obtain⟨i,O_,r,_,_,_⟩:=ZkL I.hok e;obtain⟨u,g,d⟩:=ZfV.some_of<|l▸r f;exact Zui I.kIn O_ (c.get f) c.hd n g (ZpY d) (h u _ (I.tok _) d)
def ZiK(I:Inv X aa Z H s)(e:H a=J (.ins C dx fs))(c:Cls X.K C)(k:Meth X.K C m g)(l:fs.lookup m=M)
 (h:Q (.ref g,[.ref a]) s):YB (model X.prog X.w) A (getMethod (.ref a) m pl) Q E s:=by
 obtain⟨b,O_,r,_,_,_⟩:=ZkL I.hok e;exact ZrU I.kIn O_ (c.get m) k.at_ k.fn (ZfV.none_of<|l▸r m) h
def Zii(I:Inv X aa Z H s)(e:H a=J (.ins C dx fs))(c:Cls X.K C)(n:Za5 X.K C f)(hl:fs.length<1000)(ry:RelV y u)
 (h:∀s',Inv X aa Z (upd H a<|.ins C dx<|ZcT f y fs) s'->Q () s'):YB (model X.prog X.w) A (setAttr (.ref a) f u) Q E s:=by
 obtain⟨mA,O_,r,wi,_,ho⟩:=ZkL I.hok e;refine ZsY I.kIn O_ c.sa c.po n.taker c.hd wi (by rw[Yu,YC];lia) λh' O' sb=>h _ (I.write (by rw[e];trivial) (.inr ho) (λb q hb z=>(sb.2 b hb).I z) (let⟨o,_,_,e',_⟩:=O'.ns;⟨o,e'⟩) ⟨by rw[Zo O_.ne];trivial,?_,O_.ne,O'.obj,_,O'.ns,λg=>?_,λg hg=>?_⟩)
 . have:=Zhu f y fs;lia
 . rw[Zht];by_cases q:g=f
   . rw[if_pos q,if_pos q];trivial
   simp_all
 . by_cases q:g=f
   . rw[q];exact(Zha f y _).1
   . refine(Zha f y _).2 g<|wi g λz=>hg ?_;show(if g=f then J u else mA g)=M;rw[if_neg q];exact z
theorem Inv.made(I:Inv X aa Z H s):Inv X aa Z (upd (upd H s.heap.objs.size<|.own<|s.heap.objs.size+1) (s.heap.objs.size+1)<|.ins C s.heap.objs.size [])
   {s with heap:=(s.heap.push PySem.W.emptyDict).push<|We C s.heap.objs.size}:=by
 refine(I.laid (o:=.own _) (t':=s.toks) (λb u q=>Od _ q) (Oq _) ⟨_,Oj _ rfl⟩).laid (λb u q=>Od _ q) (Nat.le_of_eq<|Heap.size_push _ _) ⟨by rw [Zo<|Ou<|OH _,Zj],Yy _,(Ou<|OH _),by
   have:=Oj (s.heap.push PySem.W.emptyDict) (o:=We C s.heap.objs.size) rfl
   rwa [Heap.size_push] at this,_,(Heap.Ns1.of_empty ⟨_,_,_,Oj _ rfl,rfl,(λe he=>absurd he<|by simp),λ_=>rfl⟩).at λo q=>Od _ q,λ_=>True.intro,λy hy=>absurd rfl hy⟩
def ZuP(hb:attributeBase e f env (eval e env)=eval e env)
 (h:YB (model prog w) A (eval e env) (λo s₁=>YB (model prog w) A (getAttr o f Wq) Q E s₁) E s):YB (model prog w) A (eval (.Attribute e f pos) env) Q E s:=
 Attribute_any_ h (by rw[arm_eval_Attribute,hb])
end
def ZAW(K:Yl)(ta:TE)(f:Str):TE:=λZ H Q=>ta Z H λx H1=>∃a C b fs v,x=.ref a/\H1 a=J (.ins C b fs)/\Cls K C/\Za5 K C f/\fs.lookup f=J v/\Q v H1
def ZBb(K:Yl)(ta tv:TE)(f:Str):TS:=λD Z H=>tv Z H λy H1=>ta Z H1 λx H2=>∃a C b fs,x=.ref a/\H2 a=J (.ins C b fs)/\Cls K C/\Za5 K C f/\fs.length<1000 /\
 D.nx Z (upd H2 a<|.ins C b<|ZcT f y fs)
def ZAs(X:Cx)(op:Operator)(rd:V->V->Hp->VK->Prop):Prop:=∀(aa:List (Yj×Obj)) (s:Yb) (Z:St) (H:Hp) (x y:V) (u v:Yk) (Q:VK),Inv X aa Z H s->RelV x u->RelV y v->rd x y H Q->YB (model X.prog X.w) X.A (inplaceOp op u v) (EP X aa Z Q) X.xe s
def ZsZ(K:Yl)(ta tv:TE)(rd:V->V->Hp->VK->Prop)(f:Str):TS:=λD Z H=>ta Z H λx H1=>∃a C d fs v,x=.ref a/\H1 a=J (.ins C d fs)/\Cls K C/\Za5 K C f/\fs.lookup f=J v /\
 tv Z H1 λy H2=>rd v y H2 λz H3=>∃c b,H3 a=J (.ins C c b)/\b.length<1000/\D.nx Z (upd H3 a<|.ins C c<|ZcT f z b)
section
variable {X:Cx}{o e value:Expr}{f:Str}{pos bU gL:Pos}{ta tv:TE}
def Zwt(he:PE X e ta)(hb:attributeBase e f X.env (eval e X.env)=eval e X.env):PE X (.Attribute e f pos) (ZAW X.K ta f):=by intro k s Z H Q I h;refine ZuP hb<|thn (he _ s _ H _ I h) λu m b=>?_;obtain⟨x,H1,I1,d,a,C,o,fs,v,g,i,c,n,l,q⟩:=b;subst g;obtain rfl:u=YD a:=d;exact ZiL I1 i c n l λp r I2 j=>⟨v,_,I2,j,q⟩
def Zwg(ha:PE X o ta)(hv:PE X value tv)(hs:swapsWith value (J<|.Attribute o f bU) pos.line X.env=pure Ws):PS X (.Assign [.Attribute o f bU] value pos) (ZBb X.K ta tv f):=by intro m s Z H D I h;refine plainObj_wpAny_Assign_Attribute (thn (hv _ s _ H _ I h) λu p b=>?_) hs;obtain⟨y,H1,I1,d,q⟩:=b;refine thn (ha _ _ _ _ _ I1 q) λe r b=>?_;obtain⟨x,H2,I2,g,a,C,t,fs,i,j,c,n,l,k⟩:=b;subst i;obtain rfl:e=YD a:=g;exact Zii I2 j c n l d λv I3=>⟨_,_,I3,k⟩
def Zpx(ha:PE X o ta)(hv:PE X value tv)(lB:ZAs X op rd):PS X (.AugAssign (.Attribute o f gL) op value pos) (ZsZ X.K ta tv rd f):=by intro A s Z H D I h;refine wpAny_AugAssign_AttributeAny<|thn (ha _ s _ H _ I h) λd B b=>?_;obtain⟨x,H1,I1,e,a,C,E,fs,v,g,i,c,n,l,q⟩:=b;subst g;obtain rfl:d=YD a:=e;exact ZiL I1 i c n l λu F I2 j=>thn (hv _ _ _ _ _ I2 q) λG J b=>by obtain⟨y,H2,I3,k,m⟩:=b;exact thn (lB _ _ _ _ v y u _ _ I3 j k m) λL N b=>by obtain⟨z,H3,I4,p,O,P,r,t,w⟩:=b;exact Zii I4 r c n t p λQ I5=>⟨_,_,I5,w⟩
def Zy6:V->V->Hp->VK->Prop:=λx y H Q=>∃i j,x=.int i/\y=.int j/\Q (.int<|i+j) H
def Zxi:ZAs X .Add Zy6:=by
 rintro aa s Z H x y u v Q I rx ry ⟨i,j,rfl,rfl,q⟩;obtain⟨t,rfl⟩:=(rx)
 obtain⟨t',rfl⟩:=(ry)
 exact PyProof.Rows.iadd_int ⟨.int _,H,I.tok _,⟨_,rfl⟩,q⟩
end
structure Room(k:Nat)(A:YH):Prop where
 hd:A.handled=M
 dp:A.depth+k+5<recursionLimit
 un:A.units+4*k+1300<cLine
 gd:A.guards=J []
def Room.mono(r:Room k A)(h:j<=k):Room j A:=⟨r.hd,by have:=r.dp;lia,by have:=r.un;lia,r.gd⟩
theorem Room.deeper(r:Room (k+1) A)(env):Room k (A.deeper env):=⟨r.hd,by have:=r.dp;show A.depth+1+k+5<_;lia,by have:=r.un;show A.units+3+4*k+1300<_;lia,r.gd⟩
def Znf{A:YH}:(A.under<|.builtin "type.__call__" ⟨.ref C::us,kw⟩).depth=A.depth+1:=rfl
def Zne{A:YH}:(A.under<|.builtin "type.__call__" ⟨.ref C::us,kw⟩).units=A.units+1:=rfl
def Room.make(r:Room (k+1) A)(C)(us)(kw):Room k (A.under<|.builtin "type.__call__" ⟨.ref C::us,kw⟩):=⟨r.hd,by have:=r.dp;rw[Znf];lia,by have:=r.un;rw[Zne];lia,by first|exact r.gd|lia⟩
theorem Room.depth(r:Room k A):A.depth<recursionLimit:=by have:=r.dp;lia
noncomputable def ZvT:TA:=λ_ H Q=>Q [] H
noncomputable def ZyJ(ta:TE)(tr:TA):TA:=λZ H Q=>ta Z H λx H1=>tr Z H1 λa H2=>Q (x::a) H2
section
variable {X:Cx}{e:Expr}{es:List Expr}{te:TE}{t:TA}{pos:Pos}
def ZfJ:PA X [] ZvT:=λ_ _ _ _ H Q I h=>Calls.spliced_nil ⟨_,H,I,.nil,h⟩
def Zb7(ha:PE X e te)(hr:PA X es t)(hs:YA (e::es) X.env=(Ws,eval e X.env)::YA es X.env:=by rfl):PA X (e::es) (ZyJ te t):=by intro b i s Z H Q I h;rw[hs];exact Calls.spliced_cons (thn (ha _ s _ H _ I h) λu j a=>by obtain⟨x,H1,I1,c,d⟩:=a;exact thn (hr _ _ _ _ _ _ I1 d) λk l a=>by obtain⟨m,H2,I2,f,g⟩:=a;exact⟨_,_,I2,.cons c f,g⟩)
def ZAO(t:TA):TE:=λZ H Q=>t Z H λa H1=>a.length<=Yc/\∀p,H1 p=M->Q (.ref p) (upd H1 p<|.tup a)
def ZAT(t:TA):TE:=λZ H Q=>t Z H λa H1=>a.length<=Yc/\∀p,H1 p=M->Q (.ref p) (upd H1 p<|.lst a)
def Zwn{x1}(h:PA X es t):PE X (.Tuple es x1 pos) (ZAO t):=by intro d s Z H Q I a;exact wpAny_Tuple_spliced (thn (h _ _ s _ H _ I a) λf g c=>by obtain⟨i,H1,I1,r,z,q⟩:=c;exact⟨r.length▸z,⟨.ref _,upd _ _<|.tup _,I1.laid (λb u e=>Od _ e) (Oq _) ⟨z,_,r,⟨_,Oj _ rfl,rfl,rfl,_,rfl⟩⟩,rfl,q _<|I1.hok.fresh<|Oq _⟩⟩)
def Zwr(h:PA X es t):PE X (.List es pos) (ZAT t):=by intro d s Z H Q I a;exact wpAny_List_spliced (thn (h _ _ s _ H _ I a) λf g c=>by obtain⟨i,H1,I1,r,z,q⟩:=c;exact⟨r.length▸z,⟨.ref _,upd _ _<|.lst _,I1.laid (λb u e=>Od _ e) (Oq _) ⟨z,_,0,r,Oj _ rfl⟩,rfl,q _<|I1.hok.fresh<|Oq _⟩⟩)
end
abbrev Sp:=List V->Hp->VK->XK->Prop
abbrev CXT:=List Env->Hp->Yb->XK->Yk->Yb->Prop
structure Env0(P:Yi)(w:Yh)(K:Yl)(mg:Str->Option Yk)(base:YG)(A:YH)(outer:List Env)(s:Yb)(H:Hp):Prop where
 frames:A.frames=J outer
 mod:Mod K mg base
 bs:∀b o,base.get? b=J o->s.heap.get? b=J o/\H b=M
 bsz:base.objs.size<=s.heap.objs.size
 funs:s.heap.FunFrames base outer
 frf:∀b∈frs outer,H b=M
 hok:HOk P w H s.heap
 bare:AllBare s.gens
def CE(outer:List Env)(P:Yi)(w:Yh)(H:Hp)(s:Yb)(Q:VK)(u:Yk)(s':Yb):Prop:=∃v H',s'.os=s.os/\AllBare s'.gens/\Un (frs outer) [] H H' s.heap s'.heap/\HOk P w H' s'.heap/\RelV v u/\Q v H'
def CR(CX:CXT)(outer:List Env)(P:Yi)(w:Yh)(H:Hp)(s:Yb)(Q:VK)(E:XK)(r:Result)(s':Yb):Prop:=
 match r with
 |.ok (.ret u)=>CE outer P w H s Q u s'
 |.ok _=>False
 |.error e=>CX outer H s E e s'
structure FnOk(P:Yi)(w:Yh)(K:Yl)(mg:Str->Option Yk)(base:YG)(CX:CXT)(k:Nat)(f:Yj)(fd:FuncData)(ps:List Str)(sp:Sp):Prop where
 len:∀vs H Q E,sp vs H Q E->vs.length=ps.length
 run:∀(A:YH) (outer:List Env) (s:Yb) (H:Hp) (args:Args) (us:List Yk) (vs:List V) (Q:VK) (E:XK),Room k A->Env0 P w K mg base A outer s H->BindsTo s fd args (ps.zip us)->Zs vs us->sp vs H Q E ->
  codeAny (model P w) A (.call (.ref f) args) (CR CX outer P w H s Q E) s
def FnOk.imp{P}{w}{K}{mg}{base}{CX}{k}{f}{fd}{ps}{sp sp'}(F:FnOk P w K mg base CX k f fd ps sp)
 (h:∀vs H Q E,sp' vs H Q E->sp vs H Q E):FnOk P w K mg base CX k f fd ps sp':=
 ⟨λvs H Q E q=>F.len _ H Q E<|h _ _ _ _ q,λA a s H args i vs Q E b c d e g=>F.run A _ s H _ _ _ Q E b c d e<|h _ _ _ _ g⟩
def Env0.make{P}{w}{K}{mg}{base}{A}{outer}{s}{H}(e:Env0 P w K mg base A outer s H)(C)(us)(kw):
 Env0 P w K mg base (A.under<|.builtin "type.__call__" ⟨.ref C::us,kw⟩) outer s H:=⟨by first|exact e.frames|lia,e.mod,e.bs,e.bsz,e.funs,e.frf,e.hok,e.bare⟩
section
variable {X:Cx}{aa:List (Yj×Obj)}{Z:St}{H:Hp}{s s':Yb}
def Inv.env0(I:Inv X aa Z H s):Env0 X.prog X.w X.K X.mg X.base X.A X.stack s H:=⟨I.ok.frames,I.ok.mod,I.bs,OE I.ok.bsz I.sz,I.stack,I.stkFree,I.hok,I.bare⟩
def Inv.after(I:Inv X aa Z H s)(h:CE X.stack X.prog X.w H s Q u s'):EP X aa Z Q u s':=by obtain⟨v,H',os,bare,un,hok,r,q⟩:=h;obtain⟨hh,g,d,t,kD⟩:=s';obtain rfl:kD=s.os:=os;exact⟨v,_,I.call un hok bare<|λb z=>absurd z<|by simp,r,q⟩
end
def ZyK(sp:Sp)(aV:List V)(E:XK)(t:TA):TE:=λZ H Q=>t Z H λvs H1=>sp (vs++aV) H1 Q E
def Zu3(C:Yj)(m:Str)(sp:Sp)(aV:List V)(E:XK)(ta:TE)(t:TA):TE:=λZ H Q=>ta Z H λx H1=>∃a b fs,x=.ref a/\H1 a=J (.ins C b fs)/\fs.lookup m=M /\
 t Z H1 λvs H2=>sp (x::(vs++aV)) H2 Q E
def Zu4(C:Yj)(sp:Sp)(aV:List V)(E:XK)(t:TA):TE:=λZ H Q=>t Z H λvs H1=>∀x a,H1 x=M->H1 a=M->a≠x ->
 sp (.ref x::(vs++aV)) (upd (upd H1 a<|.own x) x<|.ins C a []) (λv H2=>v=.non/\Q (.ref x) H2) E
def Binds(K:Yl)(fd:FuncData)(ps:List Str)(ds:List Yk):Prop:=∀(s:Yb) (us:List Yk),K.In s.heap->(us++ds).length=ps.length->BindsTo s fd ⟨us,[]⟩ (ps.zip<|us++ds)
def Binds.all{K}(h:∀us ,us.length=ps.length->bindArgs fd ⟨us,[]⟩=pure (ps.zip us)):Binds K fd ps []:=λs us _ a=>by rw[Yt]at a ⊢;exact .of_eq (h _ a)
def ZbZ(CX:CXT)(X:Cx)(E:XK):Prop:=∀(b:List (Yj×Obj)) (Z:St) (H:Hp) (s:Yb) (e:Yk) (a:Yb),Inv X b Z H s->CX X.stack H s E e a->X.xe e a
section
variable {X:Cx}{CX:CXT}{k:Nat}{f C:Yj}{fd:FuncData}{ps:List Str}{sp:Sp}{aV:List V}{ds:List Yk}{E:XK}{x m:Str}{p pos az:Pos}{e o:Expr}{es:List Expr}{ta:TE}{t:TA}
def ZmR(F:FnOk X.prog X.w X.K X.mg X.base CX k f fd ps sp)(hr:Room k X.A)(hb:Binds X.K fd ps ds)(hd:Zs aV ds)(hx:ZbZ CX X E)
 (I:Inv X aa Z H s) (r:Zs vs us) (h:sp (vs++aV) H Q E):YB (model X.prog X.w) X.A (call (.ref f) us) (EP X aa Z Q) X.xe s:=by
 refine wpAny_call<|codeAny_mono (F.run _ _ s H _ _ _ Q E hr I.env0 (hb s _ I.kIn<|((r.append hd).length).symm.I<|F.len _ _ _ _ h) (r.append hd) h) λr c a=>?_;cases r with
 |error e=>exact hx _ _ H s e _ I a
 |ok b=>
  cases b with
  |ret u=>exact I.after a
  |next=>trivial
  |brk=>trivial
  |cont=>trivial
def Ztz(F:FnOk X.prog X.w X.K X.mg X.base CX k f fd ps sp)(hr:Room k X.A)(hg:Gl X x)(hm:X.mg x=J (.ref f))(hk:Wa X.K (.ref f)=Wq)(hb:Binds X.K fd ps ds)(hd:Zs aV ds)(hx:ZbZ CX X E)
 (ha:PA X (e::es) t) (bu:(x==("__debug__" : Str))=Ws:=by decide) (he:YA (e::es) X.env=(Ws,eval e X.env)::YA es X.env:=by rfl) (aE:(YS pos<|YA es X.env).any (·.1)=Ws:=by rfl) :
 PE X (.Call (.Name x p) (e::es) [] pos) (ZyK sp aV E t):=by
 intro b s Z H Q I h;exact YW (Zdg I hg hm (PySem.W.callWith_K I.ok.mod.kin hk (thn (ha _ _ s _ H _ I h) λc d a=>by obtain⟨vs,H1,I1,r,q⟩:=a;exact⟨I1.kIn,ZmR F hr hb hd hx I1 r q⟩) he aE) bu)
def Ztt(he:PE X o ta)(c:Cls X.K C)(hm:Meth X.K C m f)(F:FnOk X.prog X.w X.K X.mg X.base CX k f fd ps sp)(hr:Room k X.A)(hb:Binds X.K fd ps ds)(hd:Zs aV ds)(hx:ZbZ CX X E)(ha:PA X (e::es) t)
 (hst:YA (e::es) X.env=(Ws,eval e X.env)::YA es X.env:=by rfl) (aE:(YS pos<|YA es X.env).any (·.1)=Ws:=by rfl)
 (ht:eval (.Call (.Attribute o m az) (e::es) [] pos) X.env=(do
  let ov <- eval o X.env
  standAt az.atName
  let (f,first) <- holding [ov] (getMethod ov m pl)
  callWith pos f first (YS pos<|YA (e::es) X.env) (backToKw pos<|keywordEach [] X.env)):=by rfl) :
 PE X (.Call (.Attribute o m az) (e::es) [] pos) (Zu3 C m sp aV E ta t):=by
 intro d s Z H Q I h;refine PySem.W.methodCall_KW (thn (he d s Z H _ I h) λu g b=>?_) ht;obtain⟨x,H1,I1,i,a,v,fs,j,n,l,q⟩:=b;subst j;obtain rfl:u=YD a:=i;exact ZiK I1 n c hm l (PySem.W.callWith_K I.ok.mod.kin hm.kp (thn (ha pos d g Z H1 _ I1 q) λy z b=>by obtain⟨vs,H2,I2,r,p⟩:=b;exact⟨I2.kIn,ZmR (vs:=.ref a::vs) F hr hb hd hx I2 (.cons rfl r) p⟩) hst aE)
def Zrj(he:PE X o ta)(c:Cls X.K C)(hm:Meth X.K C m f)(F:FnOk X.prog X.w X.K X.mg X.base CX k f fd ps sp)(hr:Room k X.A)(hb:Binds X.K fd ps ds)(hd:Zs aV ds)(hx:ZbZ CX X E)
 (ht:eval (.Call (.Attribute o m az) [] [] pos) X.env=(do
  let ov <- eval o X.env
  standAt az.atName
  let (f,first) <- holding [ov] (getMethod ov m pl)
  callWith pos f first (YS pos<|YA [] X.env) (backToKw pos<|keywordEach [] X.env)):=by rfl) :
 PE X (.Call (.Attribute o m az) [] [] pos) (Zu3 C m sp aV E ta ZvT):=by
 intro b s Z H Q I h;refine PySem.W.methodCall_KW (thn (he b s Z H _ I h) λu j d=>?_) ht;obtain⟨x,H1,I1,e,a,n,fs,g,i,l,q⟩:=d;subst g;obtain rfl:u=YD a:=e;exact ZiK I1 i c hm l (PySem.W.callWith_K0 I1.kIn hm.kp<|ZmR (vs:=[.ref a]) F hr hb hd hx I1 (.cons rfl .nil) q)
structure Mk(K:Yl)(C f:Yj):Prop where
 makes:PySem.W.makesIn K C=Wq
 init:YJ K (.ref C) "__init__"=J (J<|.ref f)
 fn:PySem.W.isFn K (.ref f)=Wq
 kp:Wa K (.ref C)=Wq
theorem Zly(qb:Mk X.K C f)(F:FnOk X.prog X.w X.K X.mg X.base CX k f fd ps sp)(hr:Room (k+1) X.A)(hb:Binds X.K fd ps ds)(hd:Zs aV ds)
   (hx:ZbZ CX X E) (I:Inv X aa Z H s) (r:Zs vs us)
   (h:∀ x dx,H x=M->H dx=M->dx≠x->sp (.ref x::(vs++aV)) (upd (upd H dx<|.own x) x<|.ins C dx []) (λv H2=>v=.non/\Q (.ref x) H2) E) :
   YB (model X.prog X.w) X.A (call (.ref C) us) (EP X aa Z Q) X.xe s:=by
 have b:=h _ _ (I.hok.fresh<|Nat.le_succ _) (I.hok.fresh<|Oq _)<|Ou<|OH _;have I2:=Inv.made (C:=C) I;have c:Zs (V.ref _::(vs++aV)) (YD (s.heap.objs.size+1)::(us++ds)):=.cons rfl<|r.append hd;refine wpAny_call (ZrH (f:=f) I.kIn qb.makes qb.init (beq_iff_eq.mp qb.fn) (codeAny_mono (F.run _ _ _ _ _ _ _ _ E (hr.make C _ _)
   (I2.env0.make C _ _) (hb _ _ I2.kIn (by
   have e:=c.length;rw [F.len _ _ _ _ b] at e;exact e.symm)) c b) λr j a=>?_))
 cases r with
 |error e=>exact hx _ _ _ _ e _ I2 a
 |ok d =>
   cases d with
   |ret u =>
     obtain⟨v,H',I3,g,ev,i⟩:=I2.after a;subst ev;exact⟨g,⟨V.ref _,_,I3,rfl,i⟩⟩
   |next=>exact False.elim a
   |brk=>exact False.elim a
   |cont=>exact False.elim a
def Ztv(qb:Mk X.K C f)(F:FnOk X.prog X.w X.K X.mg X.base CX k f fd ps sp)(hr:Room (k+1) X.A)(hg:Gl X x)(hm:X.mg x=J (.ref C))(hb:Binds X.K fd ps ds)(hd:Zs aV ds)(hx:ZbZ CX X E)
 (ha:PA X (e::es) t) (bu:(x==("__debug__" : Str))=Ws:=by decide) (he:YA (e::es) X.env=(Ws,eval e X.env)::YA es X.env:=by rfl) (aE:(YS pos<|YA es X.env).any (·.1)=Ws:=by rfl) :
 PE X (.Call (.Name x p) (e::es) [] pos) (Zu4 C sp aV E t):=by
 intro b s Z H Q I h;exact YW (Zdg I hg hm (PySem.W.callWith_K I.ok.mod.kin qb.kp (thn (ha _ _ s _ H _ I h) λc d a=>by obtain⟨vs,H1,I1,r,q⟩:=a;exact⟨I1.kIn,Zly qb F hr hb hd hx I1 r q⟩) he aE) bu)
def Zrk(qb:Mk X.K C f)(F:FnOk X.prog X.w X.K X.mg X.base CX k f fd ps sp)(hr:Room (k+1) X.A)(hg:Gl X x)(hm:X.mg x=J (.ref C))(hb:Binds X.K fd ps ds)(hd:Zs aV ds)(hx:ZbZ CX X E)
 (bu:(x == "__debug__")=Ws:=by decide):PE X (.Call (.Name x p) [] [] pos) (Zu4 C sp aV E ZvT):=by
 intro a s Z H Q I h;exact YW (Zdg I hg hm (PySem.W.callWith_K0 I.kIn qb.kp<|Zly qb F hr hb hd hx I .nil h) bu)
end
structure FnScope(N P:List Str)(sc:Scope):Prop where
 kind:sc.kind=.function
 co:sc.isCoroutine=Ws
 gen:sc.isGenerator=Ws
 nd:N.Nodup
 pre:N.take P.length=P
 par:∀x∈P,sc.names.lookup x=J .local\/sc.names.lookup x=J .cell
 nofree:∀y∈sc.names,y.2≠.free
theorem Zke{kindOf}:∀{binds}{m},(∀v,(x,v) ∉ binds)->bindL kindOf binds m x=m x
 |[],_,_=>rfl
 |(n,v)::r,m,h=>by
  unfold bindL;rw[Zke λw hw=>h w<|Oh _ hw];split
  . have:x≠n:=by rintro rfl;exact h v Oi
    simp_all
  simp
theorem Zkg{kindOf}:∀{binds}{m},(∀v,(x,v) ∉ binds)->bindC kindOf binds m x=m x
 |[],_,_=>rfl
 |(n,v)::r,m,h=>by
  unfold bindC;rw[Zkg λw hw=>h w<|Oh _ hw];split
  . rfl
  . have:x≠n:=by rintro rfl;exact h v Oi
    simp_all
theorem Zkf{kindOf}:∀{P:List _}{vs}{i:Nat}{m},P.Nodup->P[i]?=J x->vs[i]?=J v->kindOf x=J .local ->
 bindL kindOf (P.zip vs) m x=J v
 |[],_,_,_,_,h,_,_=>by trivial
 |_::_,[],_,_,_,_,h,_=>by trivial
 |p::P,w::vs,0,m,nd,R,h2,hk=>by simp at R h2;subst R;subst h2;show bindL _ ((p,w)::P.zip _) m p=_;unfold bindL;rw[Zke λv hv=>(List.nodup_cons.mp nd).1 (List.of_mem_zip hv).1,if_pos hk];simp
 |p::P,w::vs,i+1,m,nd,R,h2,hk=>by unfold bindL;exact Zkf (List.nodup_cons.mp nd).2 (by trivial) (by trivial) hk
theorem Zkh{kindOf}:∀{P:List _}{vs}{i:Nat}{m},P.Nodup->P[i]?=J x->vs[i]?=J v->kindOf x≠J .local ->
 bindC kindOf (P.zip vs) m x=J v
 |[],_,_,_,_,h,_,_=>by trivial
 |_::_,[],_,_,_,_,h,_=>by trivial
 |p::P,w::vs,0,m,nd,R,h2,hk=>by simp at R h2;subst R;subst h2;show bindC _ ((p,w)::P.zip _) m p=_;unfold bindC;rw[Zkg λv hv=>(List.nodup_cons.mp nd).1 (List.of_mem_zip hv).1,if_neg hk];simp
 |p::P,w::vs,i+1,m,nd,R,h2,hk=>by unfold bindC;exact Zkh (List.nodup_cons.mp nd).2 (by trivial) (by trivial) hk
noncomputable def start(N:List Str)(vs:List V):St:=vs.map J++YK (N.length-vs.length) M
def Zp1(CX:CXT)(P:Yi)(w:Yh)(K:Yl)(mg:Str->Option Yk)(base:YG)(N:List Str)(am:Str)(scope:Scope)(f:Yj)(cd:Yk)(A:YH)(outer:List Env)(s:Yb)(H:Hp)(E:XK):Cx where
 prog:=P
 w:=w
 K:=K
 mg:=mg
 base:=base
 A:=A.deeper (envOfC am scope s.heap.objs.size f cd)
 N:=N
 s₀:=s
 H₀:=H
 env:=envOfC am scope s.heap.objs.size f cd
 outer:=outer
 stack:=envOfC am scope s.heap.objs.size f cd::outer
 ex:=[]
 calm:=Wq
 fn:=λ_=>Wq
 pn:=[]
 xe:=λe s'=>YB (model P w) (A.deeper<|envOfC am scope s.heap.objs.size f cd) (leaving (envOfC am scope s.heap.objs.size f cd) e) (λ_ gQ=>CX outer H s E e gQ) (λe' gQ=>CX outer H s E e' gQ) s'
def Zmj{sc:Scope}(h:sc.names.lookup x=J .cell):∃c,(cellsFrom n sc.names []).lookup x=J c:=Option.isSome_iff_exists.mp (PySem.W.cellsFrom_some _ n _<|.inl h)
theorem ZpV{CX}{P}{w}{K}{mg:Str->Option _}{base}{N ps:List _}{am}{scope}{f}{cd}{A:YH}{outer:List _}{s s1}{H}{E}{us:List _}{vs:List V}
   (S_:FnScope N ps scope) (hd:A.handled=M) (e0:Env0 P w K mg base A outer s H) (hl:vs.length=ps.length) (r:Zs vs us)
   (x:InCallC s s.heap.objs.size (bindL (envOfC am scope s.heap.objs.size f cd).kindOf (ps.zip us) λ_=>M) (cellsFrom (s.heap.objs.size+1) scope.names []) (bindC (envOfC am scope s.heap.objs.size f cd).kindOf (ps.zip us) λ_=>M) s1) :
   Inv (Zp1 CX P w K mg base N am scope f cd A outer s H E) [] (start N vs) H s1:=by
 have aE:ps.length<=N.length:=by have:=congrArg List.length S_.pre;rw [List.length_take] at this;lia
 obtain⟨R,tk,rfl,hk⟩:=x.done;have fb:∀ b:Yj,b ∉ (Zp1 CX P w K mg base N am scope f cd A outer s H E).ex:=λb z=>absurd (show b∈([]) from z) (by simp);refine⟨⟨e0.mod,S_.kind,rfl,rfl,Oq _,λy z c R h2=>?_,λy hy=>?_,λy c _ h=>?_,λ_=>hd,Around.frames_deeper e0.frames,.inr ⟨rfl,rfl⟩,λb z=>absurd z<|fb b,e0.bs,e0.bsz,λb _ _=>fb b,λb z=>absurd z<|fb b,e0.funs,e0.frf⟩,
   rfl,e0.bare,Un.kept hk,⟨_,x.toInCall.ns,λi y v R h2 h3=>?_⟩,λy c h=>⟨_,x.cell y c h⟩,e0.hok.fresh<|Oq _,λy c h=>?_,λp hp=>absurd (show p∈([]) from hp)<|by simp,e0.hok.kept hk,?_⟩
 . exact name_of_addr x.apart (YI R) (YI h2)
 . have hy:scope.names.lookup y=J .cell\/scope.names.lookup y=J .free:=hy;rcases hy with hy|hy
   . exact Zmj hy
   . exact absurd rfl (S_.nofree _<|YI hy)
 . exact Nat.le_of_lt (x.above y c<|YI h)
 . have hi:i<vs.length:=by
     unfold start at h2;by_cases hi:i<vs.length
     . exact hi
     . rw [Om<|by simpa using hi,List.getElem?_replicate] at h2;split at h2<;>cases h2
   obtain⟨u,hu,rv⟩:=r.get (by
     unfold start at h2;rw [Oe<|by simpa using hi,On] at h2;cases e:vs[i]? with
     |none=>rw [e] at h2;cases h2
     |some a=>rw [e] at h2;cases h2;rfl)
   have hp:ps[i]?=J y:=by
     rw [<-S_.pre,List.getElem?_take_of_lt<|by lia];exact R
   have jl:ps.Nodup:=S_.pre▸S_.nd.sublist (List.take_sublist _ _);refine⟨u,rv,?_⟩;rcases S_.par y (O1 hp) with k|k
   . exact .inl ⟨k,Zkf jl hp hu k⟩
   . obtain⟨c,e⟩:=Zmj (n:=s.heap.objs.size+1) k;refine .inr ⟨.inl k,c,e,?_⟩;have q:=x.cell y c e;rw [Zkh jl hp hu (by show scope.names.lookup y≠_;rw [k];decide)] at q;exact q
 . exact e0.hok.fresh (Nat.le_of_lt<|x.above y c<|YI h)
 . unfold start;show _=N.length;rw [OA,Yu,List.length_replicate]
   lia
theorem Zz1{CX}{P}{w}{K:Yl}{mg:Str->Option _}{base}{k}{f}{name am}{params}{body:List _}{scope}{dV kV aW pm aM ct oc}{an od:Option _}
   {bY:Array (Option _)}{N ps:List _}{sp:Sp} (lk:K.lookup f=J ⟨oc,od,.func<|PySem.W.fnOf name am params body scope dV kV aW pm an aM ct,bY⟩) (b9:PySem.W.codeIn K aM am=Wq) (S_:FnScope N ps scope)
   (len:∀ vs H Q E,sp vs H Q E->vs.length=ps.length)
   (fM:∀ (A:YH) (outer:List _) (s) (H) (vs:List V) (Q) (E),Room k (A.deeper<|envOfC am scope s.heap.objs.size f aM)->sp vs H Q E ->
     ∃ t,PSs (Zp1 CX P w K mg base N am scope f aM A outer s H E) body t/\t {nx:=λ_ H'=>Q .non H',rt:=Q} (start N vs) H) :
   FnOk P w K mg base CX (k+1) f (PySem.W.fnOf name am params body scope dV kV aW pm an aM ct) ps sp:=by
 refine⟨len,λA outer s H args D vs Q E g d l r i=>?_⟩;have KX:=d.mod.kin.keeps λb o e=>(d.bs b o e).1;refine codeAny_call_function g.depth (KX _ _ lk) rfl S_.co S_.gen rfl (PySem.W.codeRec_of KX b9) (l _ _ _ _ (wpAny_newFunctionEnv_cells S_.kind (λ⟨n,v⟩ m=>by
   rcases S_.par n (List.of_mem_zip m).1 with q|q
   . exact .inl q
   . exact .inr ⟨q,PySem.W.cellsFrom_some _ _ _<|.inl q⟩) λp y F x=>?_))
 subst y;refine⟨(d.mod.nolimit.keeps λb o e=>(d.bs b o e).1).keeps x.toInCall.keep,codeAny_func ?_⟩;obtain⟨t,z,B⟩:=fM A _ s H _ Q E (g.deeper _) i;refine Yg (z _ _ _ H _ (ZpV S_ g.hd d (len _ _ _ _ i) r x) B) (λC j c=>?_) λe j c=>c;have fin:∀ {σ'}{H'}{v}{u},Inv (Zp1 CX P w K mg base N am scope f aM A _ s H E) [] σ' _ _->RelV v u->Q v _->CE outer P w H s Q u j :=
   λ{σ' H' v u} a h q=>⟨v,H',a.os,a.bare,a.base,a.hok,h,q⟩
 cases C with
 |ret u =>
   obtain⟨v,σ',H',a,h,q⟩:=c;exact fin a h q
 |next =>
   obtain⟨σ',H',a,q⟩:=c;exact fin (v:=V.non) (u:=Value.none) a rfl q
 |brk =>
   obtain⟨_,_,_,q⟩:=c;exact False.elim q
 |cont =>
   obtain⟨_,_,_,q⟩:=c;exact False.elim q
section
variable {X:Cx}{x:Str}{p pos:Pos}{e:Expr}{es:List Expr}{t:TA}{id T:String}{r:List V->Hp->VK->Prop}
def tCB(r:List V->Hp->VK->Prop)(t:TA):TE:=λZ H Q=>t Z H λvs H1=>r vs H1 Q
def Zd2(hc:Zaa X (.builtin id) r)(hg:Gl X x)(hm:X.mg x=M)(hv:bootBuiltins x=J (.builtin id))(ha:PA X (e::es) t)(hn:x ≠ "__name__" := by decide)(bu:(x==("__debug__" : Str))=Ws:=by decide)
 (he:YA (e::es) X.env=(Ws,eval e X.env)::YA es X.env:=by rfl) (aE:(YS pos<|YA es X.env).any (·.1)=Ws:=by rfl):PE X (.Call (.Name x p) (e::es) [] pos) (tCB r t):=by
 intro d s Z H Q I h;exact YW (ZcK I hg hm hv (PyProof.Rows.callWith_builtin1 (thn (ha _ _ s _ H _ I h) λf g a=>by obtain⟨vs,H1,I1,b,c⟩:=a;exact hc _ _ _ _ _ _ Q I1 b c) he aE) hn bu)
def ZcU(hc:Zaa X (.type T) r)(hg:Gl X x)(hm:X.mg x=M)(hv:bootBuiltins x=J (.type T))(ha:PA X (e::es) t)(hn:x ≠ "__name__" := by decide)(bu:(x==("__debug__" : Str))=Ws:=by decide)
 (he:YA (e::es) X.env=(Ws,eval e X.env)::YA es X.env:=by rfl) (aE:(YS pos<|YA es X.env).any (·.1)=Ws:=by rfl):PE X (.Call (.Name x p) (e::es) [] pos) (tCB r t):=by
 intro d s Z H Q I h;exact YW (ZcK I hg hm hv (PyProof.Rows.callWith_type1 (thn (ha _ _ s _ H _ I h) λf g a=>by obtain⟨vs,H1,I1,b,c⟩:=a;exact hc _ _ _ _ _ _ Q I1 b c) he aE) hn bu)
end
end L2
namespace HT
open PySem PyProof.Rows
section
variable {prog:Yi}{w:Yh}{A:YH}{E:Yk->Yb->Prop}{s:Yb}
def Zuw(ht:IsTup s.heap t vs.toArray)(hb:IsTup s.heap b ws.toArray)(hv:vs≠[])
 (R:ws=[]->Q (.ref t) s) (h2:ws≠[]->Q (.ref s.heap.objs.size) {s with heap:=s.heap.push {cls:=.type "tuple",data:=.seq (vs++ws).toArray}})
 (aR:vs.length+ws.length<=Yc):YB (model prog w) A (binaryOp .Add (.ref t)<|.ref b) Q E s:=by
 obtain⟨⟨cls,k,data,l⟩,a,g,n,h⟩:=id ht;obtain⟨⟨m,o,d,p⟩,c,i,q,j⟩:=id hb;subst g h i j;have e:vs.toArray++ws.toArray=(vs++ws).toArray:=by simp
 by_cases f:ws=[]
 . exact concat_meets ⟨_,a,rfl⟩ ⟨_,c,rfl⟩ noFill_tuple_add seq_tuple_add PySem.F.slot_tuple_add PySem.F.entry_tuple_add (PySem.F.args_tuple_add_2 _ _)
    (tuple_addW1 t b _ _ n _ _ _ _ _ (by simpa using hv)<|by simp_all) ⟨a,c,R f⟩
 . refine concat_meets ⟨_,a,rfl⟩ ⟨_,c,rfl⟩ noFill_tuple_add seq_tuple_add PySem.F.slot_tuple_add PySem.F.entry_tuple_add (PySem.F.args_tuple_add_2 _ _)
    (tuple_addW2 t b _ _ n _ _ _ _ _ (by simpa using hv) (by simp_all)<|by trivial) ⟨a,c,?_⟩
   rw[e];exact h2 f
noncomputable def sIx(n d:Nat):Option Int->Nat
 |none=>d
 |some v=>if v<0 then(v+(n:Int)).toNat else min v.toNat n
def Zlx(n d:Nat):sIx n d M=d:=rfl
def Zob(n d k:Nat):sIx n d (J (k:Int))=min k n:=by show(if (k:Int)<0 then((k:Int)+(n:Int)).toNat else min _ n)=min k n;rw[if_neg<|by lia,Int.toNat_natCast]
def Zo3(v)(n d:Nat):(if v<0 then max (v+(n:Int)) 0 else min v n)=sIx n d (J v):=by
 show(if v<0 then max _ 0 else min v n)=(if v<0 then(v+n).toNat else min _ n)
 by_cases hv:v<0
 . simp_all
 . simp[if_neg hv];lia
def ZnQ(lo hi)(n:Nat):Builtin.Slice.sliceAdjust lo hi 1 n=((sIx n 0 lo:Int),(sIx n n hi:Int)):=by
 refine Prod.ext ?_ ?_
 . cases lo with
   |none=>rfl
   |some v=>exact Zo3 v n 0
 . cases hi with
   |none=>rfl
   |some v=>exact Zo3 v n n
def Zm1(i j:Nat):Builtin.Slice.slicePlaces i j 1=j-i:=by unfold Builtin.Slice.slicePlaces;simp;split<;>lia
def Zig(p:IsPart v o)(h:Q o s):YB (model prog w) A (Builtin.Slice.slicePartIndex v) Q E s:=by
 cases p with
 |none=>exact slicePart_none h
 |int i t=>exact slicePart_int h
def ZcS{sl}{vl vu}{lo hi}{n}{Q:Int×Int×Nat->Yb->Prop}(hs:s.heap.IsSliceOf sl vl vu .none)(pl:IsPart vl lo)(pu:IsPart vu hi)
 (h:Q (sIx n 0 lo,1,sIx n n hi-sIx n 0 lo) s):YB (model prog w) A (Builtin.Slice.sliceApplied (.ref sl)<|pure n) Q E s:=by
 obtain⟨c,a,d,b⟩:=id hs;refine Ya<|Ya<|YR a b (x:=vl) rfl<|Ya<|YR a b (x:=vu) rfl<|Ya<|YR a b rfl<|Yd<|Ya<|slicePart_none<|Ya<|Zig pl<|Ya<|Zig pu<|Ya<|Yd ?_;show YB _ _ (match Builtin.Slice.sliceAdjust _ _ 1 n with|(lo,hi)=>pure (lo,(1:Int),Builtin.Slice.slicePlaces lo hi 1)) _ _ s;rw[ZnQ _ _ n];show YB _ _ (pure _) _ _ s;rw[Zm1];exact Yd h
def Zrd(xs:Array Yk)(i k:Nat):((List.range k).filterMap λ(m:Nat)=>xs[(i+(m:Int)*1).toNat]?).toArray=((xs.toList.drop i).take k).toArray:=by
 have e:(λ(m:Nat)=>xs[(i+(m:Int)*1).toNat]?)=λm=>xs[i+m]? := by
  funext m;have:(i+(m:Int)*1).toNat=i+m:=by lia
  rw[this]
 rw[e];have:=pick_run xs i k;have e2:((λx=>xs[x]?) ∘ λx=>i+x)=λm=>xs[i+m]? := rfl
 simp_all
theorem Zgg{t sl}{items}{vl vu}{lo hi}{Q}(ht:IsTup s.heap t items)(hs:s.heap.IsSliceOf sl vl vu .none)(pl:IsPart vl lo)(pu:IsPart vu hi)
   (hw:¬ (sIx items.size 0 lo=0/\sIx items.size items.size hi=items.size))
   (h:Q (.ref s.heap.objs.size) {s with heap:=s.heap.push {cls:=.type "tuple",data:=.seq ((items.toList.drop<|sIx items.size 0 lo).take<|sIx items.size items.size hi-sIx items.size 0 lo).toArray}})
   (aR:items.size<=Yc):YB (model prog w) A (getItem (.ref t)<|.ref sl) Q E s:=by
 have bH:sizeOk (.seq ((items.toList.drop<|sIx items.size 0 lo).take<|sIx items.size items.size hi-sIx items.size 0 lo).toArray):=by
   show ((items.toList.drop<|sIx items.size 0 lo).take<|sIx items.size items.size hi-sIx items.size 0 lo).toArray.size<=Yc;rw [Of,List.length_take,List.length_drop,Array.length_toList]
   lia
 obtain⟨os,du,gy,fJ⟩:=id hs;unfold getItem
 try with_reducible refine Wb ?_
 refine Ya (wpAny_sequenceKey ht.typeIs (by decide) (Ya (YY (name:=O "__getitem__") ht.typeIs Wg
   (Wc Wg ht.typeIs entry_tuple_getitem ?_<|args_tuple_getitem _ _))))
 show YB _ _ (Builtin.Tuple.tupleItemsOf (.ref t) >>= _) _ _ s;refine Ya<|tupleItemsOf_ ht<|Ya<|wpAny_typeOf ⟨os,du,gy⟩ ?_;rw [if_pos<|by decide];refine Ya<|ZcS hs pl pu ?_;show YB _ _ (if (((sIx items.size 0 lo):Int)==0&&(1)==1&&(sIx items.size items.size hi-sIx items.size 0 lo)==items.size)=Wq then _ else _) _ _ s;rw [if_neg (by
   intro q;rw [Oa,Oa] at q;have q1:((sIx items.size 0 lo):Int)=0:=eq_of_beq q.1.1;have q2:sIx items.size items.size hi-sIx items.size 0 lo=items.size:=eq_of_beq q.2;exact hw ⟨by lia,by lia⟩),Zrd]
 first
   |exact Ya (m:=Builtin.Tuple.tupleExact _) (Yr (Yd ⟨_,rfl,Yd h⟩) bH)
   |exact Ya (m:=Builtin.Tuple.tupleExact _) (Yr (Ya (Yd (Yd ⟨_,rfl,Yd h⟩))) bH)
   |exact Ya (Ya (m:=Builtin.Tuple.tupleExact _) (Yr (Yd (Yd ⟨_,rfl,Yd h⟩)) bH))
   |exact Ya (Ya (m:=Builtin.Tuple.tupleExact _) (Yr (Yd ⟨_,rfl,Yd h⟩) bH))
end
end HT
namespace L2
open PySem PySem.Spec PyProof.Rows
abbrev TO:=St->Hp->(Option Int->Hp->Prop)->Prop
def PO(X:Cx)(e:Option Expr)(t:TO):Prop:=
 ∀(aa:List (Yj×Obj)) (s:Yb) (Z:St) (H:Hp) (Q:Option Int->Hp->Prop),Inv X aa Z H s->t Z H Q ->
  YB (model X.prog X.w) X.A (evalPart e X.env) (λu s'=>∃o H',Inv X aa Z H' s'/\IsPart u o/\Q o H') X.xe s
noncomputable def ZsV:TO:=λ_ H Q=>Q M H
noncomputable def ZyD(t:TE):TO:=λZ H Q=>t Z H λx H1=>∃i,x=.int i/\Q (J i) H1
section
variable {X:Cx}{e:Expr}{te:TE}{lo hi:Option Expr}{tl th:TO}{pos p2:Pos}
def Zto:PO X M ZsV:=by intro a s Z H Q I h;exact Yd ⟨_,H,I,.none,h⟩
def Ztn(h:PE X e te):PO X (J e) (ZyD te):=by intro f s Z H Q I a;refine thn (h _ s _ H _ I a) λu g b=>?_;obtain⟨x,H1,I1,c,d⟩:=b;obtain⟨i,rfl,q⟩:=d;obtain⟨t,rfl⟩:=c;exact⟨_,_,I1,.int i t,q⟩
def SlR(X:Cx)(r:V->Option Int->Option Int->Hp->VK->Prop):Prop:=
 ∀(aa:List (Yj×Obj)) (s:Yb) (Z:St) (H:Hp) (x:V) (v vl vu:Yk) (lo hi:Option Int) (sl:Yj) (Q:VK),Inv X aa Z H s->RelV x v->s.heap.IsSliceOf sl vl vu .none->IsPart vl lo->IsPart vu hi->r x lo hi H Q ->
  ∃T id,typeLookup (.type T) "__getitem__"=pure (J<|.builtin id)/\s.TypeIs v T/\YB (model X.prog X.w) X.A (getItem v<|.ref sl) (EP X aa Z Q) X.xe s
noncomputable def tSl(r:V->Option Int->Option Int->Hp->VK->Prop)(te:TE)(tl th:TO):TE:=λZ H Q=>te Z H λx H1=>tl Z H1 λl H2=>th Z H2 λu H3=>r x l u H3 Q
def Zrh(hr:SlR X r)(he:PE X e te)(hl:PO X lo tl)(hu:PO X hi th):PE X (.Subscript e (.Slice lo hi M p2) pos) (tSl r te tl th):=by intro o s Z H Q I h;refine Subscript_<|thn (he _ s _ H _ I h) λv p a=>?_;obtain⟨x,H1,I1,c,d⟩:=a;refine wpAny_Slice<|thn (hl _ _ _ _ _ I1 d) λvl t a=>?_;obtain⟨l,H2,I2,f,g⟩:=a;refine thn (hu _ _ _ _ _ I2 g) λw y a=>?_;obtain⟨u,H3,I3,i,j⟩:=a;refine Yd ?_;obtain⟨T,id,k,m,n⟩:=hr _ _ _ _ x v _ _ l u _ Q (I3.kept λb ob q=>Od _ q) c (Heap.IsSliceOf.new ..) f i j;exact tail_any m k n (rfl)
def Zp3(xs:List V)(lo hi:Option Int):List V:=(xs.drop<|HT.sIx xs.length 0 lo).take (HT.sIx xs.length xs.length hi-HT.sIx xs.length 0 lo)
def ZhB(xs)(lo hi):(Zp3 xs lo hi).length<=xs.length:=by
 unfold Zp3;rw[List.length_take,List.length_drop]
 lia
def ZBf(K:Yl):V->Option Int->Option Int->Hp->VK->Prop:=λx c d H Q=>∃a b,x=.ref a/\SqT K H a b /\
 ¬ (HT.sIx b.length 0 c=0/\HT.sIx b.length b.length d=b.length)/\∀p,H p=M->Q (.ref p) (upd H p<|.tup<|Zp3 b c d)
def ZvY:SlR X (ZBf X.K):=by rintro aa s Z H x v vl vu lo hi sl Q I rx hs pl pu⟨a,xs,rfl,hx,hw,q⟩;cases rx;obtain⟨its,r,ht,hz⟩:=I.tuple hx;have au:its.toArray.size=xs.length:=r.length.symm;refine⟨_,_,PyProof.Rows.slot_tuple_getitem.lookup,ht.typeIs,HT.Zgg ht hs pl pu (by rw[au];trivial) ?_ (by rw[au];trivial)⟩;rw[au];refine⟨.ref _,_,I.laid (λb ob q=>Od _ q) (Oq _) ?_,rfl,q _<|I.hok.fresh<|Oq _⟩;exact⟨OE (ZhB _ _ _) hz,_,(r.drop _).take _,Zbl.fresh _ _⟩
def Zy4(K:Yl):R2:=λx y H Q=>∃a b xs c,x=.ref a/\y=.ref b/\SqT K H a xs/\SqT K H b c/\xs≠[]/\xs.length+c.length<=Yc /\
 (c=[]->Q (.ref a) H)/\(c≠[]->∀p,H p=M->Q (.ref p) (upd H p<|.tup<|xs++c))
def Zs.nil_iff(r:Zs xs us):us=[]↔xs=[]:=by
 cases r with
 |nil=>simp
 |cons _ _=>simp
def ZtI:OpR X (binaryOp .Add) (Zy4 X.K):=by rintro aa s Z H x y v u Q I rx ry⟨a,b,xs,ys,rfl,rfl,ha,hb,hx,hz,q1,q2⟩;cases rx;cases ry;obtain⟨its,r1,p1,_⟩:=I.tuple ha;obtain⟨be,r2,p2,_⟩:=I.tuple hb;refine HT.Zuw p1 p2 (λz=>hx<|r1.nil_iff.mp z) (λz=>⟨.ref a,H,I,rfl,q1<|r2.nil_iff.mp z⟩) (λz=>⟨.ref _,_,I.laid (λb ob q=>Od _ q) (Oq _) ?_,rfl,q2 (λw=>z<|r2.nil_iff.mpr w) _<|I.hok.fresh<|Oq _⟩) (by rw[<-r1.length,<-r2.length];trivial);exact⟨by simp_all,_,r1.append r2,Zbl.fresh _ _⟩
end
noncomputable def ixN(n:Nat)(i:Int):Option Nat:=if 0<=i then(if i<n then J i.toNat else M)else if -(n:Int)<=i then J (i+n).toNat else M
def atI(xs:List α)(i:Int):Option α:=(ixN xs.length i).bind λj=>xs[j]?
def ZoK(h:ixN n i=J j):seqIndex? i n=J j/\j<n/\-n<=i/\i<n:=by
 unfold ixN at h;by_cases h0:0<=i
 . rw[if_pos h0]at h;by_cases R:i<n
   . rw[if_pos R]at h;exact⟨by rw[seqIndex_of h0 R,YF h],by lia,by lia,R⟩
   simp_all
 . rw[if_neg h0]at h;by_cases R:-n<=i
   . rw[if_pos R]at h;exact⟨by rw[seqIndex_neg (by lia) R,YF h],by lia,R,by lia⟩
   simp_all
def Zlf(h:atI xs i=J v):∃j,seqIndex? i xs.length=J j/\xs[j]?=J v/\j<xs.length/\-(xs.length:Int)<=i/\i<xs.length:=by
 unfold atI at h;cases e:ixN xs.length i with
 |none=>simp_all
 |some j=>rw[e]at h;obtain⟨R,a,b,c⟩:=ZoK e;exact⟨j,R,h,a,b,c⟩
def Zli(b:Expr):Prop:=∀o i,subscripted b Ws o i=operate [o,i] (getItem o i)
def IxR(X:Cx)(r:R2):Prop:=
 ∀(value slice:Expr) (aa:List (Yj×Obj)) (s:Yb) (Z:St) (H:Hp) (x y:V) (v u:Yk) (Q:VK),Inv X aa Z H s->RelV x v->RelV y u->r x y H Q ->
  subscripted slice Ws v u=operate [v,u] (getItem v u)->YB (model X.prog X.w) X.A (subscriptTail value slice v u) (EP X aa Z Q) X.xe s
def MtR(X:Cx)(id:String)(r:V->List V->Hp->VK->Prop):Prop:=
 ∀(aa:List (Yj×Obj)) (s:Yb) (Z:St) (H:Hp) (x:V) (xs:List V) (v:Yk) (us:List Yk) (Q:VK),Inv X aa Z H s->RelV x v->Zs xs us->r x xs H Q ->
  YB (model X.prog X.w) X.A (call (.builtin id) (v::us)) (EP X aa Z Q) X.xe s
section
variable {X:Cx}{a b:Expr}{ta tb:TE}{pos:Pos}
def Zu9{r}(hr:IxR X r)(ha:PE X a ta)(hb:PE X b tb)(hs:Zli b):PE X (.Subscript a b pos) (tOp r ta tb):=by intro e s Z H Q I h;exact Subscript_ (ZxQ ha hb I h λv u f x y H2 I2 c d q=>hr a b _ _ _ _ x y v u Q I2 c d q<|hs _ _)
def ZBm(K:Yl):R2:=λx y H Q=>∃p a i v,x=.ref p/\y=.int i/\SqL K H p a/\atI a i=J v/\Q v H
def ZBj(K:Yl):R2:=λx y H Q=>∃p a i v,x=.ref p/\y=.int i/\SqT K H p a/\atI a i=J v/\Q v H
def ZBk:R2:=λx y H Q=>∃z i c,x=.str z/\y=.int i/\z.length<=Yc/\atI z.cps.toList i=J c/\Q (.str ⟨#[c]⟩) H
def Zuc:IxR X (ZBm X.K):=by
 intro a b F s Z H x y v u Q I m n h f;obtain⟨p,G,i,z,rfl,rfl,o,A,q⟩:=h;cases m;obtain⟨t,rfl⟩:=n;obtain⟨c,r,d,J⟩:=I.list o;obtain⟨j,R,B,L,C,D⟩:=Zlf A;obtain⟨w,g,k⟩:=r.get B;have E:=r.length;have N:=ZcJ;by_cases l:0<=i
 . have e:=by rw[seqIndex_of l D]at R;exact YF R
   exact item_listR d.isList l (by lia) (by rw[e];simpa using g) ⟨z,H,I,k,q⟩ f
 . have e:(i+(c.toArray.size)).toNat=j:=by rw[seqIndex_neg (by lia) C]at R;rw[Of,<-E];exact YF R
   exact subscriptTail_builtinR (x:=w) d.isList.typeIs slot_list_getitem.lookup
    (wpAny_getItem_list_neg (Q:=λr O=>r=w/\EP X _ _ Q r _) d.isList (by lia) (by simp_all) (by lia) (by rw[e];simpa using g) ⟨rfl,⟨z,H,I,k,q⟩⟩) f
def Zxa:IxR X (ZBj X.K):=by
 intro a b A s Z H x y v u Q I d e h f;obtain⟨p,B,i,z,rfl,rfl,g,k,q⟩:=h;cases d;obtain⟨t,rfl⟩:=e;obtain⟨l,r,c,C⟩:=I.tuple g;obtain⟨j,R,m,D,E,F⟩:=Zlf k;obtain⟨w,n,o⟩:=r.get m;have G:=ZcJ;exact subscriptTail_builtinR c.typeIs slot_tuple_getitem.lookup
  (getItem_tuple c (by lia) (by lia) (by rw[Of,<-r.length];trivial) (by simpa using n) ⟨rfl,⟨z,H,I,o,q⟩⟩) f
def Zxb:IxR X ZBk:=by
 intro a b o s Z H x y v u Q I d e h f;obtain⟨z,i,c,rfl,rfl,p,g,q⟩:=h;obtain⟨t,rfl⟩:=d;obtain⟨r,rfl⟩:=e;obtain⟨j,R,k,w,l,m⟩:=Zlf g;have n:z.cps.toList.length=z.length:=rfl;rw[n]at R l m;have A:=ZcJ;exact tail_any (typeIs_str s z t) slot_str_getitem.lookup (getItem_str (by lia) (by rw[R];simpa using k) ⟨.str _,H,I.tok _,⟨_,rfl⟩,q⟩) f
def Znd(its:List _)(n j)(u):Obj.mapSeq (·.setIfInBounds j u) {cls:=.type "list",data:=.seq its.toArray n}={cls:=.type "list",data:=.seq (its.set j u).toArray n}:=by simp[Obj.mapSeq]
theorem Inv.lst(I:Inv X aa Z H s)(h:H p=J (.lst xs)):
 ∃(its:List _) (n:Nat),Zs xs its/\s.heap.get? p=J {cls:=.type "list",data:=.seq its.toArray n}/\xs.length<=Yc:=by
 obtain⟨z,its,n,r,e⟩:=I.hok p _ h;exact⟨_,n,r,e,z⟩
theorem Inv.lstUpd{aa}{Z:St}{H}{s}{p}{xs ys}{its bD:List _}{n n'}{f}(I:Inv X aa Z H s)(h:H p=J (.lst xs))
   (ho:s.heap.get? p=J {cls:=.type "list",data:=.seq its.toArray n}) (hf:f {cls:=.type "list",data:=.seq its.toArray n}={cls:=.type "list",data:=.seq bD.toArray n'}) (r:Zs ys bD) (hz:ys.length<=Yc) (t) :
   Inv X aa Z (upd H p<|.lst ys) {s with heap:=s.heap.update p f,toks:=t}:=I.write (by rw [h];trivial) (.inl rfl) (λb u a q=>(YN _ _<|YL a).I q) ⟨_,by
   rw [YV f ho (by rw [hf]<;>rfl),hf]⟩ ⟨hz,_,_,r,by
   rw [YV f ho (by rw [hf]<;>rfl),hf]⟩
def Zy1:V->V->V->Hp->(Hp->Prop)->Prop:=λo i v H Q=>∃p xs k j,o=.ref p/\i=.int k/\H p=J (.lst xs)/\ixN xs.length k=J j/\Q (upd H p<|.lst<|xs.set j v)
theorem set_list:Zqh X Zy1:=by
 rintro aa s Z H o i v ov iv u Q I ro ri rv⟨p,xs,k,j,rfl,rfl,hp,hj,q⟩;cases ro;obtain⟨t,rfl⟩:=ri;obtain⟨its,n,r,ho,hz⟩:=I.lst hp;obtain⟨R,h2,h3,h4⟩:=ZoK hj;have hn:=ZcJ;have I' :=
   I.lstUpd hp ho (Znd _ n j u) (r.set rv j) (by simp_all) s.toks
 by_cases h0:0<=k
 . exact PySem.W.ki_setAt ho h0 (by lia) (by rw [Of,<-r.length];exact h4) (by
     rw [seqIndex_of h0 h4] at R;exact YF R▸⟨_,I',q⟩)
 . exact PySem.W.ki_setBack ho (by lia) (by rw [Of,<-r.length];exact h3) (by lia) (by
     rw [seqIndex_neg (by lia) h3] at R;rw [Of,<-r.length];exact YF R▸⟨_,I',q⟩)
def Zks(lo hi)(n):(sliceBounds lo hi M n).1=(HT.sIx n 0 lo)/\(sliceBounds lo hi M n).2.1=(HT.sIx n n hi)/\(sliceBounds lo hi M n).2.2=1:=by
 refine⟨?_,?_,rfl⟩
 . cases lo with
   |none=>trivial
   |some i=>
    simp[sliceBounds,HT.sIx,if_true];by_cases h:i<0
    . simp only[h,if_true]<;>lia
    . simp only[h,if_false]<;>lia
 . cases hi with
   |none=>trivial
   |some i=>
    simp[sliceBounds,HT.sIx,if_true];by_cases h:i<0
    . simp only[h,if_true]<;>lia
    . simp only[h,if_false]<;>lia
def Zjx(its:List _)(lo hi):slicePick its.toArray lo hi M=((its.drop<|HT.sIx its.length 0 lo).take<|HT.sIx its.length its.length hi-HT.sIx its.length 0 lo).toArray:=by obtain⟨R,a,b⟩:=Zks _ _ _;unfold slicePick;rw[R,a,b];simp only[sliceRange_one,pick_run]<;>rfl
def ZBh(K:Yl):V->Option Int->Option Int->Hp->VK->Prop:=λx c d H Q=>∃a b,x=.ref a/\SqL K H a b/\∀p,H p=M->Q (.ref p) (upd H p<|.lst<|Zp3 b c d)
def ZsX:SlR X (ZBh X.K):=by rintro aa s Z H x v vl vu lo hi sl Q I rx hs pl pu⟨a,xs,rfl,hx,q⟩;cases rx;obtain⟨its,r,ht,hz⟩:=I.list hx;have au:=r.length;refine⟨_,_,slot_list_getitem.lookup,ht.isList.typeIs,wpAny_getItem_list_slice ht.isList hs pl pu .none (by simp) ?_<|by simp_all⟩;rw[Zjx,<-au];refine⟨.ref _,_,I.laid (λb ob q=>Od _ q) (Oq _) ?_,rfl,q _<|I.hok.fresh<|Oq _⟩;exact⟨OE (ZhB _ _ _) hz,_,0,(r.drop _).take _,Oj _ rfl⟩
noncomputable def Zft:V->Bool
 |.non=>Wq
 |.bl _=>Wq
 |.int _=>Wq
 |.str _=>Wq
 |_=>Ws
noncomputable def eqV:V->V->Bool
 |.non,.non=>Wq
 |.bl a,.bl b=>a==b
 |.bl a,.int b=>(if a then 1 else 0)==b
 |.int a,.bl b=>a==(if b then 1 else 0)
 |.int a,.int b=>a==b
 |.str a,.str b=>a==b
 |_,_=>Ws
def ZxD(ry:RelV y u)(rx:RelV x v)(fy:Zft y=Wq)(fx:Zft x=Wq):SeqAt.EqAt A s u v (eqV y x):=by
 cases y with
 |non=>
  cases ry;cases x with
  |non=>cases rx;exact SeqAt.EqAt.same _
  |bl b=>cases rx;exact SeqAt.EqAt.none_bool b
  |int b=>obtain⟨t,rfl⟩:=rx;exact SeqAt.EqAt.none_int b t
  |str b=>obtain⟨t,rfl⟩:=rx;exact SeqAt.EqAt.none_str b t
  |_=>exact absurd (show Ws=Wq from fx) Ow
 |bl a=>
  cases ry;cases x with
  |non=>cases rx;exact SeqAt.EqAt.bool_none a
  |bl b=>cases rx;exact SeqAt.EqAt.bool_bool a b
  |int b=>obtain⟨t,rfl⟩:=rx;exact SeqAt.EqAt.bool_int a b t
  |str b=>obtain⟨t,rfl⟩:=rx;exact SeqAt.EqAt.bool_str a b t
  |_=>exact absurd (show Ws=Wq from fx) Ow
 |int a=>
  obtain⟨t',rfl⟩:=ry;cases x with
  |non=>cases rx;exact SeqAt.EqAt.int_none a t'
  |bl b=>cases rx;exact SeqAt.EqAt.int_bool a t' b
  |int b=>obtain⟨t,rfl⟩:=rx;exact SeqAt.EqAt.int_int a t' b t
  |str b=>obtain⟨t,rfl⟩:=rx;exact SeqAt.EqAt.int_str a t' b t
  |_=>exact absurd (show Ws=Wq from fx) Ow
 |str a=>
  obtain⟨t',rfl⟩:=ry;cases x with
  |non=>cases rx;exact SeqAt.EqAt.str_none a t'
  |bl b=>cases rx;exact SeqAt.EqAt.str_bool a t' b
  |int b=>obtain⟨t,rfl⟩:=rx;exact SeqAt.EqAt.str_int a t' b t
  |str b=>obtain⟨t,rfl⟩:=rx;exact SeqAt.EqAt.str_str a t' b t
  |_=>exact absurd (show Ws=Wq from fx) Ow
 |_=>exact absurd (show Ws=Wq from fy) Ow
def eqU(x:V)(u:Yk):Bool:=match u with
 |.none=>eqV .non x
 |.bool b=>eqV (.bl b) x
 |.int i _=>eqV (.int i) x
 |.str z _=>eqV (.str z) x
 |_=>Ws
def Zsb(r:RelV y u)(f:Zft y=Wq):eqU x u=eqV y x:=by
 cases y with
 |non=>cases r;rfl
 |bl b=>cases r;rfl
 |int i=>obtain⟨t,rfl⟩:=r;rfl
 |str z=>obtain⟨t,rfl⟩:=r;rfl
 |_=>trivial
theorem Zg3:∀{xs}{us},Zs xs us->xs.all Zft=Wq->us.any (eqU x)=xs.any λy=>eqV y x
 |_,_,.nil,_=>rfl
 |y::xs,u::us,.cons r t,f=>by rw[List.all_cons,Oa]at f;rw[YZ,YZ,Zsb r f.1,Zg3 t f.2]
theorem Zd5(rx:RelV x v)(fx:Zft x=Wq):∀{xs}{us},Zs xs us->xs.all Zft=Wq->∀u∈us,SeqAt.EqAt A s u v (eqU x u)
 |_,_,.nil,_=>λu hu=>by trivial
 |y::xs,u::us,.cons r t,f=>λa hu=>by
  rw[List.all_cons,Oa]at f;rcases O2.mp hu with rfl|hu
  . rw[Zsb r f.1];exact ZxD r rx f.1 fx
  . exact Zd5 rx fx t f.2 _ hu
def inV(x:V)(xs:List V):Bool:=xs.any λy=>eqV y x
def rIn(K:Yl)(neg:Bool):R2:=λx y H Q=>∃p a,y=.ref p/\(SqL K H p a\/SqT K H p a)/\Zft x=Wq/\a.all Zft=Wq/\Q (.bl<|if neg then !inV x a else inV x a) H
def ZpH:OpR X (YM .In) (rIn X.K Ws):=by
 rintro aa s Z H x y v u Q I rx ry⟨p,xs,rfl,hq,fx,fs,q⟩;cases ry;rcases hq with hq|hq
 . obtain⟨its,r,pl,hz⟩:=I.list hq;refine SeqAt.in_listAt _ pl.isList (λw hw=>Zd5 rx fx r fs w<|by simp_all) ⟨.bl _,H,I,rfl,?_⟩;rw[show its.toArray.any _=its.any (eqU x) by simp,Zg3 r fs];exact q
 . obtain⟨its,r,pl,hz⟩:=I.tuple hq;refine SeqAt.in_tupleAt _ pl (λw hw=>Zd5 rx fx r fs w<|by simp_all) ⟨.bl _,H,I,rfl,?_⟩;rw[show its.toArray.any _=its.any (eqU x) by simp,Zg3 r fs];exact q
def Zkw:OpR X (YM .NotIn) (rIn X.K Wq):=by
 rintro aa s Z H x y v u Q I rx ry⟨p,xs,rfl,hq,fx,fs,q⟩;cases ry;rcases hq with hq|hq
 . obtain⟨its,r,pl,hz⟩:=I.list hq;refine SeqAt.notIn_listAt _ pl.isList (λw hw=>Zd5 rx fx r fs w<|by simp_all) ⟨.bl _,H,I,rfl,?_⟩;rw[show its.toArray.any _=its.any (eqU x) by simp,Zg3 r fs];exact q
 . obtain⟨its,r,pl,hz⟩:=I.tuple hq;refine SeqAt.notIn_tupleAt _ pl (λw hw=>Zd5 rx fx r fs w<|by simp_all) ⟨.bl _,H,I,rfl,?_⟩;rw[show its.toArray.any _=its.any (eqU x) by simp,Zg3 r fs];exact q
def Zk1:Zaa X (.builtin "len") (λxs H Q=>∃p ys,xs=[.ref p]/\(SqL X.K H p ys\/SqT X.K H p ys)/\Q (.int ys.length) H):=by
 rintro aa s Z H xs us Q I r⟨p,ys,rfl,hq,q⟩;obtain⟨u,rfl,rx⟩:=vals1 r;cases rx;have hn:=ZcJ;rcases hq with hq|hq
 . obtain⟨its,r',pl,hz⟩:=I.list hq;have au:=r'.length;exact Calls.call_len_list pl.isList (by simp only[Of]<;>lia) ⟨.int _,H,I.tok _,⟨_,by rw[Of,au]⟩,q⟩
 . obtain⟨its,r',pl,hz⟩:=I.tuple hq;have au:=r'.length;exact len_tuple pl (by simp only[Of]<;>lia) ⟨.int _,H,I.tok _,⟨_,by rw[Of,au]⟩,q⟩
def Zk0:Zaa X (.builtin "len") (λxs H Q=>∃z,xs=[.str z]/\z.length<=Yc/\Q (.int z.length) H):=by rintro aa s Z H xs us Q I r⟨z,rfl,hz,q⟩;obtain⟨u,rfl,t,rfl⟩:=vals1 r;have hn:=ZcJ;exact len_str (by lia) ⟨.int _,H,I.tok _,⟨_,rfl⟩,q⟩
def ZkZ:Zaa X (.type "list") (λxs H Q=>∃p ys,xs=[.ref p]/\(SqL X.K H p ys\/SqT X.K H p ys)/\∀l,H l=M->Q (.ref l) (upd H l<|.lst ys)):=by
 rintro aa s Z H xs us Q I r⟨p,ys,rfl,hq,q⟩;obtain⟨u,rfl,rx⟩:=vals1 r;cases rx;have fin:∀(its),Zs _ its->ys.length<=Yc->∀(h') (c'),(∀b o',s.heap.get? b=J _->h'.get? b=J _) ->
  h'.get? s.heap.objs.size=J _->EP X _ _ Q _ {s with heap:=h'}:=λits r' hz h' c' kp e=>
  ⟨.ref _,_,I.laid kp (Oq _)<|show Zai _ _ _ _ _ (.lst _)from⟨hz,_,c',r',e⟩,rfl,q _<|I.hok.fresh<|Oq _⟩
 rcases hq with hq|hq
 . obtain⟨its,r',pl,hz⟩:=I.list hq;have au:=r'.length;obtain⟨o,ho,hc,n,hd⟩:=pl.isList;exact call_list_seq p (.inl rfl) ho hc hd (λh' c' kp e=>fin _ r' hz _ _ kp e) (by simp_all)
 . obtain⟨its,r',pl,hz⟩:=I.tuple hq;have au:=r'.length;obtain⟨o,ho,hc,n,hd⟩:=pl;exact call_list_seq p (.inr rfl) ho hc hd (λh' c' kp e=>fin _ r' hz _ _ kp e) (by simp_all)
def ZfA:Zaa X (.type "tuple") (λxs H Q=>∃p ys,xs=[.ref p]/\((SqL X.K H p ys/\∀l,H l=M->Q (.ref l) (upd H l<|.tup ys))\/(SqT X.K H p ys/\Q (.ref p) H))):=by
 rintro aa s Z H xs us Q I r⟨p,ys,rfl,h⟩;obtain⟨u,rfl,rx⟩:=vals1 r;cases rx;rcases h with⟨hq,q⟩|⟨hq,q⟩
 . obtain⟨its,r',pl,hz⟩:=I.list hq;have au:=r'.length;refine call_tuple_list pl.isList (λh' kp=>?_) (by simp_all);have I1:=I.kept (t':=s.toks) kp;exact⟨.ref _,_,I1.laid (t':=s.toks) (λb o e=>Od _ e) (Oq _)<|show Zai _ _ _ _ _ (.tup _)from⟨hz,_,r',Zbl.fresh _ _⟩,rfl,q _<|I1.hok.fresh<|Oq _⟩
 . obtain⟨its,r',pl,hz⟩:=I.tuple hq;exact call_tuple_same pl ⟨.ref p,H,I,rfl,q⟩
def tyV(K:Yl)(T:String)(x:V)(H:Hp):Prop:=match x with
 |.str _=>T="str"
 |.int _=>T="int"
 |.ref p=>(T="list" /\ ∃b,SqL K H p b)\/(T="tuple" /\ ∃o,K.lookup p=J o/\o.cls=.type "tuple" /\ o.dict=M) \/
  (T="dict" /\ ((∃a,H p=J (.dK a))\/∃a,H p=J (.dT a)))\/(T="set" /\ ∃S_ n,H p=J (.set S_ n))
 |_=>False
def Zqt(I:Inv X aa Z H s)(r:RelV x v)(ty:tyV X.K T x H):
 s.TypeIs v T/\∀a,v=.ref a->∃ob,s.heap.get? a=J ob/\ob.dict=M:=by
 cases x with
 |str z=>obtain⟨t,rfl⟩:=r;cases (ty);exact⟨typeIs_str s z t,λ_ e=>nomatch e⟩
 |int i=>obtain⟨t,rfl⟩:=r;cases (ty);exact⟨typeIs_int s i t,λ_ e=>nomatch e⟩
 |ref p=>
  cases r;rcases ty with⟨rfl,q,k⟩|⟨rfl,o,b,l,f⟩|⟨rfl,b⟩|⟨rfl,S_,n,b⟩
  . obtain⟨m,_,j,_⟩:=I.list k;refine⟨j.isList.typeIs,λa e=>?_⟩;cases e;obtain⟨o,n,e,c,f,_⟩:=j;exact⟨o,e,f⟩
  . refine⟨⟨o,I.kIn p o b,l⟩,λa e=>?_⟩;cases e;exact⟨o,I.kIn _ o b,f⟩
  . have z:∃o,s.heap.get? p=J o/\o.ExactDict:=by
     rcases b with⟨g,b⟩|⟨g,b⟩
     . obtain⟨_,_,_,_,o,_,_,e,d,_⟩:=I.hok p _ b;exact⟨o,e,d⟩
     . obtain⟨_,_,o,_,_,e,d,_⟩:=I.hok p _ b;exact⟨o,e,d⟩
    obtain⟨o,e,d⟩:=z;refine⟨⟨o,e,d.1⟩,λa h=>?_⟩;cases h;exact⟨o,e,d.2.1⟩
  . obtain⟨o,_,_,_,e,d,_⟩:=I.hok p _ b;refine⟨⟨o,e,d.1⟩,λa h=>?_⟩;cases h;exact⟨o,e,d.2.1⟩
 |_=>exact False.elim ty
noncomputable def ZAY(K:Yl)(T:String)(r:V->List V->Hp->VK->Prop)(to:TE):TE:=λZ H Q=>to Z H λx H1=>tyV K T x H1/\r x [] H1 Q
noncomputable def tBM(K:Yl)(T:String)(r:V->List V->Hp->VK->Prop)(to:TE)(t:TA):TE:=λZ H Q=>to Z H λx H1=>tyV K T x H1/\t Z H1 λa H2=>r x a H2 Q
variable {o e:Expr}{es:List Expr}{to:TE}{t:TA}{name:Str}{az aw:Pos}{T id:String}{r:V->List V->Hp->VK->Prop}
def Zwv(pa:PlainAttrs T)(slot:Slot T name id)(ig:typeOf (.builtin id)=pure (.type "method_descriptor"))(hm:MtR X id r)(ho:PE X o to)
 (bw:attributeBase o name X.env (eval o X.env)=eval o X.env:=by rfl) (br:(az.endLine==aw.line)=Wq:=by rfl):PE X (.Call (.Attribute o name az) [] [] aw) (ZAY X.K T r to):=by
 intro f s Z H Q I h;refine wpAny_Call_method0_late bw br<|thn (ho _ s _ H _ I h) λv g b=>?_;obtain⟨x,H1,I1,a,c,d⟩:=b;obtain⟨R,e⟩:=Zqt I1 a c;exact⟨T,_,pa,slot,ig,R,e,Calls.callWith_builtin rfl<|PySem.evalArgs_none<|hm _ _ _ _ x _ v [] Q I1 a .nil d⟩
def Zzf(pa:PlainAttrs T)(slot:Slot T name id)(ig:typeOf (.builtin id)=pure (.type "method_descriptor"))(hm:MtR X id r)(ho:PE X o to)(ha:PA X (e::es) t)
 (bw:attributeBase o name X.env (eval o X.env)=eval o X.env:=by rfl)
 (iM:((YS aw<|YA (e::es) X.env).all (λx=>!x.1)&&(backToKw aw<|keywordEach [] X.env).all (λx=>x.1.isSome)
  && Wu ((e::es).length+([]:List Keyword).length+(if ([]:List Keyword).isEmpty then 0 else 1)<30))=Wq:=by rfl)
 (br:(az.endLine==aw.line)=Wq:=by rfl) (hs:YA (e::es) X.env=(Ws,eval e X.env)::YA es X.env:=by rfl) (iu:(YS aw<|YA es X.env).any (·.1)=Ws:=by rfl) :
 PE X (.Call (.Attribute o name az) (e::es) [] aw) (tBM X.K T r to t):=by
 intro d s Z H Q I h;refine wpAny_Call_method_late bw iM br rfl<|thn (ho _ s _ H _ I h) λv n a=>?_;obtain⟨x,H1,I1,b,f,g⟩:=a;obtain⟨R,i⟩:=Zqt I1 b f;refine⟨T,_,pa,slot,ig,R,i,?_⟩;have c:=ha aw _ _ _ _ _ I1 g;rw[hs]at c ⊢;exact Calls.callWith_builtin (by trivial) (Calls.evalArgs_plain (thn c λj k a=>by obtain⟨vs,H2,I2,l,m⟩:=a;exact hm d k Z H2 x vs v j Q I2 b l m))
end
def MtM(X:Cx)(id:String)(r:V->List V->Hp->VK->Prop):Prop:=
 ∀(aa:List (Yj×Obj)) (s:Yb) (Z:St) (H:Hp) (x:V) (xs:List V) (v:Yk) (us:List Yk) (Q:VK),Inv X aa Z H s->RelV x v->Zs xs us->r x xs H Q ->
  YB (model X.prog X.w) X.A (call (.builtin id) (v::us)) (EP X aa Z Q) X.xe s
def Zs.one:∀{x}{us},Zs [x] us->∃u,us=[u]/\RelV x u
 |_,_,.cons r .nil=>⟨_,rfl,r⟩
def Zs.zero:∀{us},Zs [] us->us=[]
 |_,.nil=>rfl
theorem Zs.dropLast(h:Zs xs us):Zs xs.dropLast us.dropLast:=by
 induction h with
 |nil=>exact .nil
 |cons r t a=>
  cases t with
  |nil=>trivial
  |cons q b=>exact .cons r a
theorem Zs.reverse(h:Zs xs us):Zs xs.reverse us.reverse:=by
 induction h with
 |nil=>exact .nil
 |cons r t a=>rw[List.reverse_cons,List.reverse_cons];exact Zs.append a (.cons r .nil)
section
variable {X:Cx}{aa:List (Yj×Obj)}{Z:St}{H:Hp}{s:Yb}{l:Yj}{xs ys:List V}
def Inv.lset{its bD:List _}{n}{f}{t'}(I:Inv X aa Z H s)(hH:H l=J (.lst xs))
 (e:s.heap.get? l=J {cls:=.type "list",data:=.seq its.toArray n}) (hf:f its.toArray=bD.toArray) (hv:Zs ys bD) (hz:ys.length<=Yc) :
 Inv X aa Z (upd H l<|.lst ys) {s with heap:=s.heap.update l<|Obj.mapSeq f,toks:=t'}:=by
 have q:=PySem.IsL.update e f;rw[hf]at q;exact I.write (by rw[hH];trivial) (.inl rfl) (λc u a b=>(YN _ _<|YL a).I b) ⟨_,q⟩ ⟨hz,_,_,hv,q⟩
def Inv.lnew(I:Inv X aa Z H s)(hv:Zs ys its)(hz:ys.length<=Yc):
 Inv X aa Z (upd H s.heap.objs.size<|.lst ys) {s with heap:=s.heap.push {cls:=.type "list",data:=.seq its.toArray},toks:=t'}:=
 I.laid (λ_ _ q=>Od _ q) (Oq _) ⟨hz,_,0,hv,Oj _ rfl⟩
theorem Inv.fresh(I:Inv X aa Z H s):H s.heap.objs.size=M:=I.hok.fresh (Oq _)
def Inv.lstM(I:Inv X aa Z H s)(hH:H l=J (.lst xs)):xs.length<=Yc/\∃(its:List _) (n:Nat),Zs xs its/\xs.length=its.length/\s.heap.get? l=J {cls:=.type "list",data:=.seq its.toArray n}:=by obtain⟨z,its,n,r,e⟩:=I.hok l _ hH;exact⟨z,_,n,r,r.length,e⟩
def ZlL{n}(h:n<=Yc):Wj n=Ws:=decide_eq_false (by lia)
end
section
variable {X:Cx}
def Ztf:V->List V->Hp->VK->Prop:=λx vs H Q=>∃l xs y,x=.ref l/\vs=[y]/\H l=J (.lst xs)/\xs.length<Yc/\Q .non (upd H l<|.lst<|xs++[y])
def ZjX:MtM X "list.append" Ztf:=by
 rintro aa s Z H x vs v us Q I rx rv⟨l,xs,y,rfl,rfl,hH,hz,q⟩;cases rx;obtain⟨u,rfl,ru⟩:=rv.one;obtain⟨z,its,n,r,hl,e⟩:=I.lstM hH;refine call_meets F.slot_list_append ⟨_,e,rfl⟩ F.entry_list_append (F.args_list_append_2 _ _) (PySem.list_append l _ n u<|by simp_all) ⟨e,⟨.non,_,I.lset hH e (by simp) (r.append<|.cons ru .nil) ?_,rfl,q⟩⟩;rw[OA,List.length_singleton]
 lia
def Zte:V->List V->Hp->VK->Prop:=λx vs H Q=>∃l b xs a,x=.ref l/\vs=[.ref b]/\H l=J (.lst xs)/\H b=J (.lst a)/\xs.length+a.length<=Yc/\Q .non (upd H l<|.lst<|xs++a)
theorem ZpN:MtM X "list.extend" Zte:=by
 rintro aa s Z H x vs v us Q I rx rv⟨l,b,xs,zs,rfl,rfl,hH,hB,hz,q⟩;cases rx;obtain⟨u,rfl,ru⟩:=rv.one;cases ru;obtain⟨z,its,n,r,hl,e⟩:=I.lstM hH;obtain⟨z2,be,n2,r2,bV,e2⟩:=I.lstM hB;have aR:its.toArray.size+be.toArray.size<=Yc:=by simp_all
 refine call_meets F.slot_list_extend ⟨_,e,rfl⟩ F.entry_list_extend (F.args_list_extend_2 _ _)
   (AutoSeq1.list_extend_list_list_0 l _ n b _ _ (by
   rw [ZlL aR];simp) (by simp_all) (by lia)) ⟨e,e2,⟨.non,_,I.lset hH e (by simp) (r.append r2) ?_,rfl,q⟩⟩
 simp_all
def ZBi:V->List V->Hp->VK->Prop:=λx vs H Q=>∃l a y,x=.ref l/\vs=[]/\H l=J (.lst a)/\a[a.length-1]?=J y/\Q y (upd H l<|.lst a.dropLast)
def ZwO:MtM X "list.pop" ZBi:=by
 rintro aa s Z H x vs v us Q I rx rv⟨l,xs,y,rfl,rfl,hH,hy,q⟩;cases rx;have fu:=rv.zero;subst fu;obtain⟨z,its,n,r,hl,e⟩:=I.lstM hH;obtain⟨u,hu,ru⟩:=r.get hy;refine call_meets F.slot_list_pop ⟨_,e,rfl⟩ F.entry_list_pop (F.args_list_pop_1 _) (MeetsSeq.list_pop_last l _ n u (by simp_all)<|by simp_all) ⟨e,⟨y,_,I.lset hH e ?_ r.dropLast ?_,ru,q⟩⟩
 . simp
 . rw[List.length_dropLast]
   lia
def ZqX:V->List V->Hp->VK->Prop:=λx vs H Q=>∃l a,x=.ref l/\vs=[]/\H l=J (.lst a)/\Q .non (upd H l<|.lst a.reverse)
def Zna:MtM X "list.reverse" ZqX:=by
 rintro aa s Z H x vs v us Q I rx rv⟨l,xs,rfl,rfl,hH,q⟩;cases rx;have fu:=rv.zero;subst fu;obtain⟨z,its,n,r,hl,e⟩:=I.lstM hH;refine call_meets F.slot_list_reverse ⟨_,e,rfl⟩ F.entry_list_reverse (F.args_list_reverse_1 _) (AutoSeq1.list_reverse_list_0 l _ n<|by simp_all) ⟨e,⟨.non,_,I.lset hH e (by simp) r.reverse ?_,rfl,q⟩⟩
 simp_all
def Zwa:V->List V->Hp->VK->Prop:=λx vs H Q=>∃l a,x=.ref l/\vs=[]/\H l=J (.lst a)/\Q .non (upd H l<|.lst [])
def ZrB:MtM X "list.clear" Zwa:=by rintro aa s Z H x vs v us Q I rx rv⟨l,xs,rfl,rfl,hH,q⟩;cases rx;have fu:=rv.zero;subst fu;obtain⟨z,its,n,r,hl,e⟩:=I.lstM hH;exact call_meets F.slot_list_clear ⟨_,e,rfl⟩ F.entry_list_clear (F.args_list_clear_1 _) (AutoSeq1.list_clear_list_0 l _ n<|by simp_all) ⟨e,⟨.non,_,I.lset hH e rfl .nil<|Yy _,rfl,q⟩⟩
def ZBo:R2:=λx y H Q=>∃l b xs a,x=.ref l/\y=.ref b/\H l=J (.lst xs)/\H b=J (.lst a)/\xs.length+a.length<=Yc/\∀p,H p=M->Q (.ref p) (upd H p<|.lst<|xs++a)
def ZwD:OpR X (binaryOp .Add) ZBo:=by
 rintro aa s Z H x y v u Q I rx ry⟨l,b,xs,zs,rfl,rfl,hH,hB,hz,q⟩;cases rx;cases ry;obtain⟨z,its,n,r,hl,e⟩:=I.lstM hH;obtain⟨z2,be,n2,r2,bV,e2⟩:=I.lstM hB;refine PySem.P.add_list e e2 ?_ (by simp_all);have ea:its.toArray++be.toArray=(its++be).toArray:=by simp
 rw[ea];exact⟨.ref _,_,I.lnew (r.append r2)<|by simp_all,rfl,q _ I.fresh⟩
end
end L2
namespace Att
open PySem PySem.W PySem.Calls PyProof.Rows
def ZhO:∀(ns) (vs),WellAll P h vs (ns.map WData.int)->IntsAre vs ns:=by
 intro ns;induction ns with
 |nil=>intro vs w;cases w;exact .nil
 |cons n ns c=>
  intro vs w;cases w with
  |cons a b=>cases a;exact .cons _ _ (c _ b)
theorem Zpt{l:OpenLaw}{n}(hn:l.most=J n){P}{h}{args}{a9}
   (cy:l.row.toRowW.claim.pre args=Wq) (ie:WellAll P h a9 args) :
   ∃ a vs ns,a9=[YD a]/\args=[WData.list<|ns.map WData.int]/\h.get? a=J {cls:=.type "list",data:=.seq vs.toArray}/\IntsAre vs ns/\ns.length<=n:=by
 obtain⟨d,r,rfl,R,h2⟩:=hasAllW_cons (pre_splitW cy).1;obtain rfl:=hasAllW_nil h2;obtain⟨xs,rfl,h3⟩:=hasW_list R;obtain⟨ns,rfl⟩:=items_int h3;cases ie with
 |cons w1 w2 =>
   cases w2;cases w1 with
   |list ho bx=>exact⟨_,_,_,rfl,rfl,ho,ZhO _ _ bx,by
   have h5:=condW_of (by
     have h4:=(holds_andW (pre_splitW cy).2).1;rw [hn] at h4;exact h4) (w_not<|w_lt w_lit<|w_len_list<|w_arg rfl)
   simp_all⟩
def Zpy(l:OpenLaw)(args):l.row.toRowW.claim.post args (.bool Wq) args=Wq:=
 postW_of
  (rfl)
  (w_eq_bool (w_res rfl) w_lit) rfl
def ZmD{l:OpenLaw}{n}{q}{aZ}{XP}{YP}{d}
 (hn:l.most=J n) (fL:d.params.defaults=[])
 (call:∀(w) (s₀ s₁) (mg mb) (fa) (o) (pm cd aW) (a) (vs) (ns),
  Ground q aZ [] XP w s₀ mg mb s₁.heap->YP w s₁.heap ->
  s₁.heap.get? fa=J o->o.data=.func (docDef d.name d.params d.body d.scope pm cd aW)->s₁.heap.CodeRec cd d.name->mg d.name=J (.ref fa) ->
  s₁.heap.get? a=J {cls:=.type "list",data:=.seq vs.toArray}->IntsAre vs ns->ns.length<=n->s₁.gens=#[] ->
  codeAny (model l.prog w) callerA (.call (.ref fa) ⟨[.ref a],[]⟩) (λr s'=>r=.ok (.ret<|.bool Wq)/\OldK s₁.heap s'.heap/\s'.os=s₁.os/\AllBare s'.gens) s₁) :
 WalkO q aZ XP YP l.row.toRowW d [] (λf vs=>PySem.call f vs):=by
 intro w s₀ s₁ mg mb G Y fa o pm cd aW c kV e g h b i j args z as k A B m C;obtain rfl:c=.none:=Dflts.none b fL;obtain rfl:kV=.none:=Dflts.noKw b;obtain⟨a,vs,ns,rfl,rfl,p,s,t⟩:=Zpt hn k m;refine enter_call<|codeAny_mono (call w _ _ _ _ _ o _ _ _ a _ _ G Y e (fd_plain g) h i p s t j) λr s' u=>?_;obtain⟨rfl,v,x,y⟩:=u;exact⟨.inl ⟨_,_,_,rfl,λ_=>rfl,.bool _,Zpy l _,λ_=>⟨List.Pairwise.nil,λ_ hm=>(nomatch hm)⟩⟩,v,x,y⟩
end Att
namespace L2
open PySem PySem.Spec PyProof.Rows
theorem Zg5:∀{vs}{ns},IntsAre vs ns->Zs (ns.map V.int) vs
 |_,_,.nil=>.nil
 |_,_,.cons n t h=>.cons ⟨t,rfl⟩ (Zg5 h)
def ZuS(H:Hp):Prop:=∀b,H b=M\/∃o a,H b=J (.frz o<|.lst a)
theorem ZrL{P}{w}{K:Yl}{mg mb:Str->Option _}{CX}{k}{fa a}{fd}{x}{sp}{s₁:Yb}{vs:List _}{ns:List _}
   (KX:K.In s₁.heap) (cM:s₁.heap.Ns Ye mg) (hb:s₁.heap.Ns builtinsNs mb) (ml:∀ x:Str,x ≠ "__name__" -> mb x=bootBuiltins x) (iH:s₁.heap.NoLimit) (hg:s₁.gens=#[])
   (ha:s₁.heap.get? a=J {cls:=.type "list",data:=.seq vs.toArray}) (hi:IntsAre vs ns) (hl:ns.length<=Yc) (hr:Room k callerA)
   (F:∀ base:YG,K.In base->base.Ns Ye mg->FnOk P w K mg base CX k fa fd [x] sp) (fN:∀ (s) (u),BindsTo s fd ⟨[u],[]⟩ [(x,u)])
   (bQ:∀ H:Hp,ZuS H->SqL K H a (ns.map V.int)->sp [.ref a] H (λv _=>v=.bl Wq) λ_ _ _=>False)
   (iY:∀ H e s',CX [] H s₁ (λ_ _ _=>False) e s'->False) :
   codeAny (model P w) callerA (.call (.ref fa) ⟨[.ref a],[]⟩) (λr s'=>r=.ok (.ret<|.bool Wq)/\OldK s₁.heap s'.heap/\s'.os=s₁.os/\AllBare s'.gens) s₁:=by
 have fV:∀ H ,ZuS H->SqL K H a (ns.map V.int)->HOk P w H s₁.heap->(∀ b,H b≠M->b=a)->(H a≠M->K.lookup a=M) ->
     codeAny (model P w) callerA (.call (.ref fa) ⟨[.ref a],[]⟩) (λr s'=>r=.ok (.ret<|.bool Wq)/\OldK s₁.heap s'.heap/\s'.os=s₁.os/\AllBare s'.gens) s₁:=by
   intro H hO hS hok hA hK;have fb:∀ {b:Yj}{o:Obj}{es:Array DictEntry}{ep:Nat},s₁.heap.get? b=J o->o.data=.dict es ep->H b=M:=λ{b o es ep} e d=>by
     cases q:H b with
     |none=>rfl
     |some u =>
       have e':b=a:=hA b (by rw [q];simp);subst e';rw [ha] at e;cases e;cases d
   have gh:∀ {b:Yj}{m:Str->Option Yk},s₁.heap.Ns b m->(ZpX s₁.heap H).Ns b m:=λ{b m} z9=>by obtain⟨o,es,ep,e,d,r⟩:=z9;exact⟨o,es,ep,(λe n=>ZlZ e n) e<|fb e d,d,r⟩
   have jJ:K.In (ZpX s₁.heap H):=λb o e=>(λe n=>ZlZ e n) (KX b o e) (by
     cases q:H b with
     |none=>rfl
     |some u =>
       have e':b=a:=hA b (by rw [q];simp);subst e';rw [hK (by rw [q];simp)] at e;cases e)
   refine codeAny_mono ((F _ jJ<|gh cM).run callerA [] s₁ H ⟨[.ref a],[]⟩ [.ref a] [.ref a] _ _ hr ⟨rfl,⟨jJ,gh cM,⟨mb,gh hb,ml⟩,let⟨mc,R,h2⟩:=iH;⟨mc,gh R,h2⟩⟩,λb o e=>ZtV e,Nat.le_of_eq<|ZpW _ _,trivial,λb hb=>absurd (show b∈([]) from hb)<|by simp,hok,.of_eq hg⟩ (fN s₁<|.ref a) (.cons rfl .nil)<|bQ H hO hS) λr s' h=>?_;cases r with
   |error e=>exact(iY H e s' h).elim
   |ok fl =>
     cases fl with
     |next=>exact False.elim h
     |brk=>exact False.elim h
     |cont=>exact False.elim h
     |ret u =>
       obtain⟨v,H',os,bare,un,iw,r',q⟩:=h;cases q;obtain rfl:u=Value.bool Wq:=r';refine⟨rfl,OldK.of_keep λb o e=>?_,os,bare⟩;cases q:H b with
       |none=>exact un.keep b o e q (by intro z;exact absurd (show b∈([]) from z)<|by simp) (by simp)
       |some u =>
         rcases hO b with z|⟨ob,xs,z⟩
         . rw [q] at z;cases z
         . obtain⟨e1,_⟩:=hok b _ z;obtain⟨e2,_⟩:=iw b _<|un.frzs b ob _ z;rw [e] at e1;cases e1;exact e2
 cases hk:K.lookup a with
 |some o =>
   have e:=KX a o hk;rw [ha] at e;cases e;refine fV (λ_=>M) (λ_=>.inl rfl) (.inr ⟨_,vs.toArray,_,hk,rfl,rfl,rfl,by rw [Of,hi.length];exact hl,by simpa using Zg5 hi⟩) (λb u z=>by cases z) (λb z=>absurd rfl z) λz=>absurd rfl z
 |none =>
   refine fV (λb=>if b=a then J (.frz {cls:=.type "list",data:=.seq vs.toArray}<|.lst<|ns.map V.int) else M) (λb=>?_) (.inl<|.inr ⟨{cls:=.type "list",data:=.seq vs.toArray},if_pos rfl⟩) (λb u z=>?_) (λb z=>?_) λ_=>hk
   . by_cases hb:b=a
     . exact .inr ⟨_,_,if_pos hb⟩
     . exact .inl (if_neg hb)
   . by_cases hb:b=a
     . have z':=(if_pos hb).symm.I z;cases z';subst hb;exact⟨ha,by rw [Yu];exact hl,vs,_,Zg5 hi,ha⟩
     . have z':=(if_neg hb).symm.I z;cases z'
   . by_cases hb:b=a
     . exact hb
     . exact absurd (if_neg hb) z
def ZsO{l:PySem.W.OpenLaw}{n k}{q}{aZ:List _}{XP:(Str->Option _)->YG->Prop}{YP:Yh->YG->Prop}{d:DefRec}{K:Params->Yl}{CX:Yh->CXT}{sp:Yh->Sp}{x}
 (hn:l.most=J n) (eI:n<=Yc) (fL:d.params.defaults=[]) (hr:Room k callerA)
 (hY:∀(w) (h),YP w h->(K w.params).In h)
 (F:∀(w) (mg:Str->Option _) (fa) (h),(K w.params).In h->h.Ns Ye mg->mg d.name=J (.ref fa) ->
  ∃fd:FuncData,(∀(s) (u),BindsTo s fd ⟨[u],[]⟩ [(x,u)]) /\
   ∀base:YG,(K w.params).In base->base.Ns Ye mg->FnOk l.prog w (K w.params) mg base (CX w) k fa fd [x] (sp w))
 (bQ:∀(w) (H) (a) (ns:List _),ns.length<=n->ZuS H->SqL (K w.params) H a (ns.map V.int)->sp w [.ref a] H (λv _=>v=.bl Wq) λ_ _ _=>False)
 (iY:∀(w) (H) (s) (e) (s'),CX w [] H s (λ_ _ _=>False) e s'->False) :
 PySem.W.WalkO q aZ XP YP l.row.toRowW d [] (λf vs=>PySem.call f vs):=by
 refine Att.ZmD hn fL λw A B mg C fa o D E I a vs ns G Y L N O i j m c p=>?_;obtain⟨fd,r,t⟩:=F w _ _ _ (hY w _ Y) G.T.g i;exact ZrL (hY w _ Y) G.T.g G.T.b G.T.builtins G.T.nolimit p j m (OE c eI) hr t r (λH y z=>bQ w H a _ c y z) λH e s'=>iY w H _ e _
noncomputable def inClass(s:Stmt)(j:Nat):Stmt:=match s with
 |.ClassDef _ _ _ body _ _ _ _ _ _ _=>body.getD j (.Pass ⟨0,0,0,0⟩)
 |_=>.Pass ⟨0,0,0,0⟩
noncomputable def Ze0(s:Stmt):Arguments:=match s with
 |.FunctionDef _ a _ _ _ _ _ _ _ _=>a
 |_=>{posonlyargs:=[],args:=[],vararg:=M,kwonlyargs:=[],kw_defaults:=[],kwarg:=M,defaults:=[]}
noncomputable def Zck(s:Stmt):List Stmt:=match s with
 |.FunctionDef _ _ b _ _ _ _ _ _ _=>b
 |_=>[]
noncomputable def ZX(s:Stmt):Scope:=match s with
 |.FunctionDef _ _ _ _ _ _ sc _ _ _=>sc
 |_=>{kind:=.function,names:=[],isGenerator:=false,isCoroutine:=false}
noncomputable abbrev E0:XK:=λ_ _ _=>False
structure Fun(K:Yl)(x am:Str)(st:Stmt)(f:Yj)(fd:FuncData):Prop where
 ex:∃(oc:Yk) (od:Option Yj) (kV aW pm:Yk) (an:Option Yj) (aM ct:Yk) (bY:Array (Option Yk)),
  fd=PySem.W.fnOf x am (Ze0 st) (Zck st) (ZX st) .none kV aW pm an aM ct/\K.lookup f=J ⟨oc,od,.func fd,bY⟩/\PySem.W.codeIn K aM am=Wq
 kp:Wa K (.ref f)=Wq
section
variable {K:Yl}
def Fun.binds{x am}{st}{f}{fd}{ps}(F:Fun K x am st f fd)
 (h:∀(kV aW pm) (an) (aM ct) (us),us.length=ps.length->bindArgs (PySem.W.fnOf x am (Ze0 st) (Zck st) (ZX st) .none kV aW pm an aM ct) ⟨us,[]⟩=pure (ps.zip us)):Binds K fd ps []:=by
 obtain⟨a,b,kV,aW,pm,an,aM,ct,c,rfl,d,e⟩:=F.ex;exact .all (h _ _ _ _ _ _)
def ZrY{x am}{st}{f}{oc}{od an}{bY}{kV aW pm aM ct}(l:K.lookup f=J ⟨oc,od,.func<|PySem.W.fnOf x am (Ze0 st) (Zck st) (ZX st) .none kV aW pm an aM ct,bY⟩)
 (c:PySem.W.codeIn K aM am=Wq) (k:Wa K (.ref f)=Wq):Fun K x am st f (PySem.W.fnOf x am (Ze0 st) (Zck st) (ZX st) .none kV aW pm an aM ct):=⟨⟨_,_,_,_,_,_,_,_,_,rfl,l,c⟩,k⟩
end
def ZlY{A B_:Prop}(h:B_):if Ws=Wq then A else B_:=by trivial
def ZlX{A B_:Prop}(h:A):if Wq=Wq then A else B_:=by trivial
set_option tactic.hygienic false
section
variable {κ:Type}[DecidableEq κ]
noncomputable def ZbJ(kvs:List (κ×V))(k:κ):Option V:=(kvs.find? λkv=>Wu<|kv.1=k).map (·.2)
noncomputable def putK(kvs:List (κ×V))(k:κ)(v:V):List (κ×V):=if (kvs.any λkv=>Wu<|kv.1=k)=Wq then kvs.map (λkv=>if kv.1=k then(kv.1,v)else kv)else kvs++[(k,v)]
def Zia{p}{r}{k:κ}(e:p.1=k):ZbJ (p::r) k=J p.2:=by simp[ZbJ,e]
def Zib{p}{r}{k:κ}(e:¬ p.1=k):ZbJ (p::r) k=ZbJ r k:=by simp[ZbJ,e]
theorem Zll(k):∀kvs:List (κ×V),(kvs.any λkv=>Wu<|kv.1=k)=(ZbJ kvs k).isSome
 |[]=>rfl
 |p::r=>by
  rw[YZ];by_cases e:p.1=k
  . simp[Zia e,decide_eq_true e]
  . rw[Zib e,decide_eq_false e];exact Zll k r
def Zd7(kvs)(k:κ)(v):(putK kvs k v).length<=kvs.length+1:=by
 unfold putK;split
 . simp
 simp
def ZfV.isSome_eq{o}{u}(r:ZfV o u):o.isSome=u.isSome:=by
 cases o with
 |none=>cases u with
  |none=>rfl
  |some _=>trivial
 |some _=>cases u with
  |none=>trivial
  |some _=>rfl
def KV.val{kvs}{vs}(r:KV kvs vs)(k:κ):ZfV (ZbJ kvs k) (valueAt vs k):=by
 induction r with
 |nil=>trivial
 |@cons p q ps qs h t c=>
  obtain⟨R,d⟩:=h;by_cases e:p.1=k
  . have a:=R.symm.I e;have b:valueAt (q::qs) k=J q.2:=by simp[valueAt,a]
    rw[Zia e,b];trivial
  . have a:¬ q.1=k:=λz=>e<|R.I z;have b:valueAt (q::qs) k=valueAt qs k:=by simp[valueAt,a]
    rw[Zib e,b];trivial
theorem KV.any{kvs}{vs}(r:KV kvs vs)(k:κ):(kvs.any λkv=>Wu<|kv.1=k)=vs.any λkv=>Wu (kv.1=k):=by
 induction r with
 |nil=>rfl
 |cons h t a=>simp_all
def KV.repl{kvs}{vs}(r:KV kvs vs)(k:κ){y}{u}(ry:RelV y u):
 KV (kvs.map λkv=>if kv.1=k then(kv.1,y)else kv) (vs.map λkv=>if kv.1=k then(kv.1,u)else kv):=by
 induction r with
 |nil=>exact .nil
 |@cons p q ps qs h t a=>
  refine .cons ?_ a;by_cases e:p.1=k
  . simp_all
  simp_all
def KV.put{kvs}{vs}(r:KV kvs vs)(k:κ){y}{u}(ry:RelV y u):KV (putK kvs k y) (stored vs k u):=by
 unfold putK stored;rw[r.any k];by_cases e:(vs.any λkv=>Wu<|kv.1=k)=Wq
 . rw[if_pos e,if_pos e];exact r.repl k ry
 . rw[if_neg e,if_neg e];exact Paired.snoc r ⟨rfl,ry⟩
theorem KV.length(r:KV kvs vs):kvs.length=vs.length:=Paired.length r
end
def ZlW(r:RelV (kV k) u):(ZH P w).is k u=Wq:=by
 cases k with
 |inl i=>obtain⟨t,e⟩:=(r);subst e;exact ZlP P w i t
 |inr x=>obtain⟨t,e⟩:=(r);subst e;exact ZlO P w x t
section
variable {P:Yi}{w:Yh}{H:Hp}{h:YG}{a:Yj}
def ZyT(ok:HOk P w H h)(e:Rd H a u):Zai P w H h a u:=e.ok ok
def Zvm(ok:HOk P w H h)(e:Rd H a (.dK kvs)):kvs.length<=Yc/\(a==Yf)=Ws/\∃vs,KV kvs vs/\h.DictOf (ZH P w) a vs:=ZyT ok e
def Zvn(ok:HOk P w H h)(e:H a=J (.dK kvs)):kvs.length<=Yc/\(a==Yf)=Ws/\∃vs,KV kvs vs/\h.DictOf (ZH P w) a vs:=Zvm ok (.inl e)
end
section
variable {X:Cx}{aa:List (Yj×Obj)}{Z:St}{H:Hp}{s:Yb}{a:Yj}
def Inv.big(I:Inv X aa Z H s):Yf<s.heap.objs.size:=Nat.lt_trans (by decide) (I.mod.glob.keeps I.bk).lt
def ZoY(I:Inv X aa Z H s)(mu:Mut (H a))(hs:Heap.SameBut a s.heap h')(he:∃q,h'.get? a=J q)(new:Zai X.prog X.w (upd H a ob) h' a ob):
 Inv X aa Z (upd H a ob) {s with heap:=h',toks:=t'}:=
 I.write mu (.inl rfl) (λb q c z=>(hs.2 b c).I z) he new
def Zse(z:kvs.length<=Yc)(hd:(a==Yf)=Ws)(rel:KV kvs vs)(dd:h'.DictOf (ZH P w) a vs):
 Zai P w H' h' a (.dK kvs):=⟨z,hd,_,rel,dd⟩
end
def Zmc(h:YG)(hb:Yf<h.objs.size):Zai P w H (h.push {cls:=.type "dict",data:=.dict #[]}) h.objs.size (.dK []):=⟨Yy _,beq_eq_false_iff_ne.mpr<|YL<|Ou hb,_,.nil,Heap.DictOf.new h⟩
def ZvV:TE:=λ_ H Q=>∀p,H p=M->Q (.ref p) (upd H p<|.dK [])
section
variable {X:Cx}{pos:Pos}
def Zrn:PE X (.Dict [] [] pos) ZvV:=λa s Z H Q I h=>wpAny_Dict_empty ⟨.ref _,_,I.laid (λ_ _ q=>Od _ q) (Oq _)<|Zmc _ I.big,rfl,h _<|I.hok.fresh<|Oq _⟩
end
def Zkp:List (TE×TE)->St->Hp->(List (V×V)->Hp->Prop)->Prop
 |[],_,H,Q=>Q [] H
 |(a,b)::r,Z,H,Q=>a Z H λx H1=>b Z H1 λy H2=>Zkp r Z H2 λps H3=>Q ((x,y)::ps) H3
abbrev VV:List (V×V)->List (Yk×Yk)->Prop:=Paired λp q=>RelV p.1 q.1/\RelV p.2 q.2
def PPs(X:Cx)(pos:Pos)(keys:List (Option Expr))(values:List Expr)(db:List (TE×TE)):Prop:=
 ∀(aa:List (Yj×Obj)) (s:Yb) (Z:St) (H:Hp) (Q:List (V×V)->Hp->Prop),Inv X aa Z H s->Zkp db Z H Q ->
  YB (model X.prog X.w) X.A (evalPairs<|pairTrees keys values X.env pos) (λvs s'=>∃ps H',Inv X aa Z H' s'/\VV ps vs/\Q ps H') X.xe s
def Ztm:PPs X pos [] [] []:=λa s Z H Q I h=>pairTrees_nil_walk ⟨_,H,I,.nil,h⟩
def Zrb(hk:PE X k tk)(hv:PE X v tv)(hr:PPs X pos ks vs db):
 PPs X pos (J k::ks) (v::vs) ((tk,tv)::db):=λi s Z H Q I h=>
 pairTrees_cons_walk (thn (hk _ s _ H _ I h) λu j ⟨x,H1,I1,c,d⟩=>thn (hv _ _ _ _ _ I1 d) λl m a=>by obtain⟨y,H2,I2,e,f⟩:=a;exact thn (hr _ _ _ _ _ I2 f) λn o a=>by obtain⟨ps,H3,I3,b,g⟩:=a;exact⟨_,_,I3,.cons ⟨c,e⟩ b,g⟩)
def Ziw(kvs more:List (Key×V)):List (Key×V):=more.foldl (λb a=>putK b a.1 a.2) kvs
theorem KV.merge:∀ {more}{rs}{kvs}{vs},KV more rs->KV kvs vs->KV (Ziw kvs more) (merged vs rs):=by
 intro more rs kvs vs r;induction r generalizing kvs vs with
 |nil=>intro q;exact q
 |@cons p q ps qs h t a =>
   intro b;exact a (by
     have:=b.put p.1 h.2
     simp_all)
theorem Zfo:∀(more kvs),(Ziw kvs more).length<=kvs.length+more.length
 |[],kvs=>by show kvs.length<=kvs.length+0;lia
 |p::r,kvs=>by have R:=Zfo r<|putK kvs p.1 p.2;have a:=Zd7 kvs p.1 p.2;show(Ziw _ r).length<=_;rw[Os];lia
theorem Zi6:∀{kvs}{ws},VV (kvs.map λkv=>(kV kv.1,kv.2)) ws->∃rs,Carries (ZH P w) ws rs/\KV kvs rs
 |[],_,r=>by cases r;exact⟨[],True.intro,.nil⟩
 |p::kvs,_,r=>by
  cases r with
  |@cons a b as bs h t=>obtain⟨rs,c,q⟩:=Zi6 (P:=P) (w:=w) t;exact⟨(p.1,b.2)::rs,⟨ZlW h.1,rfl,c⟩,.cons ⟨rfl,h.2⟩ q⟩
def ZyH(db:List (TE×TE)):TE:=λZ H Q=>∀p,H p=M->Zkp db Z (upd H p<|.dK []) λps H2=>H2 p=J (.dK [])/\∃a:List (Key×V),ps=a.map (λb=>(kV b.1,b.2))/\a.length<=15/\Q (.ref p) (upd H2 p<|.dK<|Ziw [] a)
theorem Ztx(h:PPs X pos keys values db)(bx:keys.all (·.isSome)=Wq)(hl:keys.length=values.length)(h0:keys≠[])
   (iZ:keys.length<=15):PE X (.Dict keys values pos) (ZyH db):=by
 intro p s Z H Q I q;refine wpAny_Dict_walk (knd:=ZH _ _) bx hl h0 iZ<|thn (h _ _ _ _ _ (I.laid (t':=s.toks) (λ_ _ q=>Od _ q) (Oq _)<|Zmc _ I.big)<|q _<|I.hok.fresh<|Oq _) λr t f=>?_;obtain⟨ps,H2,I2,a,e,b,g,u,i⟩:=f;subst g;obtain⟨rs,c,j⟩:=Zi6 a;obtain⟨z,k,v,l,m⟩:=Zvn I2.hok e;cases l;exact⟨_,c,m,λw d n=>⟨.ref _,_,ZoY I2 (by rw [e];trivial) n (let⟨q,_,_,o,_⟩:=d;⟨q,o⟩) (Zse (by
   have R:=Zfo b [];rw [List.length_nil] at R;rw [YC];lia) k (j.merge .nil) d),rfl,i⟩⟩
set_option tactic.hygienic true
theorem Zd6{env:Env}:∀(names:List (Str×NameKind)) (x),
 (names.map λ(n,k)=>if (k==Yo&&env.scope.kind==.function&&env.kindOf n==J .cell)then(n,NameKind.cell)else(n,k)).lookup x =
  (names.lookup x).map λk=>if (k==Yo&&env.scope.kind==.function&&env.kindOf x==J .cell)then NameKind.cell else k
 |[],_=>rfl
 |(n,k)::r,x=>by
  have ih:=@Zd6 env r x;show Wf x ((if (k==Yo&&env.scope.kind==.function&&env.kindOf n==J _)=Wq then(n,NameKind.cell)else(n,k))::_)=_;cases hx:x==n with
  |true=>
   have e:=by simpa using hx
   subst e;by_cases hc:(k==Yo&&env.scope.kind==.function&&env.kindOf x==J .cell)=Wq
   . rw[if_pos hc];simp only[OF,hx,Yv,if_pos hc]
   . rw[if_neg hc];simp only[OF,hx,Yv,if_neg hc]
  |false=>
   by_cases hc:(k==Yo&&env.scope.kind==.function&&env.kindOf n==J .cell)=Wq
   . rw[if_pos hc];simp only[OF,hx];exact ih
   . rw[if_neg hc];simp only[OF,hx];exact ih
noncomputable def Zhh(env:Env):List (Str×NameKind)->List (Str×Yj)->List (Str×Yj)
 |[],a=>a
 |(n,k)::r,a=>Zhh env r (if (k==.free)=Wq then(n,(env.cells.lookup n).getD 0)::a else a)
theorem Zmh{env}:∀(l) (cs),(∀y∈l,y.2=.free->∃c,env.cells.lookup y.1=J c) ->
 (∀x c,(x,c)∈cs->env.cells.lookup x=J c)->∀x c,(x,c)∈Zhh env l cs->env.cells.lookup x=J c
 |[],cs,_,h2,x,c,hm=>h2 x c hm
 |(n,k)::r,cs,R,h2,x,c,hm=>by
  refine Zmh r _ (λy hy=>R y<|Oh _ hy) (λx c hm=>?_) x c hm;by_cases hk:(k==Yo)=Wq
  . rw[if_pos hk]at hm;rcases O2.mp hm with e|hm
    . cases e;obtain⟨c,e⟩:=R _ Oi (by simp_all);rw[e];rfl
    . exact h2 x c hm
  . rw[if_neg hk]at hm;exact h2 x c hm
theorem Zj8:∀(l) (cs) (p),p∈cs->p∈Zhh env l cs
 |[],_,_,h=>h
 |(n,k)::r,cs,p,h=>by
  refine Zj8 r _ p ?_;by_cases hk:(k==Yo)=Wq
  . rw[if_pos hk];simp_all
  . rw[if_neg hk];exact h
theorem Zmi:∀(l) (cs) (y),y∈l->y.2=.free->∃c,(y.1,c)∈Zhh env l cs
 |(n,k)::r,cs,y,h,a=>by
  rcases O2.mp h with e|h
  . refine⟨(env.cells.lookup n).getD 0,Zj8 r _ _ ?_⟩
    simp_all
  . exact Zmi r _ y h a
theorem Zfn:∀{l:List (Str×α)}{x}{c},(x,c)∈l->∃c',l.lookup x=J c'/\(x,c')∈l
 |(n,d)::r,x,c,h=>by
  cases a:x==n with
  |true=>simp_all
  |false=>
   rcases O2.mp h with e|h
   . simp_all
   . obtain⟨c',R,b⟩:=Zfn h;exact⟨_,by simp[OF,a];trivial,Oh _ b⟩
def ZjB(h:∀y∈scope.names,y.2=.free->∃c,env.cells.lookup y.1=J c):closureFor scope env=pure (Zhh env scope.names []):=by
 have all:∀(l) (cs),(∀y∈l,y.2=.free->∃c,env.cells.lookup y.1=J c) ->
  (forIn l cs λx r=>match x with|(name,kind)=>if (kind==Yo)=Wq then(do let a <- cellOf env name;pure<|ForInStep.yield ((name,a)::r))else pure (ForInStep.yield r):Sem _)=pure (Zhh env l cs):=by
  intro l;induction l with
  |nil=>intro cs _;rfl
  |cons y r ih=>
   intro cs hl;rw[List.forIn_cons];have hr:=λcs=>ih cs λy hy=>hl y<|Oh _ hy;by_cases hk:(y.2==Yo)=Wq
   . obtain⟨c,e⟩:=hl (y.1,y.2) Oi (by simp_all)
     have ec:cellOf env y.1=pure c:=by unfold cellOf;rw[e]
     simp only[hk,if_true,ec];show(forIn r ((y.1,c)::cs) _:Sem _)=_;rw[hr];show _=pure (Zhh env r (if (y.2==Yo)=Wq then(y.1,(env.cells.lookup y.1).getD 0)::cs else cs));rw[if_pos hk,e];rfl
   . simp only[hk];show(forIn r cs _:Sem _)=_;rw[hr];show _=pure (Zhh env r (if (y.2==Yo)=Wq then(y.1,(env.cells.lookup y.1).getD 0)::cs else cs));rw[if_neg hk]
 unfold closureFor;have z:=all scope.names [] h;dsimp only at z ⊢;rw[z];rfl
set_option tactic.hygienic false
def Zmg(I:Nat->Yb->Prop)
 (turn:∀n s,I n s->YB (model prog w) A (pyNext it) (λr s₁=>match r with
  |none=>qd (.ok .next) s₁
  |some v=>YB (model prog w) A (letOwnedTupleGo target it v) (λ_ s₁'=>YB (model prog w) A (assign target env v) (λ_ s₂=>
   YB (model prog w) A (forIn a7 Wq λc r=>if r=Wq then do let ok <- isTrue c env (eval c env);pure (ForInStep.yield ok)else pure (ForInStep.yield r)) (λok s₃=>
    if ok=Wq then YB (model prog w) A (eval aF env) (λx s₄=>YB (model prog w) A (call (.builtin "list.append") [ai,x]) (λ_ s₅=>∃m,m<n/\I m s₅) (notedBy (model prog w) A env λe s'=>qd (.error e) s') s₄) (notedBy (model prog w) A env λe s'=>qd (.error e) s') s₃
    else ∃m,m<n/\I m s₃) (notedBy (model prog w) A env λe s'=>qd (.error e) s') s₂) (notedBy (model prog w) A env λe s'=>qd (.error e) s') s₁') (notedBy (model prog w) A env λe s'=>qd (.error e) s') s₁) (notedBy (model prog w) A env λe s'=>qd (.error e) s') s)
 (n) (h:I n s) :
 codeAny (model prog w) A (.compLoop (.ListComp aF [⟨target,iter,a7,0⟩] scope pos) 0 it ai env) qd s:=by
 refine codeAny_loop rfl I (λn s g=>wpAny_noted ?_) n h;rw[compTurn_list];refine Ya<|wpAny_standAt<|Ya<|Yg (turn n s g) (λr s₁ d=>?_) λ_ _ a=>a;cases r with
 |none=>exact Yd d
 |some v=>
  refine Ya<|Yg d (λ_ s₁' b=>Ya<|Yg b (λ_ s₂ i=>Ya<|Yg i (λok s₃ f=>?_) λ_ _ a=>a) λ_ _ a=>a) λ_ _ a=>a;cases ok with
  |false=>exact Yd ⟨rfl,f⟩
  |true=>exact Ya (Ya<|Yg f (λx s₄ j=>Ya<|Yg j (λ_ s₅ k=>Yd<|Yd ⟨rfl,k⟩) λ_ _ a=>a) λ_ _ a=>a)
structure CompSc(NC N:List Str)(js:List (Option Nat))(sc scope:Scope):Prop where
 kind:scope.kind=.function
 dkind:sc.kind=.function
 nocell:∀y∈scope.names,y.2≠.cell
 locs:∀y∈scope.names,y.2=.local->scope.names.lookup y.1=J .local
 free:∀y∈scope.names,y.2=.free->sc.names.lookup y.1=J .cell
 nd:NC.Nodup
 len:js.length=NC.length
 jok:((NC.zip js).all λp=>p.2.all λj=>Wu (N[j]?=J p.1)&&Wu (scope.names.lookup p.1=J .free))=Wq
theorem CompSc.at{NC N}{js}(S_:CompSc NC N js sc scope){i j:Nat}{x}(R:NC[i]?=J x)(h2:js[i]?=J (J j)):N[j]?=J x/\scope.names.lookup x=J .free:=by
 have h:=S_.jok;rw[OC]at h;have hm:(x,J j)∈NC.zip js:=by refine O1 (i:=i) ?_;rw[List.getElem?_zip_eq_some];trivial
 have q:=h _ hm;simp at q;exact q
def capt(js:List (Option Nat))(Z:St):St:=js.map λo=>o.bind λj=>(Z[j]?).join
def ZA(X:Cx)(NC:List Str)(scope:Scope)(C:Yj)(s3:Yb)(H3:Hp)(fp:List Yj):Cx:={X with N:=NC,s₀:=s3,H₀:=H3,env:=compEnvC scope (Zhh X.env scope.names []) C X.env,outer:=X.stack,stack:=X.stack,ex:=fp,fn:=λ_=>Ws,calm:=true,pn:=[],xe:=λ_ _=>False}
def ZnR(k:Nat)(g:TG):Prop:=∀x Z H Q,g x Z H Q->g x Z H λσ2 H2=>Q σ2 H2/\σ2.length=Z.length/\∀j,k<=j->σ2[j]?=Z[j]?
def ZmE(k:Nat)(g:TGs):Prop:=∀x Z H Q,g x Z H Q->g x Z H λσ2 H2=>Q σ2 H2/\σ2.length=Z.length/\∀j,k<=j->σ2[j]?=Z[j]?
def ZsT(h:i<k):ZnR k (Zec i):=λx Z H Q q=>⟨q,List.length_set,λj a=>by rw[Oc<|by lia]⟩
def Zn3:ZmE k Zuk:=λx Z H Q q=>⟨q.1,q.2,rfl,λ_ _=>rfl⟩
def Zid(h:i<k)(hu:ZmE k u):ZmE k (Zl1 (Zec i) u):=by
 rintro xs Z H Q ⟨v,r,e,q⟩;refine⟨v,r,e,?_⟩;have e2:∀j,k<=j->(Z.set i<|J v)[j]?=Z[j]? := λj hj=>Oc (by lia);have e3:(λσ2 H2=>Q σ2 H2/\σ2.length=Z.length/\∀j,k<=j->σ2[j]?=Z[j]?)=(λσ2 H2=>Q σ2 H2/\σ2.length=(Z.set i<|J v).length/\∀j,k<=j->σ2[j]?=(Z.set i<|J v)[j]?):=by simp_all
 rw[e3];exact hu r _ H Q q
def Zqy{K}(hu:ZmE k u):ZnR k (Zuj K n u):=by rintro x Z H Q ⟨a,xs,e,R,h2,q⟩;exact⟨a,_,e,R,h2,hu _ _ H Q q⟩
def PIf(X:Cx)(a7:List Expr)(t:TT):Prop:=
 ∀(aa:List (Yj×Obj)) (s:Yb) (Z:St) (H:Hp) (Q:Bool->Hp->Prop),Inv X aa Z H s->t Z H Q ->
  YB (model X.prog X.w) X.A (forIn a7 Wq λc r=>if r=Wq then do let ok <- isTrue c X.env (eval c X.env);pure (ForInStep.yield ok)else pure (ForInStep.yield r)) (TP X aa Z Q) X.xe s
noncomputable def ZAM:TT:=λ_ H Q=>Q Wq H
def Ztq{X}:PIf X [] ZAM:=λ_ _ _ H _ I h=>wpAny_tests_nil ⟨H,I,h⟩
def Ztp{X}{c}{t}(hc:PT X c t):PIf X [c] t:=λa s Z H Q I h=>wpAny_tests_one (hc _ s _ H Q I h)
def ZqB(wi:TI)(js:List (Option Nat))(g:TG)(tc:TT)(te:TE):TE:=λZ H Q=>wi Z H λc H1=>∀D,H1 D=M->∃W:Nat->Nat->List V->Hp->Prop,(∃m,W 0 m []<|upd H1 D<|.lst []) /\
 ∀i m ys H,W i m ys H->H D=J (.lst ys)->(c.stop i H/\Q (.ref D) H) \/
  (c.go i H/\ys.length<Yc/\∀x H',c.yld i H x H'->g x (capt js Z) H' λσ2 H2=>tc σ2 H2 λb H3=>
   if b=Wq then te σ2 H3 λy H4=>H4 D=J (.lst ys)/\∃a,a<m/\W (i+1) a (ys++[y]) (upd H4 D<|.lst<|ys++[y])
   else H3 D=J (.lst ys)/\∃a,a<m/\W (i+1) a ys H3)
section
variable {X:Cx}{aa:List (Yj×Obj)}{Z:St}{H:Hp}{s:Yb}
def ZrT{NC}{js}{sc scope}{C:Yj}{h4}{tk}{fp}{m}(S_:CompSc NC X.N js sc scope)(bM:X.env.scope=sc)(hc:X.calm=Wq)
 (I:Inv X aa Z H s) (f:∀b∈fp,ZeP X aa H b) (fo:∀b∈fp,∃o,s.heap.get? b=J o) (hC:C=s.heap.objs.size) (cM:h4.Ns C m) (hk:∀b o,s.heap.get? b=J o->h4.get? b=J o) :
 Inv (ZA X NC scope C s H fp) [] (capt js Z) H {s with heap:=h4,toks:=tk}:=by
 have eN:∀x c,(Zhh _ _ _).lookup x=J c->X.env.cells.lookup x=J c:=λx c e=>Zmh _ [] (λy hy hf=>I.ok.has _<|.inl (show X.env.scope.names.lookup _=J _ by rw[bM];exact S_.free y hy hf)) (λ_ _ z=>by cases z) x c<|YI e;have gE:∀y∈scope.names,y.2=.free->∃c,(Zhh _ _ _).lookup _=J c:=λy hy hf=>by obtain⟨c,hm⟩:=Zmi (env:=X.env) _ [] y hy hf;obtain⟨c',e,_⟩:=Zfn hm;exact⟨_,e⟩
 have kinds:∀x,(ZA X NC _ C s H fp).env.kindOf x=(scope.names.lookup x).map _:=λx=>Zd6 _ x;have fS:∀x,scope.names.lookup x=J _->(ZA X _ _ C s H _).env.kindOf x=J .cell:=λx e=>by
  rw[kinds,e];have R:X.env.kindOf x=J .cell:=show X.env.scope.names.lookup x=J .cell by rw[bM];exact S_.free (x,.free) (YI e) rfl
  simp only[Yv,R,I.ok.kind];rfl
 have flt:∀b∈fp,b<s.heap.objs.size:=λb hb=>let⟨o,e⟩:=fo b hb;Yn e;refine⟨⟨I.ok.mod,S_.kind,I.ok.glob,I.ok.blt,Nat.le_of_eq hC.symm,λx y c R h2=>I.ok.inj x y c (eN x c R)<|eN y c h2,λx hx=>?_,λx c hf _=>absurd (show Ws=Wq from hf) Ow,λ_=>I.ok.hd hc,I.ok.frames,.inl rfl,λb hb=>⟨?_,λx c e=>(f b hb).2.2.2.2.1 x c<|eN x c e⟩,
  I.bs,OE I.ok.bsz I.sz,λb o e hb=>?_,λb hb hm=>?_,I.stack,I.stkFree⟩,
  rfl,I.bare,Un.kept hk,⟨m,cM,λi x v R h2 h3=>?_⟩,λx c e=>?_,?_,λx c e=>I.freeC x c<|eN x c e,λp hp=>absurd (show p∈([])from hp)<|by simp,I.hok.kept hk,?_⟩
 . rw[kinds]at hx;cases e:scope.names.lookup x with
   |none=>rw[e]at hx;rcases hx with hx|hx<;>cases hx
   |some k=>
    rw[e]at hx;have hm:=YI e;exact gE (x,k) hm (by
     by_cases hf:(k==Yo)=Wq
     . cases k<;>first|rfl|(exact absurd hf<|by decide)
     . simp only[Yv,Bool.eq_false_iff.mpr hf,Bool.false_and,OG,if_false]at hx;rcases hx with hx|hx
       . exact absurd (YF hx) (S_.nocell _ hm)
       . exact YF hx)
 . show b≠C;rw[hC];exact Ou (flt b hb)
 . obtain⟨_,_,_,f3,_⟩:=f b hb;rcases f3 with z|z
   . exact I.ok.noex b o e z
   . exact absurd (Ot (Yn e)<|OE I.ok.bsz z) (Yw _)
 . obtain⟨_,f1,f2,_⟩:=f b hb;exact(O2.mp<|I.stkSub b hm).elim f1 f2
 . have hj:∃j,js[i]?=J (J j)/\Z[j]?=J (J v):=by
    unfold capt at h2;rw[On]at h2;cases e:js[i]? with
    |none=>rw[e]at h2;cases h2
    |some o=>
     rw[e]at h2;cases o with
     |none=>cases YF h2
     |some j=>
      refine⟨j,rfl,?_⟩;have gA:(Z[j]?).join=J v:=YF h2;cases q:Z[j]? with
      |none=>rw[q]at gA;cases gA
      |some r=>rw[q]at gA;rw[show r=J v from gA]
   obtain⟨j,hj,hσ⟩:=hj;obtain⟨hN,fF⟩:=S_.at (show NC[i]?=J x from R) hj;have aL:X.env.scope.names.lookup x=J .cell:=bM▸S_.free (x,.free) (YI fF) rfl;obtain⟨m0,_,hl⟩:=I.loc;obtain⟨u,r,l⟩:=hl j x v hN hσ<|.inr<|.inl aL;refine⟨u,r,?_⟩;rcases l with⟨k,_⟩|⟨_,c,e,z⟩
   . rw[show X.env.kindOf x=J .cell from aL]at k;cases k
   . obtain⟨c',e'⟩:=gE (x,.free) (YI fF) rfl;have ec:=eN x c' e';rw[e]at ec;cases ec;obtain⟨o,ho,hd⟩:=z;exact .inr ⟨.inl<|fS x fF,c,e',o,hk _ _ ho,hd⟩
 . obtain⟨v,o,ho,hd⟩:=I.cell x c<|eN x c e;exact⟨v,o,hk _ _ ho,hd⟩
 . show H C=M;rw[hC];exact I.hok.fresh (Oq _)
 . unfold capt;rw[Yu];exact S_.len
end
section
variable {X:Cx}{aF tg iter:Expr}{a7:List Expr}{scope sc:Scope}{pos:Pos}{NC:List Str}{js:List (Option Nat)}{k:Nat}{wi:TI}{g:TG}{tc:TT}{te:TE}
def Inv.comp_out{aa}{Z σ':St}{H3 H'}{s3 s1}{C:Yj}{fp}{h''}(I3:Inv X aa Z H3 s3)(f:∀b∈fp,ZeP X aa H3 b)(hC:C=s3.heap.objs.size)
 (I':Inv (ZA X NC scope C s3 H3 fp) [] σ' H' s1) (hs:Heap.SameBut C s1.heap h''):Inv X aa Z H' {s1 with heap:=h''}:=by
 have ne:∀b o,s3.heap.get? b=J o->b≠C:=λb o e=>hC▸Ou (Yn e);have u:=I'.base;refine I3.call' (ch:=fp) I'.os ⟨λb o e n a d=>(hs.2 b<|ne b o e).I<|u.keep b o e n a d,λb o e n a d=>?_,u.free,λb o e d=>?_,u.tups,u.frzs,u.tbls⟩ ?_ I'.bare λb a=>?_
 . obtain⟨g,q⟩:=u.slot b o e n a d;exact⟨_,(hs.2 b<|ne b o e).I q⟩
 . obtain⟨h,q⟩:=u.there b o e d;exact⟨_,(hs.2 b<|ne b o e).I q⟩
 . have i:H' C=M:=I'.free;intro b ob e;refine(I'.hok b _ e).stay (λc j k q=>(hs.2 c ?_).I q) (λ_ q=>q) λ_ _ q=>q
   lia
 . obtain⟨_,l,_,m,p,r⟩:=f b a;trivial
def Zp4{aa}{Z}{H3}{s3 s4}{C Dd it}{fp}{tn}{qa}{W:Nat->Nat->List V->Hp->Prop}{Q:VK}{m0}{post}
 (hb:∀(C) (s3) (H3) (fp),PG (ZA X NC scope C s3 H3 fp) tg g/\PIf (ZA X NC scope C s3 H3 fp) a7 tc/\PE (ZA X NC scope C s3 H3 fp) aF te)
 (hk:ZnR k g) (dF:∀j,j<k->js[j]?=J M) (hC:C=s3.heap.objs.size) (f3:∀b∈fp,ZeP X aa H3 b) (gC:∀b∈fp,∃o,s3.heap.get? b=J o) (I4:Inv (ZA X NC scope C s3 H3 fp) [] (capt js Z) H3 s4) (T:Turn X.prog X.w X.K tg qa fp it tn) (gc:tn 0 s4.heap) (mD:H3 Dd=J (.lst [])) (w0:W 0 m0 [] H3)
 (turn:∀i m ys H,W i m ys H->H Dd=J (.lst ys)->(qa.stop i H/\Q (.ref Dd) H)\/(qa.go i H/\ys.length<Yc/\∀x H',qa.yld i H x H'->g x (capt js Z) H' λσ2 H2=>tc σ2 H2 λb H3=>if b=Wq then te σ2 H3 λy H4=>H4 Dd=J (.lst ys)/\∃m',m'<m/\W (i+1) m' (ys++[y]) (upd H4 Dd<|.lst<|ys++[y])else H3 Dd=J (.lst ys)/\∃m',m'<m/\W (i+1) m' ys H3))
 (gN:∀s6 H5,Inv (ZA X NC scope C s3 H3 fp) [] (capt js Z) H5 s6->Q (.ref Dd) H5->post (.ok .next) s6) :
 codeAny (model X.prog X.w) X.A (.compLoop (.ListComp aF [⟨tg,iter,a7,0⟩] scope pos) 0 (.ref it) (.ref Dd)<|compEnvC scope (Zhh X.env scope.names []) C X.env) post s4:=by
 have bC:∀{H':Hp},(∀b∈fp,H' b=M)->∀b∈fp,ZeP (ZA X NC scope C s3 H3 fp) [] H' b:=λhn b hb=>⟨hn b hb,(hC▸Ou (let⟨o,e⟩:=gC b hb;Yn e)),λhm=>I4.ok.exfs b hb hm,.inl hb,λx c e=>(I4.ok.exf b hb).2 x c e,λp hp=>absurd (show p∈([])from hp)<|by simp⟩
 refine Zmg (λn s'=>∃i ys H',Inv (ZA X NC scope C s3 H3 fp) [] (capt js Z) H' s'/\tn i s'.heap/\(∀b∈fp,H' b=M)/\H' Dd=J (.lst ys)/\W i n ys H') ?_ m0
  ⟨0,[],_,I4,gc,λb hb=>(f3 b hb).1,mD,w0⟩
 rintro n s5 ⟨i,ys,H5,I5,eB,gB,mC,w5⟩;rcases turn i n ys H5 w5 mC with⟨stop,qn⟩|⟨go,au,step⟩
 . refine Yg (T.done (ZA X NC scope C s3 H3 fp) rfl rfl rfl rfl i [] s5 (capt js Z) H5 (λ_ _=>False) I5 (bC gB) eB stop) (λr s6 ⟨hr,I6⟩=>?_) λ_ _ z=>z.elim;subst hr;exact gN s6 H5 I6 qn
 . refine Yg (T.item (ZA X NC scope C s3 H3 fp) rfl rfl rfl rfl i [] s5 (capt js Z) H5 (λ_ _=>False) I5 (bC gB) eB go) (λr s6 ⟨u,hr,h6⟩=>?_) λ_ _ z=>z.elim;subst hr;refine Yg h6 (λ_ s7 z9=>?_) λ_ _ z=>z.elim;obtain⟨x,H7,I7,r7,y7,gO,mF⟩:=z9;obtain⟨pg,kC,pe⟩:=hb C s3 H3 fp;refine Yg (pg _ s7 (capt js Z) H7 x u _ (I7.pinned (bC mF)<|T.obj _ _ gO) r7<|hk _ _ _ _<|step x H7 y7) (λ_ s8 z9=>?_) λ_ _ z=>z.elim;obtain⟨σ8,H8,I8,q8,l8,k8⟩:=z9;have back:∀{H9:Hp}{s9:Yb},Inv (ZA X NC scope C s3 H3 fp) ([]++Zio fp s7.heap) σ8 H9 s9 ->
    Inv (ZA X NC scope C s3 H3 fp) [] (capt js Z) H9 s9/\tn (i+1) s9.heap/\∀b∈fp,H9 b=M:=λ{H9 s9} I9=>by
    refine⟨(I9.unpinned).weak l8.symm λj v e=>?_,T.keep _ _ _ gO λb hb o e=>(I9.pin (b,o)<|Ov _<|Ov _<|Zdf hb e).1,λb hb=>?_⟩
    . by_cases hj:j<k
      . unfold capt at e;rw[On,dF j hj]at e;cases e
      . rw[k8 j<|Nat.le_of_not_lt hj];exact e
    . obtain⟨o,e,d⟩:=T.obj _ _ gO b hb;exact(I9.pin (b,o)<|Ov _<|Ov _<|Zdf hb e).2.1
   refine Yg (kC _ s8 σ8 H8 _ I8 q8) (λok s9 z9=>?_) λ_ _ z=>z.elim;obtain⟨H9,I9,q9⟩:=z9;cases ok with
   |false=>rw[if_neg Ow]at q9 ⊢;obtain⟨mB,m',hm,w9⟩:=q9;obtain⟨b1,b2,b3⟩:=back I9;exact⟨m',hm,i+1,ys,H9,b1,b2,b3,mB,w9⟩
   |true=>
    rw[if_pos rfl]at q9 ⊢;refine Yg (pe _ s9 σ8 H9 _ I9 q9) (λy kh z9=>?_) λ_ _ z=>z.elim;obtain⟨v,jX,m9,kB,iX,m',hm,j0⟩:=z9;refine Yg (ZjX (X:=ZA X NC scope C s3 H3 fp) _ kh σ8 jX (.ref Dd) [v] (.ref Dd) [y]
     (λ_ jW=>jW=upd jX Dd (.lst<|ys++[v])) m9 rfl (.cons kB .nil) ⟨_,ys,v,rfl,rfl,iX,au,rfl⟩) (λ_ nr z9=>?_) λ_ _ z=>z.elim
    obtain⟨_,jW,m7,_,mQ⟩:=z9;subst mQ;obtain⟨b1,b2,b3⟩:=back m7;exact⟨m',hm,i+1,ys++[v],_,b1,b2,b3,Zj,j0⟩
def Zmf{U}{Q0}{Q}{aa}{Z:St}{H}{s}(S_:CompSc NC X.N js sc scope)(bM:X.env.scope=sc)(hc:X.calm=Wq)(hi:PI X tg iter wi)
 (hb:∀(C) (s3) (H3) (fp),PG (ZA X NC scope C s3 H3 fp) tg g/\PIf (ZA X NC scope C s3 H3 fp) a7 tc/\PE (ZA X NC scope C s3 H3 fp) aF te)
 (hk:ZnR k g) (dF:∀j,j<k->js[j]?=J M) (hs:∀x,foldedSetIterable iter X.env x=pure x) (I:Inv X aa Z H s) (h:ZqB wi js g tc te Z H Q)
 (gN:∀C Dd (s3 s6:Yb) H3 H5 fp,C=s3.heap.objs.size->Inv X aa Z H3 s3->(∀b∈fp,ZeP X aa H3 b)->Inv (ZA X NC scope C s3 H3 fp) [] (capt js Z) H5 s6->Q (.ref Dd) H5->compPost (model X.prog X.w) X.A X.xe U Q0 (.ref Dd) C (.ok .next) s6) :
 YB (model X.prog X.w) X.A (comprehension (.ListComp aF [⟨tg,iter,a7,0⟩] scope pos) scope X.env posn (newList []) Ws (eval iter X.env) U) Q0 X.xe s:=by
 refine wpAny_comprehension_free rfl hs (ZjB λy hy hf=>I.ok.has y.1<|.inl (show X.env.scope.names.lookup y.1=J .cell by rw[bM];exact S_.free y hy hf)) S_.kind S_.locs<|thn (hi aa s Z H _ I h) λxv s1 R=>thn R λg9 s2 h2=>?_;obtain⟨it,fp,tn,qa,H2,e,I2,T,cH,f2,ac⟩:=h2;subst e;obtain⟨W,⟨m0,w0⟩,turn⟩:=ac s2.heap.objs.size<|I2.hok.fresh<|Oq _;refine Yr (wpAny_newFunctionEnv S_.nocell (by intro y hy;simp at hy) (λh4 cM ip=>?_) S_.kind);have I3:Inv X aa Z (upd H2 s2.heap.objs.size<|.lst []) {s2 with heap:=s2.heap.push {cls:=.type "list",dict:=M,data:=.seq ([]).toArray}}:=I2.lnew (t':=s2.toks) (ys:=[]) (its:=[]) .nil<|Yy _;dsimp only at cM ip ⊢;generalize hs3:({s2 with heap:=s2.heap.push {cls:=.type "list",dict:=M,data:=.seq ([]).toArray}})=s3 at I3;have eh:s2.heap.push {cls:=.type "list",dict:=M,data:=.seq ([]).toArray}=s3.heap:=by rw[<-hs3]
 have eD:s2.heap.objs.size<s3.heap.objs.size:=by rw[<-eh,Heap.size_push];exact OH _
 rw[eh]at cM ip;have keep:∀b o,s3.heap.get? b=J o->h4.get? b=J o:=λb o e=>(ip.2 b<|Ou<|Yn e).I<|Od _ e;have gC:∀b∈fp,∃o,s3.heap.get? b=J o:=λb hb=>by obtain⟨o,e,_⟩:=T.obj 0 _ cH b hb;exact⟨o,eh▸Od _ e⟩
 have kI:∀b∈fp,b≠s2.heap.objs.size:=λb hb=>by obtain⟨o,e,_⟩:=T.obj 0 _ cH b hb;exact Ou (Yn e)
 have f3:∀b∈fp,ZeP X aa (upd H2 s2.heap.objs.size<|.lst []) b:=λb hb=>⟨(Zo<|kI b hb).I<|(f2 b hb).1,(f2 b hb).2⟩
 have gc:tn 0 h4:=T.keep 0 _ _ cH λb hb o e=>keep b o<|eh▸Od _ e;have eC:(s2.heap.push {cls:=.type "list",dict:=M,data:=.seq ([]).toArray}).objs.size=s3.heap.objs.size:=by rw[eh]
 have loop:∀s4:Yb,s4={s3 with heap:=h4,toks:=s2.toks+([]:List (Str×Yk)).length} ->
  codeAny (model X.prog X.w) X.A (.compLoop (.ListComp aF [⟨tg,iter,a7,0⟩] scope pos) 0 (.ref it) (.ref s2.heap.objs.size)<|compEnvC scope (Zhh X.env scope.names []) s3.heap.objs.size X.env)
   (compPost (model X.prog X.w) X.A X.xe U Q0 (.ref s2.heap.objs.size) s3.heap.objs.size) s4:=by
  rintro s4 rfl;exact Zp4 hb hk dF rfl f3 gC (ZrT (tk:=s2.toks+([]).length) S_ bM hc I3 f3 gC rfl cM keep) T gc Zj w0 turn λs6 H5 I6 qn=>gN _ _ s3 s6 _ H5 fp rfl I3 f3 I6 qn
 rw[eC];exact codeAny_compStart_list (loop _<|by rw[<-hs3]) (T.self X.A 0 _ _ _ gc<|loop _<|by rw[<-hs3])
def Zty(S_:CompSc NC X.N js sc scope)(bM:X.env.scope=sc)(hc:X.calm=Wq)(hi:PI X tg iter wi)
 (hb:∀(C:Yj) (s3:Yb) (H3:Hp) (fp:List _),PG (ZA X NC scope C s3 H3 fp) tg g/\PIf (ZA X NC scope C s3 H3 fp) a7 tc/\PE (ZA X NC scope C s3 H3 fp) aF te)
 (hk:ZnR k g) (dF:∀j,j<k->js[j]?=J M) (hs:∀x,foldedSetIterable iter X.env x=pure x:=by intro _;rfl) :
 PE X (.ListComp aF [⟨tg,iter,a7,0⟩] scope pos) (ZqB wi js g tc te):=λe s Z H Q I h=>Zmf S_ bM hc hi hb hk dF hs I h λC Dd s3 f H3 H5 fp a I3 b I6 c=>by obtain⟨m,hm,_⟩:=I6.loc;exact⟨m,hm,λi d=>⟨.ref _,_,I3.comp_out b a I6 d,rfl,c⟩⟩
end
set_option tactic.hygienic true
section
variable {X:Cx}
def TyN(K:Yl)(x:V)(H:Hp)(t:String):Prop:=match x with
 |.int _=>t="int"
 |.str _=>t="str"
 |.bl _=>t="bool"
 |.non=>t="NoneType"
 |.ref p=>(t="list" /\ ∃a,SqL K H p a)\/(t="tuple" /\ ∃a,SqT K H p a)
 |_=>False
def Zsn:Zaa X (.builtin "isinstance") (λxs H Q=>∃x t T b,xs=[x,.ty T]/\TyN X.K x H t/\PySem.W.kitOne X.K (.type t) (.type T)=J b/\Q (.bl b) H):=by
 rintro aa s Z H xs us Q I r⟨x,t,T,b,rfl,ty,e,q⟩;obtain⟨u,w',rfl,rx,rT⟩:=vals2 r;obtain rfl:w'=Value.type T:=rT;have fin:∀tk,EP X _ _ Q _ _:=λtk=>⟨.bl b,H,I.tok tk,rfl,q⟩
 cases x with
 |int i=>obtain⟨tk,rfl⟩:=rx;obtain rfl:t="int" := ty;exact PySem.W.kia_one PySem.W.kitx_int I.kIn trivial e (by simp) fin
 |str i=>obtain⟨tk,rfl⟩:=rx;obtain rfl:t="str" := ty;exact PySem.W.kia_one PySem.W.kitx_str I.kIn trivial e (by simp) fin
 |bl i=>obtain rfl:u=Value.bool i:=rx;obtain rfl:t="bool" := ty;exact PySem.W.kia_one PySem.W.kitx_bool I.kIn trivial e (by simp) fin
 |non=>obtain rfl:u=Value.none:=rx;obtain rfl:t="NoneType" := ty;exact PySem.W.kia_one PySem.W.kitx_none I.kIn trivial e (by simp) fin
 |ref p=>
  obtain rfl:u=YD p:=rx;rcases ty with⟨rfl,xs,hx⟩|⟨rfl,xs,hx⟩
  . obtain⟨its,_,pl,_⟩:=I.list hx;exact PySem.W.kia_one PySem.W.kitx_list I.kIn pl.isList.typeIs e (by simp) fin
  . obtain⟨its,_,pl,_⟩:=I.tuple hx;exact PySem.W.kia_one PySem.W.kitx_tuple I.kIn pl.typeIs e (by simp) fin
 |_=>trivial
def ZpT{K}(h:PySem.W.kitOne [] (.type t) (.type T)=J b):PySem.W.kitOne K (.type t) (.type T)=J b:=h
def range_all(bs:List _):(List.range bs.length).all (λi=>bs.getD i Ws)=bs.all id:=by
 rw[Bool.eq_iff_iff,OC,OC];constructor
 . intro h x b;obtain⟨i,a,e⟩:=List.getElem_of_mem b
   simp_all
 . intro h i a;rw[List.getD_eq_getElem?_getD,Og<|List.mem_range.mp a];exact h _ (List.getElem_mem _)
def ZBg:V->Option Int->Option Int->Hp->VK->Prop:=λx a b H Q=>∃y,x=.str y/\y.length<=Yc/\Q (.str<|Yq y a b) H
def ZvZ:SlR X ZBg:=by
 rintro aa s Z H x v vl vu lo hi sl Q I rx hs pl pu⟨y,rfl,hz,q⟩;obtain⟨t,rfl⟩:=rx;refine⟨_,_,F.slot_str_getitem.lookup,typeIs_str _ _ _,?_⟩;have go:∀(l u),vl=partValue l->vu=partValue u->lo=l.map (·.1)->hi=u.map (·.1)->YB (model X.prog X.w) X.A (getItem (.str y t)<|.ref sl) (EP X aa Z Q) X.xe s:=by rintro l u rfl rfl rfl rfl;refine wpAny_getItem_str_slice (l:=l) (u:=u) (st:=M) hs rfl (post_val_or_str ⟨OE (Txt.slice_le y _ _) hz,λt' k=>⟨.str _,H,I.tok k,⟨t',rfl⟩,q⟩⟩)
 cases pl with
 |none=>
  cases pu with
  |none=>exact go M M rfl rfl rfl rfl
  |int j tj=>exact go M (J (j,tj)) rfl rfl rfl rfl
 |int i ti=>
  cases pu with
  |none=>exact go (J (i,ti)) M rfl rfl rfl rfl
  |int j tj=>exact go (J (i,ti)) (J (j,tj)) rfl rfl rfl rfl
end
def Zai.there(x:Zai P w H h a o):∃ob,h.get? a=J ob:=by
 cases o with
 |lst c=>obtain⟨_,_,_,_,e⟩:=x;exact⟨_,e⟩
 |tup c=>obtain⟨_,_,_,ob,e,_⟩:=x;exact⟨_,e⟩
 |dK b=>obtain⟨_,_,_,_,o,_,_,e,_⟩:=x;exact⟨_,e⟩
 |dT b=>obtain⟨_,_,o,_,_,e,_⟩:=x;exact⟨_,e⟩
 |set S_ n=>obtain⟨o,_,_,_,e,_⟩:=x;exact⟨_,e⟩
 |ins C d fs=>exact⟨_,x.2.2.2.1⟩
 |own y=>obtain⟨_,e⟩:=x;exact⟨_,e⟩
 |xd fs=>obtain⟨_,⟨_,_,_,e,_⟩,_⟩:=x;exact⟨_,e⟩
 |rng g i=>obtain⟨_,_,_,e⟩:=x;exact⟨_,e⟩
 |frz ob u=>exact⟨_,x.1⟩
 |tbl ps|met f y=>exact⟨_,(show h.get? a=J _ from x)⟩
 |ext φ=>obtain⟨_,⟨_,e⟩,_⟩:=x;exact⟨_,e⟩
def Kept(fs:List Yj)(H':Hp)(h R B_:YG):Prop:=∀b o,R.get? b=J o->(H' b≠M\/((∃a,h.get? b=J a)/\b ∉ fs))->B_.get? b=J o
def CXF(P:Yi)(w:Yh):CXT:=λb H s E e c=>
 ∃(a:Yj) (d f:Yk) (H':Hp) (B_:YG),e=.ref a/\c.os=s.os/\AllBare c.gens/\Un (frs b) [] H H' s.heap c.heap/\HOk P w H' c.heap /\
  Heap.FlyingW B_ b a d f c.heap/\Kept (frs b) H' s.heap c.heap B_/\H' a=M/\E d M H'
def ZfL(un:Un fs [] H H' h R)(hok:HOk P w H' R)(kb:Kept fs H' h R B_)(stay:B_.StaysIn h2)(up:R.UpToSlots h2)
 (hf:∀b∈fs,∃o,R.get? b=J o/\∀vs,o.data≠.fields vs):Un fs [] H H' h h2/\HOk P w H' h2/\Kept fs H' h h2 B_:=by
 have tr:∀b u,H' b=J u->∃o,R.get? b=J o/\h2.get? b=J o/\B_.get? b=J o:=λb u e=>by obtain⟨o,q⟩:=(hok b u e).there;have z:=kb b o q (.inl<|by simp_all);exact⟨o,q,stay _ _ z,z⟩
 have old:∀b o,h.get? b=J o->b ∉ fs->∃o1,R.get? b=J _/\h2.get? b=J _/\B_.get? b=J _:=λb o e hb=>by obtain⟨o1,q⟩:=un.there b o e (by simp);have z:=kb b _ q<|.inr ⟨⟨o,e⟩,hb⟩;exact⟨o1,q,stay _ _ z,z⟩
 refine⟨⟨λb o e n hb _=>?_,λb o e n hb _=>?_,λb o e n _=>un.free b o e n<|by simp,λb o e _=>?_,un.tups,un.frzs,un.tbls⟩,λb u e=>?_,λb o e hb=>?_⟩
 . obtain⟨o1,q1,q2,_⟩:=old b o e hb;have z:=un.keep b o e n hb (by simp)
   simp_all
 . obtain⟨sl,z⟩:=un.slot b o e n hb (by simp);obtain⟨o',z',nf⟩:=hf b hb;rw[z]at z';cases z';obtain⟨eE,q⟩:=up b _ z nf;exact⟨eE,q⟩
 . by_cases hb:b∈fs
   . obtain⟨o',z',nf⟩:=hf b hb;obtain⟨eE,q⟩:=up b _ z' nf;exact⟨_,q⟩
   . obtain⟨o1,_,q2,_⟩:=old b o e hb;exact⟨_,q2⟩
 . refine(hok b u e).stay (λc v hc q=>?_) (λ_ q=>q) λ_ _ q=>q;have dL:∃u',H' c=J u':=by
    rcases hc with rfl|hc
    . exact⟨u,e⟩
    . exact⟨_,hc⟩
   obtain⟨u',e'⟩:=dL;obtain⟨o,q1,q2,_⟩:=tr c u' e';rw[q]at q1;cases q1;exact q2
 . rcases hb with hb|⟨⟨o',e'⟩,hb⟩
   . cases q:H' b with
     |none=>exact absurd q hb
     |some u=>obtain⟨o1,q1,q2,q3⟩:=tr b u q;rw[e]at q2;cases q2;exact q3
   . obtain⟨o1,q1,q2,q3⟩:=old b o' e' hb;rw[e]at q2;cases q2;exact q3
def Zlh(X:Cx)(E:XK):Prop:=∀(b:List (Yj×Obj)) (Z:St) (H:Hp) (s:Yb) (a:YG) (e:Yj) (cls:Yk) (vs:List Yk),Inv X b Z H s->Heap.MadeExcOf s.heap a e cls vs->E cls M H->X.xe (.ref e) {s with heap:=a}
section
variable {P:Yi}{w:Yh}{K:Yl}{mg:Str->Option Yk}{base:YG}{N:List Str}{am:Str}{scope:Scope}{f:Yj}{cd:Yk}{A:YH}{outer:List Env}{s0:Yb}{H0:Hp}{E:XK}
def ZqP:Zlh (Zp1 (CXF P w) P w K mg base N am scope f cd A outer s0 H0 E) E:=by
 intro aa Z H s h' e cls vs I hx hE;refine wpAny_leaves_madeW I.ok.frames rfl (λb o q=>PySem.W.of_hideAll _ q) (PySem.W.funFrames_hide I.stack λenv he b hb=>List.mem_filterMap.mpr ⟨_,he,hb⟩) hx λh'' t x1 x2 x3 x4=>?_;obtain⟨r1,r2,r3⟩:=ZfL (I.base.I<|Un.kept hx.keeps) (I.hok.kept hx.keeps) λb o e1 hb=>by
  rcases hb with hb|⟨⟨o',e'⟩,hb⟩
  . cases q:H b with
    |none=>trivial
    |some u=>
     obtain⟨o1,q1⟩:=(I.hok b u q).there;have q2:=hx.keeps b _ q1;rw[e1]at q2;cases q2;exact PySem.W.hideAll_get _ q1 λhm=>by have z:=I.stkFree b hm;trivial
  . obtain⟨o1,q1⟩:=I.base.there b _ e'<|List.not_mem_nil;have q2:=hx.keeps b _ q1;rw[e1]at q2;cases q2;refine PySem.W.hideAll_get _ q1 λhm=>?_;rcases O2.mp (I.stkSub b hm)with z|z
    . rw[z]at e';exact absurd (Yn e') (Yw _)
    trivial x1.1 x4 λb hb=>by
  obtain⟨_,o,q,nf⟩:=I.funs.mem hb;exact⟨o,hx.keeps _ _ q,nf⟩
 refine⟨e,_,_,H,_,rfl,I.os,I.bare,r1,r2,x1,r3,?_,hE⟩;cases q:H e with
 |none=>rfl
 |some u=>obtain⟨o1,q1⟩:=(I.hok e u q).there;rw[hx.new]at q1;cases q1
def ZtB(h:∀cls H',E1 cls M H'->E cls M H'):ZbZ (CXF P w) (Zp1 (CXF P w) P w K mg base N am scope f cd A outer s0 H0 E) E1:=by
 rintro aa Z H s e s' I⟨a,cls,a0,H',B_,rfl,os,bare,un,hok,fl,kb,ha,hE⟩;have I':=I.call' os un hok bare (λb z=>absurd z<|by simp);refine wpAny_leaves_onW I.ok.frames rfl fl λh'' x1 x4=>?_;obtain⟨r1,r2,r3⟩:=ZfL I'.base hok λb o e1 hb=>by
  refine kb b o e1 ?_;rcases hb with hb|⟨⟨o',e'⟩,hb⟩
  . exact .inl hb
  . obtain⟨o1,q1⟩:=I.base.there b _ e'<|List.not_mem_nil;refine .inr ⟨⟨_,q1⟩,λhm=>?_⟩;rcases O2.mp (I.stkSub b hm)with z|z
    . rw[z]at e';exact absurd (Yn e') (Yw _)
    trivial x1.1 x4 λb hb=>by
  obtain⟨_,o,q,nf⟩:=I'.funs.mem hb;exact⟨o,q,nf⟩
 exact⟨a,_,_,_,B_,rfl,I'.os,bare,r1,r2,x1,r3,ha,h _ _ hE⟩
end
def ZjV:ZbZ (CXF P w) X E0:=by rintro _ _ _ _ _ _ _⟨_,_,_,_,_,_,_,_,_,_,_,_,_,z⟩;trivial
def Zxw{p:Prop}{mro:List Yk}{f:Yj->List Yk->String->Bool}{l:List (Option Yk)}:(match mro,l with|.ref c::bm,[_,_,_,_,J<|.builtin n,_]=>f c bm n|_,_=>Ws)=Wq->(∀c bm k0 k1 k2 k3 n k5,mro=.ref c::bm->l=[k0,k1,k2,k3,J<|.builtin n,k5]->f c bm n=Wq->p)->p:=by
 have no:∀{p:Prop},Ws=Wq->p:=λz=>Bool.noConfusion z;rcases mro with _|⟨v,bm⟩
 . exact λq _=>no q
 cases v with
 |ref c=>
  intro q k;rcases l with _|⟨k0,_|⟨k1,_|⟨k2,_|⟨k3,_|⟨a,l⟩⟩⟩⟩⟩
  iterate 5 exact no q
  rcases a with _|v
  . exact no q
  cases v with
  |builtin n=>
   rcases l with _|⟨k5,_|⟨_,l⟩⟩
   . exact no q
   . exact k _ _ _ _ _ _ _ _ rfl rfl q
   exact no q
  |_=>exact no q
 |_=>exact λq _=>no q
def Zum{p:Prop}{K}{h}{C}{fW}{aY}(X:K.In h)(q:PySem.W.excIn K C fW aY=Wq)
 (k:∀bm N nm qn bs hdct sn sub ab col dd k0 k1 k2 k3 k5 mN,h.get? C=J (excClassObj nm qn C N bs bm hdct sn sub ab col dd k0 k1 k2 k3 k5 aY)->h.Ns N mN->mN "__init__"=M->OwnTail h fW bm->p):p:=by
 unfold PySem.W.excIn at q;split at q
 . rename_i dd d e g;obtain⟨l⟩:=e;obtain⟨nm,bs,i,b,qn,r,sn,sub,ab,col,dl⟩:=d;refine Zxw (f:=λc bm n=>c==C&&n==aY&&!dl&&PySem.W.tailIn K _ _&&PySem.W.nsOkIn K b&&Ym K b _==J _) q λC' bm k0 k1 k2 k3 n k5 hm j q=>?_;simp only[Oa,beq_iff_eq,Bool.not_eq_true']at q;obtain⟨⟨⟨⟨⟨rfl,rfl⟩,rfl⟩,m⟩,a⟩,o⟩:=q;subst hm j;exact k _ _ _ _ _ _ _ _ _ _ _ _ _ _ _ _ _ (X _ _ g) (.of_isNs<|PySem.W.isNs_of_in X a) (PySem.W.nsMap_none_of_in X a o) (PySem.W.tail_of_in X m)
 trivial
section
variable {X:Cx}{x:Str}{C:Yj}{fW:List Yk}{B_ aY dg:String}{np aw pos:Pos}{e:Expr}{es:List Expr}{t:TA}{E:XK}
noncomputable def ZvS(C:Yj)(E:XK)(t:TA):TS:=λ_ Z H=>t Z H λvs H1=>vs.length<=Yc/\E (.ref C) M H1
def Zq9(hR:Zlh X E)(hc:X.calm=Wq)(FB:ExcBaseFacts B_ aY dg fW)(hg:Gl X x)(hm:X.mg x=J (.ref C))(hq:PySem.W.excIn X.K C fW aY=Wq)(ha:PA X (e::es) t)
 (bu:(x==("__debug__" : Str))=Ws:=by decide) (he:YA (e::es) X.env=(Ws,eval e X.env)::YA es X.env:=by rfl) (aE:(YS aw<|YA es X.env).any (·.1)=Ws:=by rfl) :
 PS X (.Raise (J<|.Call (.Name x np) (e::es) [] aw) M pos) (ZvS C E t):=by
 intro b s Z H D I h;refine Zum I.mod.kin hq λm N nm q bs hdct sn sub ab col dd k0 k1 k2 k3 k5 n c hN d T=>wpAny_Raise_call_subT (nm:=nm) (q:=q) (N:=N) (bs:=bs) (hdct:=hdct) (sn:=sn) (sub:=sub) (ab:=ab) (col:=col) (dd:=dd) (k0:=k0) (k1:=k1) (k2:=k2) (k3:=k3) (k5:=k5)
  FB (T.hasType FB.hasBase) (I.ok.hd hc) (by rw[he];trivial) d (Zdg I hg hm ⟨rfl,?_⟩ bu)
 have R:=ha aw _ s _ H _ I h;rw[he]at R ⊢;exact Calls.evalArgs_plain (thn R λf g ⟨vs,H2,I2,i,o,j⟩=>⟨rfl,by rw[<-i.length];trivial,I2.bk _ _ c,hN.keeps I2.bk,T.keeps I2.bk,λk a l=>hR b Z H2 g k a _ f I2 l j⟩)
end
def cxH(X:Cx)(a:Yj)(oe:Obj):Cx:={X with A:=X.A.mark<|J<|.ref a,calm:=false,pn:=X.pn++[(a,oe)],xe:=λ_ _=>False}
abbrev cxM(X:Cx)(a:Yj):Cx:={X with A:=X.A.mark<|J<|.ref a,calm:=false,xe:=λ_ _=>False}
section
variable {X:Cx}{aa:List (Yj×Obj)}{Z:St}{H:Hp}{s:Yb}{a:Yj}{oe:Obj}
def Inv.toM(I:Inv X aa Z H s)(a):Inv (cxM X a) aa Z H s:=⟨⟨I.ok.mod,I.ok.kind,I.ok.glob,I.ok.blt,I.ok.above,I.ok.inj,I.ok.has,I.ok.cab,λz=>absurd z Ow,I.ok.frames,I.ok.stk,I.ok.exf,I.ok.bs,I.ok.bsz,I.ok.noex,I.ok.exfs,I.ok.funs,I.ok.frf⟩,I.os,I.bare,I.base,I.loc,I.cell,I.free,I.freeC,I.pin,I.hok,I.len⟩
def Inv.toH(I:Inv X aa Z H s)(R:s.heap.get? a=J oe)(h2:H a=M)(h3:a≠X.env.locals)(h4:a ∉ X.fs)(h5:∀v,oe.data≠.cell v):Inv (cxH X a oe) aa Z H s:=
 ⟨⟨I.ok.mod,I.ok.kind,I.ok.glob,I.ok.blt,I.ok.above,I.ok.inj,I.ok.has,I.ok.cab,λz=>absurd z Ow,I.ok.frames,I.ok.stk,I.ok.exf,I.ok.bs,I.ok.bsz,I.ok.noex,I.ok.exfs,I.ok.funs,I.ok.frf⟩,I.os,I.bare,I.base,I.loc,I.cell,I.free,I.freeC,
  λp hp=>by
   rcases OD.mp (hp)with z|z
   . rcases OD.mp z with z|z
     . exact I.pin p (Ys _ z)
     . have e:p=(a,oe):=by simpa using z
       subst e;exact⟨R,h2,h3,h4,h5⟩
   . exact I.pin p (Ov _ z),I.hok,I.len⟩
theorem Inv.ofH(I:Inv (cxH X a oe) aa Z H s)(hd:X.calm=Wq->X.A.handled=M):Inv X aa Z H s :=
 ⟨⟨I.ok.mod,I.ok.kind,I.ok.glob,I.ok.blt,I.ok.above,I.ok.inj,I.ok.has,I.ok.cab,hd,I.ok.frames,I.ok.stk,I.ok.exf,I.ok.bs,I.ok.bsz,I.ok.noex,I.ok.exfs,I.ok.funs,I.ok.frf⟩,I.os,I.bare,I.base,I.loc,I.cell,I.free,I.freeC,
   λp b=>I.pin p (by
     rcases OD.mp b with z|z
     . exact Ys _ (Ys _ z)
     . exact Ov _ z),I.hok,I.len⟩
end
theorem Zl8 {K} (X:K.In s.heap) (R:PySem.W.typeIn K (.ref C2)=J (.type "type")) (h0:(PySem.W.clsIn K C2).isSome=Wq)
   (h2:YU K (.ref C2) (.type "BaseException")=J Wq) (h3:YU K (.ref C) (.ref C2)=J Wq) (he:s.heap.get? a=J oe) (hc:oe.cls=.ref C) (q:Q Wq s):YB qb A (excMatches (.ref a)<|.ref C2) Q E s:=by
 have L1:=PySem.W.looks_instIn (M:=qb) X (by
   unfold PySem.W.instIn;rw [R];show YU K (.type "type") (.type "tuple")=J Ws;show YU [] (.type "type") (.type "tuple")=J Ws;decide +kernel)
 have L2:=PySem.W.looks_subIn (M:=qb) X h2;have L3:=PySem.W.looks_subIn (M:=qb) X h3;have L0:PySem.W.Looks qb s.heap (isType<|.ref C2) Wq:=by
   unfold PySem.W.clsIn at h0;split at h0
   . rename_i c' d' n9 eE ho;intro A' Q' E' s' k q;unfold isType loadHead;exact Ya (wpAny_loadPart (k _ _<|X _ _ ho)<|Yd q)
   . cases h0
 have LT:PySem.W.Looks qb s.heap (typeOf<|.ref a) (.ref C):=hc▸(PySem.W.Looks.ld he).andThen .now;unfold excMatches isExcClass
 repeat (any_goals (first|assumption|lk|wp_step))
structure ExcN(K:Yl)(C2:Yj):Prop where
 ty:PySem.W.typeIn K (.ref C2)=J (.type "type")
 cls:(PySem.W.clsIn K C2).isSome=Wq
 exc:YU K (.ref C2) (.type "BaseException")=J Wq
def Def(P:Yi)(w:Yh)(K:Yl)(mg:Str->Option Yk)(base:YG)(k:Nat)(x:Str)(ps:List Str)(sp:Sp):Prop:=∃f a,mg x=J (.ref f)/\Wa K (.ref f)=Wq/\Binds K a ps []/\FnOk P w K mg base (CXF P w) k f a ps sp
section
variable {X:Cx}{k:Nat}{x:Str}{ps:List Str}{sp:Sp}{E:XK}{e:Expr}{es:List Expr}{t:TA}{p pos:Pos}
def ZAX(sp:Sp)(E:XK)(t:TA):TE:=λZ H Q=>t Z H λvs H1=>sp vs H1 Q E
def Zwu(D:Def X.prog X.w X.K X.mg X.base k x ps sp)(hr:Room k X.A)(hg:Gl X x)(hx:ZbZ (CXF X.prog X.w) X E)(ha:PA X (e::es) t)
 (bu:(x==("__debug__" : Str))=Ws:=by decide) (he:YA (e::es) X.env=(Ws,eval e X.env)::YA es X.env:=by rfl) (aE:(YS pos<|YA es X.env).any (·.1)=Ws:=by rfl) :
 PE X (.Call (.Name x p) (e::es) [] pos) (ZAX sp E t):=by
 obtain⟨f,d,R,a,b,c⟩:=D;intro g s Z H Q I h;refine Ztz c hr hg R a b .nil hx ha bu he aE _ s _ H Q I ?_;have z:t _ H _:=h;show t _ H _
 simp_all
end
section
variable {X:Cx}{aa:List (Yj×Obj)}{Z:St}{H:Hp}{s:Yb}{h':YG}
def ZoO{ch:List _}(hf:∀b∈ch,ZeP X aa H b):∀b∈ch,(b∈X.ex\/X.s₀.heap.objs.size<=b)/\b≠X.env.locals/\(∀x c,X.env.cells.lookup x=J c->c≠b)/\∀p∈X.pn++aa,p.1≠b:=λb a=>by obtain⟨_,d,_,e,f,g⟩:=hf b a;trivial
def Inv.turnL{t'}{ch:List _}(I:Inv X aa Z H s)(hf:∀b∈ch,ZeP X aa H b)(k:∀b o,b ∉ ch->s.heap.get? b=J o->h'.get? b=J o):Inv X aa Z H {s with heap:=h',toks:=t'}:=by
 have d:∀b u,H b=J u->b ∉ ch:=λb u e z=>by rw[(hf b z).1]at e;lia
 refine I.step (ZoO hf) (λb o _ _ a e _=>k b o a e) (λb o _ _ a e _=>⟨_,k b o a e⟩) (λ_ _ _ _ n=>n)
  (λb o a e=>⟨o,k b o a e⟩) (λ_ _ e=>e) (λ_ _ _ e=>e) (λb ps e=>⟨#[],by trivial⟩) (λm hm=>?_) (λb u e=>?_) I.bare
 . obtain⟨o,g,h,f,r⟩:=hm;exact⟨o,_,_,k _ o (λz=>(hf _ z).2.1 rfl) f,r⟩
 . refine(I.hok b u e).stay (λc v a q=>k c v ?_ q) (λ_ q=>q) λ_ _ q=>q;rcases a with z|z
   . rw[z];exact d b u e
   . exact d c _ z
def Inv.turnT{t'}{ch:List _}{us}(I:Inv X aa Z H s)(hf:∀b∈ch,ZeP X aa H b)(k:∀b o,b ∉ ch->s.heap.get? b=J o->h'.get? b=J o)
 (hT:s.heap.objs.size<=T) (tup:Zbl h' T us.toArray) (rv:Zs vs us) (hz:vs.length<=Yc):Inv X aa Z (upd H T<|.tup vs) {s with heap:=h',toks:=t'}:=by
 have f:∀b u,H b=J u->b ∉ ch:=λb u e z=>by rw[(hf b z).1]at e;lia
 have d:=I.hok.fresh hT;refine I.step (ZoO hf) (λb o _ _ a e _=>k b o a e) (λb o _ _ a e _=>⟨_,k b o a e⟩) (λb o _ e n=>(Zo<|(λb o e=>Ou<|Ot (Yn e) hT) b o e).I n)
  (λb o a e=>⟨o,k b o a e⟩) (λb h e=>(Zo<|ZV e d).I e) (λb o u e=>(Zo<|ZV e d).I e) (λb ps e=>⟨#[],by rw[Zo<|ZV e d,e];simp⟩) (λm hm=>?_) (λb u e=>?_) I.bare
 . obtain⟨o,j,l,i,r⟩:=hm;exact⟨o,_,_,k _ o (λz=>(hf _ z).2.1 rfl) i,r⟩
 . by_cases g:b=T
   . subst g;rw[Zj]at e;cases e;exact⟨hz,_,rv,tup⟩
   . rw[Zo g]at e;refine(I.hok b u e).stay (λc v a q=>k c v ?_ q) (λc q=>(Zo<|ZV q d).I q) λc h q=>(Zo<|ZV q d).I q;rcases a with z|z
     . rw[z];exact f b u e
     . exact f c _ z
end
def Ite(K:Yl)(a:Yj):It:=⟨λi H=>∃b x,SqL K H a b/\b[i]?=J x,λi H v H'=>∃p,v=.ref p/\H p=M/\∃x,(∀b,SqL K H a b->b[i]?=J x)/\H'=upd H p (.tup [.int i,x]),λi H=>∃b,SqL K H a b/\b.length=i⟩
theorem Zpl{P}{w}{K}{es}{kk}{tp}(a it e)(iN:e≠it)(iV:a≠e)(iU:a≠it) :
   Turn P w K (.Tuple es kk tp) (Ite K a) [e,it] e (λi h=>(∃ old,IsEnum h e it i old)/\h.IsListIter it a i) where
 mem:=by simp
 obj:=λi h st b hb=>by
   obtain⟨⟨old,he⟩,o,e1,c,d⟩:=st;rcases O2.mp hb with rfl|hb
   . exact⟨_,he,λv z=>by cases z⟩
   simp_all
 keep:=λi h h' st k=>by
   obtain⟨⟨old,he⟩,st⟩:=st;exact⟨⟨old,k e (by simp) _ he⟩,st.at λo z=>k it (by simp) o z⟩
 item:=by
   intro X hP hw hK hc i aa s Z H E I hf st hg;subst hP hw hK;obtain⟨xs,x,hq,hx⟩:=hg;obtain⟨its,rv,p,hz⟩:=I.list hq;have hl:=rv.length;have hi:i<xs.length:=(Ob.mp hx).1;have W:=WalksT.enumerate (prog:=X.prog) (w:=X.w) (I.ok.hd hc) e it a iN iV iU its.toArray;have k6:∀ (Q':Option Yk->Yb->Prop) (E':Yk->Yb->Prop),(∀ T a9 h' tk,(∃ t x,its.toArray[i]?=J x/\a9=#[.int i t,x])->s.heap.objs.size<=T->Zbl h' T a9 ->
       ((∃ x,IsEnumOut h' e it ((i)+1) x T)/\h'.IsListIter it a (i+1)/\h'.IsList a its.toArray/\T≠e/\T≠it)->(∀ b o,b ∉ [e,it]->s.heap.get? b=J o->h'.get? b=J o)->Q' (J<|.ref T) {s with heap:=h',toks:=tk}) ->
       YB (model X.prog X.w) X.A (pyNext<|.ref e) Q' E' s:=by
     intro Q' E' hQ;obtain⟨⟨old,he⟩,ay⟩:=st;refine wpAny_pyNext_enum_item he ay p.isList (Array.getElem?_eq_getElem (by simp;lia)) iN λh' ho bE hT aR hk=>?_;exact hQ s.heap.objs.size _ h' (s.toks+1) ⟨_,_,(Array.getElem?_eq_getElem (by simp;lia)),rfl⟩ (Oq _) ⟨_,hT,rfl,rfl,_,rfl⟩ ⟨⟨_,ho⟩,bE,p.isList.at λo z=>hk a o iV iU z,Nat.ne_of_gt<|Yn he,Nat.ne_of_gt (by obtain⟨_,z,_⟩:=ay;exact Yn z)⟩
       λb o hb z=>hk b o (λe'=>hb<|by simp [e']) (λe'=>hb<|by simp [e']) z
   refine k6 _ _ λT a9 R tk hP hT tup mid kk=>⟨_,rfl,W.go _ _ _ i T {s with heap:=R,toks:=tk} _ _ mid λh2 cH kk2=>?_⟩
   obtain⟨t,y,hy,rfl⟩:=hP;have k9:its[i]?=J y:=by simpa using hy
   obtain⟨u,hu,ru⟩:=rv.get hx;rw [k9] at hu;cases hu;have jH:T ∉ [e,it]:=W.apart i T R mid;have I2:Inv X aa Z (upd H T<|.tup [.int i,x]) {s with heap:=h2,toks:=tk}:=I.turnT hf (λb o hb q=>kk2 b o hb<|kk b o hb q) hT (us:=[.int i t,y]) (by
     obtain⟨o,q,r⟩:=tup;exact⟨o,kk2 T o jH q,r⟩) (.cons ⟨t,rfl⟩<|.cons ru .nil) (by show 2<=Yc;decide)
   refine⟨.ref T,_,I2,rfl,⟨T,rfl,I.hok.fresh hT,x,λys hy=>I.list_inj hy hq▸hx,rfl⟩,⟨cH.1,cH.2.1⟩,λb hb=>?_⟩;rw [Zo λz=>jH (by rw [<-z];exact hb)];exact(hf b hb).1
 done:=by
   intro X hP hw hK hc i aa s Z H E I hf st hg;subst hP hw hK;obtain⟨xs,hq,hx⟩:=hg;obtain⟨its,rv,p,hz⟩:=I.list hq;have hl:=rv.length;have e1:its.toArray.size=i:=by simp;lia
   refine(WalksT.enumerate (prog:=X.prog) (w:=X.w) (I.ok.hd hc) e it a iN iV iU its.toArray).done s _ _ ?_ λR tk kk=>⟨rfl,I.turnL hf kk⟩
   rw [e1];exact⟨st.1,st.2,p.isList⟩
 self:=λA i s Q E st h=>by
   obtain⟨⟨old,he⟩,_⟩:=st;exact wpAny_pyIter_enum he h
def ZzW(K:Yl)(ta:TA):TI:=λZ H qd=>ta Z H λvs H1=>∃a,vs=[.ref a]/\(∃b,SqL K H1 a b)/\qd (Ite K a) H1
def Zts{X}{es}{kk}{tp}{l}{ta}{p pos}(hg:Gl X "enumerate")(hm:X.mg "enumerate"=M)(ha:PA X [l] ta)(hs:YA [l] X.env=[(Ws,eval l X.env)]:=by rfl):
 PI X (.Tuple es kk tp) (.Call (.Name "enumerate" p) [l] [] pos) (ZzW X.K ta):=by
 intro t s Z H qd I h;refine Call_<|ZcK I hg hm boot_enumerate<|PyProof.Rows.callWith_type1 (thn (ha _ _ s _ H _ I h) λv g i=>?_) hs rfl;obtain⟨vs,H1,I1,j,k⟩:=i;obtain⟨a,rfl,⟨w,m⟩,q⟩:=k;obtain⟨u,rfl,n⟩:=vals1 j;obtain rfl:u=YD a:=n;obtain⟨o,x,c,y⟩:=I1.list m;have d:a<g.heap.objs.size:=by obtain⟨_,_,e,_⟩:=c;exact Yn e
 refine call_enumerate_list c.isList λz f r A kk=>wpAny_pyIter_enum f ⟨_,_,_,_,_,rfl,I1.kept kk,Zpl a _ _ (Nat.succ_ne_self _) (Ou<|Nat.lt_succ_of_lt d)<|Ou d,⟨⟨_,f⟩,r⟩,λb hb=>?_,q⟩;rcases O2.mp hb with rfl|hb
 . exact I1.fpOk (Nat.le_succ _) (I1.hok.fresh<|Nat.le_succ _)
 . have e:=by simpa using hb
   subst e;exact I1.fpOk (Oq _) (I1.hok.fresh<|Oq _)
end L2
namespace L2
open PySem PySem.Spec PyProof.Rows PySem.Builtin PySem.Builtin.ObjectAttr PySem.Builtin.Getset_descriptor
structure ExcA(K:Yl)(D:Yj):Prop where
 ga:YJ K (.ref D) "__getattribute__"=J (J<|.builtin "BaseException.__getattribute__")
 ga2:YJ K (.ref D) "__getattr__"=J M
 cl:YJ K (.ref D) "__class__"=J (J<|.builtin "object.__class__")
 get:PySem.W.specialIn K (.builtin "object.__class__") "__get__"=J (J<|.builtin "getset_descriptor.__get__")
 takes:PySem.W.takesIn K (.builtin "object.__class__")=J Wq
 obj:PySem.W.mroIn K D (.type "object")=J Wq
 base:YU K (.ref D) (.type "BaseException")=J Wq
 isc:(PySem.W.clsIn K D).isSome=Wq
end L2
namespace L2
open PySem PySem.Spec PyProof.Rows
def Zuy(h:PSs X b t)(r:t D Z H):∃t,PSs X b t/\t D Z H:=⟨t,h,r⟩
def Zik:RelV (.str x) (.str x t):=⟨t,rfl⟩
def Zf1:RelV (.int x) (.int x t):=⟨t,rfl⟩
def ZaG:RelV (.ref a) (.ref a):=rfl
def isSome_of{K:Yl}(h:PySem.W.isClsIn K C=Wq):(PySem.W.clsIn K C).isSome=Wq:=h
def DkK(P:Yi)(w:Yh)(K:Yl)(a:Yj)(kvs:List (Key×V)):Prop:=∃(o:Obj) (b:Array DictEntry) (c:Nat) (vs:List (Key×Yk)),K.lookup a=J o/\o.ExactDict/\o.data=.dict b c/\KeysOf (ZH P w) b/\Pairs (ZH P w) b.toList vs/\(vs.map (·.1)).Nodup/\KV kvs vs/\kvs.length<=Yc/\(a==Yf)=Ws
def Dk(P:Yi)(w:Yh)(K:Yl)(H:Hp)(a:Yj)(kvs:List (Key×V)):Prop:=Rd H a (.dK kvs)\/DkK P w K a kvs
section
variable {X:Cx}{aa:List (Yj×Obj)}{Z:St}{H:Hp}{s:Yb}{a:Yj}
def Inv.dk(I:Inv X aa Z H s)(h:Dk X.prog X.w X.K H a kvs):kvs.length<=Yc/\(a==Yf)=Ws/\∃vs,KV kvs vs/\s.heap.DictOf (ZH X.prog X.w) a vs:=by
 rcases h with h|⟨o,g,i,vs,b,c,d,e,ps,nd,f,z,hm⟩
 . exact Zvm I.hok h
 . exact⟨z,hm,_,f,o,_,_,I.kIn a o b,c,d,e,ps,nd⟩
def Zy3(P:Yi)(w:Yh)(K:Yl)(neg:Bool):R2:=λx y H Q=>∃a b k,y=.ref a/\x=kV k/\Dk P w K H a b/\Q (.bl<|if neg then !(ZbJ b k).isSome else(ZbJ b k).isSome) H
def ZwC:OpR X (YM .In) (Zy3 X.prog X.w X.K Ws):=by rintro aa s Z H x y v u Q I rx ry⟨a,kvs,k,rfl,rfl,hd,q⟩;cases ry;obtain⟨z,hm,vs,rel,dd⟩:=I.dk hd;refine wpAny_in_of (ZlW rx) hm dd.mapOf ?_;rw[<-(rel.val k).isSome_eq];exact⟨.bl _,H,I.tok _,rfl,q⟩
def ZpF:OpR X (YM .NotIn) (Zy3 X.prog X.w X.K Wq):=by rintro aa s Z H x y v u Q I rx ry⟨a,kvs,k,rfl,rfl,hd,q⟩;cases ry;obtain⟨z,hm,vs,rel,dd⟩:=I.dk hd;refine wpAny_notIn_of (ZlW rx) hm dd.mapOf ?_;rw[<-(rel.val k).isSome_eq];exact⟨.bl _,H,I.tok _,rfl,q⟩
def ZBn(P:Yi)(w:Yh)(K:Yl):R2:=λx y H Q=>∃a b k v,x=.ref a/\y=kV k/\Dk P w K H a b/\ZbJ b k=J v/\Q v H
def Zud:IxR X (ZBn X.prog X.w X.K):=by intro b c o s Z H x y v u Q I f g h i;obtain⟨a,j,k,z,rfl,rfl,l,hv,q⟩:=h;cases f;obtain⟨_,hm,vs,d,e⟩:=I.dk l;obtain⟨p,m,n⟩:=ZfV.some_of<|hv▸d.val k;exact subscriptTail_builtinR e.typeIs PySem.F.slot_dict_getitem.lookup (wpAny_getItem_of (ZlW g) e.mapOf m ⟨rfl,z,H,I.tok _,n,q⟩) i
def Zz9(I:Inv X aa Z H s)(e:H a=J (.dK kvs))(l:kvs.length<Yc)(ry:RelV (kV k) u)(rv:RelV v r)
 (h:∀s',Inv X aa Z (upd H a<|.dK<|putK kvs k v) s'->Q () s'):YB (model X.prog X.w) A (setItem (.ref a) u r) Q E s:=by
 obtain⟨z,d,vs,b,f⟩:=Zvn I.hok e;have j:vs.length<=Yc:=b.length▸z;exact wpAny_setItem_pairs (ZlW ry) f λm c g=>h _ (ZoY I (by rw[e];trivial) g (let⟨q,_,_,i,_⟩:=c;⟨q,i⟩)<|Zse (by have:=Zd7 kvs k v;lia) d (b.put k rv) c)
def ZyS:Zqf:=λo i v H Q=>∃a b k,o=.ref a/\i=kV k/\H a=J (.dK b)/\b.length<Yc/\Q (upd H a<|.dK<|putK b k v)
def set_dict:Zqh X ZyS:=by rintro aa s Z H o i v ov iv u Q I ro ri rv⟨a,kvs,k,rfl,rfl,e,l,q⟩;cases ro;exact Zz9 I e l ri rv λs' I'=>⟨_,I',q⟩
end
set_option tactic.hygienic false
section
variable {X:Cx}{aF tg iter:Expr}{a7:List Expr}{scope sc:Scope}{pos:Pos}{NC:List Str}{js:List (Option Nat)}{k:Nat}{wi:TI}{g:TG}{tc:TT}{te:TE}
theorem ZmX(hN:X.N.Nodup)(hy:X.N[i0]?=J y)(hx:Loc X.env.scope y)(hf:X.fn y=Wq\/X.env.scope.names.lookup y=J .local)(S_:CompSc NC X.N js sc scope)(bM:X.env.scope=sc)(hc:X.calm=Wq)(hi:PI X tg iter wi)
   (hb:∀ (C:Yj) (s3:Yb) (H3:Hp) (fp:List _),PG (ZA X NC scope C s3 H3 fp) tg g/\PIf (ZA X NC scope C s3 H3 fp) a7 tc/\PE (ZA X NC scope C s3 H3 fp) aF te)
   (hk:ZnR k g) (dF:∀ j,j<k->js[j]?=J M) (hs:∀ x,foldedSetIterable iter X.env x=pure x:=by intro _;rfl) (ij:swapsWith (.ListComp aF [⟨tg,iter,a7,0⟩] scope pos) (J<|.Name y py) spos.line X.env=pure Wq:=by rfl) :
   PS X (.Assign [.Name y py] (.ListComp aF [⟨tg,iter,a7,0⟩] scope pos) spos) (ZmM (ZqB wi js g tc te)<|Zec i0):=by
 intro aa s Z H D0 I h;rw [exec_Assign_Name_used _ _ _ _ ij];refine Ya<|wpAny_standAt<|Ya ?_;show YB _ X.A (do let _ <- comprehension (.ListComp aF [⟨tg,iter,a7,0⟩] scope pos) scope X.env _ (newList []) Ws (eval iter X.env) (J<|assign (.Name y py) X.env)) _ _ s;refine Ya<|Yg (Zmf (Q:=λx H1=>Zec i0 x Z H1 D0.nx) (Q0:=λ_ s'=>SP X aa D0 .next s') S_ bM hc hi hb hk dF hs I h λC Dd s3 s6 H3 H5 fp hC I3 f3 I6 qn=>?_) (λ_ s' hq=>Yd<|Yd hq) λ_ _ e=>e;obtain⟨m,hm,_⟩:=I6.loc;have fC:ZeP X aa H5 C:=I3.fpOk (Nat.le_of_eq hC.symm) I6.free;show YB _ X.A (assign (.Name y py) X.env<|.ref Dd) _ _ _;exact wpAny_assign_Name (ZjP (I3.comp_out (h'':=s6.heap) f3 hC I6 ⟨rfl,λ_ _=>rfl⟩) hN hy hx (v:=.ref Dd) rfl (by rintro s8 I8⟨a8,ke,mr⟩;exact⟨m,hm.sameBut ke λz=>by
   rcases mr with e|e
   . exact fC.2.1 (z.I e)
   . exact fC.2.2.2.2.1 _ _ e z.symm,λh' b7=>⟨_,H5,I8.turnL (t':=s8.toks) (ch:=[C]) (λb hb=>Ox.mp hb▸fC)<|λb o hb e=>(b7.2 b<|λz=>hb<|z▸List.mem_singleton_self _).I e,qn⟩⟩) hf)
end
set_option tactic.hygienic true
mutual
inductive Dp(K:Yl)(H:Hp):V->PyData->Prop
 |non:Dp K H .non .none
 |bl (b:Bool):Dp K H (.bl b) (.bool b)
 |int (i:Int):Dp K H (.int i) (.int i)
 |str (x:Str) (ok:Yp x=Wq):Dp K H (.str x) (.str x)
 |lst {a:Yj}{xs:List V}{ds:List PyData}:SqL K H a xs->Dps K H xs ds->Dp K H (.ref a) (.list ds)
 |tup {a:Yj}{xs:List V}{ds:List PyData}:SqT K H a xs->Dps K H xs ds->Dp K H (.ref a) (.tuple ds)
inductive Dps(K:Yl)(H:Hp):List V->List PyData->Prop
 |nil:Dps K H [] []
 |cons {v:V}{vs:List V}{d:PyData}{ds:List PyData}:Dp K H v d->Dps K H vs ds->Dps K H (v::vs) (d::ds)
end
section
variable {K:Yl}{H:Hp}
mutual
theorem Dp.lay:∀{v:V}{d:PyData},Dp K H v d->d.canLay0=Wq
 |_,_,.non=>rfl
 |_,_,.bl b=>rfl
 |_,_,.int i=>rfl
 |_,_,.str x ok=>ok
 |_,_,.lst h r=>Dps.lay r
 |_,_,.tup h r=>Dps.lay r
theorem Dps.lay:∀{v:List V}{d:List PyData},Dps K H v d->PyData.canLayAll0 d=Wq
 |_,_,.nil=>rfl
 |_,_,.cons h r=>by rw[PyData.canLayAll0,Dp.lay h,Dps.lay r];rfl
end
end
section
variable {X:Cx}{aa:List (Yj×Obj)}{Z:St}{H:Hp}{s:Yb}
mutual
theorem Inv.reads(I:Inv X aa Z H s):∀{v:V}{d:PyData}{u:Yk},Dp X.K H v d->RelV v u->∃as,Reads s.heap u d as
 |_,_,_,.non,r=>by cases r;exact⟨_,.none⟩
 |_,_,_,.bl b,r=>by cases r;exact⟨_,.bool b⟩
 |_,_,_,.int i,r=>by obtain⟨t,rfl⟩:=r;exact⟨_,.int i t⟩
 |_,_,_,.str x ok,r=>by obtain⟨t,rfl⟩:=r;exact⟨_,.str x t⟩
 |_,_,_,.lst h rs,r=>by cases r;obtain⟨its,rv,⟨o,n,e,c,_,dd⟩,_⟩:=I.list h;obtain⟨as,q⟩:=Inv.readsAll I rs rv;exact⟨_,.list e c dd<|by simpa using q⟩
 |_,_,_,.tup h rs,r=>by cases r;obtain⟨its,rv,⟨o,e,c,n,dd⟩,_⟩:=I.tuple h;obtain⟨as,q⟩:=Inv.readsAll I rs rv;exact⟨_,.tuple e c dd<|by simpa using q⟩
theorem Inv.readsAll(I:Inv X aa Z H s):∀{v:List V}{d:List PyData}{u:List Yk},Dps X.K H v d->Zs v u->∃as,ReadsAll s.heap u d as
 |_,_,_,.nil,r=>by cases r;exact⟨_,.nil⟩
 |_,_,_,.cons h rs,r=>by
  cases r with
  |cons r1 r2=>obtain⟨as,q⟩:=Inv.reads I h r1;obtain⟨bs,q2⟩:=Inv.readsAll I rs r2;exact⟨_,.cons q q2⟩
end
end
set_option tactic.hygienic false
namespace Rv
def own:Manifest.owners.lookup (String.ofList ['d','e','s','r','e','v','e','r'].reverse)=J Manifest.sig_reversed:=by kernel_rfl
def next:Slot "reversed" "__next__" "reversed.__next__" :=
 .of (owner := "reversed") (n := "__next__") (rfl) (rfl) (rfl) (rfl) (by first|exact .inl (by decide +kernel)|exact .inr (by decide +kernel)) (by rw[isSubtype_type]<;>kernel_rfl)
def Zvl:entryFor table "reversed.__next__"=J Builtin.«reversed.__next__»:=entryFor_of_tree (rfl)
def Zvx(a):argsOk "reversed.__next__" ⟨[a],[]⟩:=by unfold argsOk;rw[signature?_of (n:=['_','_','t','x','e','n','_','_']) (rfl) own];trivial
def iter:Slot "reversed" "__iter__" "reversed.__iter__" :=
 .of (owner := "reversed") (n := "__iter__") (rfl) (rfl) (rfl) (rfl) (by first|exact .inl (by decide +kernel)|exact .inr (by decide +kernel)) (by rw[isSubtype_type]<;>kernel_rfl)
def ZAq(a):argsOk "reversed.__iter__" ⟨[a],[]⟩:=by unfold argsOk;rw[signature?_of (n:=['_','_','r','e','t','i','_','_']) (rfl) own];trivial
def Zz6:entryFor table "reversed.__iter__"=J Builtin.«dict_keyiterator.__iter__» :=entryFor_alias (id' := "dict_keyiterator.__iter__") (rfl) (rfl) (by decide +kernel) (by kernel_rfl)
def Zzq:typeLookup (.type "tuple") "__reversed__"=pure M:=by rw[typeLookup_type]<;>kernel_rfl
def Zn5:isSubtype (.type "reversed") (.type "reversed")=pure Wq:=by rw[isSubtype_type]<;>kernel_rfl
def init:Slot "reversed" "__init__" "object.__init__" :=
 .of (owner := "object") (n := "__init__") (by rw[typeLookup_type]<;>kernel_rfl) (rfl) (rfl) (by decide +kernel) (by first|exact .inl (by decide +kernel)|exact .inr (by decide +kernel)) (by rw[isSubtype_type]<;>kernel_rfl)
def called:TypeCalled "reversed" "reversed.__new__" "object.__init__" := ⟨rfl,F.create_reversed,⟨_,_,F.mro_reversed⟩,F.made_reversed,by decide +kernel,Zn5,init⟩
noncomputable def obj(l:Yj)(i:Int):Obj:={cls:=.type "reversed",data:=.fields #[.ref l,rawInt i]}
def Is(h:YG)(a l:Yj)(i:Int):Prop:=∃o,h.get? a=J o/\o.cls=.type "reversed" /\ o.data=.fields #[.ref l,rawInt i]
section
variable {prog:Yi}{w:Yh}{A:YH}{E:Yk->Yb->Prop}{s:Yb}
def Is.typeIs(x:Is s.heap a l i):s.TypeIs (.ref a) "reversed" := let⟨o,b,c,_⟩:=x;⟨o,b,c⟩
def Is.at(x:Is h a l i)(e:∀o,h.get? a=J o->h'.get? a=J o):Is h' a l i:=let⟨o,b,r⟩:=x;⟨o,e _ b,r⟩
def new(hl:IsTup s.heap l items)(hz:items.size<=Yc)
 (h:Q (.ref s.heap.objs.size) {s with heap:=s.heap.push<|obj l<|items.size-1,toks:=s.toks+1+1}) :
 codeAny (model prog w) A (.call (.builtin "reversed.__new__") ⟨[.type "reversed",.ref l],[]⟩) (wants Q E) s:=by
 refine codeAny_of_tree<|Ya<|Wi (F.newCall_reversed_1 _)<|Yd ⟨plainId_quiet F.plain_reversed_new _,codeAny_builtin F.entry_reversed_new ?_⟩;rw[Around.under_plainId F.plain_reversed_new _];unfold Builtin.«reversed.__new__»;refine Ya (Wi (newClass_reversed _) ?_)
 try dsimp only
 refine Ya (Wi (a:=()) (by first|rfl|kernel_rfl)<|Ya<|Wi (a:=()) (by first|rfl|kernel_rfl) ?_)
 try dsimp only
 refine Ya (wpAny_specialOf hl.typeIs Zzq ?_)
 try dsimp only
 refine Ya ?_;show YB _ _ (isInstance (.ref l) (.type "dict") >>= λb=>_) _ _ s;refine Ya<|wpAny_isInstance hl.typeIs F.sub_tuple_dict ?_;show YB _ _ (specialOf (.ref l) "__getitem__" >>= λb=>_) _ _ s;refine Ya (wpAny_specialOf hl.typeIs slot_tuple_getitem.lookup<|Wi (a:=true) (by rfl) ?_);show YB _ _ (call (.builtin "len") [.ref l] >>= λb=>_) _ _ s;refine Ya (len_tuple hl (by have:=ZcJ;lia) ?_);show YB _ _ (asInt? (.int _ _) >>= λb=>_) _ _ _;refine Ya<|Yd ?_;show YB _ _ (newObj (.type "reversed") (.fields #[.ref l,rawInt<|(items.size)-1]) >>= λb=>_) _ _ _;exact Ya (Yr<|Yd h)
theorem call(hl:IsTup s.heap l items)(hz:items.size<=Yc)
 (h:Q (.ref s.heap.objs.size) {s with heap:=s.heap.push<|obj l<|items.size-1,toks:=s.toks+1+1}):YB (model prog w) A (PySem.call (.type "reversed") [.ref l]) Q E s:=by
 refine callType_codes called (F.typeCall_reversed_1 _) F.entry_object_init (new (Q:=λo s1=>o=.ref _/\s1={s with heap:=s.heap.push _,toks:=s.toks+1+1}) hl hz ⟨rfl,rfl⟩) ?_;rintro _ _ ⟨rfl,rfl⟩;exact⟨⟨_,Oj _ rfl,rfl⟩,F.args_object_init_2 _ _,object_init_meets init.lookup F.made_reversed (rfl) _ w _ _ _ ⟨⟨_,Oj _ rfl,rfl⟩,rfl,h⟩⟩
def next_item{it l}{i:Nat}{Q}(ay:Is s.heap it l i)(hl:IsTup s.heap l items)(hz:items.size<=Yc)(hx:items[i]?=J x)
 (hQ:∀h' t',Is h' it l (i-1)->Heap.SameBut it s.heap h'->Q (J x) {s with heap:=h',toks:=t'}):YB (model prog w) A (pyNext<|.ref it) Q E s:=by
 obtain⟨o,ho,hc,hd⟩:=id ay;have hi:i<items.size:=(Array.getElem?_eq_some_iff.mp hx).1;have nA:=ZcJ;refine Ya<|wpAny_attempt<|YY (name:=O "__next__") ay.typeIs next (Wc next ay.typeIs Zvl (Ya<|Wi (a:=(YD it,[])) rfl<|Ya<|YR ho hd (x:=.ref l) rfl<|Ya<|YR ho hd (x:=rawInt<|i) rfl ?_) (Zvx _));show YB _ _ (if (i:Int)<0 then _ else _) _ _ s;rw[if_neg<|by lia];show YB _ _ (specialOf (.ref l) "__getitem__" >>= λb=>_) _ _ s;refine Ya<|wpAny_specialOf hl.typeIs slot_tuple_getitem.lookup ?_;show YB _ _ (mkInt (i) >>= λb=>_) _ _ s;refine Ya (wpAny_mkInt<|Ya<|wpAny_attempt<|getItem_tuple (s:={s with toks:=s.toks+1}) (j:=i) (x:=x) hl (by lia) (by lia) (seqIndex_of (by lia)<|by lia) hx ?_);show YB _ _ (field (.ref it) 1 >>= λb=>_) _ _ _;refine Ya<|YR ho hd (x:=rawInt<|i) rfl ?_;show YB _ _ (setField (.ref it) 1 (rawInt<|(i)-1) >>= λb=>_) _ _ _;exact Ya (wpAny_setField ho hd (by simp)<|Yd ⟨x,rfl,Yd<|hQ _ _ ⟨_,YV _ ho<|Obj.isFreed_of_fields<|YX hd _,(Obj.cls_mapFields ..).I hc,by rw[YX hd]<;>simp⟩<|Heap.SameBut.update ..⟩)
def next_end(hh:A.handled=M)(ay:Is s.heap it l (-1))(hQ:∀h',Heap.ExtBut it s.heap h'->Q M {s with heap:=h'}):YB (model prog w) A (pyNext<|.ref it) Q E s:=by
 obtain⟨o,ho,hc,hd⟩:=id ay;refine Ya (wpAny_attempt<|YY (name:=O "__next__") ay.typeIs next (Wc next ay.typeIs Zvl (Ya<|Wi (a:=(YD it,[])) rfl ?_) (Zvx _)))
 try dsimp only
 refine Ya<|YR ho hd (x:=.ref l) rfl<|Ya<|YR ho hd (x:=rawInt<|-1) rfl ?_;show YB _ _ (if (-1)<0 then _ else _) _ _ s;rw[if_pos<|by decide];refine Ya<|wpAny_rule ?_;show YB _ _ ((setField (.ref it) 1 (rawInt<|-1) >>= λ_=>setField (.ref it) 0 .none) >>= λb=>_) _ _ _;refine Ya (Ya (wpAny_setField ho hd (by simp) (wpAny_setField (YV (Obj.mapFields (·.setIfInBounds 1 (rawInt<|-1))) ho<|Obj.isFreed_of_fields<|YX hd _) (YX hd _) (by simp) ?_)));refine Ya ?_;show YB _ _ (newExc (.type "StopIteration") [] >>= λb=>_) _ _ _;refine Ya ?_;simp only;refine Ya (Yr (Ya (m:=firstArgMember _ _)<|Wi (a:=Value.none) (by first|rfl|(simp only[firstArgMember]<;>rfl))<|Yr ?_<|by size_fits)<|by size_fits);simp only;refine Ya<|wpAny_handled ?_;rw[show A.in1.handled=M from hh];refine Ya<|Yd<|wpAny_throw ?_;exact Ya (wpAny_isInstance (T := "StopIteration") (b:=true) ⟨_,Oj _ rfl,rfl⟩ isSubtype_stop<|Yd<|hQ _<|((((Heap.ExtBut.refl _ _).trans (Heap.SameBut.update ..).extBut).trans (Heap.SameBut.update ..).extBut).push _).push _)
def Zhb(ay:Is s.heap it l i)(h:Q (.ref it) s):YB (model prog w) A (pyIter<|.ref it) Q E s:=wpAny_pyIter_slot ay.typeIs iter (Wc iter ay.typeIs Zz6 (Yd ⟨_,rfl,_,_,ay.typeIs,next.lookup,h⟩)<|ZAq _)
end
end Rv
noncomputable def Itv(K:Yl)(a:Yj)(n:Nat):It:=⟨λi H=>∃b x,SqT K H a b/\b.length=n/\b.reverse[i]?=J x,λi H x H'=>H'=H/\∀b,SqT K H a b->b.reverse[i]?=J x,λi H=>∃b,SqT K H a b/\b.length=n/\n=i⟩
def Zqv{P}{w}{K}{tg}(a it)(n):Turn P w K tg (Itv K a n) [it] it (λi h=>i<=n/\Rv.Is h it a (n-1-i)) where
 mem:=by simp
 obj:=λi h st b f=>by
  have e:b=it:=by simpa using f
  subst e;obtain⟨_,o,e,c,d⟩:=st;exact⟨o,e,λv z=>by simp_all⟩
 keep:=λi h j st k=>⟨st.1,st.2.at λo e=>k it (by simp) o e⟩
 item:=by
  intro X l hw m A i G s Z H E I hf st q;subst l hw m;obtain⟨W,st⟩:=st;obtain⟨xs,x,r,B,g⟩:=q;obtain⟨L,C,p,Y⟩:=I.tuple r;have hl:=C.length;have N:i<xs.length:=by simpa using (Ob.mp g).1
  have O:xs[n-1-i]?=J x:=by rw[List.getElem?_reverse N]at g;rw[<-B];exact g
  obtain⟨u,Q,R⟩:=C.get O;obtain⟨f0,f1,f2,t,f4,y⟩:=hf it (by simp);have S:(n)-1-(i)=((n-1-i:Nat):Int):=by lia
  rw[S]at st;refine Rv.next_item st p (by simp;lia) (x:=u) (by simpa using Q) λj t' D sb=>?_;obtain⟨o,e,c,d⟩:=id D;have T:((n-1-i:Nat))-1=(n)-1-((i+1:Nat):Int):=by lia
  refine⟨u,rfl,Zj0 (s:={s with heap:=j,toks:=t'}) e c d (by decide) ⟨x,H,I.turned (t':=t') (λb o f e=>(sb.2 b f).I e) f0 f1 t f4 y,R,⟨rfl,λys U=>I.tuple_inj U r▸g⟩,⟨by lia,by rw[<-T];exact D⟩,λb f=>(hf b f).1⟩⟩
 done:=by intro X l hw m A i G s Z H E I hf st q;subst l hw m;obtain⟨xs,r,B,g⟩:=q;obtain⟨f0,f1,f2,t,f4,y⟩:=hf it (by simp);have F:=st.2;rw[show(n:Int)-1-(i:Nat)=-1 by lia]at F;exact Rv.next_end (I.ok.hd A) F λj V=>⟨rfl,I.turned (t':=s.toks) (λb o f e=>V b o f e) f0 f1 t f4 y⟩
 self:=λ_ _ _ _ _ st h=>Rv.Zhb st.2 h
theorem ZcQ:∀{vs}{ss},StrsAre vs ss->Zs (ss.map V.str) vs
 |_,_,.nil=>.nil
 |_,_,.cons y t h=>.cons ⟨t,rfl⟩ (ZcQ h)
section
variable {prog:Yi}{w:Yh}{A:YH}{E:Yk->Yb->Prop}{s:Yb}
def ZmN
 (iP:∀qd ,(∀(h') (tk) (vs),s.heap.objs.size<=h'.objs.size->(∀b o,s.heap.get? b=J o->h'.get? b=J o)->StrsAre vs ss->qd vs {s with heap:=h',toks:=tk})->YB (model prog w) A.in1 (collect<|.ref r) qd E s)
 (jL:ss.length<64)
 (h:∀(D:Yj) (h') (tk) (out) (bA) (n),(∀b o,s.heap.get? b=J o->h'.get? b=J o)->s.heap.objs.size<=D->h'.get? D=J {cls:=.type "list",data:=.seq out.toArray n}->StrsAre out bA->bA.Perm ss->sortedS bA=Wq ->
  Q (.ref D) {s with heap:=h',toks:=tk}):YB (model prog w) A (call (.builtin "sorted") [.ref r]) Q E s:=by
 refine Calls.call_function_entry kind_sorted plain_sorted entry_sorted (args_sorted1 _)<|Ya (m:=checkCount "sorted" 1 1 _)<|Yd<|Ya<|iP _ λh' tk vs aR hk hS=>?_;have au:vs.length=ss.length:=by simpa using ((ZcQ hS).length).symm
 refine Ya (wpAny_newList (Ya<|Wb<|Wc slot_list_sort ⟨_,Oj _ rfl,rfl⟩ entry_list_sort (list_sort_treeK strKind_oneLt (Oj _ rfl) hS.keysOf (λv₁ v₂ ac e=>keyKind_strs<|e▸hS) (by lia) λbh a1 a2=>⟨_,rfl,Yd ⟨_,rfl,?_⟩⟩)<|args_list_sort _) (by rw[YC];lia));obtain⟨bA,R,h2,h3⟩:=sorted_out_str hS a1 a2;obtain⟨e,he⟩:=sortedHeap_at (out:=(arrOf bh).map (·.2))<|Oj _ rfl;refine h h'.objs.size _ tk ((arrOf bh).map (·.2)).toList bA e (λb o q=>?_) aR (Array.toArray_toList.symm▸he) R h2 h3;have aC:=Yn<|hk b o q;rw[sortedHeap_old (Ou aC) (by rw[size_push'];exact Nat.lt_succ_of_lt aC)];exact Od _ (hk b o q)
def Zel(K:PySem.W.KdlSrc prog w T r d n P OK)(hh:A.handled=M)(hok:OK s.heap)(hn:n<=Yc)
 (h:∀(h') (tk) (ai),s.heap.objs.size<=h'.objs.size->(∀b o,s.heap.get? b=J o->h'.get? b=J o)->ItemsOf P ai n->qd ai.toList {s with heap:=h',toks:=tk}) :
 YB (model prog w) A (collect<|.ref r) qd E s:=by
 refine Ya (wpAny_runValue (codeAny_builtin entry_proto_collect' (Ya (Yr (Yd ⟨plainId_quiet PySem.F.plain_list_iadd _,codeAny_builtin entry_list_iadd' (Yg (PySem.W.kdl_extend (A:=A) (s:={s with heap:=s.heap.push {cls:=.type "list",data:=.seq ([]).toArray}})
  (R:=λ(q) (j)=>∃(h':YG) (tk:Nat) (ai:Array Yk) (c:Nat),q=.ok (.ret<|.ref s.heap.objs.size)/\j={s with heap:=h',toks:=tk}/\(∀b o,s.heap.get? b=J o->h'.get? b=J o)/\h'.get? s.heap.objs.size=J {cls:=.type "list",dict:=M,data:=.seq ai c,slots:=#[]}/\ItemsOf P ai n)
  K hh (K.keep _ _ hok λb _ o e=>Od _ e) s.heap.objs.size (Nat.ne_of_gt (K.there _ hok).1) (Nat.ne_of_gt (K.there _ hok).2) (.ref s.heap.objs.size) 0 (Oj _ rfl) (λh' tk ai c g a i=>⟨h',tk,ai,c,rfl,rfl,λb o e=>g b o (Ou<|Yn e)<|Od _ e,a,i⟩) hn) (λfin j x=>?_) λe j x=>?_)⟩)))))
 . cases fin with
   |done f=>obtain⟨h',tk,ai,c,e,rfl,g,a,i⟩:=x;cases e;exact Ya (wpAny_load a<|Yd<|h h' tk ai (Nat.le_of_lt<|Yn a) g i)
   |again k=>refine⟨x.1,codeAny_mono x.2 λq l y=>?_⟩;obtain⟨h',tk,ai,c,rfl,rfl,g,a,i⟩:=y;exact Ya (wpAny_load a<|Yd<|h h' tk ai (Nat.le_of_lt<|Yn a) g i)
 . obtain⟨_,_,_,_,z,_⟩:=x;cases z
end
theorem Zdb:∀{xs:List α}{ys:List β},Paired qd xs ys->∀{i:Nat}{x},xs[i]?=J x->∃y,ys[i]?=J y/\qd x y
 |_,_,.nil,i,x,e=>by trivial
 |_,_,.cons h r,0,x,e=>by simp_all
 |_,_,.cons h r,i+1,x,e=>by obtain⟨y,R,a⟩:=Zdb r (by trivial);exact⟨y,by trivial,a⟩
theorem Zc7:∀(ss) (vs),vs.length=ss.length->(∀(j:Nat) (v),vs[j]?=J v->∃x,ss[j]?=J x/\(ZH P w).is (YE x) v=Wq)->StrsAre vs ss
 |[],[],_,_=>.nil
 |s::ss,v::vs,a,h=>by obtain⟨x,e,b⟩:=h 0 v rfl;cases e;obtain⟨t,rfl⟩:=Value.isStrOf_shape b;exact .cons s t (Zc7 _ _ (by simpa using a) λj u c=>h (j+1) u<|by trivial)
section
variable {X:Cx}
def ZqW(P:Yi)(w:Yh)(K:Yl):List V->Hp->VK->Prop:=λd H Q=>∃a b c,d=[.ref a]/\Dk P w K H a b/\b.map (·.1)=c.map YE/\c.length<64/\∀p bA,H p=M->bA.Perm c->sortedS bA=Wq->Q (.ref p) (upd H p<|.lst<|bA.map V.str)
def ZkY(hc:X.A.handled=M):Zaa X (.builtin "sorted") (ZqW X.prog X.w X.K):=by
 rintro aa s Z H xs us Q I r⟨a,kvs,ss,rfl,hd,cN,jL,q⟩;obtain⟨u,rfl,ru⟩:=vals1 r;cases ru;obtain⟨z,hm,vs,rel,dd⟩:=I.dk hd;obtain⟨ep,dM⟩:=dd.dictAt;have hl:=(Paired.length rel).symm;have bV:=by simpa using congrArg List.length cN
 have bf:∀(j:Nat) k x,vs[j]?=J (k,x)->∃y,ss[j]?=J y/\k=YE y:=λj k x e=>by
  have hj:j<vs.length:=(Ob.mp e).1;have R:kvs[j]?=J kvs[j]:=Og (by lia);obtain⟨u,hu,fA⟩:=Zdb rel R;rw[e]at hu;cases hu;have h3:(kvs.map (·.1))[j]?=J kvs[j].1:=by rw[On,R];rfl
  rw[cN,On]at h3;obtain⟨y,hy,e3⟩:=Oo.mp h3;exact⟨y,hy,fA.1.symm.I e3.symm⟩
 refine ZmN (ss:=ss) (λqd hR=>Zel (PySem.W.kdl_dict (knd:=ZH X.prog X.w) (kvs:=vs) (ep:=ep) hm) hc dM (by lia) λh' tk ai aR hk aq=>?_) jL λD h' tk out bA n hk hD ho hS hp hs=>?_
 . refine hR h' tk ai.toList aR hk (Zc7 (P:=X.prog) (w:=X.w) ss ai.toList (by rw[Array.length_toList,aq.1];lia) λj v hv=>?_);obtain⟨k,x,e,dE⟩:=aq.2 j v<|Array.getElem?_toList.symm.I hv;obtain⟨y,hy,rfl⟩:=bf j k x e;exact⟨y,hy,dE⟩
 . refine⟨.ref D,_,I.laid (a:=D) (o:=.lst<|bA.map V.str) (t':=tk) hk hD ⟨by simpa using by rw[hp.length_eq];lia,out,n,ZcQ hS,ho⟩,rfl,q D bA (I.hok.fresh hD) hp hs⟩
end
set_option tactic.hygienic true
theorem Zfj:∀{ns}{vs},Zs (ns.map V.int) vs->IntsAre vs ns
 |[],vs,h=>by cases h;exact .nil
 |s::b,vs,h=>by
  cases h with
  |cons R a=>obtain⟨t,rfl⟩:=R;exact .cons s t (Zfj a)
noncomputable def ZhK(z:Str)(n:Nat):Str:=⟨(YK n z.cps).foldl (·++·) #[]⟩
theorem ZiM(a:Array _):∀(n) (i:Array Nat),((YK n a).foldl (·++·) i).size=i.size+n*a.size
 |0,i=>by simp
 |n+1,i=>by
  rw[List.replicate_succ,List.foldl_cons,ZiM a n _,Array.size_append,Nat.succ_mul]
  lia
def Zf0(z)(n):(ZhK z n).length=n*z.length:=by show((YK n _).foldl _ #[]).size=_;rw[ZiM];simp;rfl
section
variable {X:Cx}
def Zp5(hc:X.A.handled=M):Zaa X (.builtin "sum") (λxs H Q=>∃(a:Yj) (ns:List _),xs=[.ref a]/\SqL X.K H a (ns.map V.int)/\Q (.int ns.sum) H):=by
 rintro aa s Z H xs us Q I r⟨a,ns,rfl,hq,q⟩;obtain⟨u,rfl,ru⟩:=vals1 r;cases ru;obtain⟨its,rv,pl,hz⟩:=I.list hq;have hi:=Zfj rv;obtain⟨ys,e⟩:=hi.allInts.items;refine sum_intListG hc (e▸pl.isList) λh' tk t' hk=>⟨.int _,H,I.kept hk,⟨t',?_⟩,q⟩
 have e2:=hi.numsOf;have e3:numsOf (intItems ys).toList=ns:=by rw[<-e];trivial
 rw[nums_intItems]at e3;rw[preSum_eq,List.take_of_length_le<|by simp,e3]
def ZtG:OpR X (binaryOp .Mult) (λx y H Q=>∃z n,x=.str z/\y=.int n/\0<=n/\n<=1000/\z.length<=1000/\Q (.str<|ZhK z n.toNat) H):=by
 rintro aa s Z H x y v u Q I rx ry⟨z,n,rfl,rfl,h0,R,h2,q⟩;obtain⟨t,rfl⟩:=rx;obtain⟨t2,rfl⟩:=ry;have hl:z.length*n.toNat<=1000000:=Nat.mul_le_mul h2 (by lia:n.toNat<=1000);have hs:(1000000)<=Yc:=by decide
 refine PySem.P.mul_str (by rw[decide_eq_false<|by lia,decide_eq_false<|by lia]<;>rfl) (λ_ _=>?_) (λ_ _=>?_) ?_
 . have h3:1<=n:=by lia
   have h4:(9223372036854775807)/n ≥ 1000:=by exact(Int.le_ediv_iff_mul_le<|by lia).mpr (by lia)
   show ¬ ((z.length) > (2^63-1)/n);rw[show(2^63-1:Int)=9223372036854775807 by decide]
   lia
 . unfold Builtin.Str.tooLong;exact decide_eq_false (by lia)
 . by_cases hn:n<1
   . rw[if_pos hn];refine⟨by decide,.str _,H,I.tok _,⟨_,rfl⟩,?_⟩;rw[show n.toNat=0 by lia]at q;exact q
   . rw[if_neg hn];by_cases h5:(n==1||z.length==0)=Wq
     . rw[if_pos h5];refine⟨.str _,H,I,⟨_,rfl⟩,?_⟩;have e:ZhK z n.toNat=z:=by
        rw[Wn]at h5;rcases h5 with h5|h5
        . have e1:n.toNat=1:=by have:=eq_of_beq h5;lia
          rw[e1];unfold ZhK;simp
        . have e1:z.length=0:=eq_of_beq h5;have e2:(ZhK z n.toNat).length=0:=by rw[Zf0,e1];simp
          have f:∀y:Str,y.length=0->y=⟨#[]⟩:=λy hy=>by cases y with|mk c=>rw[show c=#[]from Array.eq_empty_of_size_eq_zero hy]
          exact(f _ e2).I (f z e1).symm
       rw[e]at q;exact q
     . rw[if_neg h5];refine⟨?_,.str _,H,I.tok _,⟨_,rfl⟩,q⟩;show(ZhK z n.toNat).length<=Yc;rw[Zf0,Nat.mul_comm]
       lia
def ZkE(hi:i.natAbs<2^2000)(hj:j.natAbs<2^2000):IntMulOk i j:=by
 have a:∀k ,k.natAbs<2^2000->Builtin.Int.intBits k<=2000:=λk b=>by
  unfold Builtin.Int.intBits;split
  . lia
  . rename_i h;have:=(Nat.log2_lt<|by simp_all).mpr b
    lia
 have R:=a i hi;have c:=a j hj;have d:Builtin.Int.intTooBig (Builtin.Int.intBits i+Builtin.Int.intBits j)=Ws:=by
  unfold Builtin.Int.intTooBig;have:bitsLine=134217728:=rfl;rw[this]
  lia
 intro q
 simp_all
def ZpG:OpR X (binaryOp .Mult) (rI (λi j=>i.natAbs<2^2000/\j.natAbs<2^2000) λi j=>.int<|i*j):=opI λ_ _ _ _ _ _ _ a q=>mul_int q (ZkE a.1 a.2)
noncomputable def Zy5(K:Yl):R2:=λx y H Q=>∃a b c,x=.ref a/\y=.ref b/\SqT K H a []/\SqT K H b c/\Q (.ref b) H
def ZtJ:OpR X (binaryOp .Add) (Zy5 X.K):=by
 rintro aa s Z H x y v u Q I rx ry⟨a,b,ys,rfl,rfl,ha,hb,q⟩;cases rx;cases ry;obtain⟨its,r1,ht,_⟩:=I.tuple ha;obtain⟨be,r2,hb,_⟩:=I.tuple hb;cases r1;obtain⟨⟨cls,dd,data,sl⟩,ho,hc,n,hd⟩:=id ht;obtain⟨⟨i9,mU,data2,ka⟩,dC,iS,n2,iO⟩:=id hb;subst hc hd iS iO;exact concat_meets ⟨_,ho,rfl⟩ ⟨_,dC,rfl⟩ noFill_tuple_add seq_tuple_add PySem.F.slot_tuple_add PySem.F.entry_tuple_add (PySem.F.args_tuple_add_2 _ _)
  (tuple_addW0 a b _ _ n _ _ _ _ _<|rfl) ⟨ho,dC,⟨.ref b,H,I,rfl,q⟩⟩
end
end L2
namespace HT
open PySem PyProof.Rows
section
variable {prog:Yi}{w:Yh}{A:YH}{E:Yk->Yb->Prop}{s:Yb}
theorem Ze5{t sl}{items}{lo hi}{Q}(ht:IsTup s.heap t items)(hs:s.heap.IsSliceOf sl vl vu .none)(pl:IsPart vl lo)(pu:IsPart vu hi)
   (hw:sIx items.size 0 lo=0/\sIx items.size items.size hi=items.size) (h:Q (.ref t) s):YB (model prog w) A (getItem (.ref t)<|.ref sl) Q E s:=by
 obtain⟨os,du,gy,fJ⟩:=id hs;unfold getItem
 try with_reducible refine Wb ?_
 refine Ya (wpAny_sequenceKey ht.typeIs (by decide) (Ya (YY (name:=O "__getitem__") ht.typeIs Wg
   (Wc Wg ht.typeIs entry_tuple_getitem ?_<|args_tuple_getitem _ _))))
 show YB _ _ (Builtin.Tuple.tupleItemsOf (.ref t) >>= _) _ _ s;refine Ya<|tupleItemsOf_ ht<|Ya<|wpAny_typeOf ⟨os,du,gy⟩<|Ya<|ZcS hs pl pu ?_;show YB _ _ (if (((sIx items.size 0 lo):Int)==0&&(1)==1&&(sIx items.size items.size hi-sIx items.size 0 lo)==items.size)=Wq then _ else _) _ _ s;rw [if_pos (by
   rw [hw.1,hw.2];simp)]
 refine Ya<|Ya<|wpAny_typeOf ht.typeIs<|Yd ?_;rw [if_pos<|by decide];exact Ya (wpAny_rule<|Yd ⟨_,rfl,Yd h⟩)
end
end HT
namespace L2
open PySem PySem.Spec PyProof.Rows
section
variable {X:Cx}
def ZBe(K:Yl):V->Option Int->Option Int->Hp->VK->Prop:=λx c d H Q=>∃a b,x=.ref a/\SqT K H a b /\
 (HT.sIx b.length 0 c=0/\HT.sIx b.length b.length d=b.length)/\Q (.ref a) H
def ZqG:SlR X (ZBe X.K):=by rintro aa s Z H x v vl vu lo hi sl Q I rx hs pl pu⟨a,xs,rfl,hx,hw,q⟩;cases rx;obtain⟨its,r,ht,hz⟩:=I.tuple hx;have au:its.toArray.size=xs.length:=r.length.symm;exact⟨_,_,PyProof.Rows.slot_tuple_getitem.lookup,ht.typeIs,HT.Ze5 ht hs pl pu (by rw[au];trivial) ⟨.ref a,H,I,rfl,q⟩⟩
end
end L2
namespace L2
set_option tactic.hygienic false
namespace Mx
open PySem PyProof.Rows
def nm:toString "max" ++ toString ".loop"="max.loop" := rfl
section
variable {prog:Yi}{w:Yh}{A:YH}{Z_:Result->Yb->Prop}{qa:Yj}{fo wo:List Yj}{m:Nat}{P:Nat->Yk->Prop}{S_:Nat->YG->Prop}
theorem loop(W:Walks prog w A.in1 qa fo wo m P S_)(bt)(hb:CmpOf prog w A.in1 .Gt P bt)(C)(hC:C ∉ fo)(kw):∀(d j) (s) (u) (c),
 m-(j+1)=d->j+1<=m->S_ (j+1) s.heap->P (argBest bt j) u->s.heap.get? C=J {cls:=.type "list",dict:=M,data:=.seq #[u,u] c,slots:=#[]} ->
 (∀v hp tk,P (argBest bt<|m-1) v->(∀b o,b ∉ wo->b≠C->s.heap.get? b=J o->hp.get? b=J o)->Z_ (.ok<|.ret v) {s with heap:=hp,toks:=tk}) ->
 codeAny (model prog w) A (.builtin "max.loop" ⟨[.ref qa,.none,.ref C],kw⟩) Z_ s:=by
 have jK:=λz=>hC<|W.sub _ z;intro d;induction d with
 |zero=>
  intro j s u c e1 e2 st pu hc hz;have em:j+1=m:=by omega
  refine codeAny_builtin PySem.F.entry_max_loop ?_;rw[Around.under_plainId YT _];show YB (model prog w) A.in1 (seqItems? (YD C) >>= _) _ _ s;refine Ya<|wpAny_seqItems hc rfl ?_;show YB (model prog w) A.in1 (tryCatch (pyNext<|YD qa) _ >>= _) _ _ s;refine Ya<|wpAny_tryCatch<|W.done s _ _ (em▸st) λhp tk kp=>?_;have cQ:=kp C _ jK hc;show YB (model prog w) A.in1 (updateSeq C (λ_=>#[]) >>= _) _ _ _;exact Ya (wpAny_updateSeq cQ rfl<|Ya<|wpAny_letGo<|Yd<|hz u _ tk (em▸pu) λb o b1 b2 e=>(YN _ _<|YL b2).I<|kp b o b1 e)
 |succ d ih=>
  intro j s u c e1 e2 st pu hc hz;have lt:j+1<m:=by omega
  refine codeAny_builtin PySem.F.entry_max_loop ?_;rw[Around.under_plainId YT _];show YB (model prog w) A.in1 (seqItems? (YD C) >>= _) _ _ s;refine Ya<|wpAny_seqItems hc rfl ?_;show YB (model prog w) A.in1 (tryCatch (pyNext<|YD qa) _ >>= _) _ _ s;refine Ya<|wpAny_tryCatch<|W.item (j+1) s _ _ lt st λv hp tk pv bJ kp=>?_;have cQ:=kp C _ jK hc;show YB (model prog w) A.in1 (tryCatch (holding [v,v]<|richCompare CmpOp.Gt v u >>= _) _ >>= _) _ _ _;refine Ya<|wpAny_tryCatch<|Wb<|Ya<|hb (j+1) (argBest bt j) v u _ _ _ pv pu<|Ya<|Wb<|wpAny_truthy_bool<|Ya<|wpAny_letGo<|Yd ?_;cases q:bt (j+1) (argBest bt j)with
  |true=>
   simp only;refine Ya<|wpAny_updateSeq cQ rfl<|Ya<|wpAny_letGo ?_;rw[nm];refine Yd ⟨plainId_quiet YT _,ih (j+1) _ v _ (by omega) lt (W.frame _ _ _ bJ λb b1 o e=>?_) (by simp only[argBest,q,if_true];exact pv) (YV _ cQ rfl) λv2 dr eR eX fg=>?_⟩
   . exact(YN _ _ (λz:C=b=>hC (by rw[z];exact b1))).I e
   . exact hz v2 dr eR eX λb o b1 b2 e=>fg b o b1 b2 ((YN _ _<|YL b2).I<|kp b o b1 e)
  |false=>simp only[OG,if_false];refine Ya<|wpAny_letGo ?_;rw[nm];exact Yd ⟨plainId_quiet YT _,ih (j+1) _ u c (by omega) lt bJ (by simp only[argBest,q,OG,if_false];exact pu) cQ λv2 dr eR eX fg=>hz v2 dr eR eX λb o b1 b2 e=>fg b o b1 b2<|kp b o b1 e⟩
def first(W:Walks prog w A.in1 qa fo wo m P S_)(bt)(hb:CmpOf prog w A.in1 .Gt P bt)(C)(hC:C ∉ fo)(dn)(dv)(st:S_ 0 s.heap)
 (hc:s.heap.get? C=J {cls:=.type "list",dict:=M,data:=.seq #[] c,slots:=#[]})
 (hz:∀v hp tk,(m=0->v=dv)->(0<m->P (argBest bt<|m-1) v)->(∀b o,b ∉ wo->b≠C->s.heap.get? b=J o->hp.get? b=J o)->Z_ (.ok<|.ret v) {s with heap:=hp,toks:=tk}) :
 codeAny (model prog w) A (.builtin "max.loop" ⟨[.ref qa,.none,.ref C],[(dn,dv)]⟩) Z_ s:=by
 refine codeAny_builtin PySem.F.entry_max_loop<|Ya<|wpAny_seqItems hc rfl ?_;show YB (model prog w) A.in1 (tryCatch (pyNext<|YD qa) _ >>= _) _ _ s;by_cases hm:0<m
 . refine Ya (wpAny_tryCatch<|W.item 0 s _ _ hm st λv hp tk pv bJ kp=>?_);have cQ:=kp C _ (λz=>hC<|W.sub _ z) hc;show YB (model prog w) A.in1 (updateSeq C (λ_=>#[v,v]) >>= _) _ _ _;refine Ya<|wpAny_updateSeq cQ rfl ?_;rw[nm];refine Yd ⟨plainId_quiet YT _,loop W bt hb C hC _ _ 0 _ v _ rfl hm (W.frame _ _ _ bJ λb b1 o e=>?_) pv (YV _ cQ rfl) λv2 dr eR eX fg=>?_⟩
   . exact(YN _ _ (λz:C=b=>hC<|z▸b1)).I e
   . exact hz v2 dr eR (λz=>by omega) (λ_=>eX) λb o b1 b2 e=>fg b o b1 b2 ((YN _ _<|YL b2).I<|kp b o b1 e)
 . have h0:m=0:=by omega
   exact Ya (wpAny_tryCatch<|W.done s _ _ (h0▸st) λhp tk kp=>Ya<|wpAny_rule<|Yd<|hz dv hp tk (λ_=>rfl) (λz=>absurd z hm) λb o b1 _ e=>kp b o b1 e)
end
section
variable {prog:Yi}{w:Yh}{A:YH}{E:Yk->Yb->Prop}{s:Yb}
def args(a d):argsOk "max" ⟨[a],[("default",d)]⟩:=rfl
theorem call
 (h:YB (model prog w) A.in1 (pyIter x) (λit s2=>∃qa fo wo m P S_ bt,it=.ref qa/\Walks prog w A.in1 qa fo wo m P S_/\S_ 0 s2.heap/\(∀b∈fo,b<s2.heap.objs.size)/\CmpOf prog w A.in1 .Gt P bt /\
  ∀v hp tk,(m=0->v=dv)->(0<m->P (argBest bt<|m-1) v)->(∀b o,b ∉ wo->s2.heap.get? b=J o->hp.get? b=J o)->Q v {s2 with heap:=hp,toks:=tk}) E s) :
 YB (model prog w) A (PySem.call (.builtin "max") [x] [("default",dv)]) Q E s:=by
 refine wpAny_call<|codeAny_call_builtin PySem.F.plain_max PySem.F.entry_max ?_;simp only[checkBuiltinCall,PySem.F.kind_max];have go:YB (model prog w) A.in1 (Builtin.«max» ⟨[x],[("default",dv)]⟩) (λfin s'=>match fin with
  |.done f=>(match Except.ok f with|.ok (.ret v)=>Q v s'|.ok _=>False|.error e=>E e s')
  |.again c'=>c'.quiet=Wq/\codeAny (model prog w) A c' (λr s'=>match r with|.ok (.ret v)=>Q v s'|.ok _=>False|.error e=>E e s') s') E s:=by
  show YB (model prog w) A.in1 (Builtin.Builtins.bindParams "max" ["key", "default"] 0 ⟨[],[("default",dv)]⟩ >>= _) _ _ s;refine Ya<|Wi (show Builtin.Builtins.bindParams "max" ["key", "default"] 0 ⟨[],[("default",dv)]⟩=pure [M,J dv]from rfl)<|Ya<|Yd<|Ya<|Yg h (λit s2 q=>?_) λ_ _ e=>e;obtain⟨qa,fo,wo,m,P,S_,bt,rfl,W,st,iK,hb,hQ⟩:=q;refine Ya<|Yr ?_;rw[nm];exact Yd ⟨plainId_quiet YT _,first W bt hb s2.heap.objs.size (λz=>Yw _<|iK _ z) _ dv (W.frame _ _ _ st λb _ o e=>Od _ e) (Oj _ rfl) λv hp tk a1 a2 kp=>hQ v hp tk a1 a2 λb o b1 e=>kp b o b1 (Ou<|Yn e)<|Od _ e⟩
 cases hs:Manifest.signature? "max" with
 |none=>exact Yd go
 |some sig=>have ha:=args x dv;simp only[argsOk,hs]at ha;show YB _ A.in1 (Bind.checkArgs "max" sig ⟨[x],[("default",dv)]⟩) _ _ s;rw[ha];exact Yd go
end
end Mx
end L2
namespace L2
open PySem PySem.Spec PyProof.Rows
set_option tactic.hygienic false
noncomputable def Zg8:List Int->Int->Int
 |[],d=>d
 |x::r,_=>r.foldl (λm y=>if y > m then y else m) x
theorem Zki(ns:List _):∀k,k<ns.length->(argBest (λi j=>Wu<|ns.getD i 0 > ns.getD j 0) k)<ns.length/\ns.getD (argBest (λi j=>Wu<|ns.getD i 0 > ns.getD j 0) k) 0=Zg8 (ns.take<|k+1) 0
 |0,h=>by
  cases ns with
  |nil=>simp_all
  |cons x r=>trivial
 |k+1,h=>by
  obtain⟨R,h2⟩:=Zki ns k (by lia);have e:Zg8 (ns.take<|k+1+1) 0=if ns.getD (k+1) 0 > Zg8 (ns.take<|k+1) 0 then ns.getD (k+1) 0 else Zg8 (ns.take<|k+1) 0:=by
   cases ns with
   |nil=>simp_all
   |cons x r=>
    have hk:=by simpa using h
    show((r.take _).foldl _ x)=_;rw[List.take_succ_eq_append_getElem _,List.foldl_append];have:(x::r).getD (k+1) 0=r[k]:=by simp_all
    rw[this];rfl
  rw[e,<-h2];have ea:argBest (λi j=>Wu<|ns.getD i 0 > ns.getD j 0) (k+1)=if decide _=Wq then k+1 else argBest _ k:=rfl;rw[ea];by_cases q:ns.getD (k+1) 0 > ns.getD (argBest (λi j=>Wu<|ns.getD i 0 > ns.getD j 0) k) 0
  . rw[if_pos<|decide_eq_true q,if_pos q];exact⟨h,rfl⟩
  . rw[if_neg<|by simpa using q,if_neg q];exact⟨R,rfl⟩
section
variable {X:Cx}
def ZrG(hc:X.calm=Wq)(I:Inv X aa Z H s)(hx:SqL X.K H a (ns.map V.int))(q:Q (.int<|Zg8 ns d) H):
 YB (model X.prog X.w) X.A (PySem.call (.builtin "max") [.ref a] [("default",.int d t)]) (EP X aa Z Q) X.xe s:=by
 obtain⟨its,rv,pl,hz⟩:=I.list hx;have aC:a<s.heap.objs.size:=by obtain⟨_,_,e,_⟩:=pl;exact Yn e
 have hl:=by have:=rv.length;rw[Yu]at this;exact this.symm
 have val:∀{i:Nat}{v:Yk},its.toArray[i]?=J v->i<ns.length/\∃t,v=.int (ns.getD i 0) t:=λ{i v} hv=>by
  have cq:its[i]?=J v:=by simpa using hv
  have hi:i<ns.length:=hl▸(Ob.mp cq).1;obtain⟨u',e',r'⟩:=rv.get (by rw[On,Og hi]<;>rfl);rw[cq]at e';cases e';obtain⟨t,rfl⟩:=r';exact⟨hi,t,by simp_all⟩
 refine Mx.call (wpAny_pyIter_list pl.isList ⟨s.heap.objs.size,_,_,_,_,_,λi j=>Wu<|ns.getD i 0 > ns.getD j 0,rfl,Walks.list (A:=X.A.in1) (show X.A.in1.handled=M from I.ok.hd hc) s.heap.objs.size a (Ou aC) its.toArray,⟨⟨_,Oj _ rfl,rfl,rfl⟩,pl.isList.push _⟩,?_,?_,λv hp tk a1 a2 kp=>?_⟩)
 . intro b hb;simpa[Heap.push]using by
    simp at hb;rcases hb with rfl|rfl
    . exact OH _
    . exact Nat.lt_succ_of_lt aC
 . exact CmpOf.ints_gt (λi=>ns.getD i 0) λi v hv=>(val hv).2
 . refine⟨.int<|Zg8 ns d,H,I.kept λb o e=>kp b o (λz=>?_)<|Od _ e,?_,q⟩
   . have:b=s.heap.objs.size:=by simpa using z
     subst this;exact absurd (Yn e) (Yw _)
   . have aR:its.toArray.size=ns.length:=by rw[Of,hl]
     by_cases h0:ns=[]
     . subst h0;have:=a1 (by rw[aR];rfl);subst this;exact⟨t,rfl⟩
     . have lA:0<ns.length:=List.length_pos_iff.mpr h0;obtain⟨_,t3,ev⟩:=val<|a2<|aR▸lA;refine⟨t3,?_⟩;rw[ev,aR,(Zki ns (ns.length-1)<|by omega).2,List.take_of_length_le<|by omega];cases ns with
       |nil=>exact absurd rfl h0
       |cons x r=>rfl
def ZyF(K:Yl)(ta tb:TE):TE:=λZ H Q=>ta Z H λv H1=>tb Z H1 λu H2=>∃a b d,v=.ref a/\u=.int d/\SqL K H2 a (b.map V.int)/\Q (.int<|Zg8 b d) H2
def Ztu(hg:Gl X "max")(hm:X.mg "max"=M)(hc:X.calm=Wq)(ha:PE X x ta)(hb:PE X y tb)(he:YA [x] X.env=[(Ws,eval x X.env)]):
 PE X (.Call (.Name "max" p) [x] [⟨J "default",y,kp⟩] pos) (ZyF X.K ta tb):=by
 intro k s Z H Q I h;refine YW (ZcK I hg hm boot_max<|PyProof.Rows.callWith_kw ?_ (by rw[he];rfl) (by rw[he];rfl));rw[he];refine Calls.spliced_cons<|thn (ha _ s _ H _ I h) λv c b=>?_;obtain⟨l,H1,I1,e,f⟩:=b;refine Calls.spliced_nil<|kws_cons<|thn (hb _ c Z H1 _ I1 f) λu m b=>?_;obtain⟨n,H2,I2,g,i⟩:=b;refine kws_nil ?_;obtain⟨a,o,d,rfl,rfl,j,q⟩:=i;cases e;obtain⟨t,rfl⟩:=g;exact ZrG hc I2 j q
end
end L2
namespace L2
open PySem PySem.Spec PyProof PyProof.Rows PySem.AutoSeq1
set_option maxRecDepth 8000 in
def Znu(l:Yj)(items:Array Yk)(n:Nat)(b:Yj)(aJ:Array Yk)(n2:Nat)(od:Option Yj)(sl:Array (Option Yk))(nF:¬(!items.isEmpty&&Wj (items.size+aJ.size))=Wq)(lx:items.size<=Yc)(eG:items.size+aJ.size<=Yc+1):
 Meets (Builtin.«list.extend» ⟨[.ref l,.ref b],[]⟩) (λ_ qd s=>s.heap.get? l=J {cls:=.type "list",dict:=M,data:=.seq items n,slots:=#[]}/\s.heap.get? b=J {cls:=.type "tuple",dict:=od,data:=.seq aJ n2,slots:=sl}/\qd (.ok<|.ret Value.none) {s with heap:=s.heap.update l<|Obj.mapSeq λx=>x++aJ,toks:=s.toks}):=
 .of_wp λprog w A qd s h=>by
  obtain⟨hp,g,d,tk,os⟩:=s;obtain⟨hl,hb,h⟩:=h;have f1:=idx_int;have f2:=AutoSeq1.sub_tuple_tuple;have f3:=AutoSeq1.sub_list_list;have f4:=AutoSeq1.sub_tuple_list;have f5:=AutoSeq1.sub_list_tuple;have jv:(items++aJ).size<=Yc+1:=by rw[Array.size_append];exact eG
  wp_walk using (wpAny_updateSeq hl rfl (hz:=lx) (_hz':=jv)),wpAny_loadPart' hl,wpAny_loadPart' hb;exact⟨_,rfl,h⟩
section
variable {X:Cx}
def ZqY(K:Yl):V->List V->Hp->VK->Prop:=λx vs H Q=>∃l b xs a,x=.ref l/\vs=[.ref b]/\H l=J (.lst xs)/\SqT K H b a/\xs.length+a.length<=Yc/\Q .non (upd H l<|.lst<|xs++a)
theorem Znb:MtM X "list.extend" (ZqY X.K):=by
 rintro aa s Z H x vs v us Q I rx rv⟨l,b,xs,zs,rfl,rfl,hH,hB,hz,q⟩;cases rx;obtain⟨u,rfl,ru⟩:=rv.one;cases ru;obtain⟨z,its,n,r,hl,e⟩:=I.lstM hH;obtain⟨be,r2,⟨o,e2,oc,n2,od⟩,z2⟩:=I.tuple hB;obtain⟨cls,dc,nZ,sl⟩:=o;subst oc;subst od;have bV:=r2.length;have aR:its.toArray.size+be.toArray.size<=Yc:=by simp_all
 refine call_meets F.slot_list_extend ⟨_,e,rfl⟩ F.entry_list_extend (F.args_list_extend_2 _ _)
   (Znu l _ n b _ _ _ _ (by
   rw [ZlL aR];simp) (by simp_all) (by lia)) ⟨e,e2,⟨.non,_,I.lset hH e (by simp) (r.append r2) ?_,rfl,q⟩⟩
 simp_all
end
end L2
namespace L2
open PySem PySem.Spec PyProof.Rows
noncomputable def Zx2(K:Yl)(a:Yj)(n:Nat):It:=⟨λi H=>∃b x,SqL K H a b/\b.length=n/\b.reverse[i]?=J x,λi H x H'=>H'=H/\∀b,SqL K H a b->b.reverse[i]?=J x,λi H=>∃b,SqL K H a b/\b.length=n/\n=i⟩
def Zpj{P}{w}{K}{tg}(a it)(n):Turn P w K tg (Zx2 K a n) [it] it (λi h=>i<=n/\h.IsRevIter it a (n-1-i)) where
 mem:=by simp
 obj:=λi h st b f=>by
  have e:=by simpa using f
  subst e;obtain⟨_,o,e,c,d⟩:=st
  simp_all
 keep:=λi h j st k=>⟨st.1,st.2.at λo e=>k _ (by simp) o e⟩
 item:=by
  intro X l hw m y i D s Z H E I hf st q;subst l hw m;obtain⟨U,st⟩:=st;obtain⟨xs,x,r,z,g⟩:=q;obtain⟨F,A,p,V⟩:=I.list r;have W:=A.length;have G:i<xs.length:=by simpa using (Ob.mp g).1
  have L:xs[n-1-i]?=J x:=by rw[List.getElem?_reverse G]at g;rw[<-z];exact g
  obtain⟨u,N,O⟩:=A.get L;obtain⟨f0,f1,f2,t,f4,v⟩:=hf it (by simp);have Q:(n)-1-(i)=((n-1-i:Nat):Int):=by lia
  rw[Q]at st;refine wpAny_pyNext_rev_item st p.isList (x:=u) (by simpa using N) λj B sb=>?_;obtain⟨o,e,c,d⟩:=id B;have R:((n-1-i:Nat))-1=(n)-1-((i+1:Nat):Int):=by lia
  exact⟨u,rfl,Zj0 (s:={s with heap:=j}) e c d (by decide) ⟨x,H,I.turned (t':=s.toks) (λb o f e=>(sb.2 b f).I e) f0 f1 t f4 v,O,⟨rfl,λY S=>I.list_inj S r▸g⟩,⟨by lia,R▸B⟩,λb f=>(hf b f).1⟩⟩
 done:=by intro X l hw m y i D s Z H E I hf st q;subst l hw m;obtain⟨xs,r,z,g⟩:=q;obtain⟨f0,f1,f2,t,f4,v⟩:=hf it (by simp);have C:=st.2;rw[show(n:Int)-1-(i:Nat)=-1 by lia]at C;exact wpAny_pyNext_rev_end (I.ok.hd y) C λj T=>⟨rfl,I.turned (t':=s.toks) (λb o f e=>T b o f e) f0 f1 t f4 v⟩
 self:=λ_ _ _ _ _ st h=>wpAny_pyIter_revIter st.2 h
def ZzV(K:Yl)(ta:TA):TI:=λZ H qd=>ta Z H λvs H1=>∃a b,vs=[.ref a]/\((SqT K H1 a b/\qd (Itv K a b.length) H1)\/(SqL K H1 a b/\qd (Zx2 K a b.length) H1))
def Ztr{X}{tg l}{ta}{p pos}(hg:Gl X "reversed")(hm:X.mg "reversed"=M)(ha:PA X [l] ta)(hs:YA [l] X.env=[(Ws,eval l X.env)]:=by rfl):
 PI X tg (.Call (.Name "reversed" p) [l] [] pos) (ZzV X.K ta):=by
 intro y s Z H qd I h;refine Call_<|ZcK I hg hm boot_reversed<|PyProof.Rows.callWith_type1 (thn (ha _ _ s _ H _ I h) λz c n=>?_) hs rfl;obtain⟨vs,H1,I1,r,t⟩:=n;obtain⟨a,f,rfl,q⟩:=t;obtain⟨u,rfl,v⟩:=vals1 r;obtain rfl:u=YD a:=v;rcases q with⟨g,q⟩|⟨g,q⟩
 . obtain⟨d,i,j,w⟩:=I1.tuple g;have x:=i.length;refine Rv.call j (by simp;lia) ?_;have k:(d.toArray.size)-1=(f.length)-1-((0:Nat):Int):=by simp;lia
   have st:Rv.Is (c.heap.push<|Rv.obj a<|(d.toArray.size)-1) c.heap.objs.size a ((f.length)-1-((0:Nat))):=⟨_,Oj _ rfl,rfl,by rw[<-k];rfl⟩
   refine Rv.Zhb st ⟨c.heap.objs.size,[c.heap.objs.size],_,_,H1,rfl,I1.kept (t':=c.toks+1+1) λb o e=>Od _ e,Zqv a _ f.length,⟨Yy _,st⟩,λb m=>?_,q⟩;have e:b=c.heap.objs.size:=by simpa using m
   subst e;exact I1.fpOk (Oq _) (I1.hok.fresh<|Oq _)
 . obtain⟨d,i,j,w⟩:=I1.list g;have x:=i.length;refine call_reversed_list j.isList ?_;have k:(d.toArray.size)-1=(f.length)-1-((0:Nat):Int):=by simp;lia
   have st:(c.heap.push<|revObj a<|(d.toArray.size)-1).IsRevIter c.heap.objs.size a ((f.length)-1-((0:Nat))):=⟨_,Oj _ rfl,rfl,by rw[<-k];rfl⟩
   refine wpAny_pyIter_revIter st ⟨c.heap.objs.size,[c.heap.objs.size],_,_,H1,rfl,I1.kept (t':=c.toks) λb o e=>Od _ e,Zpj a _ f.length,⟨Yy _,st⟩,λb m=>?_,q⟩;have e:b=c.heap.objs.size:=by simpa using m
   subst e;exact I1.fpOk (Oq _) (I1.hok.fresh<|Oq _)
set_option tactic.hygienic false
namespace Rv
def Zxl:Slot "reversed" "__length_hint__" "reversed.__length_hint__" :=
 .of (owner := "reversed") (n := "__length_hint__") (rfl) (rfl) (rfl) (rfl) (by first|exact .inl (by decide +kernel)|exact .inr (by decide +kernel)) (by rw[isSubtype_type]<;>kernel_rfl)
def Zz7:entryFor table "reversed.__length_hint__"=J Builtin.«reversed.__length_hint__»:=entryFor_of_tree (rfl)
def ZAr(a):argsOk "reversed.__length_hint__" ⟨[a],[]⟩:=by unfold argsOk;rw[signature?_of (n:=['_','_','t','n','i','h','_','h','t','g','n','e','l','_','_']) (rfl) own];trivial
def Zzr:typeLookup (.type "reversed") "__len__"=pure M:=by rw[typeLookup_type]<;>kernel_rfl
section
variable {prog:Yi}{w:Yh}{A:YH}{E:Yk->Yb->Prop}{s:Yb}
def walks(hh:A.handled=M)(I l)(dD:l≠I)(items)(hz:items.size<=Yc):
 Walks prog w A I [I,l] [I] items.size (λi v=>items[items.size-1-i]?=J v) (λi h=>i<=items.size/\Is h I l (items.size-1-i)/\IsTup h l items) where
 sub:=λb hb=>by simp_all
 frame:=λ_ _ _ x hk=>⟨x.1,x.2.1.at λo e=>hk I (by simp) o e,let⟨o,e,r⟩:=x.2.2;⟨o,hk l (by simp) o e,r⟩⟩
 item:=λi s Q E hi x hQ=>by have ay:=x.2.1;rw[show(items.size)-1-(i)=((items.size-1-i:Nat):Int) by lia]at ay;refine next_item ay x.2.2 hz (Array.getElem?_eq_getElem<|by lia) λh' t' bE b7=>?_;rw[show((items.size-1-i:Nat))-1=(items.size)-1-((i+1):Int) by lia]at bE;exact hQ _ h' t' (Array.getElem?_eq_getElem<|by lia) ⟨hi,bE,let⟨o,e,r⟩:=x.2.2;⟨o,(b7.2 l dD).I e,r⟩⟩ λb o hb eo=>b7.extBut b o (λh=>hb<|by simp[h]) eo
 done:=λs Q E x hQ=>by have ay:=x.2.1;rw[show(items.size)-1-(items.size:Int)=-1 by lia]at ay;exact next_end hh ay λh' mf=>hQ h' s.toks λb o hb eo=>mf b o (λh=>hb<|by simp[h]) eo
 self:=λ_ _ _ _ x hQ=>Zhb x.2.1 hQ
def Zug(ay:Is s.heap it l (items.size-1))(hl:IsTup s.heap l items)(hz:items.size<=Yc)
 (hQ:∀u tk,s.toks<=tk->Q (.int items.size u) {s with toks:=tk}):YB (model prog w) A (PySem.call (.builtin "reversed.__length_hint__") [.ref it]) Q E s:=by
 obtain⟨o,ho,hc,hd⟩:=id ay;refine Wc Zxl ay.typeIs Zz7 (Ya<|Wi (a:=YD _) rfl<|Ya<|YR ho hd (x:=.ref l) rfl<|Ya<|len_tuple hl (by have:=ZcJ;lia)<|Ya (m:=asInt? _)<|Yd ?_)<|ZAr _;dsimp only;refine Ya<|YR ho hd (x:=rawInt _) rfl ?_;show YB _ _ (if (items.size)<(items.size:Int)-1+1 then _ else _) _ _ _;rw[if_neg<|by lia,show(items.size:Int)-1+1=items.size by lia];unfold retInt;exact Ya (wpAny_mkInt<|Yd ⟨_,rfl,hQ _ _ (by simp only;lia)⟩)
def Zxk:typeLookup (.type "reversed") "__length_hint__"=pure (J<|.builtin "reversed.__length_hint__"):=Zxl.lookup
end
end Rv
set_option tactic.hygienic true
namespace Tx
noncomputable def place(x:Str):List Str->Option Nat
 |[]=>M
 |y::r=>if y=x then J 0 else(place x r).map (·+1)
end Tx
def Zic(K:Yl):Bool:=K.all λp=>!Wu (p.2.cls=.type "tuple")||p.2.dict.isNone
end L2
namespace L2
open PySem PySem.Spec PyProof.Rows
open PySem.AutoSeq1 (wpAny_loadPart')
namespace En1
section
variable {prog:Yi}{w:Yh}{A:YH}{E:Yk->Yb->Prop}{s:Yb}
def Zn2(st:s.heap.IsTupleIter qa T k)(tt:s.heap.IsTuple T us)(hy:us[k]?=J y)
 (q:∀R,R.IsTupleIter qa T (k+1)->Heap.SameBut qa s.heap R->Q y {s with heap:=R}):YB (model prog w) A (Builtin.SmallTypes.nextOf<|.ref qa) Q E s:=by
 obtain⟨ob,g1,g2,g3⟩:=id st;obtain⟨ot,g4,_,m,g5⟩:=tt;refine Ya (YY st.typeIs F.slot_tuple_iterator_next<|Wc F.slot_tuple_iterator_next st.typeIs F.entry_tuple_iterator_next ?g<|F.args_tuple_iterator_next_1 _)
 case g=>show YB _ _ (field _ 0 >>= _) _ _ s;refine Ya<|YR g1 g3 (x:=.ref T) rfl<|Ya<|YR g1 g3 rfl<|Ya<|wpAny_seqItems g4 g5 ?_;simp[hy];exact Ya (wpAny_setField g1 g3 (by simp)<|Yd ⟨y,rfl,Yd<|q _ ⟨_,YV _ g1<|Obj.isFreed_of_fields<|YX g3 _,(Obj.cls_mapFields ..).I g2,by rw[YX g3];trivial⟩<|Heap.SameBut.update ..⟩)
def ZvR(calm:A.handled=M)(st:s.heap.IsTupleIter qa T k)(tt:s.heap.IsTuple T us)(hy:us[k]?=M)
 (q:∀R x,Heap.ExtBut qa s.heap R->(∃ob,R.get? x=J ob/\ob.cls=.type "StopIteration")->E (.ref x) {s with heap:=R}):YB (model prog w) A (Builtin.SmallTypes.nextOf<|.ref qa) Q E s:=by
 obtain⟨ob,g1,g2,g3⟩:=id st;obtain⟨ot,g4,_,m,g5⟩:=tt;refine Ya (YY st.typeIs F.slot_tuple_iterator_next<|Wc F.slot_tuple_iterator_next st.typeIs F.entry_tuple_iterator_next ?g<|F.args_tuple_iterator_next_1 _)
 case g=>
  show YB _ _ (field (.ref qa) 0 >>= _) _ _ s;refine Ya<|YR g1 g3 (x:=.ref T) rfl<|Ya<|YR g1 g3 (x:=.int k 0) rfl<|Ya<|wpAny_seqItems g4 g5 ?_;simp only[Int.toNat_natCast,hy];refine Ya (wpAny_rule<|Ya<|wpAny_setField g1 g3 (by simp)<|Ya ?_);simp only[newExc,newTuple];refine Ya (Yr (Ya (m:=firstArgMember _ _)<|Wi (a:=Value.none) (by first|rfl|(simp only ;rfl))<|Yr ?_<|by size_fits)<|by size_fits);simp only;refine Ya (wpAny_handled ?_)
  first|rw[show A.in1.handled=M from calm]|rw[calm]
  exact Ya (Yd<|wpAny_throw<|q _ _ (((Heap.SameBut.update ..).extBut.push _).push _) ⟨_,Oj _ rfl,rfl⟩)
end
end En1
end L2
namespace L2
open PySem PySem.Spec PyProof.Rows
section
variable {X:Cx}{aa:List (Yj×Obj)}{Z:St}{H:Hp}{s:Yb}
def Inv.freeze(I:Inv X aa Z H s)(e:H a=J (.dK kvs))(ho:s.heap.get? a=J o):Inv X aa Z (upd H a<|.frz o<|.dK kvs) s:=by
 have ne:∀b,(∀kvs,H b≠J _)->b≠a:=λb q z=>q _<|z▸e;refine I.un ⟨λb u q n _ _=>q,λb u q n _ _=>⟨_,q⟩,λb u q n _=>?_,λb u q _=>⟨u,q⟩,λb c q=>?_,λb u v q=>?_,λb ps q=>⟨#[],?_⟩⟩ ?_
 . rw[Zo<|ne b λk z=>by simp_all];exact n
 . rw[Zo<|ne b λk z=>by simp_all];exact q
 . rw[Zo<|ne b λk z=>by simp_all];exact q
 . rw[Zo<|ne b λk z=>by simp_all,q];simp
 . exact I.hok.write (by rw[e];trivial) (.inl rfl) (λb u _ q=>q) ⟨o,ho⟩ ⟨ho,I.hok a _ e⟩
end
def Zub(h:ZiE k u=Wq):RelV (kV k) u:=by
 rcases ZK h with⟨i,t,rfl,rfl⟩|⟨x,t,rfl,rfl⟩
 . exact⟨t,rfl⟩
 . exact⟨t,rfl⟩
theorem ZoH:∀{kvs:List (Key×V)}{vs:List (Key×Yk)},KV kvs vs->kvs.map (·.1)=vs.map (·.1)
 |_,_,.nil=>rfl
 |_,_,.cons h t=>by rw[Op,Op,ZoH t,h.1]
def Itd(a:Yj)(o:Obj)(kvs:List (Key×V)):It:=⟨λi H=>H a=J (.frz o<|.dK kvs)/\i<kvs.length,λi H x H'=>H'=H/\∃k v,kvs[i]?=J (k,v)/\x=kV k,λi H=>H a=J (.frz o<|.dK kvs)/\kvs.length<=i⟩
theorem ZsQ{P}{w}{K}{tg}(a it)(o)(kvs)(es)(ep)(hd:o.data=.dict es ep):Turn P w K tg (Itd a o kvs) [it] it (λi h=>h.IsKeyIter it a i kvs.length ep) where
 mem:=by simp
 obj:=λi h st b f=>by
   have e:=by simpa using f
   subst e;obtain⟨o,e,c,d⟩:=st
   simp_all
 keep:=λi h r st k=>st.at λo e=>k it (by simp) o e
 item:=by
   intro X t hw u G i L s Z H E I hf st x;subst t hw u;obtain⟨y,g⟩:=x;obtain⟨g1,N,O,vs,m,Q,R,S,g2,z,j,A,B,C⟩:=I.hok a _ y;rw [g1] at g2;cases g2;rw [hd] at j;cases j;have n:=m.length;have p:i<vs.length:=by lia
   obtain⟨f0,f1,f2,D,f4,F⟩:=hf it (by simp);refine wpAny_pyNext_dict_item (knd:=ZH X.prog X.w) (kvs:=vs) (k:=(vs[i]'p).1) (v:=(vs[i]'p).2) (n▸st) ⟨o,es,g1,z,hd,A,B,C⟩ (by simp [p]) λkey r T J U=>?_;obtain⟨W,e,c,d⟩:=id J;exact⟨key,rfl,Zj0 (s:={s with heap:=r}) e c d (by decide) ⟨kV (kvs[i]'g).1,H,I.turned (t':=s.toks) (λb o f e=>(U.2 b f).I e) f0 f1 D f4 F,by
     have q:=congrArg (λl=>l[i]?)<|ZoH m;simp only [On,Og g,Og p,Yv] at q;exact YF q▸Zub T,⟨rfl,(kvs[i]'g).1,(kvs[i]'g).2,by simp [g],rfl⟩,n▸J,λb f=>(hf b f).1⟩⟩
 done:=by
   intro X t hw u G i L s Z H E I hf st x;subst t hw u;obtain⟨y,g⟩:=x;obtain⟨g1,N,O,vs,m,Q,R,S,g2,z,j,A,B,C⟩:=I.hok a _ y;rw [g1] at g2;cases g2;rw [hd] at j;cases j;have n:=m.length;obtain⟨f0,f1,f2,D,f4,F⟩:=hf it (by simp);exact wpAny_pyNext_dict_end (knd:=ZH X.prog X.w) (kvs:=vs) (I.ok.hd G) (n▸st) ⟨o,es,g1,z,hd,A,B,C⟩ (by simp;lia) λr V=>⟨rfl,I.turned (t':=s.toks) (λb o f e=>V b o f e) f0 f1 D f4 F⟩
 self:=λ_ _ _ _ _ st h=>wpAny_pyIter_keyiter st h
def iDk(tl:TE):TI:=λZ H qd=>tl Z H λx H1=>∃a b,x=.ref a/\((H1 a=J (.dK b)/\∀o,qd (Itd a o b)<|upd H1 a<|.frz o<|.dK b)\/∃o,H1 a=J (.frz o<|.dK b)/\qd (Itd a o b) H1)
def Zzb{X}{tg l}{tl}(hl:PE X l tl):PI X tg l (iDk tl):=by
 intro aa s Z H qd I h;refine thn (hl _ s _ H _ I h) λv s1 z9=>?_;obtain⟨x,H1,I1,r1,q1⟩:=z9;obtain⟨a,kvs,rfl,q⟩:=q1;cases r1;have main:∀(o) (H2),Inv X aa Z H2 s1->H2 a=J (.frz o<|.dK kvs)->qd (Itd a o kvs) H2->YB (model X.prog X.w) X.A (pyIter<|.ref a) (PIE X aa Z tg qd) X.xe s1:=by
  intro o H2 I2 ea hR;obtain⟨g1,hz,gr,vs,rv,o2,es,ep,g2,x1,x2,x3,x4,x5⟩:=I2.hok a _ ea;rw[g1]at g2;cases g2;refine wpAny_pyIter_dict gr ⟨o,_,g1,x1,x2,x3,x4,x5⟩ ⟨_,_,_,_,_,rfl,I2.kept λb o e=>Od _ e,ZsQ a _ o _ _ _ x2,⟨_,Oj _ rfl,rfl,by rw[rv.length];rfl⟩,λb hb=>?_,hR⟩;have e:=by simpa using hb
  subst e;exact I2.fpOk (Oq _) (I2.hok.fresh<|Oq _)
 rcases q with⟨ea,hR⟩|⟨o,ea,hR⟩
 . obtain⟨hz,gr,vs,rv,o,es,ep,g2,r⟩:=I1.hok a _ ea;exact main o _ (I1.freeze ea g2) Zj (hR o)
 . exact main o _ I1 ea hR
namespace Rv
section
variable {prog:Yi}{w:Yh}{A:YH}{E:Yk->Yb->Prop}{s:Yb}
def ext(hh:A.handled=M)(ay:Is s.heap I l ((items.size:Int)-1))(hl:IsTup s.heap l items)(dD:l≠I)(hz:items.size<=Yc)(fP:S_≠I)(gz:S_≠l)(res:Yk)(c₀:Nat)(iW:s.heap.get? S_=J {cls:=.type "list",data:=.seq #[] c₀})
 (hR:∀s' ai c,Moved [S_,I] (λa b=>b=a) s s'->s'.heap.get? S_=J {cls:=.type "list",dict:=M,data:=.seq ai c,slots:=#[]}->ItemsOf (λi v=>items[items.size-1-i]?=J v) ai items.size->qd (.ok<|.ret res) s') :
 YB (model prog w) A.in1 (Builtin.List.listExtendWith (.ref S_) (.ref I) res)
  (λfin s'=>match fin with|.done f=>qd (.ok f) s'|.again c'=>c'.quiet=Wq/\codeAny (model prog w) A c' qd s') (λe s'=>qd (.error e) s') s:=by
 have W:=(walks (prog:=prog) (w:=w) (A:=A.in1) hh I l dD items hz).toS;have hst:0<=items.size/\Is s.heap I l ((items.size:Int)-1-((0:Nat):Int))/\IsTup s.heap l items:=⟨Yy _,by simpa using ay,hl⟩
 have jI:S_ ∉ [I,l]:=by simp only[O2,List.not_mem_nil,or_false,not_or];exact⟨fP,gz⟩
 have key:∀(s2:Yb) (c₁:Nat),Moved [S_] (λa b=>b=a) s s2->(0<=items.size/\Is s2.heap I l ((items.size:Int)-1-((0:Nat):Int))/\IsTup s2.heap l items)->s2.heap.get? S_=J {cls:=.type "list",dict:=M,data:=.seq #[] c₁,slots:=#[]}->codeAny (model prog w) A (.builtin "list.extend.loop" ⟨[.ref S_,.ref I,res],[]⟩) qd s2:=by intro s2 c₁ m2 dq eL;refine codeAny_extend_loopS W hz S_ jI res items.size 0 _ #[] c₁ rfl (Yy _) dq eL (ItemsOf.nil _) λs' ja c' hm fQ aq=>?_;refine hR s' ja c' ⟨λb o hb e=>hm.heap b o hb<|m2.heap b o (λh=>hb (by rw[Ox.mp h];exact Oi)) e,hm.gens.I m2.gens,hm.drawn.I m2.drawn,hm.os.I m2.os,OE m2.toks hm.toks⟩ fQ aq
 have e1:Builtin.List.listSameRef (.ref S_) (.ref I)=Ws:=by simp[Builtin.List.listSameRef,fP]
 have hT:Shared.TypeIs s (.ref I) "reversed" := ay.typeIs;unfold Builtin.List.listExtendWith;refine Ya<|wpAny_typeOf hT ?_;rw[if_neg (by rw[e1];decide)];refine Ya<|W.self 0 _ _ _ hst<|Ya<|Wb ?_;unfold Builtin.List.listLengthHint;refine Ya<|wpAny_specialOf hT Zzr ?_;show YB _ A.in1 (specialOf (YD I) (O "__length_hint__") >>= _) _ _ _;refine Ya<|wpAny_specialOf hT Zxk ?_;have bQ:splitId "reversed.__length_hint__"=J ("reversed", "__length_hint__"):=by decide +kernel
 dsimp only;rw[bQ];dsimp only;refine Ya<|wpAny_isInstance (b:=true) hT Zn5 ?_;rw[if_neg<|by decide,if_neg<|by decide +kernel];refine Ya<|wpAny_rule<|Ya<|Wi (Zxl.bind _) ?_;dsimp only;refine Ya (wpAny_attempt<|Zug (by simpa using hst.2.1) hst.2.2 hz λu tk ii=>?_);dsimp only;have ea:asInt? (Value.int (items.size:Int) u)=pure (J (items.size:Int)):=rfl;rw[ea];clear ea;generalize hk:(items.size:Int)=kk;refine Ya ?_;refine Yd ?_;dsimp only;have l1:Builtin.List.listFitsIndex kk=Wq:=by
  have:=ZcJ;unfold Builtin.List.listFitsIndex;rw[Oa,decide_eq_true_iff,decide_eq_true_iff]
  lia
 have l2:Wj kk.toNat=Ws:=by
  unfold Wj;rw[decide_eq_false_iff_not]
  lia
 rw[if_neg (by rw[l1];decide),if_neg<|by lia,if_neg (by rw[l2];decide)];refine Yd ?_;have m0:Moved [S_] (λa b=>b=a) s {s with toks:=tk}:=⟨λb o _ e=>e,rfl,rfl,rfl,ii⟩
 refine wpAny_ite_split (λ_=>?_)<|λ_=>Yd ⟨plainId_quiet F.plain_extend_loop _,key _ c₀ m0 hst iW⟩;refine Ya<|wpAny_rule<|Ya ?_;show YB _ A.in1 (updateSeq S_ (·.push .none) >>= λ_=>updateSeq S_ (·.pop)) _ _ _;refine Ya<|wpAny_updateSeq iW rfl ?_;have eL:=YV (Obj.mapSeq (·.push Value.none)) iW rfl;refine wpAny_updateSeq (hz:=by seq_fits) eL rfl ?_;have mz:=YV (Obj.mapSeq (·.pop)) eL rfl;have eF:∀b o,b≠S_->s.heap.get? b=J o->((s.heap.update S_ (Obj.mapSeq (·.push Value.none))).update S_ (Obj.mapSeq (·.pop))).get? b=J o:=λb o hb e=>(YN _ _<|YL hb).I ((YN _ _<|YL hb).I e)
 have dq:=W.frame 0 s _ tk hst ii λb hb o e=>eF b o (λh=>jI<|h▸hb) e;refine Yd ⟨plainId_quiet F.plain_extend_loop _,key _ _ ⟨λb o hb e=>eF b o (λh=>hb<|h▸Oi) e,rfl,rfl,rfl,ii⟩ dq mz⟩
def ZzG(hh:A.handled=M)(ay:Is s.heap I l ((items.size:Int)-1))(hl:IsTup s.heap l items)(dD:l≠I)(hz:items.size<=Yc)(fP:S_≠I)(gz:S_≠l)(hS:s.heap.get? S_=J {cls:=.type "list",data:=.seq #[]})
 (hR:∀s' ai c,Moved [S_,I] (λa b=>b=a) s s'->s'.heap.get? S_=J {cls:=.type "list",dict:=M,data:=.seq ai c,slots:=#[]}->ItemsOf (λi v=>items[items.size-1-i]?=J v) ai items.size->qd (.ok<|.ret .none) s') :
 YB (model prog w) A.in1 (Builtin.«list.__init__» ⟨[.ref S_,.ref I],[]⟩)
  (λfin s'=>match fin with|.done f=>qd (.ok f) s'|.again c'=>c'.quiet=Wq/\codeAny (model prog w) A c' qd s') (λe s'=>qd (.error e) s') s:=by
 show YB _ _ (do let old <- Builtin.List.listItems (.ref S_);Builtin.List.listUpdate (.ref S_)<|λ_=>#[];letGo old.toList.reverse;Builtin.List.listExtendWith (.ref S_) (.ref I) .none) _ _ s;refine Ya ?_;unfold Builtin.List.listItems;refine Ya<|wpAny_seqItems hS rfl<|Yd ?_;show YB _ _ (updateSeq S_ (λ_=>#[]) >>= λ_=>letGo (#[]:Array Yk).toList.reverse >>= λ_=>Builtin.List.listExtendWith (.ref S_) (.ref I) .none) _ _ s;refine Ya<|wpAny_updateSeq hS rfl ?_;have eL:=YV (Obj.mapSeq<|λ_=>(#[]:Array Yk)) hS rfl;have eF:∀b o,b≠S_->s.heap.get? b=J o->(s.heap.update S_<|Obj.mapSeq<|λ_=>(#[]:Array Yk)).get? b=J o:=λb o hb e=>(YN _ _<|YL hb).I e
 refine Ya<|wpAny_letGo ?_;refine ext (l:=l) (items:=items) hh (ay.at λo e=>eF I o (YL fP) e) (let⟨o,e,r⟩:=hl;⟨o,eF l o (YL gz) e,r⟩) dD hz fP gz .none _ eL λs' ai c hm fQ aq=>hR s' ai c ⟨λb o hb e=>hm.heap b o hb<|eF b o (λh=>hb<|h▸Oi) e,hm.gens,hm.drawn,hm.os,hm.toks⟩ fQ aq
def Zt6(hh:A.handled=M)(ay:Is s.heap I l (items.size-1))(hl:IsTup s.heap l items)(dD:l≠I)(hz:items.size<=Yc)
 (hQ:∀s' ai c,(∀b o,b≠I->s.heap.get? b=J o->s'.heap.get? b=J o)->s'={s with heap:=s'.heap,toks:=s'.toks}->s'.heap.get? s.heap.objs.size=J {cls:=.type "list",dict:=M,data:=.seq ai c,slots:=#[]}->ItemsOf (λi v=>items[items.size-1-i]?=J v) ai items.size->Q (.ref s.heap.objs.size) s') :
 YB (model prog w) A (PySem.call (.type "list") [.ref I]) Q E s:=by
 refine callType_codes (Q₁:=λobj s₁=>obj=.ref s.heap.objs.size/\s₁={s with heap:=s.heap.push {cls:=.type "list",data:=.seq #[]}}) PySem.F.called_list (PySem.F.typeCall_list_1 _) PySem.F.entry_list_init
  (code_list_new _ ⟨rfl,rfl⟩) λobj s₁ h₁=>?_
 obtain⟨rfl,rfl⟩:=h₁;refine⟨⟨_,Oj _ rfl,rfl⟩,PySem.F.args_list_init_2 _ _,ZzG (A:=A.in1) (l:=l) (items:=items) hh (ay.at λo e=>Od _ e) (let⟨o,e,r⟩:=hl;⟨o,Od _ e,r⟩) dD hz (Nat.ne_of_gt (by obtain⟨o,ho,_⟩:=ay;exact Yn ho)) (Nat.ne_of_gt (by obtain⟨o,ho,_⟩:=hl;exact Yn ho)) (Oj _ rfl) λs' ai c hm fQ aq=>⟨rfl,hQ s' ai c (λb o hb e=>hm.heap b o (λh=>?_)<|Od _ e) ?_ fQ aq⟩⟩
 . rcases O2.mp h with q|q
   . exact absurd (Yn e) (q▸Yw _)
   . exact hb (Ox.mp q)
 . rw[Moved.eq_with hm]
end
end Rv
def ZsW(K:Yl)(ta:TA):TE:=λZ H Q=>ta Z H λvs H1=>∃a b,vs=[.ref a]/\SqT K H1 a b/\∀p,H1 p=M->Q (.ref p) (upd H1 p<|.lst b.reverse)
theorem ZpC (hc:X.calm=Wq) (lZ:Gl X "list") (lO:X.mg "list"=M) (l7:Gl X "reversed") (lP:X.mg "reversed"=M) (ha:PA X [l] ta)
   (hs:YA [l] X.env=[(Ws,eval l X.env)]:=by rfl):PE X (.Call (.Name "list" p) [.Call (.Name "reversed" p2) [l] [] pos2] [] pos) (ZsW X.K ta):=by
 intro aa s Z H Q I h;refine Call_<|ZcK I lZ lO boot_list<|PyProof.Rows.callWith_type1 ?_ rfl rfl;show YB _ _ (spliced ((Ws,eval (.Call (.Name "reversed" p2) [l] [] pos2) X.env)::[])) _ _ s;refine Calls.spliced_cons<|Call_<|ZcK I l7 lP boot_reversed<|PyProof.Rows.callWith_type1 (thn (ha pos2 aa s Z H _ I h) λus s1 ⟨vs,H1,I1,r1,q1⟩=>?_) hs rfl;obtain⟨a,xs,rfl,hq,q⟩:=q1;obtain⟨u,rfl,ru⟩:=vals1 r1;obtain rfl:u=YD a:=ru;obtain⟨its,rv,pl,hz⟩:=I1.tuple hq;have nN:=rv.length;refine Rv.call pl (by simp;lia) (Calls.spliced_nil<|Rv.Zt6 (I.ok.hd hc) (l:=a) (items:=its.toArray) ⟨_,Oj _ rfl,rfl,rfl⟩ (pl.push _) (Ou (by obtain⟨o,ho,_⟩:=pl;exact Yn ho)) (by simp;lia) λs' ai c hk es hS aq=>?_);have ea:ai.toList=its.reverse:=by
   apply List.ext_getElem?;intro j;rcases Nat.lt_or_ge j its.length with hj|hj
   . have dG:j<ai.size:=by rw [aq.1];simpa using hj
     rw [List.getElem?_reverse hj,Array.getElem?_toList,Array.getElem?_eq_getElem dG,<-aq.2 j ai[j] (Array.getElem?_eq_getElem dG)];simp
   . rw [List.getElem?_eq_none (by have:=aq.1;simp at this ⊢;lia),List.getElem?_eq_none<|by simpa using hj]
 have ev:ai=its.reverse.toArray:=by rw [<-ea]
 rw [ev] at hS;generalize hp:(s1.heap.push _).objs.size=pp at hS ⊢;have le:s1.heap.objs.size<=pp:=by rw [<-hp,Heap.size_push];lia
 rw [es];exact⟨.ref pp,_,I1.laid (t':=s'.toks) (λb o e=>hk b o (λhb=>by
   rw [hb] at e;exact absurd (Yn e)<|Yw _) (Od _ e)) le (show Zai X.prog X.w _ _ _ (.lst xs.reverse) from⟨by simpa using hz,its.reverse,c,rv.reverse,hS⟩),rfl,q _<|I1.hok.fresh le⟩
def ZzI(X:Cx)(hs:List ExceptHandler)(Q:Flow->Yb->Prop):Yk->Yb->Prop:=λe s₁=>YB (model X.prog X.w) X.A (noteFrame e X.env) (λ_ s₂=>YB (model X.prog X.w) X.A (setFlight e M) (λ_ s₃=>YB (model X.prog X.w) X.A (handleBy e X.env hs) Q X.xe s₃) X.xe s₂) X.xe s₁
section
variable {X:Cx}{cx:Str}{np hpos:Pos}{C2:Yj}{b0:Stmt}{bq:List Stmt}
def ZpD(iJ:Gl X cx)(iG:X.mg cx=J (.ref C2))(hC:ExcN X.K C2)(cr:X.stack=X.env::X.outer)(dI:X.env.frame=J X.env.locals)
 (dJ:(cx==("__debug__" : Str))=Ws) (hE:∀cls H',E1 cls M H'->YU X.K cls (.ref C2)=J Wq/\∀C,cls=.ref C->∀a oe s',oe.cls=cls->Inv (cxH X a oe) aa Z H' s'->YB (model X.prog X.w) (cxH X a oe).A (execs (b0::bq) X.env) Q (λ_ _=>False) s')
 (iQ:∀cls H',E1 cls M H'->∃C,cls=.ref C) (I1:Inv X aa Z H s) (hq:CXF X.prog X.w X.stack H s E1 e s'):ZzI X [.ExceptHandler (J<|.Name cx np) M (b0::bq) hpos] Q e s':=by
 obtain⟨a,cls,a0,H',B_,rfl,os,bare,un,hok,fl,kb,lL,R⟩:=hq;obtain⟨C,rfl⟩:=iQ _ _ R;obtain⟨di,lr⟩:=hE _ _ R;have fF:X.A.frames=J (X.env::X.outer):=by rw[<-cr];exact I1.ok.frames
 have mG:Heap.FlyingW B_ (X.env::X.outer) a (.ref C) a0 s'.heap:=by rw[<-cr];exact fl
 have I':=I1.call' (ch:=[]) os un hok bare (λb z=>absurd z<|by simp);have iK:∀b∈frs X.stack,∃o,s'.heap.get? b=J o/\∀vs,o.data≠.fields vs:=λb hb=>by obtain⟨_,o,q,nf⟩:=I'.stack.mem hb;exact⟨o,q,nf⟩
 have jV:∀h2:YG,B_.StaysIn h2->s'.heap.UpToSlots h2->∀tk,Inv X aa Z H' {s' with heap:=h2,toks:=tk}:=λh2 st up tk=>by obtain⟨r1,r2,_⟩:=ZfL un hok kb st up iK;exact I1.call' (s':={s' with heap:=h2,toks:=tk}) (ch:=[]) os r1 r2 bare (λb z=>absurd z<|by simp)
 refine wpAny_looks_onW fF dI mG λh4 fI jc=>?_;refine wpAny_landsW fI λh5 i5 jb=>?_;have I5:Inv X aa Z H' {s' with heap:=h5}:=jV h5 i5.1 (jc.trans jb) s'.toks;refine wpAny_handleBy_cons (codeAny_handlers_test<|Zdg (X:=cxM X a) (I5.toM a) iJ iG ?_ dJ) (by intro q;cases q);obtain⟨oe,lC,gt⟩:=i5.there;refine Zl8 (s:={s' with heap:=h5}) I5.kIn hC.ty hC.cls hC.exc di lC gt<|codeAny_handlers_suite ?_;refine lands_againW i5 λh6 jQ j6=>?_;have I6:Inv X aa Z H' {s' with heap:=h6}:=jV h6 jQ.1 ((jc.trans jb).trans j6) s'.toks;obtain⟨jh,ws,dw,iz,dA,_⟩:=jQ.first;have lI:a≠X.env.locals:=λz=>by obtain⟨m,⟨o,jR,ep,ho,hd,_⟩,_⟩:=I6.loc;rw[<-z,dw]at ho;cases ho;rw[dA]at hd;cases hd
 have lJ:a ∉ X.fs:=λz=>by obtain⟨_,o,q,nf⟩:=I6.funs.mem z;rw[dw]at q;cases q;exact nf _ dA
 have IH:Inv (cxH X a jh) aa Z H' {s' with heap:=h6}:=I6.toH dw lL lI lJ (λv z=>by rw[dA]at z;cases z);exact Yg (lr C rfl a jh _ iz IH) (λ_ _ z=>z) λ_ _ z=>z.elim
end
structure XAs(K:Yl)(a b:Yj):Prop extends ExcN K a where
 sub:YU K (.ref b) (.ref a)=J Wq
 at':ExcA K b
 one:PySem.W.kitOne K (.ref b) (.ref b)=J Wq
namespace Zp
structure ZS(n a b i:Nat)(f0:Yk)(h:YG):Prop where
 zip:IsZip h (n+4) (n+2) (n+3) f0
 ti:IsPair h (n+2) (.ref n) (.ref<|n+1)
 to:∃c d,IsPair h (n+3) c d
 i1:h.IsTupleIter n a i
 i2:h.IsTupleIter (n+1) b i
abbrev Kps(n:Nat)(h h':YG):Prop:=∀c o,c≠n+4->c≠n+3->c≠n->c≠n+1->h.get? c=J o->h'.get? c=J o
section
variable {prog:Yi}{w:Yh}{A:YH}{E:Yk->Yb->Prop}{s:Yb}{n a b i:Nat}{us vs:Array Yk}{x y:Yk}{Q:Yk->Yb->Prop}
theorem IsPair.sb{h h':YG}{c t:Yj}{p q:Yk}(e:IsPair h t p q)(sb:Heap.SameBut c h h')(ne:t≠c):IsPair h' t p q:=sb.extBut _ _ ne e
def body(ha:a<n)(hb:b<n)(z:ZS n a b i .none s.heap)(ta:s.heap.IsTuple a us)(tb:s.heap.IsTuple b vs)(hx:us[i]?=J x)(hy:vs[i]?=J y)
 (q:∀h',ZS n a b (i+1) (rawInt s.heap.objs.size) h'->IsPair h' s.heap.objs.size x y->Kps n s.heap h'->Q (.ref s.heap.objs.size) {s with heap:=h'}) :
 YB (model prog w) A (Builtin.«zip.__next__» ⟨[.ref<|n+4],[]⟩) (λf s'=>∃v,f=.done (.ret v)/\Q v s') E s:=by
 obtain⟨z0,z1,⟨c,d,z2⟩,z3,z4⟩:=z;have na:a≠n/\a≠n+1/\a≠n+3/\a≠n+4:=by lia
 have nb:b≠n/\b≠n+1/\b≠n+3/\b≠n+4:=by lia
 have ne:∀{j k:Nat},j≠k->n+j≠n+k:=λe z=>e (by lia);have n0:∀{k:Nat},0<k->n≠n+k:=λe z=>by lia
 have gj:∀{k:Nat},0<k->n+k≠n:=λe z=>by lia
 show YB _ _ (field (.ref<|n+4) 2 >>= _) _ _ _;refine Ya<|YR z0 rfl (x:=.bool Ws) rfl ?_;show YB _ _ (field (.ref<|n+4) 3 >>= _) _ _ _;refine Ya<|YR z0 rfl (x:=.ref<|n+2) rfl<|Ya<|wpAny_seqItems z1 rfl ?_;show YB _ _ (Builtin.SmallTypes.ownedTupleIsFree (.ref<|n+4) >>= _) _ _ _;refine Ya ?_;unfold Builtin.SmallTypes.ownedTupleIsFree;refine Ya<|YR z0 rfl (x:=.none) rfl<|Yd ?_;simp only[if_true];refine Ya (wpAny_rule<|Ya<|YR z0 rfl (x:=.ref<|n+3) rfl<|Ya<|wpAny_setField_rec z0 (by simp) λR y0 s1=>?_)
 replace y0:IsZip R (n+4) (n+2) (n+3) .ellipsis:=y0
 refine Ya ?_;simp only[List.zipIdx_cons,List.zipIdx_nil,List.forIn_cons,List.forIn_nil];refine Ya<|Ya<|wpAny_onRaise ?_;show YB _ _ (Builtin.SmallTypes.nextOf (.ref n) >>= _) _ _ _;refine Ya (En1.Zn2 (z3.at λo e=>s1.extBut _ _ (n0<|by decide) e) (ta.extBut s1.extBut na.2.2.2) hx λh2 k1 s2=>Yd ?_);have p2:IsPair h2 (n+3) c d:=IsPair.sb (IsPair.sb z2 s1<|ne<|by decide) s2 (gj<|by decide);refine Ya (wpAny_seqItems p2 rfl<|Ya<|wpAny_updateSeq_pair p2 λh3 p3 s3=>?_)
 replace p3:IsPair h3 (n+3) x d:=p3
 refine Ya<|wpAny_letGo<|Yd<|Ya<|Ya<|wpAny_onRaise ?_;show YB _ _ (Builtin.SmallTypes.nextOf (.ref<|n+1) >>= _) _ _ _;have u3:∀c o,c≠n+4->c≠n->c≠n+3->s.heap.get? c=J o->h3.get? c=J o:=λc o c1 c2 c3 e=>s3.extBut _ _ c3<|s2.extBut _ _ c2<|s1.extBut _ _ c1 e;refine Ya (En1.Zn2 (z4.at λo e=>u3 _ o (ne<|by decide) (gj<|by decide) (ne<|by decide) e) (tb.at λo e=>u3 _ o nb.2.2.2 nb.1 nb.2.2.1 e) hy λh4 k2 s4=>Yd ?_);have p4:IsPair h4 (n+3) x d:=IsPair.sb p3 s4 (ne<|by decide);refine Ya (wpAny_seqItems p4 rfl<|Ya<|wpAny_updateSeq_pair p4 λh5 p5 s5=>?_)
 replace p5:IsPair h5 (n+3) x y:=p5
 refine Ya<|wpAny_letGo<|Yd<|Yd<|Ya<|wpAny_seqItems p5 rfl<|Ya<|wpAny_newTuple ?_;have sz:h5.objs.size=s.heap.objs.size:=by rw[s5.1,s4.1,s3.1,s2.1,s1.1]
 have u5:Kps n s.heap h5:=λc o c1 c2 c3 c4 e=>s5.extBut _ _ c2<|s4.extBut _ _ c4<|u3 c o c1 c3 c2 e;have y5:IsZip h5 (n+4) (n+2) (n+3) .ellipsis:=s5.extBut _ _ (ne<|by decide) (s4.extBut _ _ (ne<|by decide)<|s3.extBut _ _ (ne<|by decide)<|s2.extBut _ _ (gj<|by decide) y0);have l5:n+4<h5.objs.size:=Yn y5;show YB _ _ (Builtin.SmallTypes.ownedTupleHandOut (.ref<|n+4) (.ref h5.objs.size) >>= _) _ _ _;refine Ya ?_;unfold Builtin.SmallTypes.ownedTupleHandOut;have y6:IsZip (h5.push {cls:=.type "tuple",data:=.seq #[x,y]}) (n+4) (n+2) (n+3) .ellipsis:=Od _ y5;refine Ya (wpAny_setField_rec y6 (by simp) λh7 y7 s7=>?_)
 replace y7:IsZip h7 (n+4) (n+2) (n+3) (rawInt h5.objs.size):=y7
 refine wpAny_setField_rec y7 (by simp) λh8 y8 s8=>Yd ⟨_,rfl,?_⟩
 replace y8:IsZip h8 (n+4) (n+2) (n+3) (rawInt h5.objs.size):=y8
 have up:∀c o,c≠n+4->h5.get? c=J o->h8.get? c=J o:=λc o c1 e=>s8.extBut _ _ c1<|s7.extBut _ _ c1<|Od _ e;have t8:IsPair h8 h5.objs.size x y:=s8.extBut _ _ (Nat.ne_of_gt l5)<|s7.extBut _ _ (Nat.ne_of_gt l5)<|Oj _ rfl;show Q (.ref h5.objs.size) _;rw[sz]at y8 t8 ⊢;refine q h8 ⟨y8,up _ _ (ne<|by decide)<|u5 _ _ (ne<|by decide) (ne<|by decide) (gj<|by decide) (ne<|by decide) z1,⟨x,y,up _ _ (ne<|by decide) p5⟩,k1.at λo e=>up _ o (n0<|by decide)<|s5.extBut _ _ (n0<|by decide)<|s4.extBut _ _ (n0<|by decide)<|s3.extBut _ _ (n0<|by decide) e,k2.at λo e=>up _ o (ne<|by decide)<|s5.extBut _ _ (ne<|by decide) e⟩ t8 λc o c1 c2 c3 c4 e=>up c o c1 (u5 c o c1 c2 c3 c4 e)
def fin(hh:A.handled=M)(ha:a<n)(z:ZS n a b i .none s.heap)(ta:s.heap.IsTuple a us)(hx:us[i]?=M){Q:Fin->Yb->Prop}
 (q:∀h' e,Kps n s.heap h'->(∃o,h'.get? e=J o/\o.cls=.type "StopIteration")->E (.ref e) {s with heap:=h'}) :
 YB (model prog w) A (Builtin.«zip.__next__» ⟨[.ref<|n+4],[]⟩) Q E s:=by
 obtain⟨z0,z1,⟨c,d,z2⟩,z3,z4⟩:=z;show YB _ _ (field _ 2 >>= _) _ _ _;refine Ya<|YR z0 rfl (x:=.bool _) rfl ?_;show YB _ _ _ _ _ _;refine Ya<|YR z0 rfl (x:=.ref _) rfl<|Ya<|wpAny_seqItems z1 rfl ?_;show YB _ _ _ _ _ _;refine Ya ?_;unfold Builtin.SmallTypes.ownedTupleIsFree;refine Ya<|YR z0 rfl (x:=.none) rfl<|Yd ?_;simp only[if_true];refine Ya (wpAny_rule<|Ya<|YR z0 rfl (x:=.ref<|n+3) rfl<|Ya<|wpAny_setField_rec z0 (by simp) λR y0 s1=>?_)
 replace y0:IsZip R (n+4) (n+2) (n+3) .ellipsis:=y0
 refine Ya ?_;simp only[List.zipIdx_cons,List.zipIdx_nil,List.forIn_cons,List.forIn_nil];refine Ya<|Ya<|wpAny_onRaise ?_;show YB _ _ (Builtin.SmallTypes.nextOf (.ref n) >>= _) _ _ _;refine Ya (En1.ZvR hh (z3.at λo e=>s1.extBut _ _ (by lia) e) (ta.extBut s1.extBut<|by lia) hx λh2 e s2 he=>?_);obtain⟨oe,e1,e2⟩:=he;have ne:e≠n+4:=λx=>by subst x;rw[(s2 _ _ (by lia) y0)]at e1;cases e1;simp at e2
 exact wpAny_setField_rec (s2 _ _ (by lia) y0) (by simp) λh3 _ s3=>q h3 e (λc o c1 _ c3 _ x=>s3.extBut _ _ c1<|s2 _ _ c3<|s1.extBut _ _ c1 x) ⟨oe,s3.extBut _ _ ne e1,e2⟩
def next{Q:Option _->Yb->Prop}(ha:a<n)(hb:b<n)(z:ZS n a b i .none s.heap)(ta:s.heap.IsTuple a us)(tb:s.heap.IsTuple b vs)(hx:us[i]?=J x)(hy:vs[i]?=J y)
 (q:∀h',ZS n a b (i+1) (rawInt s.heap.objs.size) h'->IsPair h' s.heap.objs.size x y->Kps n s.heap h'->Q (J<|.ref s.heap.objs.size) {s with heap:=h'}):YB (model prog w) A (pyNext<|.ref<|n+4) Q E s:=by
 unfold pyNext;exact Ya (wpAny_attempt<|YY (name:=Str.ofString _) ⟨_,z.zip,rfl⟩ F.slot_zip_next<|Wc F.slot_zip_next ⟨_,z.zip,rfl⟩ F.entry_zip_next (body ha hb z ta tb hx hy λh' c d e=>Yd<|q _ c d e)<|F.args_zip_next_1 _)
def stop{Q:Option _->Yb->Prop}(hh:A.handled=M)(ha:a<n)(z:ZS n a b i .none s.heap)(ta:s.heap.IsTuple a us)(hx:us[i]?=M)(q:∀h',Kps n s.heap h'->Q M {s with heap:=h'}):YB (model prog w) A (pyNext<|.ref<|n+4) Q E s:=by unfold pyNext;refine Ya<|wpAny_attempt<|YY (name:=Str.ofString _) ⟨_,z.zip,rfl⟩ F.slot_zip_next<|Wc F.slot_zip_next ⟨_,z.zip,rfl⟩ F.entry_zip_next (fin (show A.in1.handled=M from hh) ha z ta hx λh' e c d=>?_)<|F.args_zip_next_1 _;obtain⟨o,R,f⟩:=d;exact Ya (wpAny_isInstance (T := "StopIteration") (b:=true) ⟨o,R,f⟩ isSubtype_stop<|Yd<|q _ c)
noncomputable abbrev ob(T:Yj):Obj:={cls:=.type "tuple_iterator",data:=.fields #[.ref T,.int 0 0]}
noncomputable abbrev tp(x y:Yk):Obj:={cls:=.type "tuple",data:=.seq #[x,y]}
abbrev hN(h:YG)(a b:Yj):YG:=((((h.push<|ob a).push<|ob b).push<|tp (.ref h.objs.size)<|.ref (h.push<|ob a).objs.size).push<|tp .none .none)
abbrev zo(h:YG)(a b:Yj):Obj:={cls:=.type "zip",data:=.fields #[.none,.bool Ws,.bool Ws,.ref ((h.push<|ob a).push<|ob b).objs.size,.ref (((h.push<|ob a).push<|ob b).push<|tp (.ref h.objs.size)<|.ref (h.push<|ob a).objs.size).objs.size]}
def nw(a b:Yj)(us vs:Array _):Meets (Builtin.«zip.__new__» ⟨[.type "zip",.ref a,.ref b],[]⟩) (λ_ qd s=>s.heap.IsTuple a us/\s.heap.IsTuple b vs/\qd (.ok<|.ret<|.ref (hN s.heap a b).objs.size) {s with heap:=(hN s.heap a b).push<|zo s.heap a b}):=
 .of_wp λc w A qd s h=>by
  obtain⟨f,g,d,i,j⟩:=s;obtain⟨k,tb,h⟩:=h;have n:=sub_zip;have l:Heap.IsTuple (Shared.heap ⟨f,g,d,i,j⟩) a us:=k;have m:Heap.IsTuple (Shared.heap ⟨f.push<|ob a,g,d,i,j⟩) b vs:=tb.at λo e=>Od _ e
  wp_walk using wpAny_pyIter_tuple l,wpAny_pyIter_tuple m
  exact⟨_,rfl,h⟩
def mk(ta:s.heap.IsTuple a us)(tb:s.heap.IsTuple b vs)(q:∀h',ZS s.heap.objs.size a b 0 .none h'->(∀c o,s.heap.get? c=J o->h'.get? c=J o)->Q (.ref<|s.heap.objs.size+4) {s with heap:=h'}):
 YB (model prog w) A (call (.type "zip") [.ref a,.ref b]) Q E s:=by
 refine callType_new F.called_zip (by decide) (F.typeCall_zip_2 _ _) (F.newCall_zip_2 _ _) (λobj=>F.args_object_init_3 obj _ _) F.entry_zip_new (nw a b us vs) ⟨ta,tb,?_⟩;have d:(s.heap.push<|ob a).objs.size=s.heap.objs.size+1:=Heap.size_push ..;have f:((s.heap.push<|ob a).push<|ob b).objs.size=s.heap.objs.size+2:=by rw[Heap.size_push,d]
 have g:(((s.heap.push<|ob a).push<|ob b).push<|tp (.ref s.heap.objs.size)<|.ref (s.heap.push<|ob a).objs.size).objs.size=s.heap.objs.size+3:=by rw[Heap.size_push,f]
 have j:(hN s.heap a b).objs.size=s.heap.objs.size+4:=by rw[Heap.size_push,g]
 have up:∀{h:YG}{o n:Obj}{c:Yj},h.get? c=J o->(h.push n).get? c=J o:=λe=>Od _ e;have i:((hN s.heap a b).push<|zo s.heap a b).get? (hN s.heap a b).objs.size=J (zo s.heap a b):=Oj _ rfl;have k:((hN s.heap a b).push<|zo s.heap a b).get? _=J (tp .none .none):=up<|Oj (((s.heap.push<|ob a).push<|ob b).push<|tp (.ref s.heap.objs.size)<|.ref (s.heap.push<|ob a).objs.size) rfl;have l:((hN s.heap a b).push<|zo s.heap a b).get? _=J (tp (.ref s.heap.objs.size)<|.ref (s.heap.push<|ob a).objs.size):=up<|up<|Oj ((s.heap.push<|ob a).push<|ob b) rfl;have m:((hN s.heap a b).push<|zo s.heap a b).get? _=J (ob b):=up<|up<|up<|Oj (s.heap.push<|ob a) rfl;have p:((hN s.heap a b).push<|zo s.heap a b).get? s.heap.objs.size=J (ob a):=up<|up<|up<|up<|Oj s.heap rfl;have r:∀c o,s.heap.get? c=J o->((hN s.heap a b).push<|zo s.heap a b).get? c=J o:=λc o e=>up<|up<|up<|up<|up e;generalize (hN s.heap a b).push (zo s.heap a b)=t at *;show _/\_;rw[zo,f,g,j]at i;rw[g]at k;rw[d,f]at l;rw[d]at m;rw[j];exact⟨⟨_,i,rfl⟩,q _ ⟨i,l,⟨_,_,k⟩,⟨_,p,rfl,rfl⟩,⟨_,m,rfl,rfl⟩⟩ r⟩
end
end Zp
def Itz(K:Yl)(a b:Yj):It:=⟨λi H=>∃c d x y,SqT K H a c/\SqT K H b d/\c[i]?=J x/\d[i]?=J y,λi H v H'=>∃p x y,v=.ref p/\H p=M/\(∀c,SqT K H a c->c[i]?=J x)/\(∀d,SqT K H b d->d[i]?=J y)/\H'=upd H p (.tup [x,y]),λi H=>∃c,SqT K H a c/\c.length=i⟩
theorem Zqu{P:Yi}{w:Yh}{K:Yl}{es:List _}{kk:Nat}{tp:Pos}{n a b:Yj}(ha:a<n)(hb:b<n):Turn P w K (.Tuple es kk tp) (Itz K a b) [n+4,n+3,n,n+1,n+2] (n+4) (λi h=>Zp.ZS n a b i .none h) where
 mem:=by simp
 obj:=λi h st c hc=>by
   obtain⟨z0,z1,⟨_,_,z2⟩,⟨o3,z3,_,d3⟩,o4,z4,_,d4⟩:=st;simp only [O2,List.not_mem_nil,or_false] at hc;rcases hc with rfl|rfl|rfl|rfl|rfl
   . exact⟨_,z0,nofun⟩
   . exact⟨_,z2,nofun⟩
   . exact⟨o3,z3,λv z=>by rw [d3] at z;cases z⟩
   . exact⟨o4,z4,λv z=>by rw [d4] at z;cases z⟩
   . exact⟨_,z1,nofun⟩
 keep:=λi h h' st k=>by
   obtain⟨z0,z1,⟨_,_,z2⟩,z3,z4⟩:=st;exact⟨k _ (by simp) _ z0,k _ (by simp) _ z1,⟨_,_,k _ (by simp) _ z2⟩,z3.at λo e=>k _ (by simp) o e,z4.at λo e=>k _ (by simp) o e⟩
 item:=by
   intro X hP hw hK hc i aa s Z H E I hf st hg;subst hP hw hK;obtain⟨xs,ys,x,y,hq,hr,hx,hy⟩:=hg;obtain⟨its,rv,p,hz⟩:=I.tuple hq;obtain⟨kY,kq,p',jv⟩:=I.tuple hr;obtain⟨u,hu,ru⟩:=rv.get hx;obtain⟨v,hv,aH⟩:=kq.get hy;have l4:n+4<s.heap.objs.size:=Yn st.zip;refine Zp.next ha hb st p p' (by simpa using hu) (by simpa using hv) λR z1 t1 k1=>⟨_,rfl,wpAny_letOwnedTupleGo_zip z1.zip λh2 y2 s2=>?_⟩
   have nT:s.heap.objs.size ∉ [n+4,n+3,n,n+1,n+2]:=by simp only [O2,List.not_mem_nil,or_false];lia
   have gK:Zbl h2 s.heap.objs.size #[u,v]:=⟨_,s2.extBut _ _ (by lia) t1,rfl,rfl,_,rfl⟩
   have I2:Inv X aa Z (upd H s.heap.objs.size<|.tup [x,y]) {s with heap:=h2,toks:=s.toks}:=I.turnT hf (λc o hc e=>by
     simp only [O2,List.not_mem_nil,or_false,not_or] at hc;exact s2.extBut _ _ hc.1<|k1 c o hc.1 hc.2.1 hc.2.2.1 hc.2.2.2.1 e) (Oq _) (us:=[u,v]) gK (.cons ru<|.cons aH .nil) (by show 2<=Yc;decide)
   obtain⟨w0,w1,⟨c,d,w2⟩,w3,w4⟩:=z1;refine⟨.ref s.heap.objs.size,_,I2,rfl,⟨_,x,y,rfl,I.hok.fresh<|Oq _,λzs hz=>by rw [I.tuple_inj hz hq];exact hx,λzs hz=>by rw [I.tuple_inj hz hr];exact hy,rfl⟩,⟨y2,s2.extBut _ _ (by lia) w1,⟨c,d,s2.extBut _ _ (by lia) w2⟩,w3.at λo e=>s2.extBut _ _ (by lia) e,w4.at λo e=>s2.extBut _ _ (by lia) e⟩,λc hc=>?_⟩;rw [Zo<|λz=>nT (by rw [<-z];exact hc)];exact(hf c hc).1
 done:=by
   intro X hP hw hK hc i aa s Z H E I hf st hg;subst hP hw hK;obtain⟨xs,hq,hx⟩:=hg;obtain⟨its,rv,p,hz⟩:=I.tuple hq;have hl:=rv.length;exact Zp.stop (I.ok.hd hc) ha st p (by simp;lia) λR k1=>⟨rfl,I.turnL (t':=s.toks) hf λc o hc e=>by
     simp only [O2,List.not_mem_nil,or_false,not_or] at hc;exact k1 c o hc.1 hc.2.1 hc.2.2.1 hc.2.2.2.1 e⟩
 self:=λA i s Q E st h=>wpAny_pyIter_zip st.zip h
def ZBA(K:Yl)(ta:TA):TI:=λZ H qd=>ta Z H λvs H1=>∃a b,vs=[.ref a,.ref b]/\(∃c,SqT K H1 a c)/\(∃d,SqT K H1 b d)/\qd (Itz K a b) H1
def Zwk{X:Cx}{es:List _}{kk:Nat}{tp:Pos}{l m:Expr}{ta:TA}{p pos:Pos}(hg:Gl X "zip")(hm:X.mg "zip"=M)(ha:PA X [l,m] ta)(hs:YA [l,m] X.env=[(Ws,eval l X.env),(Ws,eval m X.env)])(eG:YA [m] X.env=[(Ws,eval m X.env)]):
 PI X (.Tuple es kk tp) (.Call (.Name "zip" p) [l,m] [] pos) (ZBA X.K ta):=by
 intro w s Z H qd I h;refine Call_ (ZcK I hg hm boot_zip<|PyProof.Rows.callWith_type1 (thn (ha _ _ s _ H _ I h) λx d ⟨vs,H1,I1,f,g⟩=>?_) (by simp_all) (by rw[eG];rfl));obtain⟨a,b,rfl,⟨y,i⟩,⟨A,j⟩,q⟩:=g;obtain⟨u,v,rfl,k,n⟩:=vals2 f;obtain rfl:u=YD a:=k;obtain rfl:v=YD b:=n;obtain⟨o,_,pt,_⟩:=I1.tuple i;obtain⟨B,_,e,_⟩:=I1.tuple j;refine Zp.mk pt e λR z r=>wpAny_pyIter_zip z.zip ⟨_,_,_,_,_,rfl,I1.kept (t':=d.toks) r,Zqu (by obtain⟨_,z,_⟩:=pt;exact Yn z) (by obtain⟨_,z,_⟩:=e;exact Yn z),z,λc t=>?_,q⟩;have le:d.heap.objs.size<=c:=by simp only[O2,List.not_mem_nil,or_false]at t;lia
 exact I1.fpOk le (I1.hok.fresh le)
section
variable {X:Cx}
def Zv9(P:Yi)(w:Yh)(K:Yl):List V->Hp->VK->Prop:=λc H Q=>∃a b,∃ss:List Str,c=[.ref a]/\Dk P w K H a b/\b.map (·.1)=ss.map YE/\∀p,H p=M->Q (.ref p) (upd H p<|.lst<|ss.map V.str)
theorem ZnA (hc:X.A.handled=M):Zaa X (.type "list") (Zv9 X.prog X.w X.K):=by
 rintro aa s Z H xs us Q I r⟨a,kvs,ss,rfl,hd,cN,q⟩;obtain⟨u,rfl,ru⟩:=vals1 r;cases ru;obtain⟨z,hm,vs,rel,dd⟩:=I.dk hd;obtain⟨ep,dM⟩:=dd.dictAt;have hl:vs.length=kvs.length:=(Paired.length rel).symm;have bV:kvs.length=ss.length:=by
   simpa using congrArg List.length cN
 have bf:∀ (j:Nat) k x,vs[j]?=J (k,x)->∃ y,ss[j]?=J y/\k=YE y:=λj k x e=>by
   have hj:j<vs.length:=(Ob.mp e).1;have R:kvs[j]?=J kvs[j]:=Og (by lia);obtain⟨u,hu,fA⟩:=Zdb rel R;rw [e] at hu;cases hu;have h3:(kvs.map (·.1))[j]?=J kvs[j].1:=by rw [On,R];rfl
   rw [cN,On] at h3;obtain⟨y,hy,e3⟩:=Oo.mp h3;exact⟨y,hy,fA.1.symm.I e3.symm⟩
 refine PySem.W.kdl_call (PySem.W.kdl_dict (knd:=ZH X.prog X.w) (kvs:=vs) (ep:=ep) hm) hc dM (by lia) λh' tk ai c hk ho aq=>?_;exact⟨.ref s.heap.objs.size,_,I.laid (a:=s.heap.objs.size) (o:=.lst<|ss.map V.str) (t':=tk) hk (Oq _) ⟨by simp;lia,ai.toList,c,ZcQ (Zc7 (P:=X.prog) (w:=X.w) ss ai.toList (by rw [Array.length_toList,aq.1];lia) λj v hv=>by
   obtain⟨k,x,e,dE⟩:=aq.2 j v (by rw [<-Array.getElem?_toList];exact hv);obtain⟨y,hy,rfl⟩:=bf j k x e;exact⟨y,hy,dE⟩),by rw [Array.toArray_toList];exact ho⟩,rfl,q _<|I.hok.fresh<|Oq _⟩
end
noncomputable def tx(l:List Nat):Str:=⟨l.toArray⟩
def ClV(mg:Str->Option Yk)(W:Str)(v:Yk):Prop:=(mg W=J v/\∃a,v=.ref a)\/(W=O "ValueError" /\ mg W=M/\v=.type "ValueError")
def KyS(K:Yl)(H:Hp)(b:Yj)(k:NK):Prop:=∃c,SqT K H b [.int k.1,.ref c]/\SqT K H c (k.2.map .str)
theorem Zls:∀{ks}{us},Zs (ks.map V.str) us->ItemsAre (PySem.strKind P w) ks us
 |[],_,r=>by cases r;exact .nil
 |k::ks,_,r=>by
  cases r with
  |cons h t=>obtain⟨a,rfl⟩:=h;exact .cons (by show Value.isStrOf k (.str k a)=Wq;simp[Value.isStrOf]) (Zls t)
abbrev KN(K:Yl)(H:Hp):List (NK×V)->List (NK×Yj×Yk)->Prop:=Paired λp q=>p.1=q.1/\KyS K H q.2.1 p.1/\RelV p.2 q.2.2
def KN.val{K}(r:KN K H kvs xs)(k):ZfV (ZbJ kvs k) ((atKey xs k).map (·.2)):=by
 induction r with
 |nil=>trivial
 |@cons p q ps qs h t b=>
  obtain⟨R,_,c⟩:=h;by_cases e:p.1=k
  . rw[Zia e,show atKey _ k=J q.2 by simp[atKey,R.symm.I e]];trivial
  . have a:¬ q.1=k:=λz=>e<|R.I z;rw[Zib e,show atKey _ k=atKey qs k by simp[atKey,a]];trivial
def KN.put{K}(r:KN K H kvs xs)(k)(hb:KyS K H b k)(ry:RelV y u):KN K H (putK kvs k y) (storedH xs k b u):=by
 have e:(kvs.any λkv=>Wu<|kv.1=k)=(atKey xs k).isSome:=by rw[Zll,(r.val k).isSome_eq,Option.isSome_map]
 unfold putK storedH;rw[e];by_cases q:(atKey xs k).isSome=Wq
 . rw[if_pos q,if_pos q];clear e q;induction r with
   |nil=>exact .nil
   |@cons p q ps qs h t ih=>
    refine .cons ?_ ih;obtain⟨R,h2,h3⟩:=h;show(if p.1=k then(p.1,y)else p).1=(putAt k u q).1/\KyS K H _ (if p.1=k then(p.1,y)else p).1/\RelV (if p.1=k then(p.1,y)else p).2 _;unfold putAt;by_cases e:p.1=k
    . rw[if_pos e,if_pos<|R.symm.I e];trivial
    . rw[if_neg e,if_neg<|λz=>e<|R.I z];trivial
 . rw[if_neg q,if_neg q];exact Paired.snoc r ⟨rfl,hb,ry⟩
section
variable {X:Cx}{aa:List (Yj×Obj)}{Z:St}{H:Hp}{s:Yb}{a:Yj}
def Inv.nk(I:Inv X aa Z H s)(h:KyS X.K H b k):Zfi X.prog X.w s.heap k b:=by
 obtain⟨c,R,a⟩:=h;obtain⟨f,r,⟨o,e,cl,n,d⟩,_⟩:=I.tuple R;obtain⟨p,g,⟨q,i,j,u,l⟩,_⟩:=I.tuple a;cases r with
 |cons m t=>cases t with
  |cons rb t=>cases t;obtain⟨t,rfl⟩:=m;cases (rb);exact⟨o,t,c,n,e,cl,d,_,_,_,i,j,l,by simpa using Zls g⟩
def Inv.dn(I:Inv X aa Z H s)(h:H a=J (.dT xs))(r:KN X.K H kvs xs):xs.length<=Yc/\(a==Yf)=Ws/\s.heap.DictOfH (Zm7 X.prog X.w) a xs:=by
 obtain⟨z,m,o,i,j,e,f,d,b,nd⟩:=(I.hok a _ h)
 refine⟨z,m,o,_,_,e,f,d,b,?_,nd⟩;clear h z e b nd;induction r with
 |nil=>simp
 |@cons p q ps qs c t g=>
  intro x hx;rcases O2.mp hx with rfl|hx
  . have:=I.nk c.2.1;rw[c.1]at this;trivial
  . exact g x hx
def Zh1(hr:Room k X.A):(Zm7 X.prog X.w).room X.A.in1:=by
 have:=hr.un;show X.A.units+1+1<cLine
 lia
def Zy2(K:Yl)(neg:Bool):R2:=λx y H Q=>∃a b c d k,y=.ref a/\x=.ref b/\KyS K H b k/\H a=J (.dT d)/\KN K H c d/\Q (.bl<|if neg then !(ZbJ c k).isSome else(ZbJ c k).isSome) H
def ZwB(hr:Room n X.A):OpR X (YM .In) (Zy2 X.K Ws):=by rintro aa s Z H x y v u Q I rx ry⟨a,b,kvs,xs,k,rfl,rfl,hb,ha,rel,q⟩;cases rx;cases ry;obtain⟨z,hm,dd⟩:=I.dn ha rel;refine wpAny_in_heap (Zh1 hr) (I.nk hb) hm dd ?_;have e:=(rel.val k).isSome_eq;rw[Option.isSome_map]at e;rw[<-e];exact⟨.bl _,H,I.tok _,rfl,q⟩
def ZpE(hr:Room n X.A):OpR X (YM .NotIn) (Zy2 X.K Wq):=by rintro aa s Z H x y v u Q I rx ry⟨a,b,kvs,xs,k,rfl,rfl,hb,ha,rel,q⟩;cases rx;cases ry;obtain⟨z,hm,dd⟩:=I.dn ha rel;refine wpAny_notIn_heap (Zh1 hr) (I.nk hb) hm dd ?_;have e:=(rel.val k).isSome_eq;rw[Option.isSome_map]at e;rw[<-e];exact⟨.bl _,H,I.tok _,rfl,q⟩
def ZBl(K:Yl):R2:=λx y H Q=>∃a b c d k v,x=.ref a/\y=.ref b/\KyS K H b k/\H a=J (.dT d)/\KN K H c d/\ZbJ c k=J v/\Q v H
def ZzO(hr:Room n X.A):IxR X (ZBl X.K):=by intro d e C s Z H x y v u Q I g i h j;obtain⟨a,b,l,D,k,z,rfl,rfl,m,o,c,hv,q⟩:=h;cases g;cases i;obtain⟨_,hm,f⟩:=I.dn o c;obtain⟨E,r,t⟩:=ZfV.some_of<|hv▸c.val k;obtain⟨p,w,B⟩:=Oo.mp r;exact subscriptTail_builtinR f.typeIs PySem.F.slot_dict_getitem.lookup (wpAny_getItem_heap (Zh1 hr) (I.nk m) f w (by rw[B];exact⟨rfl,z,H,I.tok _,t,q⟩)) j
def ZyR(K:Yl):Zqf:=λo i v H Q=>∃a b c d k,o=.ref a/\i=.ref b/\KyS K H b k/\H a=J (.dT d)/\KN K H c d/\c.length<Yc/\∀r,RelV v r->Q (upd H a<|.dT<|storedH d k b r)
theorem Zv1(hr:Room n X.A):Zqh X (ZyR X.K):=by
 rintro aa s Z H o i v ov iv u Q I ro ri rv⟨a,b,kvs,xs,k,rfl,rfl,hb,ha,rel,l,q⟩;cases ro;cases ri;obtain⟨z,hm,dd⟩:=I.dn ha rel;refine wpAny_setItem_heap (Zh1 hr) (I.nk hb) dd λh' eA hs=>⟨_,?_,q u rv⟩
 obtain⟨o',es,ep,hq,h2,h3,h4,_,h5⟩:=eA;exact I.write (by rw [ha];trivial) (.inl rfl) (λc q hc z=>(hs.2 c hc).I z) ⟨_,hq⟩ (⟨by
   have e1:=Paired.length<|rel.put k hb rv;have:=Zd7 kvs k v
   lia,hm,o',es,ep,hq,h2,h3,h4,h5⟩)
def ZvU:TE:=λ_ H Q=>∀p,H p=M->Q (.ref p) (upd H p<|.dT [])
def Zrm:PE X (.Dict [] [] pos) ZvU:=λa s Z H Q I h=>wpAny_Dict_empty ⟨.ref _,_,I.laid (λ_ _ q=>Od _ q) (Oq _)<|show Zai _ _ _ _ _ (.dT [])from⟨Yy _,beq_eq_false_iff_ne.mpr<|YL<|Ou I.big,_,_,0,Oj _ rfl,⟨rfl,rfl,rfl⟩,rfl,rfl,List.nodup_nil⟩,rfl,h _<|I.hok.fresh<|Oq _⟩
end
end L2
namespace L2
open PySem PySem.Spec PyProof.Rows
open AutoSeq1 (wpAny_loadPart')
def range_any(bs:List _):(List.range bs.length).any (λi=>bs.getD i Ws)=bs.any id:=by
 have:=range_all<|bs.map λb=>!b;rw[Yu]at this;have e1:(List.range bs.length).any (λi=>bs.getD i Ws)=!((List.range bs.length).all λi=>(bs.map λb=>!b).getD i Ws):=by
  rw[List.not_all_eq_any_not,Bool.eq_iff_iff,List.any_eq_true,List.any_eq_true];have z:∀i∈List.range bs.length,bs.getD i Ws=!((bs.map λb=>!b).getD i Ws):=λi hi=>by simp_all
  exact⟨λ⟨i,hi,h⟩=>⟨i,hi,(z i hi).symm.I h⟩,λ⟨i,hi,h⟩=>⟨i,hi,(z i hi).I h⟩⟩
 rw[e1,this,List.not_all_eq_any_not,List.any_map];congr 1;funext b;simp
section
variable {X:Cx}
def Zp6(hc:X.calm=Wq):Zaa X (.builtin "any") (λxs H Q=>∃(a:Yj) (bs:List _),xs=[.ref a]/\SqL X.K H a (bs.map V.bl)/\Q (.bl<|bs.any id) H):=by
 rintro aa s Z H xs us Q I r⟨a,bs,rfl,hx,q⟩;obtain⟨u,rfl,rx⟩:=vals1 r;obtain rfl:u=YD a:=rx;obtain⟨its,rv,pl,hz⟩:=I.list hx;have hl:=by have:=rv.length;rw[Yu]at this;exact this.symm
 refine call_any_walk (wpAny_pyIter_list pl.isList ⟨_,_,_,_,_,_,λi=>bs.getD i Ws,rfl,Walks.list (A:=X.A.in1) (show X.A.in1.handled=M from I.ok.hd hc) _ a (Ou (by obtain⟨_,_,e,_⟩:=pl;exact Yn e)) _,⟨⟨_,Oj _ rfl,rfl,rfl⟩,pl.isList.push _⟩,?_,λh' tk hk=>?_⟩)
 . intro i v s' Q' E' hv hq;have cq:its[i]?=J v:=by simpa using hv
   have hi:i<bs.length:=hl▸(Ob.mp cq).1;obtain⟨u',e',r'⟩:=rv.get (by rw[On,Og hi]<;>rfl);rw[cq]at e';cases e';obtain rfl:v=Value.bool _:=r';refine wpAny_truthy_bool ?_;have e:bs.getD i Ws=bs[i]:=by simp_all
   rw[<-e];exact hq
 . refine⟨_,H,I.kept λb o e=>hk b o (λz=>?_)<|Od _ e,?_,q⟩
   . have:b=s.heap.objs.size:=by simpa using z
     subst this;exact absurd (Yn e) (Yw _)
   . rw[<-range_any];show Value.bool _=_;rw[Of,hl]
def Zjz{prog}{w}{A}{E}{s:Yb}{Q₁:Yk->Yb->Prop}(K:PySem.W.KdlSrc prog w T r d n P OK)(hh:A.handled=M)(hok:OK s.heap)(hn:n<=Yc)
 (h:∀(h':YG) (tk:Nat) (ai:Array Yk),s.heap.objs.size<=h'.objs.size->(∀b o,s.heap.get? b=J o->h'.get? b=J o)->ItemsOf P ai n->Q₁ (.ref h'.objs.size) {s with heap:=h'.push {cls:=.type "tuple",data:=.seq ai},toks:=tk}) :
 codeAny (model prog w) A (.call (.builtin "tuple.__new__") ⟨[.type "tuple",.ref r],[]⟩) (wants Q₁ E) s:=by
 refine codeAny_of_tree ?_;show YB _ A.in1 (do checkBuiltinCall "tuple.__new__" ⟨[.type "tuple",.ref r],[]⟩;again<|.builtin "tuple.__new__" ⟨[.type "tuple",.ref r],[]⟩) _ _ s;refine Ya<|Wi (PySem.F.newCall_tuple_1 _)<|Yd ⟨plainId_quiet PySem.F.plain_tuple_new _,codeAny_builtin PySem.F.entry_tuple_new ?_⟩;rw[Around.under_plainId PySem.F.plain_tuple_new _];have di:=sub_tuple_self;have jD:=init_tuple_lookup;have nK:=madeHere_tuple;have cO:A.in1.handled=M:=hh;have jE:A.in1.in1.handled=M:=hh;have nt:=K.notTuple
 wp_walk using wpAny_typeOf (K.type s hok),Zel K cO hok hn,Zel K jE hok hn
 intro h' tk ai aR hk aq;show YB _ _ (Builtin.Tuple.tupleExact ai.toList.toArray >>= λv=>ret v) _ _ _;unfold Builtin.Tuple.tupleExact;refine Ya (Yr ?_ (by show ai.toList.toArray.size<=Yc;simp only[Array.toArray_toList];rw[aq.1];exact hn));refine Yd ?_;have e:ai.toList.toArray=ai:=by simp
 rw[e];exact h h' tk ai aR hk aq
def Zi7{prog}{w}{A}{E}{s}{Q}(K:PySem.W.KdlSrc prog w T r d n P OK)(hh:A.handled=M)(hok:OK s.heap)(hn:n<=Yc)
 (h:∀(h':YG) (tk) (ai),s.heap.objs.size<=h'.objs.size->(∀b o,s.heap.get? b=J o->h'.get? b=J o)->ItemsOf P ai n->Q (.ref h'.objs.size) {s with heap:=h'.push {cls:=.type "tuple",data:=.seq ai},toks:=tk}) :
 YB (model prog w) A (call (.type "tuple") [.ref r]) Q E s:=callType_codes (Q₁:=λobj c=>c.TypeIs obj _/\Q _ _) PySem.F.called_tuple (PySem.F.typeCall_tuple_1 _) PySem.F.entry_object_init
 (Zjz K hh hok hn λh' tk ai e f g=>⟨⟨_,Oj _ rfl,rfl⟩,h _ _ ai e f g⟩) λobj c a=>⟨a.1,PySem.F.args_object_init_2 _ _,object_init_meets PySem.F.called_tuple.init.lookup PySem.F.called_tuple.made (rfl) _ w _ _ _ ⟨a.1,rfl,a.2⟩⟩
def Ztd(P:Yi)(w:Yh)(K:Yl):List V->Hp->VK->Prop:=λc H Q=>∃a b,∃ss:List Str,c=[.ref a]/\Dk P w K H a b/\b.map (·.1)=ss.map YE/\∀p,H p=M->Q (.ref p) (upd H p<|.tup<|ss.map V.str)
theorem Zml (hc:X.A.handled=M):Zaa X (.type "tuple") (Ztd X.prog X.w X.K):=by
 rintro aa s Z H xs us Q I r⟨a,kvs,ss,rfl,hd,cN,q⟩;obtain⟨u,rfl,ru⟩:=vals1 r;cases ru;obtain⟨z,hm,vs,rel,dd⟩:=I.dk hd;obtain⟨ep,dM⟩:=dd.dictAt;have hl:=(Paired.length rel).symm;have bV:=by
   simpa using congrArg List.length cN
 have bf:∀ (j:Nat) k x,vs[j]?=J (k,x)->∃ y,ss[j]?=J y/\k=YE y:=λj k x e=>by
   have hj:j<vs.length:=(Ob.mp e).1;have R:kvs[j]?=J kvs[j]:=Og (by lia);obtain⟨u,hu,fA⟩:=Zdb rel R;rw [e] at hu;cases hu;have h3:(kvs.map (·.1))[j]?=J kvs[j].1:=by rw [On,R];rfl
   rw [cN,On] at h3;obtain⟨y,hy,e3⟩:=Oo.mp h3;exact⟨y,hy,fA.1.symm.I e3.symm⟩
 refine Zi7 (PySem.W.kdl_dict (knd:=ZH X.prog X.w) (kvs:=vs) (ep:=ep) hm) hc dM (by lia) λh' tk ai aR hk aq=>?_;have I1:=I.kept (t':=tk) hk;exact⟨.ref h'.objs.size,_,I1.laid (a:=h'.objs.size) (o:=.tup<|ss.map V.str) (t':=tk) (λb o e=>Od _ e) (Oq _) ⟨by simp;lia,ai.toList,ZcQ (Zc7 (P:=X.prog) (w:=X.w) ss ai.toList (by rw [Array.length_toList,aq.1];lia) λj v hv=>by
   obtain⟨k,x,e,dE⟩:=aq.2 j v<|Array.getElem?_toList.symm.I hv;obtain⟨y,hy,rfl⟩:=bf j k x e;exact⟨y,hy,dE⟩),Array.toArray_toList▸Zbl.fresh _ _⟩,rfl,q _<|I1.hok.fresh<|Oq _⟩
end
def Zu0(K:Yl)(sp:Sp)(C2:Yj)(ts:Yj->Obj->TS)(t:TA):TS:=λD Z H=>t Z H λvs H1=>sp vs H1 (λ_ H2=>D.nx Z H2) (λb _ H2=>∃C,b=.ref C/\YU K (.ref C) (.ref C2)=J Wq/\∀a c,ts a c D Z H2)
section
variable {X:Cx}{k:Nat}{x cx:Str}{ps:List Str}{sp:Sp}{e:Expr}{es:List Expr}{t:TA}{p np aw fT hpos pos:Pos}{C2:Yj}{b0:Stmt}{bq:List Stmt}{ts:Yj->Obj->TS}
def ZmW(F:Def X.prog X.w X.K X.mg X.base k x ps sp)(hr:Room k X.A)(hg:Gl X x)(ha:PA X.nox (e::es) t)
 (iJ:Gl X cx) (iG:X.mg cx=J (.ref C2)) (hC:ExcN X.K C2) (cr:X.stack=X.env::X.outer) (dI:X.env.frame=J X.env.locals)
 (dh:∀a oe,PSs (cxH X a oe) (b0::bq)<|ts a oe) (bu:(x==("__debug__" : Str))=Ws) (dJ:(cx==("__debug__" : Str))=Ws) (he:YA (e::es) X.env=(Ws,eval e X.env)::YA es X.env) (aE:(YS aw<|YA es X.env).any (·.1)=Ws)
 (ij:swapsWith (.Call (.Name x p) (e::es) [] aw) M fT.line X.env=pure Ws:=by rfl) :
 PS X (.Try [.Expr (.Call (.Name x p) (e::es) [] aw) fT] [.ExceptHandler (J<|.Name cx np) M (b0::bq) hpos] [] [] pos) (Zu0 X.K sp C2 ts t):=by
 obtain⟨f,P,hm,o,B,F⟩:=F;intro g s Z H D I h;refine wpAny_Try_except<|wpAny_execs_cons<|wpAny_Expr_any (YW<|Zdg I hg hm ?_ bu) I.quiet ij;refine PySem.W.callWith_K (h₀:=X.base) I.ok.mod.kin o (Yg (ha aw g s Z H _ (I.wish _) h) (λi j ⟨vs,H1,E,r,q⟩=>?_) λ_ _ z=>z.elim) he aE;have I1:Inv X g Z H1 j:=E.unwish;refine⟨I1.kIn,?_⟩;have G:(i++[]).length=ps.length:=by rw[Yt,<-r.length];exact F.len _ _ _ _ q
 have n:=B j i I1.kIn G;rw[Yt]at n;refine wpAny_call<|codeAny_mono (F.run X.A X.stack j H1 ⟨i,[]⟩ i vs _ _ hr I1.env0 n r q) λr l c=>?_;cases r with
 |ok m=>
  cases m with
  |ret u=>obtain⟨v,H',I',R,L⟩:=I1.after c;exact wpAny_execs_nil (wpAny_execs_nil ⟨Z,H',I',L⟩)
  |next=>exact False.elim c
  |brk=>exact False.elim c
  |cont=>exact False.elim c
 |error ev=>
  have c:CXF X.prog X.w X.stack H1 j (λd _ H2=>∃C,d=.ref C/\YU X.K (.ref C) (.ref C2)=J Wq/\∀a oe,ts a oe D Z H2) ev l:=c;refine ZpD (np:=np) (hpos:=hpos) (Z:=Z) (Q:=SP X g D) iJ iG hC cr dI dJ (λd H' z=>?_) (λd H' z=>?_) I1 c
  . obtain⟨C,rfl,N,ht⟩:=z;refine⟨N,λ_ _ a oe l _ I'=>?_⟩;refine Yg (dh a oe g l Z H' D I'<|ht a oe) (λm S b=>?_) λ_ _ z=>z;cases m with
    |next=>obtain⟨σ',H8,I8,b⟩:=b;exact⟨σ',H8,I8.ofH I.ok.hd,b⟩
    |brk=>obtain⟨σ',H8,I8,b⟩:=b;exact⟨σ',H8,I8.ofH I.ok.hd,b⟩
    |cont=>obtain⟨σ',H8,I8,b⟩:=b;exact⟨σ',H8,I8.ofH I.ok.hd,b⟩
    |ret v=>obtain⟨y,σ',H8,I8,O,b⟩:=b;exact⟨y,σ',H8,I8.ofH I.ok.hd,O,b⟩
  . obtain⟨C,rfl,_⟩:=z;exact⟨C,rfl⟩
end
end L2
namespace IV
open PySem PySem.Spec PyProof.Rows L2
set_option tactic.hygienic false
set_option genInjectivity true in
inductive D where
 |non|bl (b:Bool)|int (i:Int)|str (x:Str)|tup (xs:List D)|ref (i:Nat)|ty (n:String)
 |ro (xs:List D)|kd (x:Str)
set_option genInjectivity true in
inductive DO where
 |lst (xs:List D)|dic (kvs:List (Key×D))|ins (C:Str) (fs:List (Str×D))
 |fdic (kvs:List (Key×D))
 |dnk (kvs:List (NK×D))
noncomputable abbrev Hd:=List DO
set_option genInjectivity true in
inductive qd(α:Type) where
 |bad|ok (a:α) (h:Hd)|exc (c:Str) (h:Hd)
noncomputable def qd.bind(r:qd α)(k:α->Hd->qd β):qd β:=match r with
 |.bad=>.bad
 |.ok a h=>k a h
 |.exc c h=>.exc c h
def qd.bind_ok:(qd.ok a h).bind k=k a h:=rfl
def qd.bind_bad:(qd.bad:qd α).bind k=.bad:=rfl
noncomputable def qd.ofO(o:Option α)(h:Hd):qd α:=match o with
 |some a=>.ok a h
 |none=>.bad
def qd.ofO_some:qd.ofO (J a) h=.ok a h:=rfl
noncomputable abbrev Ev:=List (Option D)
inductive Bf where
 |len
 |isi
 |int
 |tup
 |lst
 |sum
 |srt
 |ldk
 |anb
 |tdk
 deriving DecidableEq
inductive Mf where
 |app|ext|pop|rev|clr
 deriving DecidableEq
inductive Tg where
 |nm (i:Nat)|two (i j:Nat)|many (is:List Nat)
mutual
inductive Ex where
 |var (i:Nat)
 |cst (d:D)
 |glo (x:Str)
 |bin (op:Operator) (a b:Ex)
 |cmp (op:CmpOp) (a b:Ex)
 |cmp2 (op bK:CmpOp) (a b c:Ex)
 |neg (a:Ex)
 |nt (a:Ex)
 |ands (es:Exs)
 |ors (es:Exs)
 |ite (c:Tx) (a b:Ex)
 |tupl (es:Exs)
 |lstl (es:Exs)
 |ix (a i:Ex)
 |sl (a:Ex) (lo hi:Option Ex)
 |blt (f:Bf) (es:Exs)
 |call (f:Str) (es:Exs)
 |meth (m:Mf) (o:Ex) (es:Exs)
 |comp (NC:List Str) (js:List (Option Nat)) (it:Ix) (g:Tg) (c:Option Tx) (e:Ex)
 |dictl (ps:Exs)
 |maxd (e d:Ex)
 |att (Cs:List Str) (o:Ex) (f:Str)
 |mk (C:Str) (es:Exs)
 |mcl (C m:Str) (o:Ex) (es:Exs)
 |any
 |lrv (e:Ex)
 |nin (n:Bool) (a b:Ex)
 |nix (a b:Ex)
 |ndl
inductive Exs where
 |nil|cons (e:Ex) (es:Exs)
inductive Ix where
 |pl (e:Ex)
 |rng (e:Ex)
 |enu (e:Ex)
 |rev (e:Ex)
 |dk (e:Ex)
 |zp (a b:Ex)
inductive Tx where
 |ex (e:Ex)|ands (ts:Txs)|ors (ts:Txs)|nt (a:Tx)
inductive Txs where
 |one (t:Tx)|cons (t:Tx) (ts:Txs)
end
noncomputable abbrev Ex.Ci_(i:Int):Ex:=.cst (.int i)
noncomputable abbrev Ex.Cs_(x:String):Ex:=.cst (.str<|O x)
mutual
inductive Sx where
 |ret (e:Ex)
 |set (g:Tg) (e:Ex)
 |put (o i e:Ex)
 |aug (i:Nat) (op:Operator) (e:Ex)
 |drp (e:Ex)
 |iff (c:Tx) (a b:Sxs)
 |whl (c:Tx) (b:Sxs)
 |forr (g:Tg) (it:Ix) (b:Sxs)
 |pas
 |brk
 |cnt
 |seta (Cs:List Str) (o:Ex) (f:Str) (e:Ex)
 |auga (Cs:List Str) (o:Ex) (f:Str) (e:Ex)
 |any
 |rai (C:Str) (e:Ex)
 |npt (o i e:Ex)
 |trr (f:Str) (es:Exs) (C:Str) (b:Bool)
inductive Sxs where
 |nil|cons (s:Sx) (r:Sxs)
 |trq (i n:Nat) (f:Str) (es:Exs) (C c W A B_:Str)
end
noncomputable abbrev Ex.v:=Ex.var
noncomputable abbrev Exs.c:=Exs.cons
noncomputable abbrev Exs.n:=Exs.nil
noncomputable abbrev Sxs.c:=Sxs.cons
noncomputable abbrev Sxs.n:=Sxs.nil
noncomputable abbrev Txs.c:=Txs.cons
noncomputable abbrev F0:=Ex.Ci_ 0
noncomputable abbrev F1:=Ex.Ci_ 1
noncomputable abbrev F10:=Ex.Ci_ 10
noncomputable abbrev F12:=Ex.Ci_ 12
noncomputable abbrev F15:=Ex.Ci_ 15
noncomputable abbrev F2:=Ex.Ci_ 2
noncomputable abbrev F20:=Ex.Ci_ 20
noncomputable abbrev F26:=Ex.Ci_ 26
noncomputable abbrev F29:=Ex.Ci_ 29
noncomputable abbrev F3:=Ex.Ci_ 3
noncomputable abbrev F30:=Ex.Ci_ 30
noncomputable abbrev F31:=Ex.Ci_ 31
noncomputable abbrev F4:=Ex.Ci_ 4
noncomputable abbrev F5:=Ex.Ci_ 5
noncomputable abbrev F6:=Ex.Ci_ 6
noncomputable abbrev F7:=Ex.Ci_ 7
noncomputable abbrev F8:=Ex.Ci_ 8
noncomputable abbrev V0:=Ex.var 0
noncomputable abbrev V1:=Ex.var 1
noncomputable abbrev V10:=Ex.var 10
noncomputable abbrev V2:=Ex.var 2
noncomputable abbrev V3:=Ex.var 3
noncomputable abbrev V4:=Ex.var 4
noncomputable abbrev V5:=Ex.var 5
noncomputable abbrev V6:=Ex.var 6
noncomputable abbrev V7:=Ex.var 7
noncomputable abbrev V8:=Ex.var 8
noncomputable abbrev V9:=Ex.var 9
noncomputable abbrev Exs.o(a:Ex):Exs:=.cons a .nil
noncomputable abbrev Sxs.o(a:Sx):Sxs:=.cons a .nil
noncomputable abbrev Exs.w(a b:Ex):Exs:=.cons a (.cons b .nil)
noncomputable abbrev Sxs.w(a b:Sx):Sxs:=.cons a (.cons b .nil)
noncomputable abbrev Exs.u(a b c:Ex):Exs:=.cons a (.cons b<|.cons c .nil)
noncomputable abbrev Sxs.u(a b c:Sx):Sxs:=.cons a (.cons b<|.cons c .nil)
noncomputable abbrev Exs.z(a b c d:Ex):Exs:=.cons a (.cons b<|.cons c<|.cons d .nil)
noncomputable abbrev Sxs.z(a b c d:Sx):Sxs:=.cons a (.cons b<|.cons c<|.cons d .nil)
noncomputable abbrev Exs.y(a b c d e:Ex):Exs:=.cons a (.cons b<|.cons c<|.cons d<|.cons e .nil)
noncomputable abbrev Sxs.y(a b c d e:Sx):Sxs:=.cons a (.cons b<|.cons c<|.cons d<|.cons e .nil)
noncomputable abbrev Tx.q(a b:Ex):Tx:=.ex (.cmp .Eq a b)
noncomputable abbrev Tx.nq(a b:Ex):Tx:=.ex (.cmp .NotEq a b)
noncomputable abbrev Tx.x(o:PySem.CmpOp)(a b:Ex):Tx:=.ex (.cmp o a b)
noncomputable abbrev Sx.s(i:Nat)(e:Ex):Sx:=.set (.nm i) e
noncomputable abbrev Ex.f(f:String)(e:Exs):Ex:=.call (O f) e
noncomputable abbrev Ex.a(c:String)(x:Ex)(f:String):Ex:=.att [O c] x (O f)
noncomputable abbrev Ex.m(c f:String)(x:Ex)(e:Exs):Ex:=.mcl (O c) (O f) x e
noncomputable abbrev Sx.sa(c:String)(x:Ex)(f:String)(e:Ex):Sx:=.seta [O c] x (O f) e
noncomputable instance:DecidableEq D:=λa b=>Classical.propDecidable (a=b)
noncomputable instance:DecidableEq DO:=λa b=>Classical.propDecidable (a=b)
mutual
noncomputable def D.py(rd:Nat->Option PyData):D->Option PyData
 |.non=>J .none
 |.bl b=>J (.bool b)
 |.int i=>J (.int i)
 |.str x=>J (.str x)
 |.tup xs=>(D.pys rd xs).map .tuple
 |.ro xs=>(D.pys rd xs).map .list
 |.ref i=>rd i
 |_=>M
noncomputable def D.pys(rd:Nat->Option PyData):List D->Option (List PyData)
 |[]=>J []
 |x::xs=>(D.py rd x).bind λd=>(D.pys rd xs).map λds=>d::ds
end
def Zd1(h:Hd):Nat->Nat->Option PyData
 |0,_=>M
 |n+1,i=>match h[i]? with
  |some (.lst a)=>(D.pys (Zd1 h n) a).map .list
  |_=>M
def Zku(h:Hd)(d:D):Option PyData:=D.py (Zd1 h 4) d
noncomputable def ZcW(o:DO)(h:Hd):qd D:=.ok (.ref h.length) (h++[o])
noncomputable def lstOf(d:D)(h:Hd):Option (List D):=match d with
 |.ref i=>match h[i]? with
  |some (.lst a)=>J a
  |_=>M
 |.ro a=>J a
 |_=>M
noncomputable def dicOf(GD:Str->Option (List<|Key×D))(d:D)(h:Hd):Option (List<|Key×D):=match d with
 |.ref i=>match h[i]? with
  |some (.dic a)=>J a
  |some (.fdic a)=>J a
  |_=>M
 |.kd x=>GD x
 |_=>M
noncomputable def keyOf:D->Option Key
 |.int i=>J (.inl i)
 |.str x=>J (.inr x)
 |_=>M
noncomputable def Zw(kvs:List (Key×D))(k:Key):Option D:=(kvs.find? λp=>Wu<|p.1=k).map (·.2)
noncomputable def putD(kvs:List (Key×D))(k:Key)(v:D):List (Key×D):=if (kvs.any λkv=>Wu<|kv.1=k)=Wq then kvs.map (λkv=>if kv.1=k then(kv.1,v)else kv)else kvs++[(k,v)]
def cutD(xs:List D)(lo hi:Option Int):List D:=(xs.drop<|HT.sIx xs.length 0 lo).take (HT.sIx xs.length xs.length hi-HT.sIx xs.length 0 lo)
noncomputable def D.flat:D->Bool
 |.int _|.str _|.bl _|.non=>Wq
 |_=>Ws
noncomputable def eqF:D->D->Bool
 |.int i,.int j=>i==j
 |.str i,.str j=>i==j
 |.non,.non=>Wq
 |.bl i,.bl j=>i==j
 |.int i,.bl j=>i==(if j then 1 else 0)
 |.bl i,.int j=>(if i then 1 else 0)==j
 |_,_=>Ws
noncomputable def ZfF(GD:Str->Option (List<|Key×D))(d:D)(h:Hd):Option Bool:=match d with
 |.non=>J Ws
 |.bl b=>J b
 |.int i=>J (i != 0)
 |.str x=>if x.length<=Yc then J (!(x.length==0))else M
 |.tup a=>J (!a.isEmpty)
 |.ref i=>match h[i]? with
  |some (.lst a)=>J (!a.isEmpty)
  |some (.dic a)=>J (!a.isEmpty)
  |_=>M
 |.ro a=>J (!a.isEmpty)
 |_=>M
noncomputable def int2(x y:D)(k:Int->Int->qd D):qd D:=match x with
 |.int i=>match y with
  |.int j=>k i j
  |_=>.bad
 |_=>.bad
def ZuQ(x y:D)(h:Hd):qd D:=match x with
 |.int i=>match y with
  |.int j=>.ok (.int<|i+j) h
  |_=>.bad
 |.str i=>match y with
  |.str j=>if i.length+j.length<=Yc then .ok (.str<|i++j) h else .bad
  |_=>.bad
 |.tup xs=>match y with
  |.tup a=>if xs.length+a.length<=Yc then .ok (.tup<|xs++a) h else .bad
  |_=>.bad
 |.ref i=>match y with
  |.ref j=>match h[i]? with
   |some (.lst xs)=>match h[j]? with
    |some (.lst a)=>if xs.length+a.length<=Yc then ZcW (.lst<|xs++a) h else .bad
    |_=>.bad
   |_=>.bad
  |_=>.bad
 |_=>.bad
def Zzw(x y:D)(h:Hd):qd D:=match x with
 |.str z=>match y with
  |.int n=>if 0<=n/\n<=1000/\z.length<=1000 then .ok (.str<|ZhK z n.toNat) h else .bad
  |_=>.bad
 |x=>int2 x y λi j=>if i.natAbs<2^2000/\j.natAbs<2^2000 then .ok (.int<|i*j) h else .bad
def opB(op:Operator)(x y:D)(h:Hd):qd D:=match op with
 |.Add=>ZuQ x y h
 |.Sub=>int2 x y λi j=>.ok (.int<|i-j) h
 |.Mult=>Zzw x y h
 |.Mod=>int2 x y λi j=>if 0<j then .ok (.int<|i%j) h else .bad
 |.FloorDiv=>int2 x y λi j=>if 0<j/\j<1073741824 then .ok (.int<|i/j) h else .bad
 |.Pow=>int2 x y λi j=>if 0<=j/\j<=1000000/\i.natAbs<2^64 then .ok (.int<|i^j.toNat) h else .bad
 |_=>.bad
def ZbE(neg:Bool)(x y:D)(h:Hd):qd D:=match Zku h x,Zku h y with
 |some a,J b=>if min a.depth b.depth<=1100 then .ok (.bl<|if neg then !YQ a b else YQ a b) h else .bad
 |_,_=>.bad
def seqOf(d:D)(h:Hd):Option (List D):=match d with
 |.tup a=>J a
 |d=>lstOf d h
def ZaC(GD:Str->Option (List<|Key×D))(neg:Bool)(x y:D)(h:Hd):qd D:=match seqOf y h with
 |some b=>if x.flat&&b.all D.flat then .ok (.bl<|if neg then !b.any (λz=>eqF z x)else b.any λz=>eqF z x) h else .bad
 |none=>match dicOf GD y h,keyOf x with
  |some a,J k=>.ok (.bl<|if neg then !(Zw a k).isSome else(Zw a k).isSome) h
  |_,_=>.bad
noncomputable def Zkx(f:Int->Int->Bool)(x y:D)(h:Hd):qd D:=match x,y with
 |.int i,.int j=>.ok (.bl<|f i j) h
 |_,_=>.bad
noncomputable def opN(neg:Bool)(x y:D)(h:Hd):qd D:=match y with
 |.non=>.ok (.bl<|if neg then !Wu (x=.non)else Wu (x=.non)) h
 |_=>.bad
def opC(GD:Str->Option (List<|Key×D))(op:CmpOp)(x y:D)(h:Hd):qd D:=match op with
 |.Eq=>ZbE Ws x y h
 |.NotEq=>ZbE Wq x y h
 |.Lt=>Zkx (λi j=>Wu<|i<j) x y h
 |.LtE=>Zkx (λi j=>Wu<|i<=j) x y h
 |.Gt=>Zkx (λi j=>Wu<|j<i) x y h
 |.GtE=>Zkx (λi j=>Wu<|j<=i) x y h
 |.In=>ZaC GD Ws x y h
 |.NotIn=>ZaC GD Wq x y h
 |.Is=>opN Ws x y h
 |.IsNot=>opN Wq x y h
def ZaR(GD:Str->Option (List<|Key×D))(x y:D)(h:Hd):qd D:=match y with
 |.int i=>match seqOf x h with
  |some b=>qd.ofO (atI b i) h
  |none=>match x with
   |.str z=>if z.length<=Yc then qd.ofO ((atI z.cps.toList i).map λc=>.str ⟨#[c]⟩) h else .bad
   |_=>match dicOf GD x h with
    |some a=>qd.ofO (Zw a<|.inl i) h
    |none=>.bad
 |.str z=>match dicOf GD x h with
  |some a=>qd.ofO (Zw a<|.inr z) h
  |none=>.bad
 |_=>.bad
def Zis(x:D)(l u:Option Int)(h:Hd):qd D:=match x with
 |.tup a=>.ok (.tup<|cutD a l u) h
 |.str y=>if y.length<=Yc then .ok (.str<|Yq y l u) h else .bad
 |d=>match lstOf d h with
  |some a=>ZcW (.lst<|cutD a l u) h
  |none=>.bad
def ZvI(d:D)(h:Hd):Option String:=match d with
 |.int _=>J "int"
 |.str _=>J "str"
 |.bl _=>J "bool"
 |.non=>J "NoneType"
 |.tup _=>J "tuple"
 |d=>(lstOf d h).map λ_ => "list"
noncomputable def ZkJ(t T:String):Option Bool:=if T∈["int", "str", "bool", "tuple", "list"]/\t∈["int", "str", "bool", "tuple", "list", "NoneType"]then J (t==T||(t == "bool" && T == "int"))else M
noncomputable def intsOf:List D->Option (List Int)
 |[]=>J []
 |.int i::r=>(intsOf r).map λz=>i::z
 |_=>M
noncomputable def Zkd:List D->Option (List Bool)
 |[]=>J []
 |.bl i::r=>(Zkd r).map λz=>i::z
 |_=>M
noncomputable def strsOf:List D->Option (List Str)
 |[]=>J []
 |.str i::r=>(strsOf r).map λz=>i::z
 |_=>M
noncomputable def Z0:List (Key×D)->Option (List Str)
 |[]=>J []
 |(.inr x,_)::r=>(Z0 r).map λz=>x::z
 |_=>M
noncomputable def Zpw(x:Str):List Str->List Str
 |[]=>[x]
 |y::r=>if ltCps y.cps.toList x.cps.toList then y::Zpw x r else x::y::r
def ZdI:List Str->List Str
 |[]=>[]
 |x::r=>Zpw x (ZdI r)
def ZmC(xs:List D)(h:Hd):qd D:=match xs with
 |[.str y]=>if y.length<=Yc then .ok (.int y.length) h else .bad
 |[d]=>qd.ofO ((seqOf d h).map λxs=>.int xs.length) h
 |_=>.bad
def ZuO(xs:List D)(h:Hd):qd D:=match xs with
 |[d,.ty T]=>qd.ofO ((ZvI d h).bind λt=>(ZkJ t T).map .bl) h
 |_=>.bad
noncomputable def ZxU(xs:List D)(h:Hd):qd D:=match xs with
 |[.int i]=>.ok (.int i) h
 |[.bl b]=>.ok (.int<|if b then 1 else 0) h
 |_=>.bad
def Zqd(xs:List D)(h:Hd):qd D:=match xs with
 |[.tup xs]=>.ok (.tup xs) h
 |[d]=>qd.ofO ((lstOf d h).map .tup) h
 |_=>.bad
def Zsy(xs:List D)(h:Hd):qd D:=match xs with
 |[d]=>match seqOf d h with
  |some xs=>ZcW (.lst xs) h
  |none=>.bad
 |_=>.bad
def Zsx(xs:List D)(h:Hd):qd D:=match xs with
 |[d]=>qd.ofO (((lstOf d h).bind intsOf).map λa=>.int a.sum) h
 |_=>.bad
def Zg2(GD:Str->Option (List<|Key×D))(xs:List D)(h:Hd):qd D:=match xs with
 |[d]=>match (dicOf GD d h).bind Z0 with
  |some a=>if a.length<64/\a.all Yp=Wq then ZcW (.lst<|(ZdI a).map .str) h else .bad
  |none=>.bad
 |_=>.bad
def Zsz(GD:Str->Option (List<|Key×D))(xs:List D)(h:Hd):qd D:=match xs with
 |[d]=>match (dicOf GD d h).bind Z0 with
  |some ss=>if ss.all Yp=Wq then ZcW (.lst<|ss.map .str) h else .bad
  |none=>.bad
 |_=>.bad
def nkD:D->Option NK
 |.tup [.int n,.tup a]=>(strsOf a).map λa=>(n,a)
 |_=>M
noncomputable def valN(kvs:List (NK×D))(k:NK):Option D:=(kvs.find? λp=>Wu<|p.1=k).map (·.2)
noncomputable def putN(kvs:List (NK×D))(k:NK)(v:D):List (NK×D):=if (kvs.any λkv=>Wu<|kv.1=k)=Wq then kvs.map (λkv=>if kv.1=k then(kv.1,v)else kv)else kvs++[(k,v)]
noncomputable def Zp0(d:D)(h:Hd):Option (List<|NK×D):=match d with
 |.ref i=>match h[i]? with
  |some (.dnk a)=>J a
  |_=>M
 |_=>M
def ZnP(n:Bool)(x y:D)(h:Hd):qd D:=match Zp0 y h with
 |some a=>match nkD x with
  |some k=>.ok (.bl<|if n then !(valN a k).isSome else(valN a k).isSome) h
  |none=>.bad
 |none=>.bad
def ZuN(x y:D)(h:Hd):qd D:=match Zp0 x h with
 |some a=>match nkD y with
  |some k=>qd.ofO (valN a k) h
  |none=>.bad
 |none=>.bad
def ZuM(o i v:D)(h:Hd):qd Unit:=match o with
 |.ref a=>match h[a]? with
  |some (.dnk b)=>match nkD i with
   |some k=>if b.length<Yc then .ok () (h.set a<|.dnk<|putN b k v)else .bad
   |none=>.bad
  |_=>.bad
 |_=>.bad
def ZxV(xs:List D)(h:Hd):qd D:=match xs with
 |[d]=>qd.ofO (((lstOf d h).bind Zkd).map λbs=>.bl<|bs.any id) h
 |_=>.bad
def Zsw(GD:Str->Option (List<|Key×D))(xs:List D)(h:Hd):qd D:=match xs with
 |[d]=>match (dicOf GD d h).bind Z0 with
  |some ss=>if ss.all Yp=Wq then .ok (.tup<|ss.map .str) h else .bad
  |none=>.bad
 |_=>.bad
def Zpd(x d:D)(h:Hd):qd D:=match d with
 |.int d=>qd.ofO (((lstOf x h).bind intsOf).map λa=>.int<|Zg8 a d) h
 |_=>.bad
def Zan(GD:Str->Option (List<|Key×D)):Bf->List D->Hd->qd D
 |.len=>ZmC
 |.isi=>ZuO
 |.int=>ZxU
 |.tup=>Zqd
 |.lst=>Zsy
 |.sum=>Zsx
 |.srt=>Zg2 GD
 |.ldk=>Zsz GD
 |.anb=>ZxV
 |.tdk=>Zsw GD
def ZAk(x:D)(h:Hd):qd D:=match x with
 |.tup a=>ZcW (.lst a.reverse) h
 |_=>.bad
def ZaX:List D->Option (List<|Key×D)
 |[]=>J []
 |k::v::r=>match keyOf k,ZaX r with
  |some k,J r=>J ((k,v)::r)
  |_,_=>M
 |_=>M
def Zbi(kvs more:List (Key×D)):List (Key×D):=more.foldl (λb a=>putD b a.1 a.2) kvs
noncomputable def ZrI(i:Nat)(ys xs:List D)(h:Hd):qd D:=match xs with
 |[d]=>if ys.length<Yc then .ok .non (h.set i<|.lst<|ys++[d])else .bad
 |_=>.bad
noncomputable def ZwS(i:Nat)(ys xs:List D)(h:Hd):qd D:=match xs with
 |[.ref j]=>match h[j]? with
  |some (.lst a)=>if ys.length+a.length<=Yc then .ok .non (h.set i<|.lst<|ys++a)else .bad
  |_=>.bad
 |[.tup a]=>if ys.length+a.length<=Yc then .ok .non (h.set i<|.lst<|ys++a)else .bad
 |_=>.bad
noncomputable def Zt4(i:Nat)(ys xs:List D)(h:Hd):qd D:=match xs with
 |[]=>match ys[ys.length-1]? with
  |some y=>.ok y (h.set i<|.lst ys.dropLast)
  |none=>.bad
 |_=>.bad
noncomputable def ZwR(i:Nat)(ys xs:List D)(h:Hd):qd D:=match xs with
 |[]=>.ok .non (h.set i<|.lst ys.reverse)
 |_=>.bad
noncomputable def ZzA(i:Nat)(ys xs:List D)(h:Hd):qd D:=match xs with
 |[]=>.ok .non (h.set i<|.lst [])
 |_=>.bad
def ZhL:Mf->Nat->List D->List D->Hd->qd D
 |.app=>ZrI
 |.ext=>ZwS
 |.pop=>Zt4
 |.rev=>ZwR
 |.clr=>ZzA
def ZbM(m:Mf)(o:D)(xs:List D)(h:Hd):qd D:=match o with
 |.ref i=>match h[i]? with
  |some (.lst a)=>ZhL m i a xs h
  |_=>.bad
 |_=>.bad
noncomputable def Zhx(o:D)(h:Hd):Bool:=match o with
 |.ref i=>match h[i]? with
  |some (.lst _)=>Wq
  |_=>Ws
 |_=>Ws
def Z1(o i v:D)(h:Hd):qd Unit:=match o with
 |.ref a=>match h[a]? with
  |some (.lst xs)=>match i with
   |.int k=>match ixN xs.length k with
    |some j=>.ok () (h.set a<|.lst<|xs.set j v)
    |none=>.bad
   |_=>.bad
  |some (.dic b)=>match keyOf i with
   |some k=>if b.length<Yc then .ok () (h.set a<|.dic<|putD b k v)else .bad
   |none=>.bad
  |_=>.bad
 |_=>.bad
structure Wk where
 src:List (Nat×List D)
 xs:List D
noncomputable def Wk.stays:List (Nat×List D)->Hd->Bool
 |[],_=>Wq
 |(i,a)::r,h=>Wu (h[i]?=J (.lst a))&&Wk.stays r h
noncomputable def ZaW(d:D)(h:Hd):Option Wk:=match d with
 |.tup a=>J ⟨[],a⟩
 |.ro a=>J ⟨[],a⟩
 |.ref i=>match h[i]? with
  |some (.lst a)=>J ⟨[(i,a)],a⟩
  |_=>M
 |_=>M
noncomputable def ZjN(d:D)(h:Hd):Option Wk:=match d with
 |.ro a=>J ⟨[],a⟩
 |.ref i=>match h[i]? with
  |some (.lst a)=>J ⟨[(i,a)],a⟩
  |_=>M
 |_=>M
noncomputable def ZjM(d:D)(h:Hd):Option Wk:=match d with
 |.tup a=>J ⟨[],a⟩
 |.ref i=>match h[i]? with
  |some (.lst a)=>J ⟨[(i,a)],a⟩
  |_=>M
 |_=>M
noncomputable def Zaj(lo:Int)(n:Nat):List D:=(List.range n).map λ(k:Nat)=>.int (lo+(k:Int))
noncomputable def Zfz(xs:List D):List D:=xs.mapIdx λk x=>.tup [.int (k:Int),x]
noncomputable def Zjw(xs ys:List D):List D:=List.zipWith (λx y=>.tup [x,y]) xs ys
noncomputable def ZrQ:Key->D
 |.inl i=>.int i
 |.inr x=>.str x
def zpD(x y:D)(h:Hd):qd Wk:=match x with
 |.tup a=>match y with
  |.tup b=>if a.length=b.length then .ok ⟨[],Zjw a b⟩ h else .bad
  |_=>.bad
 |_=>.bad
def Zno(x:D)(h:Hd):qd Wk:=match x with
 |.ref i=>match h[i]? with
  |some (.dic a)=>.ok ⟨[],a.map λp=>ZrQ p.1⟩ (h.set i<|.fdic a)
  |some (.fdic a)=>.ok ⟨[],a.map λp=>ZrQ p.1⟩ h
  |_=>.bad
 |_=>.bad
noncomputable def Zb6(i:Int):Bool:=Wu (-(2^62)<=i)&&Wu (i<2^62)
noncomputable def ZmP:List Nat->List D->Ev->Ev
 |i::is,x::a,S=>ZmP is a (S.set i<|J x)
 |_,_,S=>S
def Zbu(g:Tg)(d:D)(S:Ev):Option Ev:=match g with
 |.nm i=>J (S.set i<|J d)
 |.two i j=>match d with
  |.tup [a,b]=>J ((S.set i<|J a).set j<|J b)
  |_=>M
 |.many is=>match d with
  |.tup c=>if c.length=is.length then J (ZmP is c S)else M
  |_=>M
def ZbQ(js:List (Option Nat))(S:Ev):Ev:=js.map λo=>o.bind λj=>(S[j]?).join
inductive Fl where
 |nx|bk|ct|rt (d:D)
def ZY(src:List (Nat×List D))(g:Tg)(body:Ev->Hd->qd (Fl×Ev)):List D->Ev->Hd->qd (Fl×Ev)
 |[],S,h=>if Wk.stays src h then .ok (.nx,S) h else .bad
 |d::b,S,h=>if Wk.stays src h then match Zbu g d S with
  |none=>.bad
  |some ρ1=>(body ρ1 h).bind λp a=>match p with
   |(.nx,ρ2)=>ZY src g body b ρ2 a
   |(.ct,ρ2)=>ZY src g body b ρ2 a
   |(.bk,ρ2)=>.ok (.nx,ρ2) a
   |(.rt d,ρ2)=>.ok (.rt d,ρ2) a
  else .bad
noncomputable def ZU(test:Ev->Hd->qd Bool)(body:Ev->Hd->qd (Fl×Ev)):Nat->Ev->Hd->qd (Fl×Ev)
 |0,_,_=>.bad
 |n+1,S,h=>(test S h).bind λb R=>if b then(body S R).bind λp a=>match p with
  |(.nx,ρ2)=>ZU test body n ρ2 a
  |(.ct,ρ2)=>ZU test body n ρ2 a
  |(.bk,ρ2)=>.ok (.nx,ρ2) a
  |(.rt d,ρ2)=>.ok (.rt d,ρ2) a
  else .ok (.nx,S) R
@[reducible] def qd.plain:qd α->qd α
 |.exc _ _=>.bad
 |r=>r
def ZF(src:List (Nat×List D))(g:Tg)(test:Ev->Hd->qd Bool)(aF:Ev->Hd->qd D):List D->Ev->List D->Hd->qd (List D)
 |[],_,a,h=>if Wk.stays src h then .ok a h else .bad
 |d::c,S,a,h=>if Wk.stays src h/\a.length<Yc then match Zbu g d S with
  |none=>.bad
  |some ρ1=>(test ρ1 h).plain.bind λb R=>if b then(aF ρ1 R).plain.bind λx e=>ZF src g test aF c S (a++[x]) e else ZF src g test aF c S a R
  else .bad
noncomputable def catchR(C:Str)(b:Bool)(S:Ev)(r:qd D):qd (Fl×Ev):=match r with
 |.ok _ h=>.ok (.nx,S) h
 |.exc c h=>if c=C then .ok (.rt<|.bl b,S) h else .bad
 |.bad=>.bad
noncomputable def ZxI(C:Str)(S:Ev)(r:qd D):qd (Fl×Ev):=match r with
 |.exc c h=>if c=C then .ok (.rt<|.bl Wq,S) h else .bad
 |_=>.bad
noncomputable def mnm(C m:Str):Str:=C++(O "." ++ m)
def ZZ(d:D)(h:Hd):Option (Str×List (Str×D)):=match d with
 |.ref i=>match h[i]? with
  |some (.ins C fs)=>J (C,fs)
  |_=>M
 |_=>M
def ZfM(Cs:List Str)(f:Str)(x:D)(h:Hd):qd D:=match ZZ x h with
 |some (C,fs)=>if C∈Cs then qd.ofO (fs.lookup f) h else .bad
 |none=>.bad
noncomputable def Zin(f:Str)(v:D):List (Str×D)->List (Str×D)
 |[]=>[(f,v)]
 |(g,x)::r=>if g=f then(g,v)::r else(g,x)::Zin f v r
def Zjy(Cs:List Str)(f:Str)(x d:D)(h:Hd):qd D:=match x with
 |.ref i=>match h[i]? with
  |some (.ins C fs)=>if C∈Cs/\fs.length<1000 then .ok .non (h.set i<|.ins C<|Zin f d fs)else .bad
  |_=>.bad
 |_=>.bad
def Zm9(Cf:Str->List D->Hd->qd D)(C:Str)(xs:List D)(h:Hd):qd D:=(Cf (mnm C<|O "__init__") (.ref h.length::xs)<|h++[.ins C []]).bind λd a=>match d with
 |.non=>.ok (.ref h.length) a
 |_=>.bad
structure Tb where
 G:Str->Option D
 GD:Str->Option (List<|Key×D)
 C:Str->List D->Hd->qd D
 L:Nat
mutual
noncomputable def ev(T:Tb):Ex->Ev->Hd->qd D
 |.var i,S,h=>qd.ofO (S[i]?).join h
 |.cst d,_,h=>.ok d h
 |.glo x,_,h=>qd.ofO (T.G x) h
 |.bin op a b,S,h=>(ev T a S h).bind λx R=>(ev T b S R).bind λy h2=>opB op x y h2
 |.cmp op a b,S,h=>(ev T a S h).bind λx R=>(ev T b S R).bind λy h2=>opC T.GD op x y h2
 |.cmp2 op bK a b c,S,h=>(ev T a S h).bind λx R=>(ev T b S R).bind λy h2=>(opC T.GD op x y h2).bind λr h3=>match r with
  |.bl Wq=>(ev T c S h3).bind λz h4=>opC T.GD bK y z h4
  |.bl Ws=>.ok (.bl Ws) h3
  |_=>.bad
 |.neg a,S,h=>(ev T a S h).bind λx R=>match x with
  |.int i=>.ok (.int<|-i) R
  |_=>.bad
 |.nt a,S,h=>(ev T a S h).bind λx R=>match x with
  |.bl b=>.ok (.bl<|!b) R
  |_=>.bad
 |.ands es,S,h=>evAnd T es S h
 |.ors es,S,h=>evOr T es S h
 |.ite c a b,S,h=>(tst T c S h).bind λc R=>if c then ev T a S R else ev T b S R
 |.tupl es,S,h=>(evs T es S h).bind λxs R=>if xs.length<=Yc then .ok (.tup xs) R else .bad
 |.lstl es,S,h=>(evs T es S h).bind λxs R=>if xs.length<=Yc then ZcW (.lst xs) R else .bad
 |.ix a i,S,h=>(ev T a S h).bind λx R=>(ev T i S R).bind λy h2=>ZaR T.GD x y h2
 |.sl a lo hi,S,h=>(ev T a S h).bind λx R=>(evo T lo S R).bind λl h2=>(evo T hi S h2).bind λu h3=>Zis x l u h3
 |.blt f es,S,h=>(evs T es S h).bind λxs R=>Zan T.GD f xs R
 |.call f es,S,h=>(evs T es S h).bind λxs R=>T.C f xs R
 |.meth m o es,S,h=>(ev T o S h).bind λx R=>if Zhx x R then(evs T es S R).bind λxs h2=>ZbM m x xs h2 else .bad
 |.comp _ js it g c e,S,h=>(evi T it S h).bind λw R=>(ZF w.src g (tsto T c) (ev T e) w.xs (ZbQ js S) [] R).bind λxs h2=>ZcW (.lst xs) h2
 |.maxd e d,S,h=>(ev T e S h).bind λx R=>(ev T d S R).bind λy h2=>Zpd x y h2
 |.dictl ps,S,h=>(evs T ps S h).bind λxs R=>match ZaX xs with
  |some kvs=>if kvs.length<=15 then ZcW (.dic<|Zbi [] kvs) R else .bad
  |none=>.bad
 |.att Cs o f,S,h=>(ev T o S h).bind λx R=>ZfM Cs f x R
 |.mk C es,S,h=>(evs T es S h).bind λxs R=>Zm9 T.C C xs R
 |.mcl C m o es,S,h=>(ev T o S h).bind λx R=>match ZZ x R with
  |some (C',fs)=>if C'=C/\fs.lookup m=M then(evs T es S R).bind λxs h2=>T.C (mnm C m) (x::xs) h2 else .bad
  |none=>.bad
 |.any,_,_=>.bad
 |.lrv e,S,h=>(ev T e S h).bind λx R=>ZAk x R
 |.nin n a b,S,h=>(ev T a S h).bind λx R=>(ev T b S R).bind λy h2=>ZnP n x y h2
 |.nix a b,S,h=>(ev T a S h).bind λx R=>(ev T b S R).bind λy h2=>ZuN x y h2
 |.ndl,_,h=>ZcW (.dnk []) h
noncomputable def evs(T:Tb):Exs->Ev->Hd->qd (List D)
 |.nil,_,h=>.ok [] h
 |.cons e es,S,h=>(ev T e S h).bind λx R=>(evs T es S R).bind λxs h2=>.ok (x::xs) h2
noncomputable def evAnd(T:Tb):Exs->Ev->Hd->qd D
 |.nil,_,_=>.bad
 |.cons e es,S,h=>match es with
  |.nil=>ev T e S h
  |.cons _ _=>(ev T e S h).bind λx R=>match x with
   |.bl Wq=>evAnd T es S R
   |.bl Ws=>.ok (.bl Ws) R
   |_=>.bad
noncomputable def evOr(T:Tb):Exs->Ev->Hd->qd D
 |.nil,_,_=>.bad
 |.cons e es,S,h=>match es with
  |.nil=>ev T e S h
  |.cons _ _=>(ev T e S h).bind λx R=>match x with
   |.bl Wq=>.ok (.bl Wq) R
   |.bl Ws=>evOr T es S R
   |_=>.bad
noncomputable def evo(T:Tb):Option Ex->Ev->Hd->qd (Option Int)
 |none,_,h=>.ok M h
 |some e,S,h=>(ev T e S h).bind λx R=>match x with
  |.int i=>.ok (J i) R
  |_=>.bad
noncomputable def tst(T:Tb):Tx->Ev->Hd->qd Bool
 |.ex e,S,h=>(ev T e S h).bind λx R=>qd.ofO (ZfF T.GD x R) R
 |.ands ts,S,h=>tstAnd T ts S h
 |.ors ts,S,h=>tstOr T ts S h
 |.nt a,S,h=>(tst T a S h).bind λc R=>.ok (!c) R
noncomputable def tstAnd(T:Tb):Txs->Ev->Hd->qd Bool
 |.one t,S,h=>tst T t S h
 |.cons t ts,S,h=>(tst T t S h).bind λc R=>if c then tstAnd T ts S R else .ok Ws R
noncomputable def tstOr(T:Tb):Txs->Ev->Hd->qd Bool
 |.one t,S,h=>tst T t S h
 |.cons t ts,S,h=>(tst T t S h).bind λc R=>if c then .ok Wq R else tstOr T ts S R
noncomputable def tsto(T:Tb):Option Tx->Ev->Hd->qd Bool
 |none,_,h=>.ok Wq h
 |some e,S,h=>tst T e S h
noncomputable def evi(T:Tb):Ix->Ev->Hd->qd Wk
 |.pl e,S,h=>(ev T e S h).bind λx R=>qd.ofO (ZaW x R) R
 |.rng e,S,h=>(ev T e S h).bind λx R=>match x with
  |.int j=>if Zb6 j then .ok ⟨[],Zaj 0 j.toNat⟩ R else .bad
  |_=>.bad
 |.enu e,S,h=>(ev T e S h).bind λx R=>qd.ofO ((ZjN x R).map λw=>⟨w.src,Zfz w.xs⟩) R
 |.rev e,S,h=>(ev T e S h).bind λx R=>qd.ofO ((ZjM x R).map λw=>⟨w.src,w.xs.reverse⟩) R
 |.dk e,S,h=>(ev T e S h).bind λx R=>Zno x R
 |.zp a b,S,h=>(ev T a S h).bind λx R=>(ev T b S R).bind λy h2=>zpD x y h2
end
mutual
noncomputable def xs1(T:Tb):Sx->Ev->Hd->qd (Fl×Ev)
 |.ret e,S,h=>(ev T e S h).bind λx R=>.ok (.rt x,S) R
 |.set g e,S,h=>(ev T e S h).bind λx R=>(qd.ofO (Zbu g x S) R).bind λρ1 h2=>.ok (.nx,ρ1) h2
 |.put o i e,S,h=>(ev T e S h).bind λx R=>(ev T o S R).bind λy h2=>(ev T i S h2).bind λz h3=>(Z1 y z x h3).bind λ_ h4=>.ok (.nx,S) h4
 |.aug i op e,S,h=>(qd.ofO (S[i]?).join h).bind λx R=>(ev T e S R).bind λy h2=>match op,x,y with
  |.Add,.int a,.int b=>.ok (.nx,S.set i<|J<|.int<|a+b) h2
  |_,_,_=>.bad
 |.drp e,S,h=>(ev T e S h).bind λ_ R=>.ok (.nx,S) R
 |.iff c a b,S,h=>(tst T c S h).bind λt R=>if t then xs2 T a S R else xs2 T b S R
 |.whl c b,S,h=>ZU (tst T c) (xs2 T b) T.L S h
 |.forr g it b,S,h=>(evi T it S h).bind λw R=>ZY w.src g (xs2 T b) w.xs S R
 |.pas,S,h=>.ok (.nx,S) h
 |.brk,S,h=>.ok (.bk,S) h
 |.cnt,S,h=>.ok (.ct,S) h
 |.seta Cs o f e,S,h=>(ev T e S h).bind λd R=>(ev T o S R).bind λx h2=>(Zjy Cs f x d h2).bind λ_ h3=>.ok (.nx,S) h3
 |.auga Cs o f e,S,h=>(ev T o S h).bind λx R=>(ZfM Cs f x R).bind λv h2=>(ev T e S h2).bind λy h3=>match v,y with
  |.int a,.int b=>if (ZZ x R).map (·.1)=(ZZ x h3).map (·.1)then(Zjy Cs f x (.int<|a+b) h3).bind λ_ h4=>.ok (.nx,S) h4 else .bad
  |_,_=>.bad
 |.any,_,_=>.bad
 |.rai C e,S,h=>(ev T e S h).bind λ_ R=>.exc C R
 |.npt o i e,S,h=>(ev T e S h).bind λx R=>(ev T o S R).bind λy h2=>(ev T i S h2).bind λz h3=>(ZuM y z x h3).bind λ_ h4=>.ok (.nx,S) h4
 |.trr f es C b,S,h=>(evs T es S h).plain.bind λxs R=>catchR C b S (T.C f xs R)
noncomputable def xs2(T:Tb):Sxs->Ev->Hd->qd (Fl×Ev)
 |.nil,S,h=>.ok (.nx,S) h
 |.trq _ _ f es _ c _ _ _,S,h=>(evs T es S h).plain.bind λxs R=>ZxI c S (T.C f xs R)
 |.cons s r,S,h=>(xs1 T s S h).bind λp R=>match p with
  |(.nx,ρ1)=>xs2 T r ρ1 R
  |p=>.ok p R
end
structure Fd where
 ps:List Str
 N:List Str
 body:Sxs
noncomputable abbrev fd_(n:Nat)(l:List String)(b:Sxs):Fd:=⟨(l.map O).take n,l.map O,b⟩
structure Pg where
 tb:List (Str×Fd)
 G:Str->Option D
 GD:Str->Option (List<|Key×D)
 L:Nat
 ms:List (Str×Fd):=[]
noncomputable def Pg.look(P:Pg)(f:Str):Option Fd:=match P.tb.lookup f with
 |some a=>J a
 |none=>P.ms.lookup f
noncomputable def ZG(N:List Str)(ds:List D):Ev:=ds.map J++YK (N.length-ds.length) M
noncomputable def Zn:qd (Fl×Ev)->qd D
 |.ok (.rt d,_) h=>.ok d h
 |.ok (.nx,_) h=>.ok .non h
 |.exc c h=>.exc c h
 |_=>.bad
def run(P:Pg):Nat->Str->List D->Hd->qd D
 |0,_,_,_=>.bad
 |n+1,f,b,h=>match P.look f with
  |none=>.bad
  |some a=>if b.length=a.ps.length then Zn (xs2 ⟨P.G,P.GD,run P n,P.L⟩ a.body (ZG a.N b) h)else .bad
def Pg.tbl(P:Pg)(n:Nat):Tb:=⟨P.G,P.GD,run P n,P.L⟩
def FzL(K:Yl)(H:Hp)(a:Yj)(xs:List V):Prop:=(∃o,H a=J (.frz o<|.lst xs))\/∃(o:Obj) (b:Array Yk) (n:Nat),K.lookup a=J o/\o.cls=.type "list" /\ o.dict=M/\o.data=.seq b n/\b.size<=Yc/\Zs xs b.toList
def FzL.sq{K}(h:FzL K H a xs):SqL K H a xs:=h.elim (λ⟨o,h⟩=>.inl<|.inr ⟨o,h⟩) .inr
structure Yx where
 K:Yl
 mg:Str->Option Yk
mutual
inductive RD(Y:Yx)(H:Hp)(B:List Yj):D->V->Prop
 |non:RD Y H B .non .non
 |bl (b:Bool):RD Y H B (.bl b) (.bl b)
 |int (i:Int):RD Y H B (.int i) (.int i)
 |str (x:Str) (ok:Yp x=Wq):RD Y H B (.str x) (.str x)
 |tup {a:Yj}{vs:List V}{ds:List D}:SqT Y.K H a vs->RDs Y H B ds vs->RD Y H B (.tup ds) (.ref a)
 |ref {i:Nat}{a:Yj}:B[i]?=J a->RD Y H B (.ref i) (.ref a)
 |ty (n:String):RD Y H B (.ty n) (.ty n)
 |ro {a:Yj}{vs:List V}{ds:List D}:FzL Y.K H a vs->RDs Y H B ds vs->RD Y H B (.ro ds) (.ref a)
 |kd {x:Str}{a:Yj}:Y.mg x=J (.ref a)->RD Y H B (.kd x) (.ref a)
inductive RDs(Y:Yx)(H:Hp)(B:List Yj):List D->List V->Prop
 |nil:RDs Y H B [] []
 |cons {d:D}{v:V}{ds:List D}{vs:List V}:RD Y H B d v->RDs Y H B ds vs->RDs Y H B (d::ds) (v::vs)
end
inductive RKs(Y:Yx)(H:Hp)(B:List Yj){κ:Type}:List (κ×D)->List (κ×V)->Prop
 |nil:RKs Y H B [] []
 |cons {k:κ}{d:D}{v:V}{ds:List (κ×D)}{vs:List (κ×V)}:RD Y H B d v->RKs Y H B ds vs->RKs Y H B ((k,d)::ds) ((k,v)::vs)
def RO(Y:Yx)(H:Hp)(B:List Yj)(a:Yj):DO->Prop
 |.lst f=>∃vs,H a=J (.lst vs)/\RDs Y H B f vs
 |.dic b=>∃c,H a=J (.dK c)/\RKs Y H B b c
 |.ins C fs=>∃Ca g d,H a=J (.ins Ca g d)/\Y.mg C=J (.ref Ca)/\RKs Y H B fs d
 |.fdic b=>∃o c,H a=J (.frz o<|.dK c)/\RKs Y H B b c
 |.dnk b=>∃c e,H a=J (.dT e)/\KN Y.K H c e/\RKs Y H B b c
def Zb0(kvs:List (Key×D)):Prop:=∀p∈kvs,∀x,p.1=.inr x->Yp x=Wq
def DOk:DO->Prop
 |.dic a=>Zb0 a
 |.fdic a=>Zb0 a
 |_=>True
structure RH(Y:Yx)(H:Hp)(B:List Yj)(h:Hd):Prop where
 len:h.length=B.length
 nd:B.Nodup
 ob:∀(i:Nat) (o:DO) (a:Yj),h[i]?=J o->B[i]?=J a->RO Y H B a o
 ks:∀(i:Nat) (o:DO),h[i]?=J o->DOk o
structure Gr(H:Hp)(B:List Yj)(H':Hp)(μ':List Yj):Prop where
 pre:∀(i:Nat) (a:Yj),B[i]?=J a->μ'[i]?=J a
 new:∀a∈μ',a∈B\/H a=M
 keep:∀b o,b ∉ B->H b=J o->H' b=J o
 fz:∀b o u,H b=J (.frz o u)->H' b=J (.frz o u)
def Gr.refl:Gr H B H B:=⟨λ_ _ h=>h,λ_ h=>.inl h,λ_ _ _ h=>h,λ_ _ _ h=>h⟩
def Gr.I(a:Gr H B H1 μ1)(b:Gr H1 μ1 H2 μ2):Gr H B H2 μ2:=by
 refine⟨λi x h=>b.pre i x<|a.pre i x h,λx c=>?_,λx o c h=>?_,λx o u h=>b.fz x o u<|a.fz x o u h⟩
 . rcases b.new x c with h|h
   . exact a.new x h
   . by_cases hm:x∈B
     . exact .inl hm
     . cases q:H x with
       |none=>simp
       |some o=>rw[a.keep x o hm q]at h;cases h
 . refine b.keep x o (λhm=>?_) (a.keep x o c h);rcases a.new x hm with z|z
   . trivial
   simp_all
def Mu:Option HO->Prop
 |some (.lst _)|some (.dK _)|some (.ins _ _ _)|some (.frz _ (.dK _))|some (.dT _)=>True
 |_=>False
def RO.mut(h:RO Y H B a o):Mu (H a):=by
 cases o with
 |lst b|dic b=>obtain⟨vs,e,_⟩:=h;rw[e];trivial
 |ins C b=>obtain⟨_,_,_,e,_⟩:=h;rw[e];trivial
 |fdic b|dnk b=>obtain⟨_,_,e,_⟩:=h;rw[e];trivial
def RH.mem(r:RH Y H B h)(ha:a∈B):∃(i:Nat) (o:DO),B[i]?=J a/\h[i]?=J o/\RO Y H B a o:=by obtain⟨i,b⟩:=List.mem_iff_getElem?.mp ha;exact⟨i,_,b,Og _,r.ob i _ a (Og<|r.len▸(Ob.mp b).1) b⟩
theorem RH.mut(r:RH Y H B h)(ha:a∈B):Mu (H a):=let⟨_,_,_,_,q⟩:=r.mem ha;q.mut
def Gr.rdT(r:RH Y H B h)(g:Gr H B H' μ')(t:SqT Y.K H a xs):SqT Y.K H' a xs:=by
 rcases t with t|t
 . rcases t with t|⟨o,t⟩
   . exact .inl (.inl<|g.keep a _ (λhm=>by have:=r.mut hm;rw[t]at this;exact this) t)
   . exact .inl (.inr ⟨o,g.fz a _ _ t⟩)
 . exact .inr t
def Gr.rdF(r:RH Y H B h)(g:Gr H B H' μ')(t:FzL Y.K H a xs):FzL Y.K H' a xs:=by
 rcases t with⟨o,t⟩|t
 . exact .inl ⟨o,g.fz a _ _ t⟩
 . exact .inr t
section
variable {Y:Yx}{H H':Hp}{B μ':List Yj}{h:Hd}
structure Tr(Y:Yx)(H:Hp)(B:List Yj)(H':Hp)(μ':List Yj):Prop where
 t:∀{a xs},SqT Y.K H a xs->SqT Y.K H' a xs
 f:∀{a xs},FzL Y.K H a xs->FzL Y.K H' a xs
 m:∀{i:Nat}{a},B[i]?=J a->μ'[i]?=J a
mutual
theorem RD.tr(T:Tr Y H B H' μ'):∀{d:D}{v:V},RD Y H B d v->RD Y H' μ' d v
 |_,_,.non=>.non
 |_,_,.bl b=>.bl b
 |_,_,.int i=>.int i
 |_,_,.str x ok=>.str x ok
 |_,_,.tup t s=>.tup (T.t t) (RDs.tr T s)
 |_,_,.ref e=>.ref (T.m e)
 |_,_,.ty n=>.ty n
 |_,_,.ro t s=>.ro (T.f t) (RDs.tr T s)
 |_,_,.kd e=>.kd e
theorem RDs.tr(T:Tr Y H B H' μ'):∀{d:List D}{v:List V},RDs Y H B d v->RDs Y H' μ' d v
 |_,_,.nil=>.nil
 |_,_,.cons a s=>.cons (RD.tr T a) (RDs.tr T s)
end
theorem RKs.tr(T:Tr Y H B H' μ'):∀{d}{v:List (κ×V)},RKs Y H B d v->RKs Y H' μ' d v
 |_,_,.nil=>.nil
 |_,_,.cons a s=>.cons (a.tr T) (RKs.tr T s)
def KyS.tr(T:Tr Y H B H' μ'):KyS Y.K H b k->KyS Y.K H' b k:=by rintro⟨c,R,h2⟩;exact⟨c,T.t R,T.t h2⟩
theorem KN.tr(T:Tr Y H B H' μ')(r:KN Y.K H kvs xs):KN Y.K H' kvs xs:=Paired.mapP r λ_ _ z=>⟨z.1,KyS.tr T z.2.1,z.2.2⟩
theorem RO.tr(T:Tr Y H B H' μ')(q:RO Y H B a o)(e:H' a=H a):RO Y H' μ' a o:=by
 cases o with
 |lst b|dic b=>obtain⟨vs,z,s⟩:=q;exact⟨_,e.I z,s.tr T⟩
 |ins C b=>obtain⟨c,d,f,z,m,s⟩:=q;exact⟨_,_,_,e.I z,m,s.tr T⟩
 |fdic b=>obtain⟨o,vs,z,s⟩:=q;exact⟨o,_,e.I z,s.tr T⟩
 |dnk b=>obtain⟨vs,g,z,n,s⟩:=q;exact⟨_,_,e.I z,KN.tr T n,s.tr T⟩
def Gr.tr(r:RH Y H B h)(g:Gr H B H' μ'):Tr Y H B H' μ':=⟨g.rdT r,g.rdF r,g.pre _ _⟩
def RD.mono(r:RH Y H B h)(g:Gr H B H' μ')(q:RD Y H B d v):RD Y H' μ' d v:=q.tr (g.tr r)
def RDs.mono(r:RH Y H B h)(g:Gr H B H' μ')(q:RDs Y H B d v):RDs Y H' μ' d v:=q.tr (g.tr r)
def RKs.mono{d:List (κ×D)}(r:RH Y H B h)(g:Gr H B H' μ')(q:RKs Y H B d v):RKs Y H' μ' d v:=q.tr (g.tr r)
theorem RDs.length:∀{d}{v},RDs Y H B d v->d.length=v.length
 |_,_,.nil=>rfl
 |_,_,.cons a s=>by rw[Os,Os,s.length]
theorem RKs.length:∀{d}{v:List (κ×V)},RKs Y H B d v->d.length=v.length
 |_,_,.nil=>rfl
 |_,_,.cons a s=>by rw[Os,Os,s.length]
theorem RDs.get:∀{ds}{vs},RDs Y H B ds vs->∀{i:Nat}{d},ds[i]?=J d->∃v,vs[i]?=J v/\RD Y H B d v
 |_,_,.nil,i,d,e=>by trivial
 |_,_,.cons a s,0,d,e=>by simp_all
 |_,_,.cons a s,i+1,d,e=>by obtain⟨v,R,b⟩:=RDs.get s (by trivial);exact⟨v,by trivial,b⟩
theorem RDs.append:∀{ds es}{vs ws},RDs Y H B ds vs->RDs Y H B es ws->RDs Y H B (ds++es) (vs++ws)
 |_,_,_,_,.nil,s=>s
 |_,_,_,_,.cons a r,s=>.cons a (r.append s)
theorem RDs.take:∀{ds}{vs} (n),RDs Y H B ds vs->RDs Y H B (ds.take n) (vs.take n)
 |_,_,0,_=>.nil
 |_,_,_+1,.nil=>.nil
 |_,_,n+1,.cons a s=>.cons a (s.take n)
theorem RDs.drop:∀{ds}{vs} (n),RDs Y H B ds vs->RDs Y H B (ds.drop n) (vs.drop n)
 |_,_,0,s=>s
 |_,_,_+1,.nil=>.nil
 |_,_,n+1,.cons a s=>s.drop n
theorem RDs.reverse(s:RDs Y H B ds vs):RDs Y H B ds.reverse vs.reverse:=by
 have f:∀{ds c}{vs e},RDs Y H B ds vs->RDs Y H B c e->RDs Y H B (ds.reverseAux c) (vs.reverseAux e):=by
  intro ds;induction ds with
  |nil=>intro c vs e a b;cases a;exact b
  |cons d ds g=>
   intro c vs e a b;cases a with
   |cons a s=>have z:=g s<|RDs.cons a b;exact z
 exact f s .nil
theorem RDs.dropLast(s:RDs Y H B ds vs):RDs Y H B ds.dropLast vs.dropLast:=by rw[List.dropLast_eq_take,List.dropLast_eq_take,s.length];exact s.take _
theorem RDs.set(r:RD Y H B d v):∀{ds}{vs} (i),RDs Y H B ds vs->RDs Y H B (ds.set i d) (vs.set i v)
 |_,_,_,.nil=>.nil
 |_,_,0,.cons _ s=>.cons r s
 |_,_,i+1,.cons a s=>.cons a (RDs.set r i s)
def RDs.cut(s:RDs Y H B ds vs)(lo hi):RDs Y H B (cutD ds lo hi) (Zp3 vs lo hi):=by unfold cutD Zp3;rw[s.length];exact(s.drop _).take _
theorem RDs.isEmpty(s:RDs Y H B ds vs):ds.isEmpty=vs.isEmpty:=by cases s<;>rfl
theorem RDs.atI(s:RDs Y H B ds vs)(e:L2.atI ds i=J d):∃v,L2.atI vs i=J v/\RD Y H B d v:=by
 unfold L2.atI at e ⊢;rw[s.length]at e;cases q:ixN _ i with
 |none=>simp_all
 |some j=>rw[q]at e;exact s.get e
theorem RKs.val[DecidableEq κ]:∀{ds}{vs},RKs Y H B ds vs->∀(k:κ),((ds.find? λp=>Wu<|p.1=k)=M/\(vs.find? λp=>Wu<|p.1=k)=M)\/∃d v,(ds.find? λp=>Wu<|p.1=k)=J (k,d)/\(vs.find? λp=>Wu<|p.1=k)=J (k,v)/\RD Y H B d v
 |_,_,.nil,k=>.inl ⟨rfl,rfl⟩
 |_,_,.cons (k:=c) (d:=d) (v:=v) a s,k=>by
  by_cases e:c=k
  . subst e;exact .inr ⟨d,v,by simp,by simp,a⟩
  . rcases s.val k with⟨R,b⟩|⟨d,v,R,b,f⟩
    . exact .inl ⟨by simp[e,R],by simp[e,b]⟩
    . exact .inr ⟨d,v,by simp_all,by simp_all,f⟩
end
def Zxc{α:Type}{l:List α}(hl:l.Nodup){i j:Nat}{x}(a:l[i]?=J x)(b:l[j]?=J x):i=j:=by obtain⟨R,c⟩:=Ob.mp a;obtain⟨e,d⟩:=Ob.mp b;exact(List.getElem_inj hl).mp (c.I d.symm)
section
variable {Y:Yx}{H:Hp}{B:List Yj}{h:Hd}
def Gr.add(g:Gr H0 μ0 H B)(hp:H0 p=M):Gr H0 μ0 H (B++[p]):=⟨λi a e=>by have e:=g.pre i a e;rw[Oe (Ob.mp e).1];exact e,λa b=>(OD.mp b).elim (g.new a) λz=>Ox.mp z▸.inr hp,g.keep,g.fz⟩
def Zqs{H0 H:Hp}(hp:H0 p=M)(e:H0 b=J u):upd H p o b=H b:=Zo λz=>by simp_all
def Gr.put(g:Gr H0 μ0 H B)(hp:H0 p=M):Gr H0 μ0 (upd H p o) B:=⟨g.pre,g.new,λb u a e=>(Zqs hp e).I<|g.keep b u a e,λb u v e=>(Zqs hp e).I<|g.fz b u v e⟩
def Gr.lay0(hp:H p=M):Gr H B (upd H p o) B:=Gr.refl.put hp
def Gr.lay(hp:H p=M):Gr H B (upd H p o) (B++[p]):=(Gr.lay0 hp).add hp
def NF:Option HO->Prop
 |some (.frz _ _)=>False
 |_=>True
def Gr.write(hp:p∈B)(nf:NF (H p)):Gr H B (upd H p o) B:=⟨λ_ _ e=>e,λa c=>.inl c,λb u d e=>(Zo<|λz=>d (by rw[z];trivial)).I e,λb u v e=>(Zo (λz=>by rw[z]at e;rw[e]at nf;exact nf)).I e⟩
def RO.mono(r:RH Y H B h)(g:Gr H B H' μ')(q:RO Y H B a o)(e:H' a=H a):RO Y H' μ' a o:=q.tr (g.tr r) e
theorem RH.tr(r:RH Y H B h)(T:Tr Y H B H' B)(k:∀a∈B,H' a=H a):RH Y H' B h:=⟨r.len,r.nd,λi o a c b=>(r.ob i o a c b).tr T<|k a<|O1 b,r.ks⟩
def RH.keep(r:RH Y H B h)(g:Gr H B H' B)(k:∀a∈B,H' a=H a):RH Y H' B h:=r.tr (g.tr r) k
def Tr.more:Tr Y H B H (B++[p]):=⟨id,id,λe=>(Oe (Ob.mp e).1).I e⟩
def Zw4(k:∀(i:Nat) (o),h[i]?=J o->DOk o)(dk:DOk o):∀(i:Nat) (o'),(h++[o])[i]?=J o'->DOk o':=by
 intro i o' a;by_cases b:i<h.length
 . rw[Oe b]at a;exact k i _ a
 . have c:i=h.length:=by
    have:=(Ob.mp a).1;simp at this
    lia
   simp_all
def RH.add(r:RH Y H B h)(np:p ∉ B)(n:RO Y H (B++[p]) p o)(dk:DOk o:=by trivial):RH Y H (B++[p]) (h++[o]):=by
 refine⟨by simp[r.len],?_,λi g a c d=>?_,Zw4 r.ks dk⟩
 . rw[List.nodup_append];refine⟨r.nd,by simp,λa j b k=>?_⟩;intro z
   simp_all
 . by_cases e:i<h.length
   . rw[Oe e]at c;rw[Oe (by rw[<-r.len];trivial)]at d;exact(r.ob i _ a c d).tr .more rfl
   . have f:i=h.length:=by
      have:=(Ob.mp c).1;simp at this
      lia
     subst f;simp[r.len]at c d;subst c;subst d;exact n
def RH.fr(r:RH Y H B h)(hp:H p=M):p ∉ B:=λz=>by have:=r.mut z;rw[hp]at this;exact this
theorem RH.lay0(r:RH Y H B h)(hp:H p=M):RH Y (upd H p u) B h:=r.keep (Gr.lay0 hp) λa b=>Zo λz=>r.fr hp (z▸b)
def RH.lay(r:RH Y H B h)(hp:H p=M)(n:RO Y (upd H p u) (B++[p]) p o)(dk:DOk o:=by trivial):RH Y (upd H p u) (B++[p]) (h++[o]):=(r.lay0 hp).add (r.fr hp) n dk
theorem RH.write{p}{i}{u}{o}(r:RH Y H B h)(hp:B[i]?=J p)(n:RO Y (upd H p u) B p o)(nf:NF (H p))(dk:DOk o:=by trivial):RH Y (upd H p u) B (h.set i o):=by
 refine⟨by simp[r.len],r.nd,λj e a c d=>?_,λj e c=>?_⟩
 rotate_right
 . by_cases b:j=i
   . subst b;have f:j<h.length:=r.len▸(Ob.mp hp).1
     simp_all
   . rw[Oc<|YL b]at c;exact r.ks j _ c
 by_cases b:j=i
 . subst b;rw[hp]at d;cases d;have f:j<h.length:=r.len▸(Ob.mp hp).1
   simp_all
 . rw[Oc<|YL b]at c;refine(r.ob j _ a c d).mono r (Gr.write (O1 hp) nf)<|Zo λz=>b ?_;subst z;exact Zxc r.nd d hp
end
def Fin(Y:Yx)(rel:Hp->List Yj->α->β->Prop)(H:Hp)(B:List Yj)(r:qd α)(Q:β->Hp->Prop)(E:XK):Prop:=match r with
 |.bad=>False
 |.ok a d=>∀b H' μ',Gr H B H' μ'->RH Y H' μ' d->rel H' μ' a b->Q b H'
 |.exc c d=>∀H' μ' C,Gr H B H' μ'->RH Y H' μ' d->Y.mg c=J (.ref C)->E (.ref C) M H'
section
variable {Y:Yx}{α β α' β':Type}{rel:Hp->List Yj->α->β->Prop}{aQ:Hp->List Yj->α'->β'->Prop}{H H1:Hp}{B μ1:List Yj}{E:XK}
def Fin.mono(g:Gr H B H1 μ1)(f:Fin Y rel H B r Q E):Fin Y rel H1 μ1 r Q E:=by
 cases r with
 |bad=>exact f
 |ok a h=>exact λb H' μ' d=>f b _ _ (g.I d)
 |exc c h=>exact λH' μ' C d=>f _ _ C (g.I d)
theorem Fin.bind(f:Fin Y aQ H B (r.bind k) Q E)
 (hk:∀a R b H1 μ1,r=.ok a R->Gr H B H1 μ1->RH Y H1 μ1 R->rel H1 μ1 a b->Fin Y aQ H1 μ1 (k a R) Q E->Q1 b H1):Fin Y rel H B r Q1 E:=by
 cases r with
 |bad=>exact f
 |ok a h=>exact λb H' μ' d e g=>hk a h b _ _ rfl d e g (Fin.mono d f)
 |exc c h=>exact f
theorem Fin.ok(f:Fin Y rel H B (.ok a h) Q E)(rh:RH Y H B h)(r:rel H B a b):Q b H:=f b H _ Gr.refl rh r
def Fin.at(f:Fin Y rel H B (.ok a h) Q E)(g:Gr H B H1 μ1)(rh:RH Y H1 μ1 h)(r:rel H1 μ1 a b):Q b H1:=f b _ _ g rh r
theorem Fin.ofO(f:Fin Y rel H B (qd.ofO o h) Q E):∃a,o=J a/\Fin Y rel H B (.ok a h) Q E:=by
 cases o with
 |none=>exact f.elim
 |some a=>exact⟨a,rfl,f⟩
def Fin.iff[Decidable c](f:Fin Y rel H B (if c then r else .bad) Q E):c/\Fin Y rel H B r Q E:=by
 by_cases h:c
 . simp_all
 . rw[if_neg h]at f;exact f.elim
def Fin.new(f:Fin Y (RD Y) H B (ZcW o h) Q E)(rh:RH Y H B h)(hp:H p=M)(n:RO Y (upd H p u) (B++[p]) p o)(dk:DOk o:=by trivial):Q (.ref p) (upd H p u):=f.at (Gr.lay hp) (rh.lay hp n dk) (.ref (by rw[rh.len];simp))
theorem Fin.tup(f:Fin Y (RD Y) H B (.ok (.tup ds) h) Q E)(rh:RH Y H B h)(hp:H p=M)(r:RDs Y H B ds vs):Q (.ref p) (upd H p<|.tup vs):=f.at (Gr.lay0 hp) (rh.lay0 hp) (.tup (.inl<|.inl Zj)<|r.mono rh<|Gr.lay0 hp)
def Fin.wrote(f:Fin Y rel H B (.ok a<|h.set i o) Q E)(rh:RH Y H B h)(hp:B[i]?=J p)(n:RO Y (upd H p u) B p o)(r:rel (upd H p u) B a b)(nf:NF (H p))(dk:DOk o:=by trivial):Q b (upd H p u):=f.at (Gr.write (O1 hp) nf) (rh.write hp n nf dk) r
end
section
variable {Y:Yx}{H:Hp}{B:List Yj}{h:Hd}
theorem RD.lst(rh:RH Y H B h)(r:RD Y H B (.ref i) v)(e:h[i]?=J (.lst xs)):∃a vs,v=.ref a/\B[i]?=J a/\H a=J (.lst vs)/\RDs Y H B xs vs:=by
 cases r with
 |ref q=>obtain⟨vs,R,b⟩:=rh.ob i _ _ e q;exact⟨_,_,rfl,q,R,b⟩
theorem RD.dic(rh:RH Y H B h)(r:RD Y H B (.ref i) v)(e:h[i]?=J (.dic xs)):∃a vs,v=.ref a/\B[i]?=J a/\H a=J (.dK vs)/\RKs Y H B xs vs:=by
 cases r with
 |ref q=>obtain⟨vs,R,b⟩:=rh.ob i _ _ e q;exact⟨_,_,rfl,q,R,b⟩
theorem RD.lstOf(rh:RH Y H B h)(r:RD Y H B d v)(e:lstOf d h=J xs):∃a vs,v=.ref a/\SqL Y.K H a vs/\RDs Y H B xs vs:=by
 cases d with
 |ref i=>
  unfold IV.lstOf at e;simp at e;split at e
  . cases e;rename_i q;obtain⟨a,vs,R,f,b,c⟩:=r.lst rh q;exact⟨a,_,R,.of b,c⟩
  trivial
 |ro g=>
  cases e;cases r with
  |ro q s=>exact⟨_,_,rfl,q.sq,s⟩
 |_=>cases e
theorem RD.seqOf(rh:RH Y H B h)(r:RD Y H B d v)(e:seqOf d h=J xs):∃ a vs,v=.ref a/\(SqL Y.K H a vs\/SqT Y.K H a vs)/\RDs Y H B xs vs:=by
 by_cases ht:∃ ys,d=.tup ys
 . obtain⟨ys,rfl⟩:=ht;cases e;cases r with
   |tup q s=>exact⟨_,_,rfl,.inr q,s⟩
 . obtain⟨a,vs,R,h2,h3⟩:=r.lstOf rh (by
     cases d with
     |tup ys=>exact absurd ⟨_,rfl⟩ ht
     |_=>exact e)
   exact⟨a,_,R,.inl h2,h3⟩
def RD.int_inv(r:RD Y H B (.int i) v):v=.int i:=by cases r;rfl
def RD.str_inv(r:RD Y H B (.str i) v):v=.str i/\Yp i=Wq:=by cases r with|str x ok=>trivial
def RD.tup_inv(r:RD Y H B (.tup ds) v):∃a vs,v=.ref a/\SqT Y.K H a vs/\RDs Y H B ds vs:=by cases r with|tup q s=>exact⟨_,_,rfl,q,s⟩
def ZjW(hx:Yp x=Wq)(hy:Yp y=Wq):Yp (x++y)=Wq:=by show(x.cps++y.cps).all _=Wq;rw[Array.all_append];unfold Yp at hx hy;rw[hx,hy];rfl
def Zrv(hx:Yp x=Wq)(n):Yp (ZhK x n)=Wq:=by
 have b:∀(n) (a),a.all (·<0x110000)=Wq->((YK n x.cps).foldl (·++·) a).all (·<0x110000)=Wq:=by
  intro n;induction n with
  |zero=>intro a h;exact h
  |succ n c=>intro a h;refine c _ ?_;rw[Array.all_append,h];trivial
 exact b n _ (by simp)
def Zrw(hx:Yp x=Wq)(h:c∈x.cps.toList):Yp ⟨#[c]⟩=Wq:=by
 unfold Yp at hx ⊢;rw[Array.all_eq_true']at hx
 simp_all
def Zt2(h:atI xs i=J x):x∈xs:=by
 unfold atI at h;cases q:ixN xs.length i with
 |none=>simp_all
 |some j=>rw[q]at h;exact O1 h
end
section
variable {X:Cx}{Y:Yx}{E:XK}
noncomputable def rB(Y:Yx)(E:XK)(f:D->D->Hd->qd D):R2:=λx y H Q=>∃a b h B,RH Y H B h/\RD Y H B a x/\RD Y H B b y/\Fin Y (RD Y) H B (f a b h) Q E
theorem Fin.int2(f:Fin Y (RD Y) H B (int2 x y k) Q E):∃i j,x=.int i/\y=.int j/\Fin Y (RD Y) H B (k i j) Q E:=by
 cases x with
 |int i=>
  cases y with
  |int j=>exact⟨i,j,rfl,rfl,f⟩
  |_=>exact f.elim
 |_=>exact f.elim
def ZwF(hY:Y.K=X.K)(op):OpR X (binaryOp op) (rB Y E<|opB op):=by
 rintro aa s Z H x y v u Q I rx ry⟨dx,dy,h,B,rh,r1,r2,f⟩;cases op with
 |Add=>
  have f:Fin Y _ H _ (ZuQ _ _ h) Q E:=f;cases dx with
  |int i=>
   cases dy with
   |int j=>cases r1;cases r2;exact ZwE _ s _ H _ _ v u Q I rx ry ⟨_,_,rfl,rfl,f.ok rh<|.int _⟩
   |_=>exact f.elim
  |str i=>
   cases dy with
   |str j=>
    obtain⟨hz,f⟩:=Fin.iff f;cases r1 with|str _ o1=>
    cases r2 with|str _ o2=>
    exact Zm3 aa s Z H _ _ v u Q I rx ry ⟨_,_,rfl,rfl,hz,f.ok rh<|.str _<|ZjW o1 o2⟩
   |_=>exact f.elim
  |tup xs=>
   cases dy with
   |tup ys=>
    obtain⟨hz,f⟩:=Fin.iff f;obtain⟨a,vs,rfl,t1,s1⟩:=r1.tup_inv;obtain⟨b,ws,rfl,t2,s2⟩:=r2.tup_inv;rw[s1.length,s2.length]at hz;by_cases h0:vs=[]
    . subst h0;cases s1;exact ZtJ aa s Z H _ _ v u Q I rx ry ⟨a,b,ws,rfl,rfl,hY▸t1,hY▸t2,f.ok rh<|.tup t2 s2⟩
    . refine ZtI aa s Z H _ _ v u Q I rx ry ⟨a,b,vs,ws,rfl,rfl,hY▸t1,hY▸t2,h0,hz,λe=>?_,λe p hp=>f.tup rh hp<|s1.append s2⟩;subst e;cases s2;rw[Yt]at f;exact f.ok rh (.tup t1 s1)
   |_=>exact f.elim
  |ref i=>
   cases dy with
   |ref j=>
    unfold ZuQ at f;simp only at f;split at f
    . rename_i e1;split at f
      . rename_i e2;obtain⟨hz,f⟩:=f.iff;obtain⟨a,vs,rfl,_,R,s1⟩:=r1.lst rh e1;obtain⟨b,ws,rfl,_,h2,s2⟩:=r2.lst rh e2;rw[s1.length,s2.length]at hz;exact ZwD aa s Z H _ _ v u Q I rx ry ⟨a,b,vs,ws,rfl,rfl,R,h2,hz,λp hp=>f.new rh hp ⟨_,Zj,(s1.append s2).mono rh<|Gr.lay hp⟩⟩
      . exact f.elim
    . exact f.elim
   |_=>exact f.elim
  |_=>exact f.elim
 |Sub=>obtain⟨i,j,rfl,rfl,f⟩:=Fin.int2 f;cases r1;cases r2;exact Zwx aa s Z H _ _ v u Q I rx ry ⟨_,_,rfl,rfl,f.ok rh<|.int _⟩
 |Mult=>
  have f:Fin Y (RD Y) H B (Zzw dx dy h) Q E:=f;cases dx with
  |str z=>
   cases dy with
   |int n=>
    obtain⟨hz,f⟩:=Fin.iff f;cases r1 with|str _ o1=>
    cases r2;exact ZtG aa s Z H _ _ v u Q I rx ry ⟨_,_,rfl,rfl,hz.1,hz.2.1,hz.2.2,f.ok rh<|.str _<|Zrv o1 _⟩
   |_=>exact f.elim
  |int i=>obtain⟨i,j,e1,rfl,f⟩:=Fin.int2<|show Fin Y (RD Y) H B (IV.int2 (.int i) dy λi j=>if i.natAbs<2^2000/\j.natAbs<2^2000 then .ok (.int<|i*j) h else .bad) Q E from f;cases e1;cases r1;cases r2;exact ZpG aa s Z H _ _ v u Q I rx ry ⟨_,_,rfl,rfl,f.iff.1,f.iff.2.ok rh<|.int _⟩
  |_=>exact f.elim
 |Mod=>obtain⟨i,j,rfl,rfl,f⟩:=Fin.int2 f;cases r1;cases r2;exact Zwz aa s Z H _ _ v u Q I rx ry ⟨_,_,rfl,rfl,f.iff.1,f.iff.2.ok rh<|.int _⟩
 |FloorDiv=>obtain⟨i,j,rfl,rfl,f⟩:=Fin.int2 f;cases r1;cases r2;exact ZtH aa s Z H _ _ v u Q I rx ry ⟨_,_,rfl,rfl,f.iff.1,f.iff.2.ok rh<|.int _⟩
 |Pow=>obtain⟨i,j,rfl,rfl,f⟩:=Fin.int2 f;cases r1;cases r2;exact Zwy aa s Z H _ _ v u Q I rx ry ⟨_,_,rfl,rfl,f.iff.1,f.iff.2.ok rh<|.int _⟩
 |_=>exact f.elim
end
set_option tactic.hygienic true
structure Gk(X:Cx)(Y:Yx)(T:Tb):Prop where
 K:Y.K=X.K
 mg:Y.mg=X.mg
 gd:∀x kvs,T.GD x=J kvs->∃a aj,X.mg x=J (.ref a)/\DkK X.prog X.w X.K a aj/\∀H B,RKs Y H B kvs aj
 g:∀x d,T.G x=J d->∃v u,X.mg x=J u/\RelV v u/\∀H B,RD Y H B d v
 bare:Zic X.K=Wq
section
variable {X:Cx}{Y:Yx}{E:XK}{T:Tb}{H:Hp}{B:List Yj}{h:Hd}
theorem RD.dicOf(G:Gk X Y T)(rh:RH Y H B h)(r:RD Y H B d v)(e:dicOf T.GD d h=J kvs):∃a aj,v=.ref a/\Dk X.prog X.w X.K H a aj/\RKs Y H B kvs aj:=by
 cases d with
 |ref i=>
  unfold IV.dicOf at e;simp at e;split at e
  . cases e;rename_i q;obtain⟨a,vs,R,_,b,f⟩:=r.dic rh q;exact⟨a,_,R,.inl<|.inl b,f⟩
  . cases e;rename_i q;cases r with
    |ref g=>obtain⟨o,vs,R,c⟩:=rh.ob i _ _ q g;exact⟨_,_,rfl,.inl<|.inr ⟨o,R⟩,c⟩
  trivial
 |kd x=>
  obtain⟨a,aj,R,c,b⟩:=G.gd x _ e;cases r with
  |kd q=>rw[G.mg,R]at q;cases q;exact⟨a,_,rfl,.inr c,b H _⟩
 |_=>cases e
def ZrP(r:RD Y H B d v)(e:keyOf d=J k):∀x,k=.inr x->Yp x=Wq:=by
 cases d with
 |int i=>cases e;simp
 |str i=>
  cases e;intro x z;cases z;cases r with
  |str _ ok=>trivial
 |_=>cases e
def ZiD(h:Zb0 kvs)(hk:∀x,k=.inr x->Yp x=Wq):Zb0 (putD kvs k c):=by
 intro p hp x e;unfold putD at hp;split at hp
 . obtain⟨q,a,rfl⟩:=List.mem_map.mp hp;refine h q a x ?_;split at e<;>exact e
 . rcases OD.mp hp with hp|hp
   . exact h p hp x e
   simp_all
def ZeX(r:RD Y H B d v)(e:keyOf d=J k):v=kV k:=by
 cases d with
 |int i|str i=>cases e;cases r;rfl
 |_=>cases e
def RKs.valV_rel(s:RKs Y H B ds vs)(k):(Zw ds k=M/\ZbJ vs k=M)\/∃d v,Zw ds k=J d/\ZbJ vs k=J v/\RD Y H B d v:=by
 unfold Zw ZbJ;rcases s.val k with⟨R,a⟩|⟨d,v,R,a,b⟩
 . exact .inl ⟨by rw[R];rfl,by rw[a];rfl⟩
 . exact .inr ⟨d,v,by rw[R];rfl,by rw[a];rfl,b⟩
def RKs.any_rel[DecidableEq κ](k:κ):∀{ds:List _}{vs:List _},RKs Y H B ds vs->(ds.any λkv=>Wu<|kv.1=k)=(vs.any λkv=>Wu<|kv.1=k):=by intro Y H B;induction B<;>simp_all<;>grind
theorem RKs.map_rel[DecidableEq κ](k)(r:RD Y H B d v):∀{ds}{vs:List (κ×V)},RKs Y H B ds vs->RKs Y H B (ds.map λkv=>if kv.1=k then(kv.1,d)else kv) (vs.map λkv=>if kv.1=k then(kv.1,v)else kv)
 |_,_,.nil=>.nil
 |_,_,.cons (k:=k') a s=>by
  rw[Op,Op];by_cases e:k'=k
  . rw[if_pos e,if_pos e];exact .cons r (s.map_rel k r)
  . rw[if_neg e,if_neg e];exact .cons a (s.map_rel k r)
theorem RKs.append:∀{ds es}{vs ws:List (κ×V)},RKs Y H B ds vs->RKs Y H B es ws->RKs Y H B (ds++es) (vs++ws)
 |_,_,_,_,.nil,s=>s
 |_,_,_,_,.cons a r,s=>.cons a (r.append s)
def RKs.put(s:RKs Y H B ds vs)(k)(r:RD Y H B d v):RKs Y H B (putD ds k d) (putK vs k v):=by
 unfold putD putK;rw[s.any_rel k];split
 . exact s.map_rel k r
 . exact s.append (.cons r .nil)
mutual
theorem RD.dp(rh:RH Y H B h)(rd:Nat->Option PyData)(hr:∀i p a,rd i=J p->B[i]?=J a->Dp Y.K H (.ref a) p):∀{d:D}{v:V}{p:PyData},RD Y H B d v->D.py rd d=J p->Dp Y.K H v p
 |_,_,_,.non,e=>by cases e;exact .non
 |_,_,_,.bl b,e=>by cases e;exact .bl b
 |_,_,_,.int i,e=>by cases e;exact .int i
 |_,_,_,.str x ok,e=>by cases e;exact .str x ok
 |_,_,_,.tup t s,e=>by rw[D.py]at e;obtain⟨ps,e1,rfl⟩:=Oo.mp e;exact .tup t (RDs.dps rh rd hr s e1)
 |_,_,_,.ref q,e=>hr _ _ _ e q
 |_,_,_,.ty n,e=>by cases e
 |_,_,_,.ro t s,e=>by rw[D.py]at e;obtain⟨ps,e1,rfl⟩:=Oo.mp e;exact .lst t.sq (RDs.dps rh rd hr s e1)
 |_,_,_,.kd q,e=>by cases e
theorem RDs.dps(rh:RH Y H B h)(rd:Nat->Option PyData)(hr:∀i p a,rd i=J p->B[i]?=J a->Dp Y.K H (.ref a) p):∀{d:List D}{v:List V}{p:List PyData},RDs Y H B d v->D.pys rd d=J p->Dps Y.K H v p
 |_,_,_,.nil,e=>by cases e;exact .nil
 |_,_,_,.cons a s,e=>by rw[D.pys]at e;obtain⟨q,e1,e2⟩:=Option.bind_eq_some_iff.mp e;obtain⟨qs,e3,rfl⟩:=Oo.mp e2;exact .cons (RD.dp rh rd hr a e1) (RDs.dps rh rd hr s e3)
end
theorem Zoc(rh:RH Y H B h):∀(n i) (p) (a),Zd1 h n i=J p->B[i]?=J a->Dp Y.K H (.ref a) p
 |0,i,p,a,e,q=>by cases e
 |n+1,i,p,a,e,q=>by
  rw[Zd1]at e;split at e
  . rename_i d b;obtain⟨ps,c,rfl⟩:=Oo.mp e;obtain⟨vs,z,s⟩:=rh.ob i _ a b q;exact .lst (.of z) (RDs.dps rh _ (Zoc rh n) s c)
  trivial
def Zh3(rh:RH Y H B h)(r:RD Y H B d v)(e:Zku h d=J p):Dp Y.K H v p:=r.dp rh _ (Zoc rh 4) e
def ZiN(r:RD Y H B d v)(f:d.flat=Wq):Zft v=Wq:=by cases r<;>first|rfl|cases f
theorem Zhc:∀{ds}{vs},RDs Y H B ds vs->ds.all D.flat=Wq->vs.all Zft=Wq
 |_,_,.nil,_=>rfl
 |_,_,.cons a s,f=>by rw[List.all_cons,Oa]at f;rw[List.all_cons,ZiN a f.1,Zhc s f.2];rfl
def ZxC(r:RD Y H B d v)(q:RD Y H B e w)(f:d.flat=Wq)(g:e.flat=Wq):eqF d e=eqV v w:=by cases r<;>cases q<;>first|rfl|lia|lia
theorem any_rel(q:RD Y H B e w)(g:e.flat=Wq):∀{ds}{vs},RDs Y H B ds vs->ds.all D.flat=Wq->(ds.any λz=>eqF z e)=vs.any λy=>eqV y w
 |_,_,.nil,_=>rfl
 |_,_,.cons a s,f=>by rw[List.all_cons,Oa]at f;rw[YZ,YZ,ZxC a q f.1 g,any_rel q g s f.2]
def ZtQ(hr:Room k X.A)(h60:60<=k)(hY:Y.K=X.K):OpR X (YM .Eq) (rB Y E<|ZbE Ws):=by
 rintro aa s Z H x y v u Q I rx ry⟨dx,dy,h,B,rh,r1,r2,f⟩;unfold ZbE at f;split at f
 . rename_i e1 e2;obtain⟨hz,f⟩:=f.iff;have d1:=Zh3 rh r1 e1;have d2:=Zh3 rh r2 e2;rw[hY]at d1 d2;obtain⟨as,q1⟩:=I.reads d1 rx;obtain⟨bs,q2⟩:=I.reads d2 ry;have:=hr.un;exact SeqAt.compareEq_reads q1 q2 d1.lay d2.lay (by lia) ⟨.bl _,H,I,rfl,f.ok rh<|.bl _⟩
 trivial
def ZtL(hr:Room k X.A)(h60:60<=k)(hY:Y.K=X.K):OpR X (YM .NotEq) (rB Y E<|ZbE Wq):=by
 rintro aa s Z H x y v u Q I rx ry⟨dx,dy,h,B,rh,r1,r2,f⟩;unfold ZbE at f;split at f
 . rename_i e1 e2;obtain⟨hz,f⟩:=f.iff;have d1:=Zh3 rh r1 e1;have d2:=Zh3 rh r2 e2;rw[hY]at d1 d2;obtain⟨as,q1⟩:=I.reads d1 rx;obtain⟨bs,q2⟩:=I.reads d2 ry;have:=hr.un;exact SeqAt.compareNe_reads q1 q2 d1.lay d2.lay (by lia) ⟨.bl _,H,I,rfl,f.ok rh<|.bl _⟩
 trivial
def Zh4(ho:OpR X (YM op) (rI0 λi j=>.bl<|g i j)):OpR X (YM op) (rB Y E<|Zkx g):=by
 rintro aa s Z H x y v u Q I rx ry⟨dx,dy,h,B,rh,r1,r2,f⟩;unfold Zkx at f;split at f
 . cases r1;cases r2;exact ho _ s _ H _ _ v u Q I rx ry ⟨_,_,rfl,rfl,f.ok rh<|.bl _⟩
 trivial
def Zou(r:RD Y H B d v):Wu (d=.non)=Wu (v=.non):=by cases r<;>simp
def ZtO:OpR X (YM .Is) (rB Y E<|opN Ws):=by
 rintro aa s Z H x y v u Q I rx ry⟨dx,dy,h,B,rh,r1,r2,f⟩;unfold opN at f;split at f
 . cases r2;simp[Zou r1]at f;exact ZwA _ s _ H _ _ v u Q I rx ry ⟨rfl,f.ok rh<|.bl _⟩
 trivial
def ZpI:OpR X (YM .IsNot) (rB Y E<|opN Wq):=by
 rintro aa s Z H x y v u Q I rx ry⟨dx,dy,h,B,rh,r1,r2,f⟩;unfold opN at f;split at f
 . cases r2;simp[Zou r1]at f;exact ZtF _ s _ H _ _ v u Q I rx ry ⟨rfl,f.ok rh<|.bl _⟩
 trivial
def ZtP(G:Gk X Y T):OpR X (YM .In) (rB Y E<|ZaC T.GD Ws):=by
 rintro aa s Z H x y v u Q I rx ry⟨dx,dy,h,B,rh,r1,r2,f⟩;unfold ZaC at f;split at f
 . rename_i xs e1;obtain⟨hz,f⟩:=f.iff;rw[Oa]at hz;obtain⟨a,vs,rfl,hs,rs⟩:=r2.seqOf rh e1;have q:=f.ok rh<|.bl _;simp[any_rel r1 hz.1 rs hz.2]at q;exact ZpH _ s _ H _ _ v u Q I rx ry ⟨a,_,rfl,G.K▸hs,ZiN r1 hz.1,Zhc rs hz.2,q⟩
 . split at f
   . rename_i kvs k e1 e2;obtain⟨a,aj,rfl,hd,rk⟩:=r2.dicOf G rh e1;have q:=f.ok rh<|.bl _;have z:(Zw kvs k).isSome=(ZbJ aj k).isSome:=by rcases rk.valV_rel k with⟨R,h2⟩|⟨d,v,R,h2,_⟩<;>rw[R,h2]<;>rfl
     rw[z]at q;exact ZwC _ s _ H _ _ v u Q I rx ry ⟨a,_,k,rfl,ZeX r1 e2,hd,q⟩
   trivial
def Zm4(G:Gk X Y T):OpR X (YM .NotIn) (rB Y E<|ZaC T.GD Wq):=by
 rintro aa s Z H x y v u Q I rx ry⟨dx,dy,h,B,rh,r1,r2,f⟩;unfold ZaC at f;split at f
 . rename_i xs e1;obtain⟨hz,f⟩:=f.iff;rw[Oa]at hz;obtain⟨a,vs,rfl,hs,rs⟩:=r2.seqOf rh e1;have q:=f.ok rh<|.bl _;simp[any_rel r1 hz.1 rs hz.2]at q;exact Zkw _ s _ H _ _ v u Q I rx ry ⟨a,_,rfl,G.K▸hs,ZiN r1 hz.1,Zhc rs hz.2,q⟩
 . split at f
   . rename_i kvs k e1 e2;obtain⟨a,aj,rfl,hd,rk⟩:=r2.dicOf G rh e1;have q:=f.ok rh<|.bl _;have z:(Zw kvs k).isSome=(ZbJ aj k).isSome:=by rcases rk.valV_rel k with⟨R,h2⟩|⟨d,v,R,h2,_⟩<;>rw[R,h2]<;>rfl
     rw[z]at q;exact ZpF _ s _ H _ _ v u Q I rx ry ⟨a,_,k,rfl,ZeX r1 e2,hd,q⟩
   trivial
def Zg7(hr:Room k X.A)(h60:60<=k)(G:Gk X Y T)(op):OpR X (YM op) (rB Y E<|opC T.GD op):=by
 cases op with
 |Eq=>exact ZtQ hr h60 G.K
 |NotEq=>exact ZtL hr h60 G.K
 |Lt=>exact Zh4 Zzi
 |LtE=>exact Zh4 Zzj
 |Gt=>exact Zh4 Zzk
 |GtE=>exact Zh4 Zzl
 |Is=>exact ZtO
 |IsNot=>exact ZpI
 |In=>exact ZtP G
 |NotIn=>exact Zm4 G
def ZtM(G:Gk X Y T):IxR X (rB Y E<|ZaR T.GD):=by
 intro value slice aa s Z H x y v u Q I rx ry hh hs;obtain⟨dx,dy,h,B,rh,r1,r2,f⟩:=hh;have dict:∀(kvs) (k),dicOf T.GD dx h=J kvs->y=kV k->Fin Y (RD Y) H B (qd.ofO (Zw kvs k) h) Q E->YB (model X.prog X.w) X.A (subscriptTail value slice v u) (EP X aa Z Q) X.xe s:=by
  intro kvs k e1 ey f;obtain⟨d,e2,f⟩:=f.ofO;obtain⟨a,aj,rfl,hd,rk⟩:=r1.dicOf G rh e1;rcases rk.valV_rel k with⟨R,h2⟩|⟨d',w,R,h2,h3⟩
  . simp_all
  . rw[R]at e2;cases e2;exact Zud _ _ _ s _ H _ _ v u Q I rx ry ⟨a,_,k,w,rfl,ey,hd,h2,f.ok rh h3⟩ hs
 unfold ZaR at f;split at f
 . rename_i i;cases r2;split at f
   . rename_i xs e1;obtain⟨d,e2,f⟩:=f.ofO;obtain⟨a,vs,rfl,hq,rs⟩:=r1.seqOf rh e1;obtain⟨w,e3,aH⟩:=rs.atI e2;rcases hq with hq|hq
     . exact Zuc _ _ _ s _ H _ _ v u Q I rx ry ⟨a,_,i,w,rfl,rfl,G.K▸hq,e3,f.ok rh aH⟩ hs
     . exact Zxa _ _ _ s _ H _ _ v u Q I rx ry ⟨a,_,i,w,rfl,rfl,G.K▸hq,e3,f.ok rh aH⟩ hs
   . split at f
     . obtain⟨hz,f⟩:=f.iff;obtain⟨d,e2,f⟩:=f.ofO;obtain⟨c,e3,rfl⟩:=Oo.mp e2;obtain⟨rfl,ok⟩:=r1.str_inv;exact Zxb value slice aa s Z H _ _ v u Q I rx ry ⟨_,i,c,rfl,rfl,hz,e3,f.ok rh<|.str _<|Zrw ok<|Zt2 e3⟩ hs
     . split at f
       . rename_i kvs e1;exact dict kvs (.inl i) e1 rfl f
       . exact f.elim
 . rename_i z;obtain⟨rfl,ok⟩:=r2.str_inv;split at f
   . rename_i kvs e1;exact dict kvs (.inr z) e1 rfl f
   . exact f.elim
 trivial
def Zru(hx:Yp x=Wq)(h:∀c∈y.cps.toList,c∈x.cps.toList):Yp y=Wq:=by unfold Yp at hx ⊢;rw[Array.all_eq_true']at hx ⊢;intro c a;exact hx c (by simp_all)
def ZsS(hY:Y.K=X.K)(rh:RH Y H B h)(r:RD Y H B d v)(e:ZfF T.GD d h=J b):Zx1 X.K v H b:=by
 cases d with
 |non|bl c|int c=>cases r;cases e;rfl
 |str c=>
  cases r;unfold ZfF at e;simp only at e;split at e
  . rename_i g;cases e;refine⟨g,?_⟩
    lia
  . cases e
 |tup j=>obtain⟨a,vs,rfl,t,s⟩:=r.tup_inv;cases e;exact .inr (.inl ⟨_,hY▸t,by rw[s.isEmpty]⟩)
 |ref i=>
  unfold ZfF at e;simp only at e;split at e
  . rename_i q;cases e;obtain⟨a,vs,rfl,_,f,s⟩:=r.lst rh q;exact .inl ⟨_,.of f,by rw[s.isEmpty]⟩
  . rename_i q;cases e;obtain⟨a,vs,rfl,_,f,s⟩:=r.dic rh q;exact .inr (.inr ⟨_,f,by cases s<;>rfl⟩)
  . cases e
 |ro j=>
  cases e;cases r with
  |ro q s=>exact .inl ⟨_,hY▸q.sq,by rw[s.isEmpty]⟩
 |ty n=>cases e
 |kd x=>cases e
end
section
variable {X:Cx}{Y:Yx}{E:XK}{T:Tb}{H:Hp}{B:List Yj}{h:Hd}
def rS(Y:Yx)(E:XK):V->Option Int->Option Int->Hp->VK->Prop:=λx l u H Q=>∃d h B,RH Y H B h/\RD Y H B d x/\Fin Y (RD Y) H B (Zis d l u h) Q E
def Zih(y)(l u):∀c∈(Yq y l u).cps.toList,c∈y.cps.toList:=by
 intro c a;unfold Yq at a;split at a
 . trivial
 . simp at a;obtain⟨i,_,b⟩:=a;have:=Array.mem_of_getElem? b
   simp_all
def Zp2{xs}{lo hi}(h:HT.sIx xs.length 0 lo=0/\HT.sIx xs.length xs.length hi=xs.length):cutD xs lo hi=xs:=by
 unfold cutD
 simp_all
def ZtK(hY:Y.K=X.K):SlR X (rS Y E):=by
 rintro aa s Z H x v vl vu lo hi sl Q I rx hs pl pu⟨d,h,B,rh,r,f⟩;unfold Zis at f;split at f
 . obtain⟨a,vs,rfl,t,rs⟩:=r.tup_inv;by_cases hw:HT.sIx vs.length 0 lo=0/\HT.sIx vs.length vs.length hi=vs.length
   . rw[Zp2 (by rw[rs.length];trivial)]at f;exact ZqG _ s _ H _ v _ _ _ _ _ Q I rx hs pl pu ⟨a,_,rfl,hY▸t,hw,f.ok rh<|.tup t rs⟩
   . exact ZvY _ s _ H _ v _ _ _ _ _ Q I rx hs pl pu ⟨a,_,rfl,hY▸t,hw,λp hp=>f.tup rh hp<|rs.cut _ _⟩
 . obtain⟨rfl,ok⟩:=r.str_inv;exact ZvZ _ s _ H _ v _ _ _ _ _ Q I rx hs pl pu ⟨_,rfl,f.iff.1,f.iff.2.ok rh<|.str _<|Zru ok<|Zih _ _ _⟩
 . split at f
   . rename_i xs e1;obtain⟨a,vs,rfl,hl,rs⟩:=r.lstOf rh e1;exact ZsX _ s _ H _ v _ _ _ _ _ Q I rx hs pl pu ⟨a,_,rfl,hY▸hl,λp hp=>f.new rh hp ⟨_,Zj,(rs.cut _ _).mono rh<|Gr.lay hp⟩⟩
   trivial
def rF(Y:Yx)(E:XK)(f:List D->Hd->qd D):List V->Hp->VK->Prop:=λb H Q=>∃a h B,RH Y H B h/\RDs Y H B a b/\Fin Y (RD Y) H B (f a h) Q E
def RDs.one(r:RDs Y H B [d] xs):∃x,xs=[x]/\RD Y H B d x:=by
 cases r with
 |cons a s=>cases s;exact⟨_,rfl,a⟩
def RDs.two(r:RDs Y H B [d,e] xs):∃x y,xs=[x,y]/\RD Y H B d x/\RD Y H B e y:=by
 cases r with
 |cons a s=>obtain⟨y,rfl,b⟩:=s.one;exact⟨_,_,rfl,a,b⟩
def ZuE(hY:Y.K=X.K):Zaa X (.builtin "len") (rF Y E ZmC):=by
 rintro aa s Z H xs us Q I r⟨ds,h,B,rh,rs,f⟩;unfold ZmC at f;split at f
 . obtain⟨x,rfl,rd⟩:=rs.one;obtain⟨rfl,ok⟩:=rd.str_inv;exact Zk0 _ s _ H _ _ Q I r ⟨_,rfl,f.iff.1,f.iff.2.ok rh<|.int _⟩
 . obtain⟨e,e1,f⟩:=f.ofO;obtain⟨zs,e2,rfl⟩:=Oo.mp e1;obtain⟨x,rfl,rd⟩:=rs.one;obtain⟨a,vs,rfl,hq,rv⟩:=rd.seqOf rh e2;refine Zk1 _ s _ H _ _ Q I r ⟨a,_,rfl,hY▸hq,?_⟩;rw[<-rv.length];exact f.ok rh (.int _)
 trivial
def Zua{K}{t T}{b}(e:ZkJ t T=J b):PySem.W.kitOne K (.type t) (.type T)=J b:=by
 have all:(["int", "str", "bool", "tuple", "list"].all λT=>["int", "str", "bool", "tuple", "list", "NoneType"].all λt=>Wu<|PySem.W.kitOne [] (.type t) (.type T)=J (t==T||(t == "bool" && T == "int")))=Wq:=rfl;unfold ZkJ at e;split at e
 . rename_i hm;cases e;rw[OC]at all;have R:=all T hm.1;rw[OC]at R;exact ZpT (of_decide_eq_true<|R t hm.2)
 trivial
def Zyq(hY:Y.K=X.K)(rh:RH Y H B h)(r:RD Y H B d v)(e:ZvI d h=J t):TyN X.K v H t:=by
 have lst:(IV.lstOf d h).map (λ_ => "list")=J t->TyN _ v H t:=λe=>by obtain⟨b,c,rfl⟩:=Oo.mp e;obtain⟨a,vs,rfl,f,rs⟩:=r.lstOf rh c;exact .inl ⟨rfl,_,hY▸f⟩
 cases d with
 |int i|str i|bl i|non=>cases e;cases r;rfl
 |tup b=>cases e;obtain⟨a,vs,rfl,t,rs⟩:=r.tup_inv;exact .inr ⟨rfl,_,hY▸t⟩
 |ref i=>exact lst e
 |ro b=>exact lst e
 |ty n=>exact lst e
 |kd x=>exact lst e
def ZuG(hY:Y.K=X.K):Zaa X (.builtin "isinstance") (rF Y E ZuO):=by
 rintro aa s Z H xs us Q I r⟨ds,h,B,rh,rs,f⟩;unfold ZuO at f;split at f
 . obtain⟨e,e1,f⟩:=f.ofO;obtain⟨t,e2,e3⟩:=Option.bind_eq_some_iff.mp e1;obtain⟨b,e4,rfl⟩:=Oo.mp e3;obtain⟨x,y,rfl,r1,r2⟩:=rs.two;cases r2;exact Zsn _ s _ H _ _ Q I r ⟨x,t,_,b,rfl,Zyq hY rh r1 e2,Zua e4,f.ok rh<|.bl _⟩
 trivial
def ZuH:Zaa X (.type "int") (rF Y E ZxU):=by
 rintro aa s Z H xs us Q I r⟨ds,h,B,rh,rs,f⟩;unfold ZxU at f;split at f
 . obtain⟨x,rfl,r1⟩:=rs.one;cases r1;exact Zj9 _ s _ H _ _ Q I r (.inl ⟨_,rfl,f.ok rh<|.int _⟩)
 . obtain⟨x,rfl,r1⟩:=rs.one;cases r1;exact Zj9 _ s _ H _ _ Q I r (.inr ⟨_,rfl,f.ok rh<|.int _⟩)
 trivial
def Zuz(hY:Y.K=X.K):Zaa X (.type "tuple") (rF Y E Zqd):=by
 rintro aa s Z H xs us Q I r⟨ds,h,B,rh,rs,f⟩;unfold Zqd at f;split at f
 . obtain⟨x,rfl,r1⟩:=rs.one;obtain⟨a,vs,rfl,t,rv⟩:=r1.tup_inv;exact ZfA _ s _ H _ _ Q I r ⟨a,_,rfl,.inr ⟨hY▸t,f.ok rh<|.tup t rv⟩⟩
 . obtain⟨e,e1,f⟩:=f.ofO;obtain⟨zs,e2,rfl⟩:=Oo.mp e1;obtain⟨x,rfl,r1⟩:=rs.one;obtain⟨a,vs,rfl,hl,rv⟩:=r1.lstOf rh e2;exact ZfA _ s _ H _ _ Q I r ⟨a,_,rfl,.inl ⟨hY▸hl,λp hp=>f.tup rh hp rv⟩⟩
 trivial
def ZuD(hY:Y.K=X.K):Zaa X (.type "list") (rF Y E Zsy):=by
 rintro aa s Z H xs us Q I r⟨ds,h,B,rh,rs,f⟩;unfold Zsy at f;split at f
 . split at f
   . rename_i e2;obtain⟨x,rfl,r1⟩:=rs.one;obtain⟨a,vs,rfl,hq,rv⟩:=r1.seqOf rh e2;exact ZkZ _ s _ H _ _ Q I r ⟨a,_,rfl,hY▸hq,λp hp=>f.new rh hp ⟨_,Zj,rv.mono rh<|Gr.lay hp⟩⟩
   trivial
 trivial
theorem ZiG:∀{ds}{vs}{ns},RDs Y H B ds vs->intsOf ds=J ns->vs=ns.map V.int
 |_,_,_,.nil,e=>by cases e;rfl
 |_,_,_,.cons (d:=d) a s,e=>by
  cases d with
  |int i=>rw[intsOf]at e;obtain⟨z,b,rfl⟩:=Oo.mp e;cases a;rw[ZiG s b];rfl
  |_=>cases e
theorem Zpb:∀{ds}{vs}{ns},RDs Y H B ds vs->Zkd ds=J ns->vs=ns.map V.bl
 |_,_,_,.nil,e=>by cases e;rfl
 |_,_,_,.cons (d:=d) a s,e=>by
  cases d with
  |bl i=>rw[Zkd]at e;obtain⟨z,b,rfl⟩:=Oo.mp e;cases a;rw[Zpb s b];rfl
  |_=>cases e
def ZuB(hc:X.A.handled=M)(hY:Y.K=X.K):Zaa X (.builtin "sum") (rF Y E Zsx):=by
 rintro aa s Z H xs us Q I r⟨ds,h,B,rh,rs,f⟩;unfold Zsx at f;split at f
 . obtain⟨e,e1,f⟩:=f.ofO;obtain⟨ns,e2,rfl⟩:=Oo.mp e1;obtain⟨zs,e3,e4⟩:=Option.bind_eq_some_iff.mp e2;obtain⟨x,rfl,r1⟩:=rs.one;obtain⟨a,vs,rfl,hl,rv⟩:=r1.lstOf rh e3;rw[ZiG rv e4]at hl;exact Zp5 hc _ s _ H _ _ Q I r ⟨a,_,rfl,hY▸hl,f.ok rh<|.int _⟩
 trivial
theorem Zlr:∀(ss:List _),(∀x∈ss,Yp x=Wq)->RDs Y H B (ss.map D.str) (ss.map V.str)
 |[],_=>.nil
 |x::ss,h=>.cons (.str _<|h x<|.head _) (Zlr _ λy a=>h y<|.tail _ a)
theorem ZjO:∀{ds}{vs}{ss},RDs Y H B ds vs->strsOf ds=J ss->vs=ss.map V.str
 |_,_,_,.nil,e=>by cases e;rfl
 |_,_,_,.cons (d:=d) a s,e=>by
  cases d with
  |str i=>rw[strsOf]at e;obtain⟨z,b,rfl⟩:=Oo.mp e;cases a;rw[ZjO s b];rfl
  |_=>cases e
def rM(Y:Yx)(E:XK)(m:Mf):V->List V->Hp->VK->Prop:=λx b H Q=>∃d a h B,RH Y H B h/\RD Y H B d x/\RDs Y H B a b/\Fin Y (RD Y) H B (ZbM m d a h) Q E
noncomputable def mid:Mf->String
 |.app => "list.append"
 |.ext => "list.extend"
 |.pop => "list.pop"
 |.rev => "list.reverse"
 |.clr => "list.clear"
def Zox(hY:Y.K=X.K)(m):MtM X (mid m) (rM Y E m):=by
 rintro aa s Z H x xs v us Q I rx rs⟨d,ds,h,B,rh,r1,r2,f⟩;unfold ZbM at f;split at f
 . split at f
   . rename_i i ys e;obtain⟨a,vs,rfl,hi,hl,rv⟩:=r1.lst rh e;cases m with
     |app=>
      unfold ZhL ZrI at f;simp at f;split at f
      . obtain⟨y,rfl,ry⟩:=r2.one;exact ZjX _ s _ H _ _ v _ Q I rx rs ⟨a,_,y,rfl,rfl,hl,rv.length▸f.iff.1,f.iff.2.wrote rh hi ⟨_,Zj,(rv.append<|.cons ry .nil).mono rh<|Gr.write (O1 hi) (by rw[hl];trivial)⟩ .non (by rw[hl];trivial)⟩
      trivial
     |ext=>
      unfold ZhL ZwS at f;simp only at f;split at f
      . split at f
        . rename_i zs e2;obtain⟨y,rfl,ry⟩:=r2.one;obtain⟨b,ws,rfl,hj,bV,aH⟩:=ry.lst rh e2;exact ZpN aa s Z H _ _ v us Q I rx rs ⟨a,b,vs,ws,rfl,rfl,hl,bV,by rw[<-rv.length,<-aH.length];exact f.iff.1,f.iff.2.wrote rh hi ⟨_,Zj,(rv.append aH).mono rh<|Gr.write (O1 hi) (by rw[hl];trivial)⟩ .non (by rw[hl];trivial)⟩
        . exact f.elim
      . obtain⟨y,rfl,ry⟩:=r2.one;obtain⟨b,ws,rfl,t,aH⟩:=ry.tup_inv;exact Znb aa s Z H _ _ v us Q I rx rs ⟨a,b,vs,ws,rfl,rfl,hl,hY▸t,by rw[<-rv.length,<-aH.length];exact f.iff.1,f.iff.2.wrote rh hi ⟨_,Zj,(rv.append aH).mono rh<|Gr.write (O1 hi) (by rw[hl];trivial)⟩ .non (by rw[hl];trivial)⟩
      . exact f.elim
     |pop=>
      unfold ZhL Zt4 at f;simp only at f;split at f
      . split at f
        . rename_i y e2;cases r2;rw[rv.length]at e2;obtain⟨w,e3,aH⟩:=rv.get e2;exact ZwO aa s Z H _ _ v us Q I rx rs ⟨a,vs,w,rfl,rfl,hl,e3,f.wrote rh hi ⟨_,Zj,rv.dropLast.mono rh<|Gr.write (O1 hi) (by rw[hl];trivial)⟩ (aH.mono rh<|Gr.write (O1 hi) (by rw[hl];trivial)) (by rw[hl];trivial)⟩
        . exact f.elim
      . exact f.elim
     |rev=>
      unfold ZhL ZwR at f;simp only at f;split at f
      . cases r2;exact Zna aa s Z H _ _ v us Q I rx rs ⟨a,vs,rfl,rfl,hl,f.wrote rh hi ⟨_,Zj,rv.reverse.mono rh<|Gr.write (O1 hi) (by rw[hl];trivial)⟩ .non (by rw[hl];trivial)⟩
      . exact f.elim
     |clr=>
      unfold ZhL ZzA at f;simp only at f;split at f
      . cases r2;exact ZrB aa s Z H _ _ v us Q I rx rs ⟨a,vs,rfl,rfl,hl,f.wrote rh hi ⟨_,Zj,.nil⟩ .non (by rw[hl];trivial)⟩
      . exact f.elim
   trivial
 trivial
def rP(Y:Yx)(E:XK):Zqf:=λo i v H Q=>∃a b c h B,RH Y H B h/\RD Y H B a o/\RD Y H B b i/\RD Y H B c v/\Fin Y (λ_ _ (_:Unit) (_:Unit)=>True) H B (Z1 a b c h) (λ_ H'=>Q H') E
def Zwd:Zqh X (rP Y E):=by
 rintro aa s Z H o i v ov iv u Q I ro ri rv⟨a,b,c,h,B,rh,ra,rb,rc,f⟩;unfold Z1 at f;split at f
 . split at f
   . rename_i j xs e;split at f
     . split at f
       . rename_i j' e2;obtain⟨p,vs,rfl,hi,hl,rs⟩:=ra.lst rh e;have hb:=rb.int_inv;subst hb;rw[rs.length]at e2;exact set_list _ s _ H _ _ v _ _ u Q I ro ri rv ⟨p,_,_,_,rfl,rfl,hl,e2,f.wrote (b:=()) rh hi ⟨_,Zj,(RDs.set rc _ rs).mono rh<|Gr.write (O1 hi) (by rw[hl];trivial)⟩ trivial (by rw[hl];trivial)⟩
       trivial
     trivial
   . rename_i j kvs e;split at f
     . rename_i k e2;obtain⟨p,vs,rfl,hi,hl,rs⟩:=ra.dic rh e;exact set_dict aa s Z H _ _ v ov iv u Q I ro ri rv ⟨p,vs,k,rfl,ZeX rb e2,hl,rs.length▸f.iff.1,f.iff.2.wrote (b:=()) rh hi ⟨_,Zj,(rs.put k rc).mono rh<|Gr.write (O1 hi) (by rw[hl];trivial)⟩ trivial (by rw[hl];trivial)<|ZiD (rh.ks _ _ e)<|ZrP rb e2⟩
     trivial
   trivial
 trivial
end
def rW(K:Yl)(x:V)(H1:Hp)(qd:It->Hp->Prop):Prop:=(∃a,x=.ref a/\(∃b,SqL K H1 a b)/\qd (Itl K a) H1)\/(∃a,x=.ref a/\(∃b,SqT K H1 a b)/\qd (Itt K a) H1)
def Zwl(hl:PE X l tl):PI X tg l (λZ H qd=>tl Z H λx H1=>rW X.K x H1 qd):=by
 intro u s Z H qd I h;refine thn (hl _ s _ H _ I h) λv i j=>?_;obtain⟨x,H1,I1,f,k⟩:=j;have g:∀b∈[i.heap.objs.size],ZeP X _ _ b:=λb m=>by
  have e:=by simpa using m
  subst e;exact I1.fpOk (Oq _) (I1.hok.fresh<|Oq _)
 rcases k with⟨a,rfl,⟨n,c⟩,q⟩|⟨a,rfl,⟨n,c⟩,q⟩
 . cases f;obtain⟨d,r,p,t⟩:=I1.list c;exact wpAny_pyIter_list p.isList ⟨_,_,_,_,_,rfl,I1.kept λb o e=>Od _ e,Zpk a _,⟨_,Oj _ rfl,rfl,rfl⟩,g,q⟩
 . cases f;obtain⟨d,r,p,t⟩:=I1.tuple c;exact wpAny_pyIter_tuple (p) ⟨_,_,_,_,_,rfl,I1.kept λb o e=>Od _ e,ZmK a _,⟨_,Oj _ rfl,rfl,rfl⟩,g,q⟩
def WJ(Y:Yx)(H0:Hp)(μ0:List Yj)(w:Wk)(qa:It):Prop:=∀H B h,Gr H0 μ0 H B->RH Y H B h->Wk.stays w.src h=Wq ->
 (∀i d,w.xs[i]?=J d->qa.go i H/\∀x H',qa.yld i H x H'->Gr H B H' B/\RH Y H' B h/\RD Y H' B d x)/\qa.stop w.xs.length H
section
variable {X:Cx}{Y:Yx}{E:XK}{H:Hp}{B:List Yj}{h:Hd}
def Zvz(hY:Y.K=X.K)(rh:RH Y H B h)(t:SqT Y.K H a vs)(s:RDs Y H B xs vs):WJ Y H B ⟨[],xs⟩ (Itt X.K a):=by intro H1 μ1 R g f st;have b:=g.rdT rh t;rw[hY]at b;refine⟨λi d e=>?_,⟨_,b,by rw[s.length];simp⟩⟩;obtain⟨v,c,j⟩:=(s.mono rh g).get e;refine⟨⟨_,v,b,c⟩,λx H' k=>?_⟩;obtain⟨l,q⟩:=k;subst l;have:=q _ b;rw[c]at this;cases this;exact⟨Gr.refl,f,j⟩
def ZuU(hY:Y.K=X.K)(rh:RH Y H B h)(t:FzL Y.K H a vs)(s:RDs Y H B xs vs):WJ Y H B ⟨[],xs⟩ (Itl X.K a):=by intro H1 μ1 R g f st;have b:=(g.rdF rh t).sq;rw[hY]at b;refine⟨λi d e=>?_,⟨_,b,by rw[s.length];simp⟩⟩;obtain⟨v,c,j⟩:=(s.mono rh g).get e;refine⟨⟨_,v,b,c⟩,λx H' k=>?_⟩;obtain⟨l,q⟩:=k;subst l;have:=q _ b;rw[c]at this;cases this;exact⟨Gr.refl,f,j⟩
def Zif(st:Wk.stays ((i,xs)::r) h=Wq):h[i]?=J (.lst xs):=of_decide_eq_true (Bool.and_eq_true_iff.mp st).1
def Zqp(hi:B[i]?=J a):WJ Y H B ⟨[(i,xs)],xs⟩ (Itl X.K a):=by intro H1 μ1 R g c st;obtain⟨vs,b,f⟩:=c.ob i _ a (Zif st)<|g.pre i a hi;refine⟨λi d e=>?_,⟨_,.of b,by rw[f.length];simp⟩⟩;obtain⟨v,h,j⟩:=f.get e;refine⟨⟨_,v,.of b,h⟩,λx H' k=>?_⟩;obtain⟨l,q⟩:=k;subst l;have:=q _<|.of b;rw[h]at this;cases this;exact⟨Gr.refl,c,j⟩
def ZvA{lo}:WJ Y H B ⟨[],Zaj lo n⟩ (Itr lo n):=by
 intro H1 μ1 R g c st;have a:(Zaj lo n).length=n:=by simp[Zaj]
 refine⟨λi d e=>?_,by rw[a];exact Oq _⟩;have b:=by have:=(Ob.mp e).1;rw[a]at this;exact this
 refine⟨b,λx H' f=>?_⟩;obtain⟨h,q⟩:=f;subst h q;have:=by unfold Zaj at e;rw[On,List.getElem?_range b]at e;exact(YF e).symm
 subst this;exact⟨Gr.refl,c,.int _⟩
def Zsc{xs}{i:Nat}{d}(e:(Zfz xs)[i]?=J d):∃x,xs[i]?=J x/\d=.tup [.int i,x]:=by unfold Zfz at e;rw[List.getElem?_mapIdx]at e;obtain⟨x,a,b⟩:=Oo.mp e;exact⟨x,a,b.symm⟩
def ZnV{a}{src}{xs}(hw:WJ Y H B ⟨src,xs⟩ (Itl X.K a))(sq:∀H1 μ1 R,Gr H B H1 μ1->RH Y H1 μ1 R->Wk.stays src R=Wq->∃vs,SqL X.K H1 a vs/\RDs Y H1 μ1 xs vs):WJ Y H B ⟨src,Zfz xs⟩ (Ite X.K a):=by
 intro H1 μ1 R g b st;obtain⟨vs,c,h⟩:=sq _ _ _ g b st;have k:(Zfz xs).length=xs.length:=by simp[Zfz]
 refine⟨λi d e=>?_,⟨_,c,by rw[k,h.length]⟩⟩;obtain⟨s,l,rfl⟩:=Zsc e;obtain⟨v,j,m⟩:=h.get l;refine⟨⟨_,v,c,j⟩,λx H' n=>?_⟩;obtain⟨p,o,f,y,q,r⟩:=n;subst o r;have:=q _ c;rw[j]at this;cases this;exact⟨Gr.lay0 f,b.lay0 f,.tup (.inl<|.inl Zj)<|.cons (.int _)<|.cons (m.mono b<|Gr.lay0 f) .nil⟩
def ZvB(hY:Y.K=X.K)(rh:RH Y H B h)(t:SqT Y.K H a vs)(s:RDs Y H B xs vs):WJ Y H B ⟨[],xs.reverse⟩ (Itv X.K a vs.length):=by intro H1 μ1 R g f st;have b:=g.rdT rh t;rw[hY]at b;refine⟨λi d e=>?_,⟨_,b,rfl,by simp[s.length]⟩⟩;obtain⟨v,c,j⟩:=((s.mono rh g).reverse).get e;refine⟨⟨_,v,b,rfl,c⟩,λx H' k=>?_⟩;obtain⟨l,q⟩:=k;subst l;have:=q _ b;rw[c]at this;cases this;exact⟨Gr.refl,f,j⟩
def ZsK(hi:B[i]?=J a):WJ Y H B ⟨[(i,xs)],xs.reverse⟩ (Zx2 X.K a xs.length):=by intro H1 μ1 R g f st;obtain⟨vs,b,c⟩:=f.ob i _ a (Zif st)<|g.pre i a hi;refine⟨λi d e=>?_,⟨_,.of b,c.length.symm,by simp⟩⟩;obtain⟨v,h,j⟩:=c.reverse.get e;refine⟨⟨_,v,.of b,c.length.symm,h⟩,λx H' k=>?_⟩;obtain⟨l,q⟩:=k;subst l;have:=q _<|.of b;rw[h]at this;cases this;exact⟨Gr.refl,f,j⟩
def Zvy{X:Cx}(hY:Y.K=X.K)(rh:RH Y H B h)(t:SqT Y.K H a vs)(s:RDs Y H B xs vs)(t':SqT Y.K H b vs')(s':RDs Y H B ys vs')(hl:xs.length=ys.length):WJ Y H B ⟨[],Zjw xs ys⟩ (Itz X.K a b):=by
 intro H1 μ1 R g j st;have c:=g.rdT rh t;have n:=s.mono rh g;have k:=g.rdT rh t';rw[hY]at c k;have r:(Zjw xs ys).length=xs.length:=by simp[Zjw,hl]
 refine⟨λi d e=>?_,⟨_,c,by rw[r,n.length]⟩⟩;obtain⟨w,z,A,C,rfl⟩:∃w z,xs[i]?=J _/\ys[i]?=J _/\d=.tup _:=by
  unfold Zjw at e;rw[List.getElem?_zipWith]at e;split at e
  . rename_i x y l m;exact⟨x,y,l,m,(YF e).symm⟩
  . cases e
 obtain⟨v,o,D⟩:=n.get A;obtain⟨u,q,E⟩:=(s'.mono rh g).get C;refine⟨⟨_,_,v,u,c,k,o,q⟩,λx H' ⟨p,I,L,F,f,l,m,G⟩=>?_⟩;subst F G;have:=l _ c;rw[o]at this;cases this;have:=m _ k;rw[q]at this;cases this;exact⟨Gr.lay0 f,j.lay0 f,.tup (.inl<|.inl Zj)<|.cons (D.mono j<|Gr.lay0 f)<|.cons (E.mono j<|Gr.lay0 f) .nil⟩
theorem RKs.keys:∀{kvs:List (Key×D)}{aj:List (Key×V)},RKs Y H B kvs aj->kvs.map (·.1)=aj.map (·.1)
 |_,_,.nil=>rfl
 |_,_,.cons a s=>by rw[Op,Op,s.keys]
def ZuV(ea:H a=J (.frz o<|.dK aj))(s:RKs Y H B kvs aj)(ok:Zb0 kvs):WJ Y H B ⟨[],kvs.map λp=>ZrQ p.1⟩ (Itd a o aj):=by
 intro H1 μ1 R g f st;have t:=s.length;refine⟨λi d e=>?_,⟨g.fz a _ _ ea,by simp_all⟩⟩;simp only[On]at e;obtain⟨p,b,rfl⟩:=Oo.mp e;have u:=(Ob.mp b).1;refine⟨⟨g.fz a _ _ ea,by lia⟩,λx H' h=>?_⟩;obtain⟨j,k,v,m,n⟩:=h;subst j n;have r:=by have q:=congrArg (λl=>l[i]?) s.keys;simp only[On,b,m,Yv]at q;exact YF q
 refine⟨Gr.refl,f,?_⟩;have c:=ok p<|O1 b;rw[r]at c ⊢;cases k with
 |inl i=>exact .int _
 |inr x=>exact .str _ (c x rfl)
def Zxo{d}{x}{qd}{E}(rh:RH Y H B h)(r:RD Y H B d x)(f:Fin Y (WJ Y) H B (Zno d h) qd E):
 ∃a kvs,x=.ref a/\((H a=J (.dK kvs)/\∀o,qd (Itd a o kvs)<|upd H a<|.frz o<|.dK kvs)\/∃o,H a=J (.frz o<|.dK kvs)/\qd (Itd a o kvs) H):=by
 cases d with
 |ref i=>
  unfold Zno at f;simp at f;split at f
  . rename_i kvs e;obtain⟨a,vs,rfl,b,c,s⟩:=r.dic rh e;have j:NF (H a):=by rw[c];trivial
    refine⟨a,_,rfl,.inl ⟨c,λo=>?_⟩⟩;have g:Gr H _ (upd H a<|.frz o<|.dK vs) _:=Gr.write (O1 b) j;exact f.at g (rh.write b ⟨o,_,Zj,s.mono rh g⟩ j<|show Zb0 _ from rh.ks _ _ e) (ZuV Zj (s.mono rh g)<|rh.ks _ _ e)
  . rename_i kvs e;cases r with
    |ref q=>obtain⟨o,vs,R,s⟩:=rh.ob i _ _ e q;exact⟨_,_,rfl,.inr ⟨o,R,f.ok rh<|ZuV R s<|rh.ks _ _ e⟩⟩
  trivial
 |_=>exact f.elim
def ZsN{d}{qd}(hY:Y.K=X.K)(rh:RH Y H B h)(r:RD Y H B d x)(e:ZaW d h=J w)(q:∀qa,WJ Y H B w qa->qd qa H):rW X.K x H qd:=by
 cases d with
 |tup b=>cases e;obtain⟨a,vs,rfl,t,s⟩:=r.tup_inv;exact .inr ⟨a,rfl,⟨_,hY▸t⟩,q _<|Zvz hY rh t s⟩
 |ro b=>
  cases e;cases r with
  |ro t s=>exact .inl ⟨_,rfl,⟨_,hY▸t.sq⟩,q _<|ZuU hY rh t s⟩
 |ref i=>
  unfold ZaW at e;simp at e;split at e
  . rename_i b c;cases e;obtain⟨a,vs,rfl,f,g,s⟩:=r.lst rh c;exact .inl ⟨a,rfl,⟨_,.of g⟩,q _<|Zqp f⟩
  trivial
 |_=>cases e
end
structure Kl where
 cs:List Str
 ats:List Str
 ms:List (Str×Str)
 is:List Str
 xs:List Str:=[]
 xa:List (Str×Str):=[]
 xi:List (Str×Str×Bool):=[]
structure Gm where
 N:List Str
 sc:Scope
 fs:List Str
 top:Bool
 kl:Kl
noncomputable def glb(Γ:Gm)(x:Str):Bool:=Wu (Γ.sc.names.lookup x=J .globalImplicit)&&!(x==("__debug__" : Str))
noncomputable def ZsP(sc:Scope)(x:Str):Bool:=Wu (sc.names.lookup x=J .local)||Wu (sc.names.lookup x=J .cell)||Wu (sc.names.lookup x=J .free)
noncomputable def Zo9:Bf->Str
 |.len => "len" |.isi => "isinstance" |.int => "int" |.tup => "tuple" |.lst => "list" |.sum => "sum" |.srt => "sorted" |.ldk => "list" |.anb => "any" |.tdk => "tuple"
noncomputable def bok:Bf->Bool
 |_=>Wq
noncomputable def ZrD:Mf->Str
 |.app => "append" |.ext => "extend" |.pop => "pop" |.rev => "reverse" |.clr => "clear"
noncomputable def Zpa:List Str:=["len", "isinstance", "int", "tuple", "list", "sum", "all", "sorted", "range", "enumerate", "reversed", "str", "bool", "max", "repr", "zip", "set", "dict", "any", "ValueError"]
noncomputable def ZnY:List String:=["int", "str", "bool", "tuple", "list"]
structure Pt where
 a:Expr:=default
 b:Expr:=default
 c:Expr:=default
 xs:List Expr:=[]
 s:Str:=⟨#[]⟩
 op:Operator:=.Add
 cs:List CmpOp:=[]
 u:UnaryOp:=.Not
 bo:BoolOp:=.And
 p:Pos:=default
 kw:List Keyword:=[]
 l:Option Expr:=M
 h:Option Expr:=M
 st:Option Expr:=M
 ks:List (Option Expr):=[]
 gs:List Comprehension:=[]
 sc:Scope:=default
 k:Nat:=0
 v:Const:=.none
noncomputable def tgE:Expr->Nat
 |.Starred _ _=>0|.BoolOp _ _ _=>1|.UnaryOp _ _ _=>2|.IfExp _ _ _ _=>3|.Compare _ _ _ _=>4|.Slice _ _ _ _=>5|.Name _ _=>6|.BinOp _ _ _ _=>7|.Tuple _ _ _=>8|.List _ _=>9
 |.Subscript _ _ _=>10|.Call _ _ _ _=>11|.Attribute _ _ _=>12|.ListComp _ _ _ _=>13|.Dict _ _ _=>14|.Constant _ _ _=>15|.NamedExpr _ _ _=>17|.Set _ _ _=>18|.SetComp _ _ _ _=>19|.DictComp _ _ _ _ _=>19|_=>16
def prt(e:Expr):Pt:=match e with
 |.BoolOp o xs p=>{bo:=o,xs:=xs,p:=p}
 |.UnaryOp o x p=>{a:=x,u:=o,p:=p}
 |.IfExp t x y p=>{a:=t,b:=x,c:=y,p:=p}
 |.Compare l d rs p=>{a:=l,cs:=d,xs:=rs,p:=p}
 |.Slice l u s p=>{l:=l,h:=u,st:=s,p:=p}
 |.Name x p=>{s:=x,p:=p}
 |.BinOp l o r p=>{a:=l,b:=r,op:=o,p:=p}
 |.Tuple xs k p=>{xs:=xs,k:=k,p:=p}
 |.List xs p=>{xs:=xs,p:=p}
 |.Subscript x y p=>{a:=x,b:=y,p:=p}
 |.Call f xs kw p=>{a:=f,xs:=xs,kw:=kw,p:=p}
 |.Attribute x n p=>{a:=x,s:=n,p:=p}
 |.ListComp x gs sc p=>{a:=x,gs:=gs,p:=p,sc:=sc}
 |.Dict ks vs p=>{ks:=ks,xs:=vs,p:=p}
 |.Constant c k p=>{v:=c,k:=k,p:=p}
 |_=>{a:=e}
noncomputable def mkE(n:Nat)(p:Pt):Expr:=match n with
 |1=>.BoolOp p.bo p.xs p.p|2=>.UnaryOp p.u p.a p.p|3=>.IfExp p.a p.b p.c p.p|4=>.Compare p.a p.cs p.xs p.p|5=>.Slice p.l p.h p.st p.p|6=>.Name p.s p.p|7=>.BinOp p.a p.op p.b p.p
 |8=>.Tuple p.xs p.k p.p|9=>.List p.xs p.p|10=>.Subscript p.a p.b p.p|11=>.Call p.a p.xs p.kw p.p|12=>.Attribute p.a p.s p.p
 |13=>.ListComp p.a p.gs p.sc p.p|14=>.Dict p.ks p.xs p.p|15=>.Constant p.v p.k p.p|_=>p.a
def rb(e:Expr):mkE (tgE e) (prt e)=e:=by cases e<;>rfl
def bL{a b:Bool}(h:(a&&b)=Wq):a=Wq:=by cases a with|true=>rfl|false=>cases h
def bR{a b:Bool}(h:(a&&b)=Wq):b=Wq:=by cases a with|true=>exact h|false=>cases h
def bO{a b:Bool}{P:Prop}(h:(a||b)=Wq)(l:a=Wq->P)(r:b=Wq->P):P:=by cases a with|true=>exact l rfl|false=>exact r h
def ff{P:Prop}(h:Ws=Wq):P:=by cases h
def dS{α:Type}{P:α->Prop}{a b:α}[Decidable<|a=b](h:Wu (a=b)=Wq)(k:P b):P a:=of_decide_eq_true h▸k
def an(n:Nat)(e:Expr)(f:Pt->Bool):Bool:=Wu (tgE e=n)&&f (prt e)
section
variable {P:Expr->Prop}{e:Expr}
def ZaQ(h:an n e f=Wq)(k:∀p,f p=Wq->P (mkE n p)):P e:=rb e▸dS (P:=λm=>P<|mkE m<|prt e) (bL h) (k _<|bR h)
noncomputable def l1{α:Type}(xs:List α)(f:α->Bool):Bool:=match xs with
 |[y]=>f y
 |_=>Ws
@[elab_as_elim] theorem Za9{α:Type}{P:List α->Prop}{xs:List α}{f:α->Bool}(h:l1 xs f=Wq)(k:∀y,f y=Wq->P [y]):P xs:=by
 cases xs with
 |nil=>cases h
 |cons y r=>
  cases r with
  |nil=>exact k y h
  |cons _ _=>cases h
noncomputable def l2{α:Type}(xs:List α)(f:α->α->Bool):Bool:=match xs with
 |[x,y]=>f x y
 |_=>Ws
@[elab_as_elim] theorem ZrN{α:Type}{P:List α->Prop}{xs:List α}{f:α->α->Bool}(h:l2 xs f=Wq)(k:∀x y,f x y=Wq->P [x,y]):P xs:=by
 cases xs with
 |nil=>cases h
 |cons x r=>
  cases r with
  |nil=>cases h
  |cons y r=>
   cases r with
   |nil=>exact k x y h
   |cons _ _=>cases h
noncomputable def l0{α:Type}(xs:List α)(b:Bool):Bool:=xs.isEmpty&&b
def ZjZ{α:Type}{P:List α->Prop}{xs:List α}(h:l0 xs b=Wq)(k:b=Wq->P []):P xs:=by
 cases xs with
 |nil=>exact k h
 |cons _ _=>cases h
@[irreducible] def aN(e:Expr)(f:Str->Bool):Bool:=an 6 e λp=>f p.s
@[elab_as_elim] theorem Zzv(h:aN e f=Wq)(k:∀x q,f x=Wq->P (.Name x q)):P e:=by unfold aN at h;exact ZaQ h λ_ h=>k _ _ h
@[irreducible] def aX(x:Str)(e:Expr)(b:Bool):Bool:=an 6 e λp=>Wu (p.s=x)&&b
@[elab_as_elim] theorem Zqm(h:aX x e b=Wq)(k:∀q,b=Wq->P (.Name x q)):P e:=by unfold aX at h;exact ZaQ h λp h=>dS (P:=λs=>P<|.Name s p.p) (bL h) (k _<|bR h)
@[irreducible] def aB2(o:Operator)(e:Expr)(f:Expr->Expr->Bool):Bool:=an 7 e λp=>Wu (p.op=o)&&f p.a p.b
@[elab_as_elim] theorem ZAl(h:aB2 o e f=Wq)(k:∀l r q,f l r=Wq->P (.BinOp l o r q)):P e:=by unfold aB2 at h;exact ZaQ h λp h=>dS (P:=λs=>P<|.BinOp p.a s p.b p.p) (bL h) (k _ _ _<|bR h)
@[irreducible] def aC1(o:CmpOp)(e:Expr)(f:Expr->Expr->Bool):Bool:=an 4 e λp=>Wu (p.cs=[o])&&l1 p.xs λr=>f p.a r
@[elab_as_elim] theorem Zo8(h:aC1 o e f=Wq)(k:∀l r q,f l r=Wq->P (.Compare l [o] [r] q)):P e:=by unfold aC1 at h;exact ZaQ h λp h=>dS (P:=λs=>P<|.Compare p.a s p.xs p.p) (bL h) (Za9 (P:=λs=>P<|.Compare p.a [o] s p.p) (bR h) λ_ h=>k _ _ _ h)
@[irreducible] def aC2(o o':CmpOp)(e:Expr)(f:Expr->Expr->Expr->Bool):Bool:=an 4 e λp=>Wu (p.cs=[o,o'])&&l2 p.xs λm r=>f p.a m r
@[elab_as_elim] theorem Zvu(h:aC2 o o' e f=Wq)(k:∀l m r q,f l m r=Wq->P (.Compare l [o,o'] [m,r] q)):P e:=by unfold aC2 at h;exact ZaQ h λp h=>dS (P:=λs=>P<|.Compare p.a s p.xs p.p) (bL h) (ZrN (P:=λs=>P<|.Compare p.a [o,o'] s p.p) (bR h) λ_ _ h=>k _ _ _ _ h)
@[irreducible] def aU(u:UnaryOp)(e:Expr)(f:Expr->Bool):Bool:=an 2 e λp=>Wu (p.u=u)&&f p.a
@[elab_as_elim] theorem ZvH(h:aU u e f=Wq)(k:∀x q,f x=Wq->P (.UnaryOp u x q)):P e:=by unfold aU at h;exact ZaQ h λp h=>dS (P:=λs=>P<|.UnaryOp s p.a p.p) (bL h) (k _ _<|bR h)
@[irreducible] def aO(o:BoolOp)(e:Expr)(f:List Expr->Bool):Bool:=an 1 e λp=>Wu (p.bo=o)&&f p.xs
@[elab_as_elim] theorem ZtX(h:aO o e f=Wq)(k:∀xs q,f xs=Wq->P (.BoolOp o xs q)):P e:=by unfold aO at h;exact ZaQ h λp h=>dS (P:=λs=>P<|.BoolOp s p.xs p.p) (bL h) (k _ _<|bR h)
@[irreducible] def aI(e:Expr)(f:Expr->Expr->Expr->Bool):Bool:=an 3 e λp=>f p.a p.b p.c
@[elab_as_elim] theorem ZBz(h:aI e f=Wq)(k:∀t x y q,f t x y=Wq->P (.IfExp t x y q)):P e:=by unfold aI at h;exact ZaQ h λ_ h=>k _ _ _ _ h
@[irreducible] def aT(e:Expr)(f:List Expr->Bool):Bool:=an 8 e λp=>f p.xs
@[elab_as_elim] theorem Zlq(h:aT e f=Wq)(k:∀xs j q,f xs=Wq->P (.Tuple xs j q)):P e:=by unfold aT at h;exact ZaQ h λ_ h=>k _ _ _ h
@[irreducible] def aLs(e:Expr)(f:List Expr->Bool):Bool:=an 9 e λp=>f p.xs
@[elab_as_elim] theorem ZzB(h:aLs e f=Wq)(k:∀xs q,f xs=Wq->P (.List xs q)):P e:=by unfold aLs at h;exact ZaQ h λ_ h=>k _ _ h
@[irreducible] def aS(e:Expr)(f:Expr->Expr->Bool):Bool:=an 10 e λp=>f p.a p.b
@[elab_as_elim] theorem ZqM(h:aS e f=Wq)(k:∀x y q,f x y=Wq->P (.Subscript x y q)):P e:=by unfold aS at h;exact ZaQ h λ_ h=>k _ _ _ h
@[irreducible] def aSl(e:Expr)(f:Expr->Option Expr->Option Expr->Bool):Bool:=aS e λx y=>an 5 y λp=>p.st.isNone&&f x p.l p.h
@[elab_as_elim] theorem ZyP(h:aSl e f=Wq)(k:∀x l u q r,f x l u=Wq->P (.Subscript x (.Slice l u M q) r)):P e:=by
 unfold aSl at h;exact ZqM h λx _ r h=>ZaQ (P:=λy=>P<|.Subscript x y r) h λp h=>by show P (.Subscript x (.Slice p.l p.h p.st p.p) r);rw[Option.isNone_iff_eq_none.mp<|bL h];exact k _ _ _ _ _ (bR h)
@[irreducible] def aCN(n:Str)(e:Expr)(f:List Expr->Bool):Bool:=an 11 e λp=>aX n p.a (l0 p.kw<|f p.xs)
@[elab_as_elim] theorem Zem(h:aCN n e f=Wq)(k:∀p ys q,f ys=Wq->P (.Call (.Name n p) ys [] q)):P e:=by unfold aCN at h;exact ZaQ h λp h=>Zqm (P:=λa=>P<|.Call a p.xs p.kw p.p) h λq h=>ZjZ (P:=λw=>P<|.Call (.Name n q) p.xs w p.p) h λh=>k _ _ _ h
@[irreducible] def aCk(n w:Str)(e:Expr)(f:List Expr->Expr->Bool):Bool:=an 11 e λp=>aX n p.a (l1 p.kw λy=>match y with|⟨a,z,_⟩=>Wu (a=J w)&&f p.xs z)
@[elab_as_elim] theorem ZAd(h:aCk n w e f=Wq)(k:∀p ys z r q,f ys z=Wq->P (.Call (.Name n p) ys [⟨J w,z,r⟩] q)):P e:=by
 unfold aCk at h;exact ZaQ h λp h=>Zqm (P:=λa=>P<|.Call a p.xs p.kw p.p) h λq h=>Za9 (P:=λw=>P<|.Call (.Name n q) p.xs w p.p) h λy h=>match y,h with
  |⟨_,z,r⟩,h=>dS (P:=λs=>P<|.Call (.Name n q) p.xs [⟨s,z,r⟩] p.p) (bL h) (k _ _ _ _ _<|bR h)
@[irreducible] def aA(n:Str)(e:Expr)(f:Expr->Pos->Bool):Bool:=an 12 e λp=>Wu (p.s=n)&&f p.a p.p
@[elab_as_elim] theorem ZuR(h:aA n e f=Wq)(k:∀x q,f x q=Wq->P (.Attribute x n q)):P e:=by unfold aA at h;exact ZaQ h λp h=>dS (P:=λs=>P<|.Attribute p.a s p.p) (bL h) (k _ _<|bR h)
@[irreducible] def aCA(n:Str)(e:Expr)(f:Expr->Pos->List Expr->Pos->Bool):Bool:=an 11 e λp=>aA n p.a λx ap=>l0 p.kw (f x ap p.xs p.p)
@[elab_as_elim] theorem Zvt(h:aCA n e f=Wq)(k:∀x ap ys cp,f x ap ys cp=Wq->P (.Call (.Attribute x n ap) ys [] cp)):P e:=by unfold aCA at h;exact ZaQ h λp h=>ZuR (P:=λa=>P<|.Call a p.xs p.kw p.p) h λx q h=>ZjZ (P:=λw=>P<|.Call (.Attribute x n q) p.xs w p.p) h λh=>k _ _ _ _ h
@[irreducible] def aLC(e:Expr)(f:Expr->Expr->Expr->List Expr->Scope->Bool):Bool:=an 13 e λp=>l1 p.gs λg=>match g with|⟨t,i,c,n⟩=>Wu (n=0)&&f p.a t i c p.sc
@[elab_as_elim] theorem Zve(h:aLC e f=Wq)(k:∀x t i c sc q,f x t i c sc=Wq->P (.ListComp x [⟨t,i,c,0⟩] sc q)):P e:=by
 unfold aLC at h;exact ZaQ h λp h=>Za9 (P:=λg=>P<|.ListComp p.a g p.sc p.p) h λg h=>match g,h with
  |⟨t,i,c,_⟩,h=>dS (P:=λs=>P<|.ListComp p.a [⟨t,i,c,s⟩] p.sc p.p) (bL h) (k _ _ _ _ _ _<|bR h)
@[irreducible] def aD(e:Expr)(f:List (Option Expr)->List Expr->Bool):Bool:=an 14 e λp=>f p.ks p.xs
@[elab_as_elim] theorem ZAa(h:aD e f=Wq)(k:∀ks vs q,f ks vs=Wq->P (.Dict ks vs q)):P e:=by unfold aD at h;exact ZaQ h λ_ h=>k _ _ _ h
@[irreducible] def aK(e:Expr)(f:Const->Bool):Bool:=an 15 e λp=>f p.v
@[elab_as_elim] theorem ZzN(h:aK e f=Wq)(k:∀c j q,f c=Wq->P (.Constant c j q)):P e:=by unfold aK at h;exact ZaQ h λ_ h=>k _ _ _ h
end
noncomputable def ZBN:D->Const->Bool
 |.int i,.int j=>Wu (i=j)
 |.str x,.str y=>Wu (x=y)&&Yp y
 |.bl b,.bool c=>Wu (b=c)
 |.non,.none=>Wq
 |_,_=>Ws
def ZAg(Γ:Gm)(d:D)(e:Expr):Bool:=(aK e λc=>ZBN d c)||match d with
 |.ty n=>aX (Str.ofString n) e (Wu (n∈ZnY)&&glb Γ (Str.ofString n))
 |_=>Ws
def Zsi(NC N:List Str)(js:List (Option Nat))(sc scope:Scope):Bool:=
 Wu (scope.kind=.function)&&Wu (sc.kind=.function)&&(scope.names.all λy=>Wu<|y.2≠.cell)&&(scope.names.all λy=>!Wu (y.2=.local)||Wu (scope.names.lookup y.1=J .local)) &&
  (scope.names.all λy=>!Wu (y.2=.free)||Wu (sc.names.lookup y.1=J .cell))&&decide NC.Nodup&&Wu (js.length=NC.length) &&
  ((NC.zip js).all λp=>p.2.all λj=>Wu (N[j]?=J p.1)&&Wu (scope.names.lookup p.1=J .free))
def Zme(h:Zsi NC N js sc scope=Wq):CompSc NC N js sc scope:=by
 unfold Zsi at h;rw[Oa,Oa,Oa,Oa,Oa,Oa,Oa]at h;obtain⟨⟨⟨⟨⟨⟨⟨a,b⟩,c⟩,d⟩,e⟩,f⟩,g⟩,i⟩:=h;rw[OC]at c d e;refine⟨of_decide_eq_true a,of_decide_eq_true b,λy j=>of_decide_eq_true<|c y j,λy j k=>?_,λy j k=>?_,of_decide_eq_true f,of_decide_eq_true g,i⟩
 . have:=d y j;rw[decide_eq_true k]at this;simpa using this
 . have:=e y j;rw[decide_eq_true k]at this;simpa using this
noncomputable def ZpM(N:List Str)(own:Str->Bool)(i:Nat)(e:Expr):Bool:=aN e λx=>Wu (N[i]?=J x)&&own x
def Zo4(N:List Str)(own:Str->Bool):List Nat->List Expr->Bool
 |[],a=>a.isEmpty
 |i::is,a=>match a with
  |e::a=>ZpM N own i e&&Zo4 N own is a
  |[]=>Ws
def Zsm(N:List Str)(own:Str->Bool)(i j:Nat)(e:Expr):Bool:=aT e λc=>l2 c λa b=>ZpM N own i a&&ZpM N own j b
def Zsl(N:List Str)(own:Str->Bool)(is:List Nat)(e:Expr):Bool:=aT e λa=>Zo4 N own is a
def Zuv(N:List Str)(own:Str->Bool)(g:Tg)(e:Expr):Bool:=match g with
 |.nm i=>ZpM N own i e
 |.two i j=>Zsm N own i j e
 |.many is=>Zsl N own is e
@[elab_as_elim] theorem Zb9{P:Expr->Prop}(h:ZpM N own i e=Wq)(k:∀x p,N[i]?=J x->own x=Wq->P (.Name x p)):P e:=Zzv h λ_ _ h=>k _ _ (of_decide_eq_true<|bL h) (bR h)
def isTup(e:Expr):Bool:=Wu (tgE e=8)
@[elab_as_elim] theorem ZrR{P:Expr->Prop}(h:isTup e=Wq)(k:∀xs j q,P<|.Tuple xs j q):P e:=Zlq (P:=P) (f:=λ_=>Wq) (by unfold aT an;rw[show Wu (tgE e=8)=Wq from h];rfl) λ_ _ _ _=>k _ _ _
noncomputable def tgk:Tg->Nat
 |.nm i=>i+1
 |.two i j=>max i j+1
 |.many is=>is.foldr max 0+1
noncomputable def Zzg(sc:Scope)(x:Str):Bool:=Wu (sc.names.lookup x=J .local)
noncomputable def ownD(sc:Scope)(x:Str):Bool:=Wu (sc.names.lookup x=J .local)||Wu (sc.names.lookup x=J .cell)
def ZaY(e:Expr):Bool:=Wu (tgE e≠18)
def Zd4(e:Expr):Bool:=Wu (tgE e≠5)
def Za6(e:Expr):Bool:=Wu (tgE e≠0)
def ZcV(e:Expr):Bool:=!(Wu (tgE e=11)&&(prt e).xs.isEmpty)
def ZmZ(e:Expr):Bool:=Wu (6<=tgE e)&&Wu (tgE e<=16)
mutual
noncomputable def chk(Γ:Gm):Ex->Expr->Bool
 |.var i,e=>aN e λx=>Wu (Γ.N[i]?=J x)&&(ZsP Γ.sc x&&(!(x==("__debug__" : Str))&&!(x==("__classdict__" : Str))))
 |.cst d,e=>ZAg Γ d e
 |.glo x,e=>aX x e (glb Γ x)
 |.bin op a b,e=>aB2 op e λl r=>chk Γ a l&&chk Γ b r
 |.cmp op a b,e=>aC1 op e λl r=>chk Γ a l&&(chk Γ b r&&ZaY r)
 |.cmp2 o1 o2 a b c,e=>aC2 o1 o2 e λl m r=>chk Γ a l&&(chk Γ b m&&(chk Γ c r&&ZaY r))
 |.neg a,e=>aU .USub e λx=>chk Γ a x
 |.nt a,e=>aU .Not e λx=>chk Γ a x
 |.ands es,e=>aO .And e λxs=>chks Γ es xs
 |.ors es,e=>aO .Or e λxs=>chks Γ es xs
 |.ite c a b,e=>aI e λt x y=>chkt Γ c t&&(chk Γ a x&&chk Γ b y)
 |.tupl es,e=>aT e λxs=>chks Γ es xs
 |.lstl es,e=>aLs e λxs=>chks Γ es xs
 |.ix a i,e=>aS e λx y=>chk Γ a x&&(chk Γ i y&&Zd4 y)
 |.sl a lo hi,e=>aSl e λx l u=>chk Γ a x&&(chko Γ lo l&&chko Γ hi u)
 |.blt f es,e=>aCN (Zo9 f) e λys=>(bok f&&glb Γ (Zo9 f))&&(chks Γ es ys&&!ys.isEmpty)
 |.call f es,e=>aCN f e λys=>Wu (f∈Γ.fs)&&(glb Γ f&&(chks Γ es ys&&!ys.isEmpty))
 |.meth m o es,e=>aCA (ZrD m) e λx ap ys cp=>chk Γ o x&&(ZcV x&&(chks Γ es ys&&(Wu (ys.length<29)&&(ap.endLine==cp.line))))
 |.lrv e,x=>aCN "list" x λys=>l1 ys λz=>aCN "reversed" z λys=>l1 ys λy=>glb Γ "list" && (glb Γ "reversed" && (chk Γ e y&&Za6 y))
 |.nin n a b,e=>aC1 (if n then .NotIn else .In) e λl r=>chk Γ a l&&(chk Γ b r&&ZaY r)
 |.nix a i,e=>aS e λx y=>chk Γ a x&&(chk Γ i y&&Zd4 y)
 |.ndl,e=>aD e λkeys values=>keys.isEmpty&&values.isEmpty
 |.comp NC js it g c e,x=>aLC x λaF tg iter a7 scope=>Γ.top&&(Zsi NC Γ.N js Γ.sc scope&&(chki Γ it tg iter&&(ZaY iter&&(Zuv NC (Zzg scope) g tg&&(((List.range<|tgk g).all λj=>Wu<|js[j]?=J M) &&
  (chkf ⟨NC,scope,Γ.fs,Ws,Γ.kl⟩ c a7&&chk ⟨NC,scope,Γ.fs,Ws,Γ.kl⟩ e aF))))))
 |.maxd a d,e=>aCk "max" "default" e λys z=>l1 ys λy=>glb Γ "max" && (chk Γ a y&&(Za6 y&&chk Γ d z))
 |.dictl ps,e=>aD e λkeys values=>Wu (keys.length<=15)&&chkp Γ ps keys values
 |.att Cs o f,e=>aA f e λx _=>chk Γ o x&&(ZcV x&&((Cs.all λC=>Wu<|C∈Γ.kl.cs)&&Wu (f∈Γ.kl.ats)))
 |.mk C es,e=>aCN C e λys=>Wu (C∈Γ.kl.is)&&(glb Γ C&&chks Γ es ys)
 |.mcl C m o es,e=>aCA m e λx ap ys cp=>chk Γ o x&&(ZcV x&&(chks Γ es ys&&(Wu ((C,m)∈Γ.kl.ms)&&(Wu (ys.length<29)&&(ap.endLine==cp.line)))))
 |.any,_=>Wq
noncomputable def chks(Γ:Gm):Exs->List Expr->Bool
 |.nil,es=>es.isEmpty
 |.cons e r,es=>match es with
  |x::xs=>chk Γ e x&&(Za6 x&&chks Γ r xs)
  |[]=>Ws
noncomputable def chkp(Γ:Gm):Exs->List (Option Expr)->List Expr->Bool
 |.nil,ks,vs=>ks.isEmpty&&vs.isEmpty
 |.cons k r,ks,vs=>match r with
  |.cons v r'=>match ks,vs with
   |some kx::ks,vx::vs=>chk Γ k kx&&(chk Γ v vx&&chkp Γ r' ks vs)
   |_,_=>Ws
  |.nil=>Ws
noncomputable def chko(Γ:Gm):Option Ex->Option Expr->Bool
 |none,x=>x.isNone
 |some a,x=>match x with
  |some x=>chk Γ a x
  |none=>Ws
noncomputable def chkf(Γ:Gm):Option Tx->List Expr->Bool
 |none,x=>x.isEmpty
 |some a,x=>l1 x λx=>chkt Γ a x
noncomputable def ZBL(Γ:Gm):Ex->Expr->Bool
 |.cmp op a b,e=>aC1 op e λl r=>chk Γ a l&&(chk Γ b r&&ZaY r)
 |.cmp2 o1 o2 a b c,e=>aC2 o1 o2 e λl m r=>chk Γ a l&&(chk Γ b m&&(chk Γ c r&&ZaY r))
 |.nin n a b,e=>aC1 (if n then .NotIn else .In) e λl r=>chk Γ a l&&(chk Γ b r&&ZaY r)
 |_,_=>Ws
noncomputable def chkt(Γ:Gm):Tx->Expr->Bool
 |.ex e,x=>(ZmZ x&&chk Γ e x)||ZBL Γ e x
 |.ands ts,x=>aO .And x λxs=>chkts Γ ts xs
 |.ors ts,x=>aO .Or x λxs=>chkts Γ ts xs
 |.nt t,x=>aU .Not x λy=>chkt Γ t y
noncomputable def chkts(Γ:Gm):Txs->List Expr->Bool
 |.one t,xs=>l1 xs λx=>chkt Γ t x
 |.cons t ts,xs=>match xs with
  |x::r=>chkt Γ t x&&(!r.isEmpty&&chkts Γ ts r)
  |_=>Ws
noncomputable def chki(Γ:Gm):Ix->Expr->Expr->Bool
 |.pl e,_,x=>chk Γ e x
 |.rng e,_,x=>aCN "range" x λys=>l1 ys λy=>glb Γ "range" && (chk Γ e y&&Za6 y)
 |.enu e,tg,x=>aCN "enumerate" x λys=>l1 ys λy=>glb Γ "enumerate" && (chk Γ e y&&(Za6 y&&isTup tg))
 |.rev e,_,x=>aCN "reversed" x λys=>l1 ys λy=>glb Γ "reversed" && (chk Γ e y&&Za6 y)
 |.zp a b,tg,x=>aCN "zip" x λys=>l2 ys λy z=>glb Γ "zip" && (chk Γ a y&&(chk Γ b z&&(Za6 y&&(Za6 z&&isTup tg))))
 |.dk e,_,x=>chk Γ e x
end
def leS(a b:Str):Prop:=¬ b.cps.toList<a.cps.toList
def ZjY(h:leS a b)(q:leS b c):leS a c:=List.le_trans h q
def ZrK(h:leS a b)(q:leS b a):a=b:=by have e:=List.le_antisymm h q;obtain⟨⟨b⟩⟩:=b;subst e;rfl
def Zlt:∀{ss},sortedS ss=Wq->ss.Pairwise leS:=by
 have a:∀(r) (p),risingS p r=Wq->(∀x∈r,leS p x)/\r.Pairwise leS:=by
  intro r;induction r with
  |nil=>simp
  |cons x r c=>
   intro p h;rw[risingS,Oa]at h;obtain⟨R,b⟩:=c x h.2;have d:leS p x:=by
    have:=h.1;rw[ltCps_eq]at this;unfold leS
    simp_all
   refine⟨λy hy=>?_,.cons R b⟩;rcases O2.mp hy with rfl|hy
   . trivial
   . exact ZjY d (R y hy)
 intro ss h;cases ss with
 |nil=>simp
 |cons x r=>obtain⟨R,b⟩:=a r x h;exact .cons R b
theorem Zim(x):∀r ,(Zpw x r).Perm (x::r)
 |[]=>.refl _
 |y::r=>by
  unfold Zpw;split
  . exact((Zim x r).cons y).trans (.swap x y r)
  simp
theorem ZeS:∀r ,(ZdI r).Perm r
 |[]=>.refl _
 |x::r=>(Zim x _).trans ((ZeS r).cons x)
theorem ZlC(x):∀r ,r.Pairwise leS->(Zpw x r).Pairwise leS
 |[],_=>.cons (by simp) .nil
 |y::r,h=>by
  cases h with
  |cons R b=>
   unfold Zpw;split
   . rename_i a;rw[ltCps_eq]at a;refine .cons (λz hz=>?_)<|ZlC x r b;rcases O2.mp ((Zim x r).mem_iff.mp hz)with rfl|hz
     . exact List.le_of_lt (of_decide_eq_true a)
     simp_all
   . rename_i a;have c:leS x y:=by
      unfold leS;rw[ltCps_eq]at a
      simp_all
     refine .cons (λz hz=>?_)<|.cons R b;rcases O2.mp hz with rfl|hz
     . trivial
     . exact ZjY c (R z hz)
theorem ZjQ:∀r ,(ZdI r).Pairwise leS
 |[]=>.nil
 |x::r=>ZlC x _ (ZjQ r)
def Zpq(hp:bA.Perm ss)(hs:sortedS bA=Wq):bA=ZdI ss:=(hp.trans (ZeS _).symm).eq_of_pairwise (λ_ _ _ _ h q=>ZrK h q) (Zlt hs) (ZjQ _)
section
variable {X:Cx}{Y:Yx}{E:XK}{T:Tb}{H:Hp}{B:List Yj}{h:Hd}
theorem Zcd:∀{ds:List (Key×D)}{vs:List (Key×V)}{ss:List _},RKs Y H B ds vs->Z0 ds=J ss->vs.map (·.1)=ss.map YE
 |_,_,_,.nil,e=>by cases e;rfl
 |_,_,_,.cons (k:=k) a s,e=>by
  cases k with
  |inl i=>cases e
  |inr x=>rw[Z0]at e;obtain⟨z,b,rfl⟩:=Oo.mp e;rw[Op,Op,Zcd s b]
theorem Zkq:∀(ss:List _),(∀x∈ss,Yp x=Wq)->RDs Y H B (ss.map D.str) (ss.map V.str)
 |[],_=>.nil
 |x::r,h=>.cons (.str x<|h x<|by simp) (Zkq r λy a=>h y<|by simp_all)
def ZuC(hc:X.A.handled=M)(G:Gk X Y T):Zaa X (.builtin "sorted") (rF Y E<|Zg2 T.GD):=by
 rintro aa s Z H xs us Q I r⟨ds,h,B,rh,rs,f⟩;unfold Zg2 at f;split at f
 . split at f
   . rename_i ss e2;obtain⟨hz,f⟩:=f.iff;obtain⟨kvs,e3,e4⟩:=Option.bind_eq_some_iff.mp e2;obtain⟨x,rfl,r1⟩:=rs.one;obtain⟨a,aj,rfl,hd,rk⟩:=r1.dicOf G rh e3;obtain⟨hz,hok⟩:=hz;refine ZkY hc _ s _ H _ _ Q I r ⟨a,_,_,rfl,hd,Zcd rk e4,hz,λp bA hp R h2=>?_⟩;rw[Zpq R h2];refine f.new rh hp ⟨_,Zj,Zkq _ λy hy=>?_⟩;rw[OC]at hok;exact hok y ((ZeS _).mem_iff.mp hy)
   trivial
 trivial
def ZuF(hc:X.A.handled=M)(G:Gk X Y T):Zaa X (.type "list") (rF Y E<|Zsz T.GD):=by
 rintro aa s Z H xs us Q I r⟨ds,h,B,rh,rs,f⟩;unfold Zsz at f;split at f
 . split at f
   . rename_i ss e2;obtain⟨hok,f⟩:=f.iff;obtain⟨kvs,e3,e4⟩:=Option.bind_eq_some_iff.mp e2;obtain⟨x,rfl,r1⟩:=rs.one;obtain⟨a,aj,rfl,hd,rk⟩:=r1.dicOf G rh e3;exact ZnA hc _ s _ H _ _ Q I r ⟨a,_,_,rfl,hd,Zcd rk e4,λp hp=>f.new rh hp ⟨_,Zj,Zkq _ λy hy=>OC.mp hok y hy⟩⟩
   . exact f.elim
 . exact f.elim
def Zm6(r:RD Y H B d v)(e:nkD d=J k):∃b,v=.ref b/\KyS Y.K H b k:=by
 unfold nkD at e;split at e
 . obtain⟨l,g,h⟩:=Oo.mp e;subst h;obtain⟨a,vs,rfl,t,rs⟩:=r.tup_inv;obtain⟨x,y,rfl,i,rb⟩:=rs.two;cases i.int_inv;obtain⟨c,m,rfl,f,j⟩:=rb.tup_inv;rw[ZjO j g]at f;exact⟨a,rfl,c,t,f⟩
 trivial
def RD.dn(rh:RH Y H B h)(r:RD Y H B d v)(e:Zp0 d h=J kvs):∃a aj xs,v=.ref a/\H a=J (.dT xs)/\KN Y.K H aj xs/\RKs Y H B kvs aj:=by
 unfold Zp0 at e;split at e
 . split at e
   . rename_i i g q;cases e;cases r with
     |ref b=>obtain⟨aj,xs,R,c,f⟩:=rh.ob _ _ _ q b;exact⟨_,_,_,rfl,R,c,f⟩
   trivial
 trivial
def Zlm(s:RKs Y H B ds vs)(k):(valN ds k=M/\ZbJ vs k=M)\/∃d v,valN ds k=J d/\ZbJ vs k=J v/\RD Y H B d v:=by
 unfold valN ZbJ;rcases s.val k with⟨R,a⟩|⟨d,v,R,a,r⟩
 . exact .inl ⟨by rw[R];rfl,by rw[a];rfl⟩
 . exact .inr ⟨d,v,by rw[R];rfl,by rw[a];rfl,r⟩
def ZlK(n:Bool)(hr:Room k X.A)(hY:Y.K=X.K):OpR X (YM<|if n then .NotIn else .In) (rB Y E<|ZnP n):=by
 rintro aa s Z H x y v u Q I rx ry⟨dx,dy,h,B,rh,r1,r2,f⟩;unfold ZnP at f;split at f
 . rename_i kvs e1;split at f
   . rename_i k e2;obtain⟨a,aj,xs,rfl,ha,kn,rk⟩:=r2.dn rh e1;obtain⟨b,rfl,kb⟩:=Zm6 r1 e2;rw[hY]at kn kb;have e:(valN kvs k).isSome=(ZbJ aj k).isSome:=by rcases Zlm rk k with⟨q1,q2⟩|⟨_,_,q1,q2,_⟩<;>rw[q1,q2]<;>rfl
     rw[e]at f;cases n with
     |true=>exact ZpE hr _ s _ H _ _ v u Q I rx ry ⟨a,b,_,_,k,rfl,rfl,kb,ha,kn,f.ok rh<|.bl _⟩
     |false=>exact ZwB hr _ s _ H _ _ v u Q I rx ry ⟨a,b,_,_,k,rfl,rfl,kb,ha,kn,f.ok rh<|.bl _⟩
   trivial
 trivial
def Zxd(hr:Room k X.A)(hY:Y.K=X.K):IxR X (rB Y E ZuN):=by
 intro c e N s Z H x y v u Q I n o p q;obtain⟨O,P,h,B,g,r,t,f⟩:=p;unfold ZuN at f;split at f
 . rename_i z C;split at f
   . rename_i k D;obtain⟨d,i,f⟩:=f.ofO;obtain⟨a,R,S,rfl,F,j,G⟩:=r.dn g C;obtain⟨b,rfl,l⟩:=Zm6 t D;rw[hY]at j l;rcases Zlm G k with⟨m,_⟩|⟨T,w,m,J,L⟩
     . simp_all
     . rw[m]at i;cases i;exact ZzO hr _ _ _ s _ H _ _ v u Q I n o ⟨a,b,_,_,k,w,rfl,rfl,l,F,j,J,f.ok g L⟩ q
   trivial
 trivial
theorem RKs.putN{ds}{vs}(s:RKs Y H B ds vs)(k)(r:RD Y H B d v):RKs Y H B (putN ds k d) (putK vs k v):=by
 unfold IV.putN putK;rw[s.any_rel k];split
 . exact s.map_rel k r
 . exact s.append (.cons r .nil)
def rPN(Y:Yx)(E:XK):Zqf:=λo i v H Q=>∃a b c h B,RH Y H B h/\RD Y H B a o/\RD Y H B b i/\RD Y H B c v/\Fin Y (λ_ _ (_:Unit) (_:Unit)=>True) H B (ZuM a b c h) (λ_ H'=>Q H') E
def ZwK(hr:Room k X.A)(hY:Y.K=X.K):Zqh X (rPN Y E):=by
 rintro aa s Z H o i v ov iv u Q I ro ri rv⟨a,b,c,h,B,rh,ra,rb,rc,f⟩;unfold ZuM at f;split at f
 . split at f
   . rename_i j kvs e;split at f
     . rename_i k e2;obtain⟨hz,f⟩:=f.iff;obtain⟨b',rfl,kb⟩:=Zm6 rb e2;cases ra with
       |ref hi=>obtain⟨aj,xs,ha,kn,rk⟩:=rh.ob _ _ _ e hi;have cL:=kn;have jr:=kb;rw[hY]at cL jr;exact Zv1 hr _ s _ H _ _ v _ _ u Q I ro ri rv ⟨_,_,_,_,k,rfl,rfl,jr,ha,cL,by rw[<-rk.length];trivial,λr ly=>f.wrote (b:=()) rh hi ⟨_,_,Zj,KN.tr ((Gr.write (O1 hi) (by rw[ha];trivial)).tr rh)<|kn.put k kb ly,(rk.putN k rc).mono rh<|Gr.write (O1 hi) (by rw[ha];trivial)⟩ trivial (by rw[ha];trivial)⟩
     trivial
   trivial
 trivial
def ZuI(hc:X.calm=Wq)(hY:Y.K=X.K):Zaa X (.builtin "any") (rF Y E ZxV):=by
 rintro aa s Z H xs us Q I r⟨ds,h,B,rh,rs,f⟩;unfold ZxV at f;split at f
 . obtain⟨e,e1,f⟩:=f.ofO;obtain⟨ns,e2,rfl⟩:=Oo.mp e1;obtain⟨zs,e3,e4⟩:=Option.bind_eq_some_iff.mp e2;obtain⟨x,rfl,r1⟩:=rs.one;obtain⟨a,vs,rfl,hl,rv⟩:=r1.lstOf rh e3;rw[Zpb rv e4]at hl;exact Zp6 hc _ s _ H _ _ Q I r ⟨a,_,rfl,hY▸hl,f.ok rh<|.bl _⟩
 trivial
def ZuA(hc:X.A.handled=M)(G:Gk X Y T):Zaa X (.type "tuple") (rF Y E<|Zsw T.GD):=by
 rintro aa s Z H xs us Q I r⟨ds,h,B,rh,rs,f⟩;unfold Zsw at f;split at f
 . split at f
   . rename_i ss e2;obtain⟨kvs,e3,e4⟩:=Option.bind_eq_some_iff.mp e2;obtain⟨x,rfl,r1⟩:=rs.one;obtain⟨a,aj,rfl,hd,rk⟩:=r1.dicOf G rh e3;exact Zml hc _ s _ H _ _ Q I r ⟨a,_,_,rfl,hd,Zcd rk e4,λp hp=>f.iff.2.tup rh hp<|Zlr _ λy hy=>OC.mp f.iff.1 y hy⟩
   trivial
 trivial
end
set_option tactic.hygienic false
def RS(Y:Yx)(H:Hp)(B:List Yj)(S:Ev)(Z:L2.St):Prop:=Z.length=S.length/\∀(i:Nat) (d:D),S[i]?=J (J d)->∃v,Z[i]?=J (J v)/\RD Y H B d v
section
variable {Y:Yx}{H H':Hp}{B μ':List Yj}{h:Hd}{S:Ev}{Z:L2.St}
theorem RS.mono(rh:RH Y H B h)(g:Gr H B H' μ')(r:RS Y H B S Z):RS Y H' μ' S Z:=⟨r.1,λi d e=>let⟨v,R,a⟩:=r.2 i d e;⟨v,R,a.mono rh g⟩⟩
def RS.var(r:RS Y H B S Z){i:Nat}{d:D}(e:(S[i]?).join=J d):∃v,Z[i]?=J (J v)/\RD Y H B d v:=by
 refine r.2 i d ?_;cases q:S[i]? with
 |none=>rw[q]at e;cases e
 |some o=>rw[q]at e;cases o with
  |none=>cases e
  |some a=>cases e;rfl
theorem RS.set(r:RS Y H B S Z){i:Nat}{d:D}{v:V}(q:RD Y H B d v):RS Y H B (S.set i<|J d) (Z.set i<|J v):=by
 refine⟨by simp[r.1],λj e a=>?_⟩;by_cases b:i=j
 . subst b;have c:i<S.length:=by have:=(Ob.mp a).1;simpa using this
   rw[Ol c]at a;cases a;exact⟨v,by rw[Ol (by rw[r.1];exact c)],q⟩
 . rw[Oc b]at a;obtain⟨w,R,f⟩:=r.2 j e a;exact⟨w,by rw[Oc b];exact R,f⟩
theorem RS.capt(r:RS Y H B S Z)(js:List (Option Nat)):RS Y H B (ZbQ js S) (capt js Z):=by
 refine⟨by simp[ZbQ,L2.capt],λi d e=>?_⟩;unfold ZbQ at e;unfold L2.capt;rw[On]at e ⊢;cases q:js[i]? with
 |none=>rw[q]at e;cases e
 |some o=>
  rw[q]at e;cases o with
  |none=>cases e
  |some j=>
   have a:(S[j]?).join=J d:=by simpa using e
   obtain⟨v,R,b⟩:=r.var a;exact⟨v,by simp[R],b⟩
end
inductive Sm(Y:Yx)(E:XK){α β:Type}(rel:Hp->List Yj->α->β->Prop)(m:Ev->Hd->qd α)(Z:L2.St)(H:Hp)(Q:β->Hp->Prop):Prop
 |mk (S:Ev) (h:Hd) (B:List Yj) (rh:RH Y H B h) (rs:RS Y H B S Z) (f:Fin Y rel H B (m S h) Q E):Sm Y E rel m Z H Q
def eqR{α:Type}:Hp->List Yj->α->α->Prop:=λ_ _ a b=>a=b
theorem Sm.bind{α β γ δ:Type}{Q:β->Hp->Prop}{rel:Hp->List Yj->γ->δ->Prop}{aQ:Hp->List Yj->α->β->Prop}{m:Ev->Hd->qd γ}{k:Ev->γ->Hd->qd α}(s:Sm Y E aQ (λS h=>(m S h).bind<|k S) Z H Q)
 {Q1:δ->Hp->Prop}
 (hk:∀S d R v H1 μ1,RH Y H1 μ1 R->RS Y H1 μ1 S Z->rel H1 μ1 d v->Fin Y aQ H1 μ1 (k S d R) Q E->Q1 v H1):Sm Y E rel m Z H Q1:=by
 cases s with
 |mk S h B a rs f=>exact⟨S,h,B,a,rs,f.bind λd R x H1 μ1 _ g b rd c=>hk S d R x H1 μ1 b (rs.mono a g) rd c⟩
section
variable (T:Tb)(Y:Yx)(E:XK)
def Z6(e:Ex):TE:=Sm Y E (RD Y) (ev T e)
def ZmQ(e:Exs):TA:=Sm Y E (RDs Y) (evs T e)
def Zlw(e:Tx):TT:=Sm Y E eqR (tst T e)
def ZA9(e:Option Ex):TO:=Sm Y E eqR (evo T e)
def ZBa(e:Ix):TI:=Sm Y E (WJ Y) (evi T e)
def Zg6(f:Str):Sp:=λvs H Q E=>∃a h B,RH Y H B h/\RDs Y H B a vs/\Fin Y (RD Y) H B (T.C f a h) Q E
end
structure Gd(T:Tb)(Γ:Gm)(X:Cx)(Y:Yx)(E:XK)(k:Nat):Prop where
 gk:Gk X Y T
 N:X.N=Γ.N
 sc:Γ.top=Wq->X.env.scope=Γ.sc
 vis:∀x,ZsP Γ.sc x=Wq->Vis X.env.scope x
 glo:∀x,Γ.sc.names.lookup x=J .globalImplicit->Gl X x
 nd:X.N.Nodup
 calm:X.calm=Wq
 room:Room k X.A
 h60:60<=k
 pass:ZbZ (CXF X.prog X.w) X E
 defs:∀f∈Γ.fs,∃ps,Def X.prog X.w X.K X.mg X.base k f ps (Zg6 T Y f)
 blt:∀x∈Zpa,X.mg x=M
 room1:Room (k+1) X.A
 cls:∀C∈Γ.kl.cs,∃a,X.mg C=J (.ref a)/\Cls X.K a/\∀f∈Γ.kl.ats,Za5 X.K a f
 mts:∀p∈Γ.kl.ms,∃a f fd ps,X.mg p.1=J (.ref a)/\Cls X.K a/\Meth X.K a p.2 f/\FnOk X.prog X.w X.K X.mg X.base (CXF X.prog X.w) k f fd ps (Zg6 T Y<|mnm p.1 p.2)/\Binds X.K fd ps []
 mks:∀C∈Γ.kl.is,∃a f fd ps,X.mg C=J (.ref a)/\Mk X.K a f/\FnOk X.prog X.w X.K X.mg X.base (CXF X.prog X.w) k f fd ps (Zg6 T Y<|mnm C<|O "__init__")/\Binds X.K fd ps []
def _root_.L2.PE.imp(h:PE X e t)(i:∀Z H Q,t' Z H Q->t Z H Q):PE X e t':=λa s Z H Q I q=>h a s Z H Q I (i Z H Q q)
def _root_.L2.PT.imp(h:PT X e t)(i:∀Z H Q,t' Z H Q->t Z H Q):PT X e t':=λa s Z H Q I q=>h a s Z H Q I (i Z H Q q)
def _root_.L2.PW.imp(h:PW X e t)(i:∀Z H Q,t' Z H Q->t Z H Q):PW X e t':=λw a s Z H Q I q=>h w a s Z H Q I (i Z H Q q)
def _root_.L2.PA.imp(h:PA X e t)(i:∀Z H Q,t' Z H Q->t Z H Q):PA X e t':=λp a s Z H Q I q=>h p a s Z H Q I (i Z H Q q)
def _root_.L2.PO.imp(h:PO X e t)(i:∀Z H Q,t' Z H Q->t Z H Q):PO X e t':=λa s Z H Q I q=>h a s Z H Q I (i Z H Q q)
def _root_.L2.PI.imp(h:PI X tg e t)(i:∀Z H Q,t' Z H Q->t Z H Q):PI X tg e t':=λa s Z H Q I q=>h a s Z H Q I (i Z H Q q)
structure Kd(x:Expr):Prop where
 star:tgE x≠0->∀xs env,YA (x::xs) env=(Ws,eval x env)::YA xs env
 set:tgE x≠18->∀env v,foldedSetIterable x env v=pure v
 mark:tgE x≠18->∀op,behindInMarks op x=Ws
 ix:tgE x≠5->Zli x
 put:tgE x≠5->∀o pos env v,assign (.Subscript o x pos) env v=(do
  let ov <- holding [v] (eval o env);let iv <- holding [v,ov] (eval x env)
  standAt pos
  holding [v,ov,iv] (setItem ov iv v)
  release [v,ov,iv] [])
 tr:ZmZ x=Wq->∀env aG,isTrue x env aG=(do let v <- aG;standAt x.pos;holding [v]<|truthy v)
 sw:tgE x≠13->tgE x≠19->∀t n env,swapsWith x t n env=pure Ws
 st:tgE x≠8->∀es j q env,swappedStores [.Tuple es j q] x env=pure M
def kdE(x:Expr):Kd x:=by
 cases x<;>exact⟨by first|exact λ_ _ _=>rfl|exact λh=>absurd rfl h,by first|exact λ_ _ _=>rfl|exact λh=>absurd rfl h,by first|exact λ_ _=>rfl|exact λh=>absurd rfl h,by first|exact λ_ _ _=>rfl|exact λh=>absurd rfl h,
  by first|exact λ_ _ _ _ _=>rfl|exact λh=>absurd rfl h,
  by first|exact λ_ _ _=>rfl|exact λh=>ff h,by first|exact λ_ _ _ _ _=>rfl|exact λh=>absurd rfl h|exact λ_ h=>absurd rfl h,by first|exact λ_ _ _ _ _=>rfl|exact λh=>absurd rfl h⟩
def Zu(env:Env)(h:Za6 x=Wq):YA (x::xs) env=(Ws,eval x env)::YA xs env:=(kdE x).star (of_decide_eq_true h) _ _
def ZmO(env:Env)(h:ZaY x=Wq):∀v,foldedSetIterable x env v=pure v:=(kdE x).set (of_decide_eq_true h) _
def ZeW(h:ZaY x=Wq):behindInMarks op x=Ws:=(kdE x).mark (of_decide_eq_true h) _
def Zlu(h:Zd4 x=Wq):Zli x:=(kdE x).ix (of_decide_eq_true h)
def Zh8(h:ZcV x=Wq):attributeBase x n env (eval x env)=eval x env:=by
 cases x with
 |Call f as b p=>
  cases as with
  |nil=>cases h
  |cons a as=>cases f<;>rfl
 |_=>rfl
theorem ZfZ(Γ:Gm)(env:Env):∀(es:Exs) (xs:List Expr),chks Γ es xs=Wq->∀pos,(YS pos<|YA xs env).any (·.1)=Ws/\(YS pos<|YA xs env).all (λx=>!x.1)=Wq
 |.nil,[],_,_=>⟨rfl,rfl⟩
 |.nil,_::_,h,_=>ff h
 |.cons _ _,[],h,_=>ff h
 |.cons _ r,x::xs,h,pos=>by rw[Zu env<|bL<|bR h];exact ZfZ Γ env r xs (bR<|bR h) pos
def ZdO(env:Env)(h:chks Γ es (y::r)=Wq):YA (y::r) env=(Ws,eval y env)::YA r env/\∀pos,(YS pos<|YA r env).any (·.1)=Ws:=by
 cases es with
 |nil=>exact ff h
 |cons e s=>exact⟨Zu env<|bL<|bR h,λpos=>(ZfZ Γ env s r (bR<|bR h) pos).1⟩
@[elab_as_elim] theorem Zsg{P:List Expr->Prop}(h:chks Γ es ys=Wq)(R:(!ys.isEmpty)=Wq)(k:∀y r,chks Γ es (y::r)=Wq->P (y::r)):P ys:=by
 cases ys with
 |nil=>exact ff R
 |cons y r=>exact k y r h
def Gd.gl{T:Tb}{Γ:Gm}{X:Cx}{Y:Yx}{E:XK}{k:Nat}(G:Gd T Γ X Y E k){x:Str}(h:glb Γ x=Wq):Gl X x/\(x==("__debug__" : Str))=Ws:=by unfold glb at h;rw[Oa]at h;exact⟨G.glo x<|of_decide_eq_true h.1,by simpa using h.2⟩
theorem Zix{f:Str->NameKind->NameKind}(x:Str):∀names:List (Str×NameKind),(names.map λp=>(p.1,f p.1 p.2)).lookup x=(names.lookup x).map (f x)
 |[]=>rfl
 |(n,k)::r=>by
  rw[Op,OF,OF];by_cases e:x=n
  . subst e;simp
  . have:(x==n)=Ws:=by simpa using e
    simp only[this];exact Zix x r
def ZbK(scope:Scope)(env:Env)(x:Str):(relabel scope env).names.lookup x=(scope.names.lookup x).map λk=>if (k==Yo&&env.scope.kind==.function&&env.kindOf x==J .cell)then NameKind.cell else k:=by
 have e:(relabel scope env).names=scope.names.map λp=>(p.1,(λ(n:Str) (k:NameKind)=>if (k==Yo&&env.scope.kind==.function&&env.kindOf n==J .cell)then NameKind.cell else k) p.1 p.2):=by unfold relabel;simp only;refine List.map_congr_left λp _=>?_;obtain⟨n,k⟩:=p;simp only;split<;>rfl
 rw[e];exact Zix (f:=λ(n:Str) (k:NameKind)=>if (k==Yo&&env.scope.kind==.function&&env.kindOf n==J .cell)then NameKind.cell else k) x scope.names
def Gd.comp{T:Tb}{Γ:Gm}{X:Cx}{Y:Yx}{E:XK}{k:Nat}(G:Gd T Γ X Y E k)(NC:List Str)(scope:Scope)(C:Yj)(s3:Yb)(H3:Hp)(fp:List Yj)(nd:NC.Nodup):Gd T ⟨NC,scope,Γ.fs,Ws,Γ.kl⟩ (ZA X NC scope C s3 H3 fp) Y E0 k:=by
 refine⟨⟨G.gk.K,G.gk.mg,G.gk.gd,G.gk.g,G.gk.bare⟩,rfl,(λh=>by cases h),λx hx=>?_,λx hx=>?_,nd,rfl,G.room,G.h60,ZjV,G.defs,G.blt,G.room1,G.cls,G.mts,G.mks⟩
 . show Vis (relabel scope X.env) x;unfold Vis;rw[ZbK];unfold ZsP at hx;rw[Wn,Wn]at hx;rcases hx with (hx|hx)|hx
   . rw[of_decide_eq_true hx];exact .inl rfl
   . rw[of_decide_eq_true hx];exact .inr (.inl rfl)
   . rw[of_decide_eq_true hx];by_cases q:(X.env.scope.kind==.function&&X.env.kindOf x==J .cell)=Wq
     . refine .inr (.inl ?_);have:(Yo==Yo&&X.env.scope.kind==.function&&X.env.kindOf x==J .cell)=Wq:=by simpa using q
       simp only[Yv,this,if_true]
     . refine .inr (.inr ?_);have:¬ ((Yo==Yo&&X.env.scope.kind==.function&&X.env.kindOf x==J .cell)=Wq):=by simpa using q
       simp only[Yv,this,if_false];rfl
 . show(relabel scope X.env).names.lookup x=J .globalImplicit;rw[ZbK,hx];rfl
section
variable {T:Tb}{Y:Yx}{E:XK}{Z:L2.St}{H:Hp}{Q:VK}
def Zps{a b:Ex}{f:D->D->Hd->qd D}(s:Sm Y E (RD Y) (λS h=>(ev T a S h).bind λx R=>(ev T b S R).bind λy h2=>f x y h2) Z H Q):Z6 T Y E a Z H λx H1=>Z6 T Y E b Z H1 λy H2=>rB Y E f x y H2 Q:=s.bind λS d R x H1 μ1 c g rd i=>⟨S,R,μ1,c,g,i.bind λe h2 y H2 μ2 _ j k re l=>⟨d,e,h2,μ2,k,rd.mono c j,re,l⟩⟩
end
def ZxO{T:Tb}{Γ:Gm}{X:Cx}{Y:Yx}{E:XK}{k:Nat}(G:Gd T Γ X Y E k)(f:Bf)(hb:bok f=Wq){e:Expr}{es:List Expr}{t:TA}{p pos:Pos}(hg:Gl X (Zo9 f))(ha:PA X (e::es) t)
 (he:YA (e::es) X.env=(Ws,eval e X.env)::YA es X.env) (aE:(YS pos<|YA es X.env).any (·.1)=Ws):PE X (.Call (.Name (Zo9 f) p) (e::es) [] pos) (tCB (rF Y E<|Zan T.GD f) t):=by
 have hY:=G.gk.K;cases f with
 |len=>exact Zd2 (ZuE hY) hg (G.blt _<|by decide) (by decide +kernel) ha (by decide) (by decide) he aE
 |isi=>exact Zd2 (ZuG hY) hg (G.blt _<|by decide) (by decide +kernel) ha (by decide) (by decide) he aE
 |int=>exact ZcU ZuH hg (G.blt _<|by decide) (by decide +kernel) ha (by decide) (by decide) he aE
 |tup=>exact ZcU (Zuz hY) hg (G.blt _<|by decide) (by decide +kernel) ha (by decide) (by decide) he aE
 |lst=>exact ZcU (ZuD hY) hg (G.blt _<|by decide) (by decide +kernel) ha (by decide) (by decide) he aE
 |sum=>exact Zd2 (ZuB G.room.hd hY) hg (G.blt _<|by decide) (by decide +kernel) ha (by decide) (by decide) he aE
 |ldk=>exact ZcU (ZuF G.room.hd G.gk) hg (G.blt _<|by decide) (by decide +kernel) ha (by decide) (by decide) he aE
 |anb=>exact Zd2 (ZuI G.calm hY) hg (G.blt _<|by decide) (by decide +kernel) ha (by decide) (by decide) he aE
 |tdk=>exact ZcU (ZuA G.room.hd G.gk) hg (G.blt _<|by decide) (by decide +kernel) ha (by decide) (by decide) he aE
 |srt=>exact Zd2 (ZuC G.room.hd G.gk) hg (G.blt _<|by decide) (by decide +kernel) ha (by decide) (by decide) he aE
set_option tactic.hygienic true
def Zi1{v}(rd:∀H B,RD Y H B d v)(p:PE X x (tC v)):PE X x (Z6 T Y E<|.cst d):=PE.imp p λZ H Q s=>by
 cases s with
 |mk S h B a rs f=>exact Fin.ok (r:=rd H _) (f) a
def Zsh(G:Gd T Γ X Y E k)(h:ZAg Γ d x=Wq):PE X x (Z6 T Y E<|.cst d):=by
 refine bO h (λh=>ZzN (P:=λx=>PE X x _) h λc j q h=>?_) λh=>?_
 . cases d with
   |int i=>cases c with
    |int j=>exact dS (P:=λi=>PE X _<|Z6 T Y E<|.cst<|.int i) h (Zi1 (λ_ _=>.int _) Zws)
    |_=>exact ff h
   |str i=>cases c with
    |str j=>exact dS (P:=λi=>PE X _<|Z6 T Y E<|.cst<|.str i) (bL h) (Zi1 (λ_ _=>.str _<|bR h) Zwo)
    |_=>exact ff h
   |bl i=>cases c with
    |bool j=>exact dS (P:=λi=>PE X _<|Z6 T Y E<|.cst<|.bl i) h (Zi1 (λ_ _=>.bl _) Zva)
    |_=>exact ff h
   |non=>cases c with
    |none=>exact Zi1 (λ_ _=>.non) Zwq
    |_=>exact ff h
   |_=>exact ff h
 . cases d with
   |ty n=>
    refine Zqm (P:=λx=>PE X x _) h λp h=>?_;obtain⟨g1,g2⟩:=G.gl<|bR h;have all:(ZnY.all λn=>Wu (bootBuiltins (Str.ofString n)=J (.type n))&&(Wu (Str.ofString n ≠ "__name__")&&Wu (Str.ofString n∈Zpa)))=Wq:=by decide +kernel
    have a:=OC.mp all n<|of_decide_eq_true<|bL h;exact Zi1 (λ_ _=>.ty _) (ZtA g1 (G.blt _<|of_decide_eq_true<|bR<|bR a) (of_decide_eq_true<|bL a) rfl (of_decide_eq_true<|bL<|bR a) g2)
   |_=>exact ff h
def qd.bind_eq{α β}{r:qd α}{k}{b:β}{h}(e:r.bind k=.ok b h):∃a R,r=.ok a R/\k a R=.ok b h:=by
 cases r with
 |bad=>cases e
 |ok a R=>exact⟨a,_,rfl,e⟩
 |exc c R=>cases e
def qd.bind_assoc{α β γ}{r:qd α}{k}{l:β->Hd->qd γ}:(r.bind k).bind l=r.bind λa h=>(k a h).bind l:=by cases r<;>rfl
def Zrs(e:opC GD op x y h=.ok r h'):∃b,r=.bl b:=by
 have a:∀{f},Zkx f x y h=.ok r h'->∃b,r=.bl b:=λe=>by
  unfold Zkx at e;split at e
  . cases e;exact⟨_,rfl⟩
  trivial
 have eq:∀{n},ZbE n x y h=.ok r h'->∃b,r=.bl b:=λe=>by
  unfold IV.ZbE at e;split at e
  . split at e
    . cases e;exact⟨_,rfl⟩
    trivial
  trivial
 have inn:∀{n},ZaC GD n x y h=.ok r h'->∃b,r=.bl b:=λe=>by
  unfold ZaC at e;split at e
  . split at e
    . cases e;exact⟨_,rfl⟩
    trivial
  . split at e
    . cases e;exact⟨_,rfl⟩
    . cases e
 have c:∀{n:Bool},opN n x y h=.ok r h'->∃b,r=.bl b:=λe=>by
  unfold opN at e;split at e
  . cases e;exact⟨_,rfl⟩
  . cases e
 unfold opC at e;split at e
 . exact eq e
 . exact eq e
 . exact a e
 . exact a e
 . exact a e
 . exact a e
 . exact inn e
 . exact inn e
 . exact c e
 . exact c e
def Zzx(m):Slot "list" (ZrD m) (mid m)/\typeOf (.builtin<|mid m)=pure (.type "method_descriptor"):=by
 cases m with
 |app=>exact⟨PySem.F.slot_list_append,PySem.F.type_list_append⟩
 |ext=>exact⟨PySem.F.slot_list_extend,PySem.F.type_list_extend⟩
 |pop=>exact⟨PySem.F.slot_list_pop,PySem.F.type_list_pop⟩
 |rev=>exact⟨PySem.F.slot_list_reverse,PySem.F.type_list_reverse⟩
 |clr=>exact⟨PySem.F.slot_list_clear,PySem.F.type_list_clear⟩
section
variable {Y:Yx}{α β α' β':Type}{rel:Hp->List Yj->α->β->Prop}{aQ:Hp->List Yj->α'->β'->Prop}{H0 H H1:Hp}{μ0 B μ1:List Yj}{E:XK}
def Fin.bindB(g0:Gr H0 μ0 H B)(f:Fin Y aQ H0 μ0 (r.bind k) Q E)
 (hk:∀a R b H1 μ1,r=.ok a R->Gr H B H1 μ1->RH Y H1 μ1 R->rel H1 μ1 a b->Fin Y aQ H0 μ0 (k a R) Q E->Q1 b H1):Fin Y rel H B r Q1 E:=by
 cases r with
 |bad=>exact f
 |ok a h=>exact λb H' μ' d e g=>hk a h b _ _ rfl d e g f
 |exc c h=>exact λH' μ' C d=>f _ _ C (g0.I d)
theorem Fin.plain(f:Fin Y aQ H0 μ0 (r.plain.bind k) Q E)
 (hk:∀a R b H1 μ1,r=.ok a R->Gr H B H1 μ1->RH Y H1 μ1 R->rel H1 μ1 a b->Fin Y aQ H0 μ0 (k a R) Q E->Q1 b H1):Fin Y rel H B r Q1 E0:=by
 cases r with
 |bad=>exact f
 |ok a h=>exact λb H' μ' d e g=>hk a h b _ _ rfl d e g f
 |exc c h=>exact f.elim
end
def Zl0:List Nat->TGs
 |[]=>Zuk
 |i::is=>Zl1 (Zec i) (Zl0 is)
def tgR(K:Yl):Tg->TG
 |.nm i=>Zec i
 |.two i j=>Zuj K 2 (Zl1 (Zec i)<|Zl1 (Zec j) Zuk)
 |.many is=>Zuj K is.length (Zl0 is)
theorem Zlp:∀is ,is.foldr max 0<k->ZmE k (Zl0 is)
 |[],_=>Zn3
 |i::is,h=>by simp at h;exact Zid (by lia) (Zlp _<|by lia)
def Zyz(K)(g):ZnR (tgk g) (tgR K g):=by
 cases g with
 |nm i=>exact ZsT (OH i)
 |two i j=>exact Zqy (Zid (show i<max i j+1 by lia)<|Zid (show j<max i j+1 by lia) Zn3)
 |many is=>exact Zqy (Zlp _<|OH _)
theorem Zhf:∀(is) (es),Zo4 N own is es=Wq->(assignEach es env).length=is.length/\List.findIdx? (λx=>x.fst) (assignEach es env)=M
 |[],[],_=>⟨rfl,rfl⟩
 |i::is,e::es,h=>by
  obtain⟨a,b⟩:=Zhf _ _<|bR h;refine Zb9 (bL h) λx p _ _=>⟨congrArg _ a,?_⟩
  simp only[assignEach,List.findIdx?_cons,b];rfl
 |[],_::_,h=>ff h
 |_::_,[],h=>ff h
theorem ZlG(hN:X.N=N)(nd:X.N.Nodup)(ho:∀x,own x=Wq->Loc X.env.scope x/\(X.fn x=Wq\/X.env.scope.names.lookup x=J .local)):∀(is) (es),Zo4 N own is es=Wq->PGs X es (Zl0 is)
 |[],[],_=>Zon
 |i::is,e::es,h=>Zb9 (bL h) λx p b a=>Zip (Zop nd (by rw[hN];trivial) (ho _ a).1 (ho _ a).2) (ZlG hN nd ho _ _<|bR h)
 |[],_::_,h=>ff h
 |_::_,[],h=>ff h
def Zoo(hN:X.N=N)(nd:X.N.Nodup)(hc:X.calm=Wq)(ho:∀x,own x=Wq->Loc X.env.scope x/\(X.fn x=Wq\/X.env.scope.names.lookup x=J .local))(h:Zuv N own g tg=Wq):PG X tg (tgR X.K g):=by
 have nm:∀{i x p},N[i]?=J x->own x=Wq->PG X (.Name x p) _:=λd c=>Zop nd (by rw[hN];trivial) (ho _ c).1 (ho _ c).2;cases g with
 |nm i=>exact Zb9 h λx p d c=>nm d c
 |two i j=>exact Zlq (h) λe k q h=>ZrN h λa b h=>Zb9 (bL h) λx p d c=>Zb9 (bR h) λy r f l=>Zre hc (Zip (nm d c)<|Zip (nm f l) Zon)
 |many is=>exact Zlq (h) λe k q h=>Zre (hn:=(Zhf _ _ h).1) (hst:=(Zhf _ _ h).2) hc (ZlG hN nd ho _ _ h)
theorem Zoy:∀(is) {ds}{vs}{S}{Z},RDs Y H B ds vs->RS Y H B S Z->ds.length=is.length->(∀σ1,RS Y H B (ZmP is ds S) σ1->Q σ1 H)->Zl0 is vs Z H Q
 |[],ds,vs,S,Z,r,rs,b,q=>by
  cases r with
  |nil=>exact⟨rfl,q _ rs⟩
  |cons a s=>trivial
 |i::is,ds,vs,S,Z,r,rs,b,q=>by
  cases r with
  |nil=>trivial
  |cons a s=>exact⟨_,_,rfl,Zoy _ s (rs.set a) (by simpa using b) q⟩
def Zk4{Y}{K}{Q}(hY:Y.K=K)(r:RD Y H B d v)(rs:RS Y H B S Z)(e:Zbu g d S=J ρ1)(q:∀σ1,RS Y H B ρ1 σ1->Q σ1 H):tgR K g v Z H Q:=by
 cases g with
 |nm i=>cases e;exact q _ (rs.set r)
 |two i j=>
  unfold Zbu at e;simp at e;split at e
  . cases e;obtain⟨a,vs,rfl,t,s⟩:=r.tup_inv;obtain⟨x,y,rfl,c,f⟩:=s.two;exact⟨a,_,rfl,hY▸t,rfl,x,_,rfl,y,_,rfl,rfl,q _<|(rs.set c).set f⟩
  trivial
 |many is=>
  unfold Zbu at e;simp at e;split at e
  . split at e
    . rename_i b;cases e;obtain⟨a,vs,rfl,t,s⟩:=r.tup_inv;exact⟨a,_,rfl,hY▸t,by rw[<-s.length,b],Zoy _ s rs b q⟩
    trivial
  trivial
section
variable {Y:Yx}{H:Hp}{B:List Yj}{h:Hd}{Dd:Yj}{ys zs:List V}
def ZqE{K}(hD:H Dd=J (.lst ys))(t:SqT K H a vs):SqT K (upd H Dd<|.lst zs) a vs:=by
 rcases t with t|t
 . rcases t with t|⟨o,t⟩
   . exact .inl (.inl<|(Zo<|λz=>by simp_all).I t)
   . exact .inl (.inr ⟨o,(Zo<|λz=>by simp_all).I t⟩)
 . exact .inr t
def ZrW{K}(hD:H Dd=J (.lst ys))(t:FzL K H a vs):FzL K (upd H Dd<|.lst zs) a vs:=by
 rcases t with⟨o,t⟩|t
 . exact .inl ⟨o,(Zo<|λz=>by simp_all).I t⟩
 . exact .inr t
def Tr.swap(hD:H Dd=J (.lst ys)):Tr Y H B (upd H Dd<|.lst zs) B:=⟨ZqE hD,ZrW hD,id⟩
theorem RH.swap(hD:H Dd=J (.lst ys))(hn:Dd ∉ B)(r:RH Y H B h):RH Y (upd H Dd<|.lst zs) B h:=r.tr (.swap hD) λ_ a=>Zo λz=>hn (z▸a)
def Gr.out(g:Gr H B H' μ')(hD:H Dd=J o)(hn:Dd ∉ B):H' Dd=J o/\Dd ∉ μ':=⟨g.keep _ _ hn hD,λhm=>(g.new _ hm).elim hn λz=>by simp_all⟩
end
inductive CwS(Y:Yx)(H1:Hp)(μ1:List Yj)(xs:List D)(Dd:Yj)(F:List D->List D->Hd->Prop)(i m:Nat)(ys:List V)(H:Hp):Prop
 |mk (ai:List D) (h:Hd) (B:List Yj) (hi:i<=xs.length) (hm:m=xs.length-i) (g:Gr H1 μ1 H B) (rh:RH Y H B h) (ra:RDs Y H B ai ys) (nd:Dd ∉ B) (f:F (xs.drop i) ai h):CwS Y H1 μ1 xs Dd F i m ys H
def Zo1{T}{Y}{E}{K}(hY:Y.K=K){js}{g}{c}{e}{tc:TT}{qa}{w}{H1}{μ1}{R}{S}{Z}{Q:VK}{Dd}
 (ls:∀Z H Q,Sm Y E0 eqR (tsto T c) Z H Q->tc Z H Q)
 (rh:RH Y H1 μ1 R) (rs:RS Y H1 μ1 S Z) (wj:WJ Y H1 μ1 w qa) (f:Fin Y (RD Y) H1 μ1 ((ZF w.src g (tsto T c) (ev T e) w.xs (ZbQ js S) [] R).bind λxs h2=>ZcW (.lst xs) h2) Q E) (hD:H1 Dd=M) :
 ∃W:Nat->Nat->List V->Hp->Prop,(∃m,W 0 m []<|upd H1 Dd<|.lst []) /\
  ∀i m ys H,W i m ys H->H Dd=J (.lst ys)->(qa.stop i H/\Q (.ref Dd) H) \/
   (qa.go i H/\ys.length<Yc/\∀x H',qa.yld i H x H'->tgR K g x (capt js Z) H' λσ2 H2=>tc σ2 H2 λb H3=>
    if b=Wq then Z6 T Y E0 e σ2 H3 λy H4=>H4 Dd=J (.lst ys)/\∃m',m'<m/\W (i+1) m' (ys++[y]) (upd H4 Dd<|.lst<|ys++[y])
    else H3 Dd=J (.lst ys)/\∃m',m'<m/\W (i+1) m' ys H3):=by
 refine⟨CwS Y H1 μ1 w.xs Dd λxs ai h=>Fin Y (RD Y) H1 μ1 ((ZF w.src g (tsto T c) (ev T e) xs (ZbQ js S) ai h).bind λxs h2=>ZcW (.lst xs) h2) Q E,⟨w.xs.length,[],R,μ1,Yy _,(Nat.sub_zero _).symm,Gr.lay0 hD,rh.lay0 hD,.nil,rh.fr hD,f⟩,?_⟩;rintro i m ys H ⟨ai,h,B,hi,rfl,g1,ag,ra,nD,f1⟩ hl;by_cases aC:i<w.xs.length
 . obtain⟨d,hd⟩:∃d,w.xs[i]?=J d:=⟨_,Og aC⟩
   have fK:w.xs.drop i=d::w.xs.drop (i+1):=by rw[List.drop_eq_getElem_cons aC];have:=Og aC;rw[hd]at this;rw[<-YF this]
   rw[fK,ZF]at f1;by_cases hs:Wk.stays w.src h=Wq/\ai.length<Yc
   . rw[if_pos hs]at f1;obtain⟨go,yl⟩:=(wj H B h g1 ag hs.1).1 i d hd;refine .inr ⟨go,ra.length▸hs.2,λx H' hy=>?_⟩;obtain⟨g2,ao,rx⟩:=yl x H' hy;obtain⟨bV,kK⟩:=g2.out hl nD;split at f1
     . exact f1.elim
     . rename_i ρ1 hb;refine Zk4 hY rx ((rs.mono rh<|g1.I g2).capt js) hb λσ1 ak=>ls σ1 H' _ ⟨ρ1,h,B,ao,ak,?_⟩;rw[qd.bind_assoc]at f1;refine Fin.plain f1 λb h3 b' H3 μ3 _ g3 aB eb f3=>?_;subst eb;obtain⟨jA,jn⟩:=g3.out bV kK;have jO:=(g1.I g2).I g3;cases b with
       |true=>rw[if_pos rfl]at f3 ⊢;rw[qd.bind_assoc]at f3;refine⟨ρ1,h3,μ3,aB,ak.mono ao g3,Fin.plain f3 λy h4 y' H4 μ4 _ g4 cg ry f4=>?_⟩;obtain⟨iI,jm⟩:=g4.out jA jn;refine⟨iI,_,Nat.sub_lt_sub_left aC<|OH i,ai++[y],h4,μ4,aC,rfl,(jO.I g4).put hD,cg.swap iI jm,((((ra.mono ag g2).mono ao g3).mono aB g4).append<|.cons ry .nil).tr<|.swap iI,jm,f4⟩
       |false=>rw[if_neg<|by decide]at f3 ⊢;exact⟨jA,_,Nat.sub_lt_sub_left aC<|OH i,ai,h3,μ3,aC,rfl,jO,aB,(ra.mono ag g2).mono ao g3,jn,f3⟩
   . rw[if_neg hs]at f1;exact f1.elim
 . have he:i=w.xs.length:=by lia
   subst he;rw[List.drop_eq_nil_of_le<|Oq _,ZF]at f1;by_cases hs:Wk.stays w.src h=Wq
   . rw[if_pos hs]at f1;exact .inl ⟨(wj H B h g1 ag hs).2,f1.at (g1.add hD) (ag.add nD ⟨ys,hl,ra.tr .more⟩)<|.ref (by rw[ag.len];simp)⟩
   . rw[if_neg hs]at f1;exact f1.elim
section
variable {Y:Yx}{H:Hp}{B:List Yj}{h:Hd}
theorem RKs.look:∀{fs}{gs:List (Str×V)},RKs Y H B fs gs->(∀d,fs.lookup f=J d->∃v,gs.lookup f=J v/\RD Y H B d v)/\(fs.lookup f=M->gs.lookup f=M)
 |_,_,.nil=>⟨λd e=>by trivial,λ_=>rfl⟩
 |_,_,.cons (k:=k) a s=>by
  by_cases e:f=k
  . simp_all
  . have b:(f==k)=Ws:=by simpa using e
    obtain⟨c,g⟩:=RKs.look s;refine⟨λd z=>?_,λz=>?_⟩
    . rw[OF,b]at z ⊢;exact c d z
    . rw[OF,b]at z ⊢;exact g z
theorem RKs.putAF(r:RD Y H B d v):∀{fs}{gs},RKs Y H B fs gs->RKs Y H B (Zin f d fs) (ZcT f v gs)
 |_,_,.nil=>.cons r .nil
 |_,_,.cons (k:=k) a s=>by
  unfold Zin ZcT;by_cases e:k=f
  . rw[if_pos e,if_pos e];exact .cons r s
  . rw[if_neg e,if_neg e];exact .cons a (RKs.putAF r s)
def ZiH(rh:RH Y H B h)(r:RD Y H B d v)(e:ZZ d h=J (C,fs)):∃i a Ca dx gs,d=.ref i/\v=.ref a/\B[i]?=J a/\h[i]?=J (.ins C fs)/\H a=J (.ins Ca dx gs)/\Y.mg C=J (.ref Ca)/\RKs Y H B fs gs:=by
 unfold ZZ at e;split at e
 . rename_i i;split at e
   . rename_i C' c b;cases e;cases r with
     |ref q=>rename_i a;obtain⟨Ca,dx,gs,z,m,s⟩:=rh.ob i _ a b q;exact⟨i,a,_,_,_,rfl,rfl,q,b,z,m,s⟩
   trivial
 trivial
def Zt3(rh:RH Y H B h)(hx:H x=M)(hd:H dx=M)(ne:dx≠x)(m:Y.mg C=J (.ref Ca)):RH Y (upd (upd H dx<|.own x) x<|.ins Ca dx []) (B++[x]) (h++[.ins C []])/\Gr H B (upd (upd H dx<|.own x) x<|.ins Ca dx []) (B++[x]):=⟨(rh.lay0 hd).lay (by rw[Zo<|λz=>ne z.symm];trivial) ⟨Ca,dx,[],Zj,m,.nil⟩,(Gr.lay0 hd).I<|Gr.lay (by rw[Zo<|λz=>ne z.symm];trivial)⟩
end
def ZpO(bw:attributeBase o name env (eval o env)=eval o env)
 (fG:methodCallForm (args.length+([]:List Keyword).length) (YS pos<|YA args env) (backToKw pos<|keywordEach [] env)=Wq) (br:(az.endLine==pos.line)=Wq) :
 eval (.Call (.Attribute o name az) args [] pos) env=(do
  let ov <- eval o env
  standAt az.atName
  let (f,first) <- holding [ov] (getMethod ov name<|do return (<- importBound o env).getD Wq)
  callWith pos f first (YS pos<|YA args env) (backToKw pos<|keywordEach [] env)):=by
 have a:methodCallPos Wq o env az pos=pure pos:=by unfold methodCallPos;simp[br]
 rw[arm_eval_Call,bw];unfold methodCall;simp only[fG,a];rfl
section
variable {T:Tb}{Γ:Gm}{X:Cx}{Y:Yx}{E:XK}{k:Nat}
def ZxX(G:Gd T Γ X Y E k)(hc:(Cs.all λC=>Wu<|C∈Γ.kl.cs)=Wq)(hf:f∈Γ.kl.ats)(rh:RH Y H B h)(rd:RD Y H B d x)(ff:Fin Y (RD Y) H B (ZfM Cs f d h) Q E):
 ∃a C dx fs v,x=.ref a/\H a=J (.ins C dx fs)/\Cls X.K C/\Za5 X.K C f/\fs.lookup f=J v/\Q v H:=by
 unfold ZfM at ff;split at ff
 . rename_i C fs e;obtain⟨b,ff⟩:=ff.iff;obtain⟨i,a,Ca,dx,gs,rfl,rfl,q,o,z,m,s⟩:=ZiH rh rd e;obtain⟨w,c,ff⟩:=ff.ofO;obtain⟨v,l,g⟩:=(s.look).1 w c;rw[OC]at hc;obtain⟨p,j,cl,n⟩:=G.cls C<|of_decide_eq_true<|hc C b;rw[G.gk.mg,j]at m;cases m;exact⟨a,_,_,_,v,rfl,z,cl,n f hf,l,ff.ok rh g⟩
 trivial
def ZqI(G:Gd T Γ X Y E k)(hc:(Cs.all λC=>Wu<|C∈Γ.kl.cs)=Wq)(hf:f∈Γ.kl.ats)(rh:RH Y H B h)(rd:RD Y H B d x)(re:RD Y H B e y)(ff:Fin Y (RD Y) H B (Zjy Cs f d e h) Q E):
 ∃a C dx fs,x=.ref a/\H a=J (.ins C dx fs)/\Cls X.K C/\Za5 X.K C f/\fs.length<1000/\Q .non (upd H a<|.ins C dx<|ZcT f y fs):=by
 unfold Zjy at ff;split at ff
 . rename_i i;split at ff
   . rename_i C fs b;obtain⟨⟨c,o⟩,ff⟩:=ff.iff;obtain⟨p,a,Ca,dx,gs,g,rfl,q,r,z,m,s⟩:=ZiH rh rd (show ZZ _ h=J (C,fs) by simp[ZZ,b]);cases g;rw[OC]at hc;obtain⟨t,j,cl,l⟩:=G.cls C<|of_decide_eq_true<|hc C c;have n:=m;rw[G.gk.mg,j]at m;cases m;exact⟨a,_,_,_,rfl,z,cl,l f hf,by rw[<-s.length];trivial,ff.at (Gr.write (O1 q) (by rw[z];trivial)) (rh.write q ⟨Ca,dx,_,Zj,n,(RKs.putAF re s).mono rh<|Gr.write (O1 q) (by rw[z];trivial)⟩ (by rw[z];trivial)) .non⟩
   trivial
 trivial
def Zzz(G:Gd T Γ X Y E k)(h2:C∈Γ.kl.is)(h3:glb Γ C=Wq)(h4:chks Γ es ys=Wq)(ha:PA X ys (ZmQ T Y E es)):PE X (.Call (.Name C p) ys [] pos) (Z6 T Y E<|.mk C es):=by
 obtain⟨a,f,N,ps,m,q,F,B_⟩:=G.mks _ h2;obtain⟨t,c⟩:=G.gl h3;have g:∀(b) (R) (i) (H1) (μ1) (Q),RH Y H1 μ1 R->RDs Y H1 μ1 b i->Fin Y (RD Y) H1 μ1 (Zm9 T.C C b R) Q E->∀x j,H1 x=M->H1 j=M->j≠x ->
  Zg6 T Y (mnm C<|O "__init__") (.ref x::(i++[])) (upd (upd H1 j<|.own x) x<|.ins a j []) (λv H2=>v=.non/\Q (.ref x) H2) E:=by
  intro b R i H1 μ1 Q l n o x j z A ne;obtain⟨D,c⟩:=Zt3 l z A ne<|G.gk.mg▸m;have u:(μ1++[x])[R.length]?=J x:=by rw[l.len];simp
  refine⟨.ref R.length::b,R++[.ins C []],μ1++[x],D,.cons (.ref u) (by rw[Yt];exact n.mono l c),Fin.bind (Fin.mono c o) λd h3 v H3 μ3 _ g3 I K w=>?_⟩;cases d with
  |non=>cases K;exact⟨rfl,w.ok I<|.ref<|g3.pre _ _ u⟩
  |_=>exact w.elim
 cases ys with
 |nil=>
  cases es with
  |nil=>
   exact(Zrk q F G.room1 t m B_ .nil G.pass c).imp λZ H Q s=>by
    cases s with
    |mk S h B L rs f=>exact g [] h [] H B Q L .nil f
  |cons e r=>exact ff h4
 |cons y ys=>exact(Ztv q F G.room1 t m B_ .nil G.pass ha c (ZdO X.env h4).1<|(ZdO X.env h4).2 _).imp λZ H Q s=>Sm.bind s λS b R i H1 μ1 l _ n o=>g b R i H1 μ1 Q l n o
theorem ZwQ(G:Gd T Γ X Y E k)(h5:(C,n)∈Γ.kl.ms)(h3:ZcV xo=Wq)(h4:chks Γ es ys=Wq)(h6:ys.length<29)(h7:(ap.endLine==cp.line)=Wq)(ho:PE X xo (Z6 T Y E o))(ha:PA X ys (ZmQ T Y E es)) :
   PE X (.Call (.Attribute xo n ap) ys [] cp) (Z6 T Y E<|.mcl C n o es):=by
 obtain⟨a,f,W,ps,B,c,hm,F,B_⟩:=G.mts _ h5;have w:=ZpO (name:=n) (args:=ys) (env:=X.env) (Zh8 h3) (by
   unfold methodCallForm;rw [(ZfZ Γ X.env es ys h4 _).2];have jM:Wu (ys.length+([]:List Keyword).length+(if (backToKw cp<|keywordEach [] X.env).isEmpty then 0 else 1)<30)=Wq:=by
     rw [decide_eq_true_eq];show ys.length+0+0<30
     lia
   trivial) h7
 have j:∀ (d:D) (R:Hd) (x:V) (H1:Hp) (μ1:List Yj) (S:Ev) (Z:L2.St) (Q:VK),RH Y H1 μ1 R->RS Y H1 μ1 S Z->RD Y H1 μ1 d x->Fin Y (RD Y) H1 μ1 (match ZZ d R with
       |some (C',fs)=>if C'=C/\fs.lookup n=M then(evs T es S R).bind λI p=>T.C (mnm C n) (d::I) p else .bad
       |none=>.bad) Q E->∃ b l fs,x=.ref b/\H1 b=J (.ins a l fs)/\fs.lookup n=M/\ZmQ T Y E es Z H1 λvs H2=>Zg6 T Y (mnm C n) (x::(vs++[])) H2 Q E:=by
   intro d R x H1 μ1 S Z Q h m rd g;split at g
   . rename_i C' fs e;obtain⟨⟨t,u⟩,g⟩:=g.iff;subst t;obtain⟨i,b,Ca,l,gs,rfl,rfl,q,hi,z,A,s⟩:=ZiH h rd e;rw [G.gk.mg,B] at A;cases A;refine⟨b,l,gs,rfl,z,(s.look (f:=n)).2 u,S,R,μ1,h,m,g.bind λds p vs H2 μ2 _ K L N O=>⟨_,p,μ2,L,.cons (rd.mono h K) (by rw [Yt];exact N),O⟩⟩
   . exact g.elim
 cases ys with
 |nil =>
   cases es with
   |nil =>
     exact(Zrj ho c hm F G.room B_ .nil G.pass w).imp λZ H Q s=>Sm.bind s λS d R x H1 μ1 h m rd g=>by
       obtain⟨b,l,fs,t,u,P,s⟩:=j d R x H1 μ1 S Z Q h m rd g;cases s with
       |mk ρ' h' μ' v bP U=>exact⟨b,l,fs,t,u,P,U.ok v .nil⟩
   |cons e r=>exact ff h4
 |cons y ys=>exact(Ztt ho c hm F G.room B_ .nil G.pass ha (ZdO X.env h4).1 ((ZdO X.env h4).2 _) w).imp λZ H Q s=>Sm.bind s λS d R x H1 μ1 h m rd g=>j d R x H1 μ1 S Z Q h m rd g
end
def Zos{q:Prop}(X:Cx)(hx:Zzg scope x=Wq):Loc (relabel scope X.env) x/\(q\/(relabel scope X.env).names.lookup x=J .local):=by
 have:(relabel scope X.env).names.lookup x=J .local:=by rw[ZbK,of_decide_eq_true hx];rfl
 exact⟨.inl this,.inr this⟩
def Zqo(e:ZjN (.ref i) h=J w):∃xs,h[i]?=J (.lst xs)/\w=⟨[(i,xs)],xs⟩:=by
 unfold ZjN at e;simp only at e;split at e
 . cases e;exact⟨_,by assumption,rfl⟩
 . cases e
def Zyp{X:Cx}{R:Hd}(K:Y.K=X.K)(rh:RH Y H1 μ1 R)(r:RD Y H1 μ1 d v)(il:Zhx d R=Wq):tyV X.K "list" v H1:=by
 cases r with
 |ref q=>
  rename_i i a;have:∃b,R[i]?=J (.lst b):=by
   unfold Zhx at il;simp only at il;split at il
   . exact⟨_,by assumption⟩
   . cases il
  obtain⟨b,c⟩:=this;obtain⟨vs,e,_⟩:=rh.ob i _ a c q;exact .inl ⟨rfl,vs,.of e⟩
 |_=>cases il
def Zt0(G:Gd T Γ X Y E k)(ho:PE X xo (Z6 T Y E o))(h3:ZcV xo=Wq)(h4:chks Γ es ys=Wq)(h5:ys.length<29)(h6:(ap.endLine==cp.line)=Wq)(ha:PA X ys (ZmQ T Y E es)):
 PE X (.Call (.Attribute xo (ZrD m) ap) ys [] cp) (Z6 T Y E<|.meth m o es):=by
 obtain⟨c,f⟩:=Zzx m;cases ys with
 |nil=>
  cases es with
  |nil=>exact(Zwv PySem.F.plainAttrs_list c f (Zox (Y:=Y) (E:=E) G.gk.K m) ho (Zh8 h3) h6).imp λZ H Q s=>Sm.bind s λS d R x H1 μ1 a g rd b=>⟨Zyp G.gk.K a rd b.iff.1,d,[],R,μ1,a,rd,.nil,b.iff.2⟩
  |cons e r=>exact ff h4
 |cons y ys=>
  refine(Zzf PySem.F.plainAttrs_list c f (Zox (Y:=Y) (E:=E) G.gk.K m) ho ha (Zh8 h3) ?_ h6 (ZdO X.env h4).1<|(ZdO X.env h4).2 _).imp λZ H Q s=>Sm.bind s λS d R x H1 μ1 a g rd b=>⟨Zyp G.gk.K a rd b.iff.1,S,R,μ1,a,g,b.iff.2.bind λh i t H2 μ2 _ j l n p=>⟨d,h,i,μ2,l,rd.mono a j,n,p⟩⟩
  rw[(ZfZ Γ X.env es (y::ys) h4 _).2];have q:Wu ((y::ys).length+([]:List Keyword).length+(if ([]:List Keyword).isEmpty then 0 else 1)<30)=Wq:=by rw[decide_eq_true_eq];exact Nat.lt_succ_of_lt h5
  rw[q];rfl
def ZBP(hb:∀d h',e=.ok d h'->∃c,d=.bl c)(f:Fin Y eqR H B (e.bind λx R=>qd.ofO (ZfF GD x R) R) Q E):Fin Y (RD Y) H B e (λv H'=>∃c,v=.bl c/\Q c H') E:=
 f.bind λd R x H1 μ1 er g a rd b=>by obtain⟨c,rfl⟩:=hb d R er;cases rd;exact⟨c,rfl,Fin.ok (show Fin Y eqR H1 μ1 (.ok c R) Q E from b) a rfl⟩
def ZAo{f:D->D->Hd->qd D}(hf:∀x y h d h',f x y h=.ok d h'->∃c,d=.bl c)(s:Sm Y E eqR (λS h=>((ev T a S h).bind λx R=>(ev T b S R).bind λy h2=>f x y h2).bind λx R=>qd.ofO (ZfF T.GD x R) R) Z H Q):
 Z6 T Y E a Z H λx H1=>Z6 T Y E b Z H1 λy H2=>rB Y E f x y H2 λv H3=>∃c,v=.bl c/\Q c H3:=by
 cases s with
 |mk S h B e rs q=>refine Zps ⟨S,h,B,e,rs,ZBP (λd h' er=>?_) q⟩;obtain⟨_,_,_,er⟩:=qd.bind_eq er;obtain⟨_,_,_,er⟩:=qd.bind_eq er;exact hf _ _ _ _ _ er
def Zuu(G:Gd T Γ X Y E k)(ha:PE X l (Z6 T Y E a))(hb:PE X r (Z6 T Y E b))(hm:ZaY r=Wq):PT X (.Compare l [op] [r] pos) (Zlw T Y E<|.ex<|.cmp op a b):=(Zom (Zg7 (E:=E) G.room G.h60 G.gk op) ha hb<|ZeW hm).imp λ_ _ _ s=>ZAo (f:=opC T.GD op) (λ_ _ _ _ _=>Zrs) s
def ZwM(e:ZnP n x y h=.ok r h'):∃b,r=.bl b:=by
 unfold ZnP at e;split at e
 . split at e
   . cases e;exact⟨_,rfl⟩
   . cases e
 . cases e
def ZtY(G:Gd T Γ X Y E k)(ha:PE X l (Z6 T Y E a))(hb:PE X r (Z6 T Y E b))(hm:ZaY r=Wq):PT X (.Compare l [if n then .NotIn else .In] [r] pos) (Zlw T Y E<|.ex<|.nin n a b):=(Zom (ZlK n (E:=E) G.room G.gk.K) ha hb<|ZeW hm).imp λ_ _ _ s=>ZAo (f:=ZnP n) (λ_ _ _ _ _=>ZwM) s
noncomputable def ZAh(r:D)(k:Hd->qd D)(h:Hd):qd D:=match r with
 |.bl Wq=>k h
 |.bl Ws=>.ok (.bl Ws) h
 |_=>.bad
def ZxP{r:qd α}:r.bind qd.ok=r:=by cases r<;>rfl
def ZAe(s:Sm Y E rel (λS h=>(ev T (.cmp2 o1 o2 a b c) S h).bind k) Z H Q)
 (hq:∀d R v H1 μ1,RH Y H1 μ1 R->RD Y H1 μ1 d v->(∃c,d=.bl c)->Fin Y rel H1 μ1 (k d R) Q E->Q' v H1) :
 Z6 T Y E a Z H λx H1=>Z6 T Y E b Z H1 λy H2=>rB Y E (opC T.GD o1) x y H2 λv H3=>∃q,v=.bl q/\if q=Wq then Z6 T Y E c Z H3 λz H4=>rB Y E (opC T.GD o2) y z H4 Q' else Q' (.bl Ws) H3:=by
 cases s with
 |mk S h B n rs f=>
  have f:Fin Y rel H B ((ev T a S h).bind λx R=>(ev T b S R).bind λy m=>(opC T.GD o1 x y m).bind λr i=>(ZAh r (λi=>(ev T c S i).bind λz j=>opC T.GD o2 y z j) i).bind k) Q E:=by have q:=f;rw[show ev T (.cmp2 o1 o2 a b c) S h=(ev T a S h).bind λx R=>(ev T b S R).bind λy m=>(opC T.GD o1 x y m).bind λr i=>ZAh r (λi=>(ev T c S i).bind λz j=>opC T.GD o2 y z j) i from rfl,qd.bind_assoc]at q;simpa only[qd.bind_assoc]using q
  refine⟨S,h,B,n,rs,f.bind λd R x H1 μ1 _ g o rd C=>⟨S,R,μ1,o,rs.mono n g,C.bind λe m y H2 μ2 _ u p re D=>⟨d,e,m,μ2,p,rd.mono o u,re,D.bind λr i z H3 μ3 _ A t F l=>?_⟩⟩⟩;cases F with
  |bl q=>
   refine⟨q,rfl,?_⟩;cases q with
   |true=>refine ZlX ⟨S,i,μ3,t,((rs.mono n g).mono o u).mono p A,?_⟩;have l:Fin Y rel H3 μ3 (((ev T c S i).bind λz j=>opC T.GD o2 e z j).bind k) Q E:=l;rw[qd.bind_assoc]at l;exact l.bind λG j w H4 μ4 _ I J K L=>⟨e,G,j,μ4,J,(re.mono p A).mono t I,K,L.bind λN O P H5 μ5 er X U V W=>hq N O P H5 μ5 U V (Zrs er) W⟩
   |false=>exact ZlY (hq (.bl Ws) i _ H3 μ3 t (.bl _) ⟨_,rfl⟩ l)
  |_=>exact l.elim
def Zsk(G:Gd T Γ X Y E k)(ha:PE X l (Z6 T Y E a))(hb:PE X m (Z6 T Y E b))(hc:PE X r (Z6 T Y E c))(hm:ZaY r=Wq):PT X (.Compare l [o1,o2] [m,r] pos) (Zlw T Y E<|.ex<|.cmp2 o1 o2 a b c):=
 (Zq4 (Zg7 (E:=E) G.room G.h60 G.gk o1) (Zg7 (E:=E) G.room G.h60 G.gk o2) ha hb hc<|ZeW hm).imp λZ H Q s=>ZAe (Q':=λv H'=>∃c,v=.bl c/\Q c H') s λd R v H1 μ1 f rd ⟨q,e⟩ g=>by subst e;cases rd;exact⟨q,rfl,Fin.ok (show Fin Y eqR H1 μ1 (.ok q R) Q E from g) f rfl⟩
def Zpz(G:Gd T Γ X Y E k)(he:PE X x (Z6 T Y E e))(R:ZmZ x=Wq):PT X x (Zlw T Y E<|.ex e):=
 (Zq3 he<|(kdE x).tr R _).imp λZ H Q s=>Sm.bind s λS d R x H1 μ1 c g rd a=>by obtain⟨b,f,a⟩:=a.ofO;exact⟨b,ZsS G.gk.K c rd f,a.ok c rfl⟩
def ZnZ(T:Tb)(Y:Yx)(E:XK):Exs->List (TE×TE)
 |.nil=>[]
 |.cons k r=>match r with
  |.nil=>[]
  |.cons v a=>(Z6 T Y E k,Z6 T Y E v)::ZnZ T Y E a
section
variable {Y:Yx}{H:Hp}{B:List Yj}{Dd:Yj}{ys zs:List (Key×V)}
def Zpp{K:Yl}(hD:H Dd=J (.dK ys))(t:SqT K H a vs):SqT K (upd H Dd<|.dK zs) a vs:=by
 rcases t with t|t
 . rcases t with t|⟨o,t⟩
   . exact .inl (.inl (by rw[Zo (λz=>by rw[z,hD]at t;cases t)];exact t))
   . exact .inl (.inr ⟨o,by rw[Zo (λz=>by rw[z,hD]at t;cases t)];exact t⟩)
 . exact .inr t
def ZpZ{K:Yl}(hD:H Dd=J (.dK ys))(t:FzL K H a vs):FzL K (upd H Dd<|.dK zs) a vs:=by
 rcases t with⟨o,t⟩|t
 . exact .inl ⟨o,by rw[Zo (λz=>by rw[z,hD]at t;cases t)];exact t⟩
 . exact .inr t
def Tr.swapD(hD:H Dd=J (.dK ys)):Tr Y H B (upd H Dd<|.dK zs) B:=⟨Zpp hD,ZpZ hD,id⟩
end
inductive RPs(Y:Yx)(H:Hp)(B:List Yj):List D->List (V×V)->Prop
 |nil:RPs Y H B [] []
 |cons {k v:D}{r:List D}{x y:V}{ps:List (V×V)}:RD Y H B k x->RD Y H B v y->RPs Y H B r ps->RPs Y H B (k::v::r) ((x,y)::ps)
theorem RPs.pairs:∀{ds:List D}{ps:List (V×V)}{kvs:List (Key×D)},RPs Y H B ds ps->ZaX ds=J kvs->∃aj:List (Key×V),ps=aj.map (λkv=>(kV kv.1,kv.2))/\RKs Y H B kvs aj
 |_,_,_,.nil,e=>by cases e;exact⟨[],rfl,.nil⟩
 |_,_,_,.cons a b s,e=>by
  rw[ZaX]at e;split at e
  . rename_i k r c d;cases e;obtain⟨aj,rfl,f⟩:=s.pairs d;have:=ZeX a c;subst this;exact⟨(k,_)::aj,rfl,.cons b f⟩
  . cases e
theorem RPs.keysOk:∀{ds:List D}{ps:List (V×V)}{kvs:List (Key×D)},RPs Y H B ds ps->ZaX ds=J kvs->Zb0 kvs
 |_,_,_,.nil,e=>by cases e;intro p hp;cases hp
 |_,_,_,.cons a b s,e=>by
  rw[ZaX]at e;split at e
  . rename_i k r c d;cases e;intro p hp x z;rcases O2.mp hp with rfl|hp
    . exact ZrP a c x z
    . exact s.keysOk d p hp x z
  . cases e
theorem Zgf:∀{more kvs:List (Key×D)},Zb0 more->Zb0 kvs->Zb0 (Zbi kvs more)
 |[],kvs,_,h=>h
 |(k,d)::r,kvs,hm,h=>Zgf (more:=r) (kvs:=putD kvs k d) (λp a=>hm p<|Oh _ a) (ZiD h<|λx e=>hm (k,d) Oi x e)
theorem RKs.merge:∀{more:List (Key×D)}{cJ:List (Key×V)}{kvs:List (Key×D)}{aj:List (Key×V)},RKs Y H B more cJ->RKs Y H B kvs aj->RKs Y H B (Zbi kvs more) (Ziw aj cJ)
 |_,_,_,_,.nil,s=>s
 |_,_,_,_,.cons (k:=k) a r,s=>by have z:=RKs.merge r<|s.put k a;exact z
def Zrp:∀(n:Nat) (ps:Exs) {K:List D->Hd->qd D}{H:Hp}{B:List Yj}{h:Hd}{Q1:List (V×V)->Hp->Prop}{Γ:Gm}{ks:List (Option Expr)}{vs:List Expr},ks.length<=n->chkp Γ ps ks vs=Wq ->
 Gr H0 μ0 H B->RH Y H B h->RS Y H B S Z->Fin Y (RD Y) H0 μ0 ((evs T ps S h).bind K) Q E ->
 (∀ds R qs H1 μ1,Gr H B H1 μ1->RH Y H1 μ1 R->RPs Y H1 μ1 ds qs->Fin Y (RD Y) H0 μ0 (K ds R) Q E->Q1 qs H1)->Zkp (ZnZ T Y E ps) Z H Q1:=by
 intro n;induction n with
 |zero=>
  intro ps K H B h Q1 Γ ks vs q a m i rs f o;cases ps with
  |nil=>exact o [] h [] H B Gr.refl i .nil f
  |cons k r=>
   cases r with
   |nil=>unfold chkp at a;cases a
   |cons v j=>
    unfold chkp at a;simp only at a;split at a
    . simp at q
    . cases a
 |succ n w=>
  intro ps K H B h Q1 Γ ks vs q a m i rs f o;cases ps with
  |nil=>exact o [] h [] H B Gr.refl i .nil f
  |cons k r=>
   cases r with
   |nil=>unfold chkp at a;cases a
   |cons v j=>
    unfold chkp at a;simp only at a;split at a
    . rw[Oa]at a;have z:Fin Y (RD Y) H0 μ0 ((ev T k S h).bind λx R=>(ev T v S R).bind λy b=>(evs T j S b).bind λc g=>K (x::y::c) g) Q E:=by
       have e:(evs T (.cons k<|.cons v j) S h).bind K=(ev T k S h).bind λx R=>(ev T v S R).bind λy b=>(evs T j S b).bind λc g=>K (x::y::c) g:=by show((ev T k S h).bind λx R=>((ev T v S R).bind λy b=>(evs T j S b).bind λc g=>qd.ok (y::c) g).bind λc b=>qd.ok (x::c) b).bind K=_;simp only[qd.bind_assoc,qd.bind_ok]
       rw[<-e];exact f
      refine⟨S,h,B,i,rs,Fin.bindB m z λd R x H1 μ1 _ l s rd A=>?_⟩;refine⟨S,R,μ1,s,rs.mono i l,Fin.bindB (m.I l) A λe b y H2 μ2 _ p t re C=>?_⟩;refine w j (by simpa using q) (bR a.2) ((m.I l).I p) t ((rs.mono i l).mono s p) C λds g qs H3 μ3 u F rp G=>?_;exact o (d::e::ds) g ((x,y)::qs) H3 μ3 ((l.I p).I u) F (.cons ((rd.mono s p).mono t u) (re.mono t u) rp) G
    . cases a
def Zur(ps:Exs)(G:Gd T Γ X Y E k)(iZ:ks.length<=15)(hc:chkp Γ ps ks vs=Wq)(hp:PPs X pos ks vs (ZnZ T Y E ps))(bx:ks.all (·.isSome)=Wq)(hl:ks.length=vs.length):PE X (.Dict ks vs pos) (Z6 T Y E<|.dictl ps):=by
 by_cases i:ks=[]
 . subst i;cases vs with
   |cons a b=>cases hl
   |nil=>
    cases ps with
    |cons k r=>
     cases r with
     |nil=>unfold chkp at hc;cases hc
     |cons v x=>unfold chkp at hc;cases hc
    |nil=>refine Zrn.imp λZ H Q ⟨S,h,B,c,rs,f⟩ p hp=>?_;have f:Fin Y (RD Y) H B (ZcW (.dic []) h) Q E:=f;exact f.new c hp ⟨[],Zj,.nil⟩ (λp hp=>by cases hp)
 . refine(Ztx hp bx hl i iZ).imp λZ H Q ⟨S,h,B,c,rs,f⟩ p hp=>?_;have o:=c.fr hp;refine Zrp ks.length ps (Oq _) hc (Gr.lay0 hp) (c.lay0 hp) (rs.mono c<|Gr.lay0 hp) f λy R qs H1 μ1 j l rp d=>?_;obtain⟨g,nD⟩:=j.out (Zj (H:=H)) o;have q:Gr H B H1 μ1:=(Gr.lay0 hp).I j;split at d
   . rename_i e m;obtain⟨s,d⟩:=d.iff;obtain⟨t,rfl,n⟩:=rp.pairs m;refine⟨g,t,rfl,by rw[<-n.length];exact s,?_⟩;have u:Fin Y (RD Y) H B (.ok (.ref R.length)<|R++[.dic<|Zbi [] e]) Q E:=d;exact u.at ((q.put hp).add hp) ((l.tr (.swapD g) λ_ w=>Zo λz=>nD<|z▸w).add nD ⟨_,Zj,((n.merge .nil).tr<|.swapD g).tr .more⟩<|show Zb0 (Zbi [] e)from Zgf (rp.keysOk m) (λp hp=>by cases hp)) (.ref (by rw[l.len];simp))
   . exact d.elim
mutual
theorem Zk(e:Ex){Γ:Gm}{X:Cx}{E:XK}{k:Nat}{x:Expr}(G:Gd T Γ X Y E k)(h:chk Γ e x=Wq):PE X x (Z6 T Y E e):=match e,h with
 |.var i,h=>Zzv h λx q h=>(Zwm (by rw [G.N];exact of_decide_eq_true<|bL h) (G.vis _<|bL<|bR h) (by simpa using bL (bR<|bR h))<|by simpa using bR (bR<|bR h)).imp λZ H Q s=>by
   cases s with
   |mk S h B rh rs f =>
     obtain⟨d,e,f⟩:=Fin.ofO<|show Fin Y (RD Y) H B (qd.ofO (S[i]?).join h) Q E from f;obtain⟨v,e1,rd⟩:=rs.var e;exact⟨v,e1,f.ok rh rd⟩
 |.cst d,h=>Zsh G h
 |.glo y,h=>Zqm h λq h aa s Z H Q I sm=>by
   cases sm with
   |mk S h' B rh rs f =>
     obtain⟨d,e,f⟩:=Fin.ofO<|show Fin Y (RD Y) H B (qd.ofO (T.G y) h') Q E from f;obtain⟨v,u,hm,rv,rd⟩:=G.gk.g y d e;exact Ztw (G.gl h).1 hm rv (G.gl h).2 aa s Z H Q I (f.ok rh<|rd H B)
 |.bin op a b,h=>ZAl h λl r q h=>(Zze (ZwF G.gk.K op) (Zk a G<|bL h)<|Zk b G<|bR h).imp λ_ _ _ s=>Zps s
 |.cmp op a b,h=>Zo8 h λl r q h=>(Zoq (Zg7 G.room G.h60 G.gk op) (Zk a G<|bL h) (Zk b G<|bL<|bR h)<|ZeW<|bR<|bR h).imp λ_ _ _ s=>Zps s
 |.cmp2 o1 o2 a b c,h=>Zvu h λl m r q h=>(Zro (Zg7 (E:=E) G.room G.h60 G.gk o1) (Zg7 (E:=E) G.room G.h60 G.gk o2) (Zk a G<|bL h) (Zk b G<|bL<|bR h) (Zk c G<|bL<|bR<|bR h)<|ZeW<|bR<|bR<|bR h).imp λZ H Q s =>
   ZAe (k:=qd.ok) (rel:=RD Y) (Q:=Q) (by simp only [ZxP];exact s) λd R v H1 μ1 ag rd _ f1=>f1.ok ag rd
 |.neg a,h=>ZvH h λx q h=>(Zzc ZvG<|Zk a G h).imp λZ H Q s=>Sm.bind s λS d R x H1 μ1 ag ak rd f1=>by
   cases rd with
   |int i=>exact⟨i,rfl,Fin.ok f1 ag<|.int _⟩
   |_=>exact f1.elim
 |.nt a,h=>ZvH h λx q h=>(Zwp<|Zk a G h).imp λZ H Q s=>Sm.bind s λS d R x H1 μ1 ag ak rd f1=>by
   cases rd with
   |bl i=>exact⟨i,rfl,Fin.ok f1 ag<|.bl _⟩
   |_=>exact f1.elim
 |.ands es,h=>ZtX h λxs q h=>and_ok es G h
 |.ors es,h=>ZtX h λxs q h=>or_ok es G h
 |.ite c a b,h=>ZBz h λt x y q h=>(Zrl (tst_ok c G<|bL h) (Zk a G<|bL<|bR h)<|Zk b G<|bR<|bR h).imp λZ H Q s=>Sm.bind s λS d R v H1 μ1 ag ak rd f1=>by
   cases rd;cases d with
   |true=>exact ZlX ⟨S,R,μ1,ag,ak,f1⟩
   |false=>exact ZlY ⟨S,R,μ1,ag,ak,f1⟩
 |.tupl es,h=>Zlq h λxs j q h=>(Zwn<|evs_ok es G h).imp λZ H Q s=>Sm.bind s λS d R x H1 μ1 ag ak rd f1=>⟨by rw [<-rd.length];exact f1.iff.1,λp hp=>f1.iff.2.tup ag hp rd⟩
 |.lstl es,h=>ZzB h λxs q h=>(Zwr<|evs_ok es G h).imp λZ H Q s=>Sm.bind s λS d R x H1 μ1 ag ak rd f1=>⟨by rw [<-rd.length];exact f1.iff.1,λp hp=>f1.iff.2.new ag hp ⟨_,Zj,rd.mono ag<|Gr.lay hp⟩⟩
 |.ix a i,h=>ZqM h λx y q h=>(Zu9 (ZtM G.gk) (Zk a G<|bL h) (Zk i G<|bL<|bR h)<|Zlu<|bR<|bR h).imp λ_ _ _ s=>Zps s
 |.sl a lo hi,h=>ZyP h λx l u q r h=>(Zrh (ZtK (E:=E) G.gk.K) (Zk a G<|bL h) (evo_ok lo G<|bL<|bR h)<|evo_ok hi G<|bR<|bR h).imp λZ H Q s=>Sm.bind s λS d R x H1 μ1 ag ak rd f1 =>
   ⟨S,R,μ1,ag,ak,Fin.bind f1 λl h2 l' H2 μ2 _ g2 ao rl f2=>⟨S,h2,μ2,ao,ak.mono ag g2,Fin.bind f2 λu h3 u' H3 μ3 _ g3 aB ru f3=>by
     cases rl;cases ru;exact⟨d,h3,μ3,aB,(rd.mono ag g2).mono ao g3,f3⟩⟩⟩
 |.blt f es,h=>Zem h λp ys q h=>Zsg (bL<|bR h) (bR<|bR h) λy r hs=>(ZxO G f (bL<|bL h) (G.gl<|bR<|bL h).1 (evs_ok es G hs) (ZdO X.env hs).1<|(ZdO X.env hs).2 _).imp λZ H Q s=>Sm.bind s λS d R x H1 μ1 ag ak rd f1=>⟨d,R,μ1,ag,rd,f1⟩
 |.call f es,h=>Zem h λp ys q h=>Zsg (bL<|bR<|bR h) (bR<|bR<|bR h) λy r hs=>by
   obtain⟨ps,hd⟩:=G.defs _<|of_decide_eq_true<|bL h;exact(Zwu hd G.room (G.gl<|bL<|bR h).1 G.pass (evs_ok es G hs) (G.gl<|bL<|bR h).2 (ZdO X.env hs).1<|(ZdO X.env hs).2 _).imp λZ H Q s=>Sm.bind s λS d R x H1 μ1 ag ak rd f1=>⟨d,R,μ1,ag,rd,f1⟩
 |.meth m o es,h=>Zvt h λxo ap ys cp h=>Zt0 G (Zk o G<|bL h) (bL<|bR h) (bL<|bR<|bR h) (of_decide_eq_true<|bL<|bR<|bR<|bR h) (bR<|bR<|bR<|bR h) (evs_ok es G<|bL<|bR<|bR h)
 |.comp NC js it g c e,h=>Zve h λaF tg iter a7 scope q h=>by
   have S_:=Zme<|bL<|bR h;rw [<-G.N,<-G.sc (bL h)] at S_;have h:=bR<|bR h;have Gc:=λC s3 H3 fp=>G.comp NC scope C s3 H3 fp S_.nd;refine(Zty (g:=tgR X.K g) (tc:=Sm Y E0 eqR<|tsto T c) (te:=Z6 T Y E0 e) S_ rfl G.calm (evi_ok it G<|bL h) (λC s3 H3 fp=>⟨Zoo rfl S_.nd rfl (λx hx=>Zos (scope:=scope) X hx)<|bL<|bR<|bR h,ifs_ok c (Gc C s3 H3 fp)<|bL<|bR<|bR<|bR<|bR h,Zk e (Gc C s3 H3 fp)<|bR<|bR<|bR<|bR<|bR h⟩) (Zyz X.K g) (λj hj=>of_decide_eq_true<|OC.mp (bL<|bR<|bR<|bR h) j<|List.mem_range.mpr hj)<|ZmO X.env<|bL<|bR h).imp
     λZ H Q s=>Sm.bind s λS w R qa H1 μ1 ag ak wj f1 D hD=>Zo1 G.gk.K (λ_ _ _ z=>z) ag ak wj f1 hD
 |.lrv e,h=>Zem h λp ys q h=>Za9 h λz h=>Zem h λp' ys q' h=>Za9 h λy h =>
   (ZpC G.calm (G.gl<|bL h).1 (G.blt _<|by decide) (G.gl<|bL<|bR h).1 (G.blt _<|by decide) (Zb7 (Zk e G<|bL<|bR<|bR h) ZfJ<|Zu X.env<|bR<|bR<|bR h)<|Zu X.env<|bR<|bR<|bR h).imp λZ H Q s=>Sm.bind s λS d R x H1 μ1 ag ak rd f1=>by
     cases d with
     |tup xs =>
       obtain⟨a,vs,rfl,t,s⟩:=rd.tup_inv;exact⟨a,vs,rfl,G.gk.K▸t,λp hp=>f1.new ag hp ⟨_,Zj,s.reverse.mono ag<|Gr.lay hp⟩⟩
     |_=>exact f1.elim
 |.nin n a b,h=>Zo8 h λl r q h=>(Zoq (ZlK n G.room G.gk.K) (Zk a G<|bL h) (Zk b G<|bL<|bR h)<|ZeW<|bR<|bR h).imp λ_ _ _ s=>Zps s
 |.nix a i,h=>ZqM h λx y q h=>(Zu9 (Zxd G.room G.gk.K) (Zk a G<|bL h) (Zk i G<|bL<|bR h)<|Zlu<|bR<|bR h).imp λ_ _ _ s=>Zps s
 |.ndl,h=>ZAa h λks vs q h=>by
   cases List.isEmpty_iff.mp (bL h);cases List.isEmpty_iff.mp (bR h);refine Zrm.imp λZ H Q ⟨S,h,B,rh,rs,f⟩ p hp=>?_;have f:Fin Y (RD Y) H B (ZcW (.dnk []) h) Q E:=f;exact f.new rh hp ⟨[],[],Zj,.nil,.nil⟩
 |.any,h=>λaa s Z H Q I sm=>by
   cases sm with
   |mk S h B rh rs f=>exact f.elim
 |.att Cs o f,h=>ZuR h λx q h=>(Zwt (Zk o G<|bL h)<|Zh8<|bL<|bR h).imp λZ H Q s=>Sm.bind s λS d R x H1 μ1 ag ak rd f1=>ZxX G (bL<|bR<|bR h) (of_decide_eq_true<|bR<|bR<|bR h) ag rd f1
 |.mk C es,h=>Zem h λp ys q h=>Zzz G (of_decide_eq_true<|bL h) (bL<|bR h) (bR<|bR h) (evs_ok es G<|bR<|bR h)
 |.mcl C m o es,h=>Zvt h λxo ap ys cp h=>ZwQ G (of_decide_eq_true<|bL<|bR<|bR<|bR h) (bL<|bR h) (bL<|bR<|bR h) (of_decide_eq_true<|bL<|bR<|bR<|bR<|bR h) (bR<|bR<|bR<|bR<|bR h) (Zk o G<|bL h) (evs_ok es G<|bL<|bR<|bR h)
 |.maxd a d,h=>ZAd h λp ys z r q h=>Za9 h λy h=>(Ztu (G.gl<|bL h).1 (G.blt _<|by decide) G.calm (Zk a G<|bL<|bR h) (Zk d G<|bR<|bR<|bR h)<|Zu X.env<|bL<|bR<|bR h).imp λZ H Q s=>Sm.bind s λS x R v H1 μ1 ag ak rx f1 =>
   ⟨S,R,μ1,ag,ak,Fin.bind f1 λy h2 u H2 μ2 _ g2 ao ry f2=>by
     cases ry with
     |int d =>
       obtain⟨r,er,f2⟩:=Fin.ofO<|show Fin Y (RD Y) H2 μ2 (qd.ofO (((lstOf x h2).bind intsOf).map λns=>.int<|Zg8 ns d) h2) Q E from f2;obtain⟨ns,e2,rfl⟩:=Oo.mp er;obtain⟨zs,e3,e4⟩:=Option.bind_eq_some_iff.mp e2;obtain⟨a,vs,rfl,hl,rv⟩:=(rx.mono ag g2).lstOf ao e3;rw [ZiG rv e4] at hl;exact⟨a,ns,d,rfl,rfl,G.gk.K▸hl,f2.ok ao<|.int _⟩
     |_=>exact f2.elim⟩
 |.dictl ps,h=>ZAa h λks vs q h=>Zur ps G (of_decide_eq_true<|bL h) (bR h) (pairs_ok ps G<|bR h).1 (pairs_ok (pos:=q) ps G<|bR h).2.1 (pairs_ok (pos:=q) ps G<|bR h).2.2
theorem evs_ok(e:Exs){Γ:Gm}{X:Cx}{E:XK}{k:Nat}{x:List Expr}(G:Gd T Γ X Y E k)(h:chks Γ e x=Wq):PA X x (ZmQ T Y E e):=match e,x,h with
 |.nil,[],h=>ZfJ.imp λZ H Q s=>by
  cases s with
  |mk S h B rh rs f=>exact Fin.ok (show Fin Y (RDs Y) H B (.ok [] h) Q E from f) rh .nil
 |.nil,_::_,h=>ff h
 |.cons e r,[],h=>ff h
 |.cons e r,y::ys,h=>(Zb7 (Zk e G<|bL h) (evs_ok r G<|bR<|bR h)<|Zu X.env<|bL<|bR h).imp λZ H Q s=>Sm.bind s λS d R x H1 μ1 ag ak rd f1=>⟨S,R,μ1,ag,ak,f1.bind λds h2 xs H2 μ2 _ g2 ao bT f2=>f2.ok ao<|.cons (rd.mono ag g2) bT⟩
theorem and_ok(e:Exs){Γ:Gm}{X:Cx}{E:XK}{k:Nat}{x:List Expr}{pos:Pos}(G:Gd T Γ X Y E k)(h:chks Γ e x=Wq):PE X (.BoolOp .And x pos) (Z6 T Y E<|.ands e):=match e,x,h with
 |.nil,x,h=>λaa s Z H Q I sm=>by
  cases sm with
  |mk S h B rh rs f=>exact f.elim
 |.cons e r,[],h=>ff h
 |.cons e .nil,[y],h=>(Zri<|Zk e G<|bL h).imp λZ H Q q=>q
 |.cons e .nil,y::z::zs,h=>ff (bR<|bR h)
 |.cons e (.cons e' r'),[y],h=>ff (bR<|bR h)
 |.cons e (.cons e' r'),y::z::zs,h=>(Zww (Zk e G<|bL h)<|and_ok (.cons e' r') G<|bR<|bR h).imp λZ H Q s=>Sm.bind s λS d R x H1 μ1 ag ak rd f1=>by
  cases rd with
  |bl c=>
   refine⟨c,rfl,?_⟩;cases c with
   |true=>exact ZlX ⟨S,R,μ1,ag,ak,f1⟩
   |false=>exact ZlY (Fin.ok f1 ag<|.bl _)
  |_=>exact f1.elim
theorem or_ok(e:Exs){Γ:Gm}{X:Cx}{E:XK}{k:Nat}{x:List Expr}{pos:Pos}(G:Gd T Γ X Y E k)(h:chks Γ e x=Wq):PE X (.BoolOp .Or x pos) (Z6 T Y E<|.ors e):=match e,x,h with
 |.nil,x,h=>λaa s Z H Q I sm=>by
  cases sm with
  |mk S h B rh rs f=>exact f.elim
 |.cons e r,[],h=>ff h
 |.cons e .nil,[y],h=>(Zri<|Zk e G<|bL h).imp λZ H Q q=>q
 |.cons e .nil,y::z::zs,h=>ff (bR<|bR h)
 |.cons e (.cons e' r'),[y],h=>ff (bR<|bR h)
 |.cons e (.cons e' r'),y::z::zs,h=>(Zzd (Zk e G<|bL h)<|or_ok (.cons e' r') G<|bR<|bR h).imp λZ H Q s=>Sm.bind s λS d R x H1 μ1 ag ak rd f1=>by
  cases rd with
  |bl c=>
   refine⟨c,rfl,?_⟩;cases c with
   |true=>exact ZlX (Fin.ok f1 ag<|.bl _)
   |false=>exact ZlY ⟨S,R,μ1,ag,ak,f1⟩
  |_=>exact f1.elim
theorem evo_ok(e:Option Ex){Γ:Gm}{X:Cx}{E:XK}{k:Nat}{x:Option Expr}(G:Gd T Γ X Y E k)(h:chko Γ e x=Wq):PO X x (ZA9 T Y E e):=match e,x,h with
 |none,M,h=>Zto.imp λZ H Q s=>by
  cases s with
  |mk S h B rh rs f=>exact Fin.ok (show Fin Y _ H B (.ok M h) Q E from f) rh rfl
 |none,J _,h=>ff h
 |some e,M,h=>ff h
 |some e,J a,h=>(Ztn<|Zk e G h).imp λZ H Q s=>Sm.bind s λS d R x H1 μ1 ag ak rd f1=>by
  cases rd with
  |int i=>exact⟨i,rfl,Fin.ok f1 ag rfl⟩
  |_=>exact f1.elim
theorem tst_ok(e:Tx){Γ:Gm}{X:Cx}{E:XK}{k:Nat}{x:Expr}(G:Gd T Γ X Y E k)(h:chkt Γ e x=Wq):PT X x (Zlw T Y E e):=match e,h with
 |.ex e,h=>bO h (λh=>Zpz G (Zk e G<|bR h)<|bL h) λh=>by
  cases e with
  |cmp op a b=>exact Zo8 h λl r q h=>Zuu G (Zk a G<|bL h) (Zk b G<|bL<|bR h) (bR<|bR h)
  |cmp2 o1 o2 a b c=>exact Zvu h λl m r q h=>Zsk G (Zk a G<|bL h) (Zk b G<|bL<|bR h) (Zk c G<|bL<|bR<|bR h) (bR<|bR<|bR h)
  |nin n a b=>exact Zo8 h λl r q h=>ZtY G (Zk a G<|bL h) (Zk b G<|bL<|bR h) (bR<|bR h)
  |_=>exact ff h
 |.ands ts,h=>ZtX h λxs q h=>(tand_ok ts G h).pt
 |.ors ts,h=>ZtX h λxs q h=>(tor_ok ts G h).pt
 |.nt t,h=>ZvH h λy q h=>(Zwe<|tst_ok t G h).imp λZ H Q s=>Sm.bind s λS d R x H1 μ1 ag ak rd f1=>by cases rd;exact Fin.ok f1 ag rfl
theorem tand_ok(e:Txs){Γ:Gm}{X:Cx}{E:XK}{k:Nat}{x:List Expr}{pos:Pos}(G:Gd T Γ X Y E k)(h:chkts Γ e x=Wq):PW X (.BoolOp .And x pos) (Zlw T Y E<|.ands e):=match e,x,h with
 |.one t,x,h=>Za9 h λy h=>(Ztg<|tst_ok t G h).imp λZ H Q q=>q
 |.cons t ts,[],h=>ff h
 |.cons t ts,[_],h=>ff (bL<|bR h)
 |.cons t ts,x::y::r,h=>(Zwc (tst_ok t G<|bL h)<|tand_ok ts G<|bR<|bR h).imp λZ H Q s=>Sm.bind s λS d R x H1 μ1 ag ak rd f1=>by
  cases rd;cases d with
  |true=>exact ZlX ⟨S,R,μ1,ag,ak,f1⟩
  |false=>exact ZlY (Fin.ok f1 ag rfl)
theorem tor_ok(e:Txs){Γ:Gm}{X:Cx}{E:XK}{k:Nat}{x:List Expr}{pos:Pos}(G:Gd T Γ X Y E k)(h:chkts Γ e x=Wq):PW X (.BoolOp .Or x pos) (Zlw T Y E<|.ors e):=match e,x,h with
 |.one t,x,h=>Za9 h λy h=>(Zwb<|tst_ok t G h).imp λZ H Q q=>q
 |.cons t ts,[],h=>ff h
 |.cons t ts,[_],h=>ff (bL<|bR h)
 |.cons t ts,x::y::r,h=>(Zy7 (tst_ok t G<|bL h)<|tor_ok ts G<|bR<|bR h).imp λZ H Q s=>Sm.bind s λS d R x H1 μ1 ag ak rd f1=>by
  cases rd;cases d with
  |true=>exact ZlX (Fin.ok f1 ag rfl)
  |false=>exact ZlY ⟨S,R,μ1,ag,ak,f1⟩
theorem ifs_ok(c:Option Tx){Γ:Gm}{X:Cx}{E:XK}{k:Nat}{x:List Expr}(G:Gd T Γ X Y E k)(h:chkf Γ c x=Wq):PIf X x (Sm Y E eqR<|tsto T c):=match c,x,h with
 |none,[],h=>λaa s Z H Q I sm=>by
  cases sm with
  |mk S h B rh rs f=>exact Ztq aa s Z H Q I (Fin.ok (show Fin Y eqR H B (.ok Wq h) Q E from f) rh rfl)
 |none,_::_,h=>ff h
 |some t,x,h=>Za9 h λy h=>Ztp (tst_ok t G h)
theorem evi_ok(e:Ix){Γ:Gm}{X:Cx}{E:XK}{k:Nat}{x tg:Expr}(G:Gd T Γ X Y E k)(h:chki Γ e tg x=Wq):PI X tg x (ZBa T Y E e):=match e,h with
 |.pl e,h=>(Zwl<|Zk e G h).imp λZ H Q s=>Sm.bind s λS d R x H1 μ1 ag ak rd f1=>by obtain⟨w,ew,f1⟩:=f1.ofO;exact ZsN G.gk.K ag rd ew λqa wj=>f1.ok ag wj
 |.rng e,h=>Zem h λp ys q h=>Za9 h λy h=>(ZpB (G.gl<|bL h).1 (G.blt _<|by decide) (Zb7 (Zk e G<|bL<|bR h) ZfJ<|Zu X.env<|bR<|bR h)<|Zu X.env<|bR<|bR h).imp λZ H Q s=>Sm.bind s λS d R x H1 μ1 ag ak rd f1=>by
  cases rd with
  |int j=>obtain⟨hz,f1⟩:=Fin.iff<|show Fin Y (WJ Y) H1 μ1 (if Zb6 j=Wq then .ok ⟨[],Zaj 0 j.toNat⟩ R else .bad) Q E from f1;exact⟨j,rfl,of_decide_eq_true<|bL hz,of_decide_eq_true<|bR hz,f1.ok ag ZvA⟩
  |_=>exact f1.elim
 |.enu e,h=>Zem h λp ys q h=>Za9 h λy h=>ZrR (bR<|bR<|bR h) λts j r=>(Zts (G.gl<|bL h).1 (G.blt _<|by decide) (Zb7 (Zk e G<|bL<|bR h) ZfJ<|Zu X.env<|bL<|bR<|bR h)<|Zu X.env<|bL<|bR<|bR h).imp λZ H Q s=>Sm.bind s λS d R x H1 μ1 ag ak rd f1=>by
  obtain⟨w,ew,f1⟩:=f1.ofO;obtain⟨w0,eu,rfl⟩:=Oo.mp ew;cases d with
  |ro xs=>
   cases eu;cases rd with
   |ro t s=>exact⟨_,rfl,⟨_,G.gk.K▸t.sq⟩,f1.ok ag<|ZnV (ZuU G.gk.K ag t s) λH2 μ2 h2 g2 ao st=>⟨_,G.gk.K▸(g2.rdF ag t).sq,s.mono ag g2⟩⟩
  |ref i=>obtain⟨xs,hi,rfl⟩:=Zqo eu;obtain⟨a,vs,rfl,hm,hl,s⟩:=rd.lst ag hi;refine⟨a,rfl,⟨vs,.of hl⟩,f1.ok ag<|ZnV (Zqp hm) λH2 μ2 h2 g2 ao st=>?_⟩;obtain⟨j2,bV,s2⟩:=ao.ob i _ a (Zif st)<|g2.pre i a hm;exact⟨j2,.of bV,s2⟩
  |_=>cases eu
 |.rev e,h=>Zem h λp ys q h=>Za9 h λy h=>(Ztr (G.gl<|bL h).1 (G.blt _<|by decide) (Zb7 (Zk e G<|bL<|bR h) ZfJ<|Zu X.env<|bR<|bR h)<|Zu X.env<|bR<|bR h).imp λZ H Q s=>Sm.bind s λS d R x H1 μ1 ag ak rd f1=>by
  obtain⟨w,ew,f1⟩:=f1.ofO;obtain⟨w0,eu,rfl⟩:=Oo.mp ew;cases d with
  |tup xs=>cases eu;obtain⟨a,vs,rfl,t,s⟩:=rd.tup_inv;exact⟨a,vs,rfl,.inl ⟨G.gk.K▸t,f1.ok ag<|ZvB G.gk.K ag t s⟩⟩
  |ref i=>obtain⟨xs,hi,rfl⟩:=Zqo<|show ZjN (.ref i) R=J w0 from eu;obtain⟨a,vs,rfl,hm,hl,s⟩:=rd.lst ag hi;exact⟨a,vs,rfl,.inr ⟨.of hl,by rw[<-s.length];exact f1.ok ag<|ZsK hm⟩⟩
  |_=>cases eu
 |.zp a b,h=>Zem h λp ys q h=>ZrN h λy z h=>ZrR (bR<|bR<|bR<|bR<|bR h) λts j r=>by
  have h5:=bL<|bR<|bR<|bR h;have h6:=bL<|bR<|bR<|bR<|bR h;refine(Zwk (G.gl<|bL h).1 (G.blt _<|by decide) (Zb7 (Zk a G<|bL<|bR h) (Zb7 (Zk b G<|bL<|bR<|bR h) ZfJ<|Zu X.env h6)<|Zu X.env h5) (by rw[Zu X.env h5,Zu X.env h6];rfl)<|Zu X.env h6).imp λZ H Q s=>Sm.bind s λS d R x H1 μ1 ag ak rd f1=>⟨S,R,μ1,ag,ak,f1.bind λe h2 y H2 μ2 nW g2 ao re f2=>?_⟩
  have cj:=rd.mono ag g2;cases cj with
  |tup t s=>
   cases re with
   |tup t' s'=>obtain⟨hl,f2⟩:=Fin.iff f2;exact⟨_,_,rfl,⟨_,G.gk.K▸t⟩,⟨_,G.gk.K▸t'⟩,f2.ok ao<|Zvy G.gk.K ao t s t' s' hl⟩
   |_=>exact f2.elim
  |_=>exact f2.elim
 |.dk e,h=>(Zzb<|Zk e G h).imp λZ H Q s=>Sm.bind s λS d R x H1 μ1 ag ak rd f1=>Zxo ag rd f1
theorem pairs_ok(ps:Exs){Γ:Gm}{X:Cx}{E:XK}{k:Nat}{ks:List (Option Expr)}{vs:List Expr}{pos:Pos}(G:Gd T Γ X Y E k)(h:chkp Γ ps ks vs=Wq):PPs X pos ks vs (ZnZ T Y E ps)/\ks.all (·.isSome)=Wq/\ks.length=vs.length:=match ps,ks,vs,h with
 |.nil,[],[],h=>⟨Ztm,rfl,rfl⟩
 |.nil,[],_::_,h=>ff h
 |.nil,_::_,_,h=>ff h
 |.cons e .nil,ks,vs,h=>ff h
 |.cons e (.cons v r'),[],vs,h=>ff h
 |.cons e (.cons v r'),M::_,vs,h=>ff h
 |.cons e (.cons v r'),J _::_,[],h=>ff h
 |.cons e (.cons v r'),J kx::ks,vx::vs,h=>
  let z:=pairs_ok r' (pos:=pos) G (bR<|bR h)
  ⟨Zrb (Zk e G<|bL h) (Zk v G<|bL<|bR h) z.1,z.2.1,congrArg (·+1) z.2.2⟩
end
def Zde(e:Expr):Bool:=Wu (tgE e≠13)&&Wu (tgE e≠19)
def Zm5(e:Expr):Bool:=Wu (tgE e≠8)
structure PsS where
 a:Expr:=default
 b:Expr:=default
 o:Option Expr:=M
 c:Option Expr:=M
 ts:List Expr:=[]
 xs:List Stmt:=[]
 ys:List Stmt:=[]
 zs:List Stmt:=[]
 hs:List ExceptHandler:=[]
 op:Operator:=.Add
 p:Pos:=default
 s:Stmt:=default
noncomputable def tgS:Stmt->Nat
 |.Return _ _=>1|.Assign _ _ _=>2|.AugAssign _ _ _ _=>3|.Expr _ _=>4|.If _ _ _ _=>5|.While _ _ _ _=>6|.For _ _ _ _ _=>7|.Pass _=>8|.Break _=>9|.Continue _=>10|.Raise _ _ _=>11|.Try _ _ _ _ _=>12|_=>0
noncomputable def prS(s:Stmt):PsS:=match s with
 |.Return o p=>{o:=o,p:=p}
 |.Assign ts a p=>{ts:=ts,a:=a,p:=p}
 |.AugAssign a op b p=>{a:=a,op:=op,b:=b,p:=p}
 |.Expr a p=>{a:=a,p:=p}
 |.If a xs ys p=>{a:=a,xs:=xs,ys:=ys,p:=p}
 |.While a xs ys p=>{a:=a,xs:=xs,ys:=ys,p:=p}
 |.For a b xs ys p=>{a:=a,b:=b,xs:=xs,ys:=ys,p:=p}
 |.Pass p=>{p:=p}
 |.Break p=>{p:=p}
 |.Continue p=>{p:=p}
 |.Raise o c p=>{o:=o,c:=c,p:=p}
 |.Try xs hs ys zs p=>{xs:=xs,hs:=hs,ys:=ys,zs:=zs,p:=p}
 |_=>{s:=s}
noncomputable def mkS(n:Nat)(p:PsS):Stmt:=match n with
 |1=>.Return p.o p.p|2=>.Assign p.ts p.a p.p|3=>.AugAssign p.a p.op p.b p.p|4=>.Expr p.a p.p|5=>.If p.a p.xs p.ys p.p|6=>.While p.a p.xs p.ys p.p|7=>.For p.a p.b p.xs p.ys p.p
 |8=>.Pass p.p|9=>.Break p.p|10=>.Continue p.p|11=>.Raise p.o p.c p.p|12=>.Try p.xs p.hs p.ys p.zs p.p|_=>p.s
def rbS(s:Stmt):mkS (tgS s) (prS s)=s:=by cases s<;>rfl
@[irreducible] def anS(n:Nat)(s:Stmt)(f:PsS->Bool):Bool:=Wu (tgS s=n)&&f (prS s)
section
variable {P:Stmt->Prop}{s:Stmt}
def Zaz(h:anS n s f=Wq)(k:∀p,f p=Wq->P (mkS n p)):P s:=by unfold anS at h;exact rbS s▸dS (P:=λm=>P<|mkS m<|prS s) (bL h) (k _<|bR h)
noncomputable def oSm{α:Type}(o:Option α)(f:α->Bool):Bool:=match o with
 |some x=>f x
 |none=>Ws
def ZkD{α:Type}{P:Option α->Prop}{o:Option α}{f:α->Bool}(h:oSm o f=Wq)(k:∀x,f x=Wq->P (J x)):P o:=by
 cases o with
 |none=>exact ff h
 |some x=>exact k x h
noncomputable def oNo{α:Type}(o:Option α)(b:Bool):Bool:=o.isNone&&b
def Zrx{α:Type}{P:Option α->Prop}{o:Option α}(h:oNo o b=Wq)(k:b=Wq->P M):P o:=by
 cases o with
 |none=>exact k h
 |some x=>exact ff h
@[irreducible] def aAs(s:Stmt)(f:Expr->Expr->Bool):Bool:=anS 2 s λp=>l1 p.ts λg=>f g p.a
def Zpe(h:aAs s f=Wq)(k:∀g x q,f g x=Wq->P (.Assign [g] x q)):P s:=by unfold aAs at h;exact Zaz h λp h=>Za9 (P:=λb=>P<|.Assign b p.a p.p) h λ_ h=>k _ _ _ h
end
def ZBM(Γ:Gm)(C:Str)(e:Expr):Bool:=aX C e (Wu (C∈Γ.kl.xs)&&glb Γ C)
@[irreducible] def Zvr(Γ:Gm)(C:Str)(x:Expr)(f:Expr->Bool):Bool:=aCN C x λa=>l1 a λy=>Wu (C∈Γ.kl.xs)&&(glb Γ C&&(Za6 y&&f y))
def Zvq(Γ:Gm)(C:Str)(b:Bool)(hs:List ExceptHandler):Bool:=l1 hs λh=>match h with
 |.ExceptHandler t n a _=>oNo n (oSm t λt=>ZBM Γ C t&&l1 a λs=>anS 1 s λp=>oSm p.o λx=>aK x λc=>Wu<|c=.bool b)
def Zyv{P:List ExceptHandler->Prop}(h:Zvq Γ C b hs=Wq)(k:∀np j r q z,C∈Γ.kl.xs->glb Γ C=Wq->P [.ExceptHandler (J<|.Name C np) M [.Return (J<|.Constant (.bool b) j r) q] z]):P hs:=
 Za9 h λy h=>match y,h with
  |.ExceptHandler t n a z,h=>Zrx (P:=λn=>P [.ExceptHandler t n a z]) h λh=>ZkD (P:=λt=>P [.ExceptHandler t M a z]) h λt h=>Zqm (P:=λt=>P [.ExceptHandler (J t) M a z]) (bL h) λnp d=>Za9 (P:=λa=>P [.ExceptHandler (J _) M a z]) (bR h) λs h=>Zaz (P:=λs=>P [.ExceptHandler (J _) M [s] z]) h λp h=>ZkD (P:=λo=>P [.ExceptHandler (J _) M [.Return o p.p] z]) h λx h=>ZzN (P:=λx=>P [.ExceptHandler (J _) M [.Return (J x) p.p] z]) h λc j r h=>dS (P:=λc=>P [.ExceptHandler (J _) M [.Return (J<|.Constant c j r) p.p] z]) h (k np j r p.p z (of_decide_eq_true<|bL d)<|bR d)
noncomputable def ZzS:Ex->Bool
 |.comp _ _ _ _ _ _|.any=>Wq
 |_=>Ws
mutual
noncomputable def ZAf(Γ:Gm):Sx->Stmt->Bool
 |.ret e,s=>anS 1 s λp=>oSm p.o λx=>chk Γ e x
 |.set g e,s=>aAs s λtg x=>Zuv Γ.N (ownD Γ.sc) g tg&&(chk Γ e x&&((Zde x&&(!isTup tg||Zm5 x))||(Wu (tgE tg=6)&&ZzS e)))
 |.put o i e,s=>aAs s λtg x=>aS tg λxo xi=>chk Γ o xo&&(chk Γ i xi&&(chk Γ e x&&(Zd4 xi&&Zde x)))
 |.npt o i e,s=>aAs s λtg x=>aS tg λxo xi=>chk Γ o xo&&(chk Γ i xi&&(chk Γ e x&&(Zd4 xi&&Zde x)))
 |.trr f es C b,s=>anS 12 s λp=>l0 p.ys (l0 p.zs<|Zvq Γ C b p.hs&&l1 p.xs λs=>anS 4 s λp=>aCN f p.a λys=>Wu (f∈Γ.fs)&&(glb Γ f&&(chks Γ es ys&&!ys.isEmpty)))
 |.aug i op e,s=>anS 3 s λp=>ZpM Γ.N (ownD Γ.sc) i p.a&&(Wu (p.op=.Add)&&(Wu (op=.Add)&&chk Γ e p.b))
 |.drp e,s=>anS 4 s λp=>chk Γ e p.a&&Zde p.a
 |.iff c a b,s=>anS 5 s λp=>chkt Γ c p.a&&(chkSs Γ a p.xs&&chkSs Γ b p.ys)
 |.whl c b,s=>anS 6 s λp=>l0 p.ys (chkt Γ c p.a&&chkSs Γ b p.xs)
 |.forr g it b,s=>anS 7 s λp=>l0 p.ys (chki Γ it p.a p.b&&(ZaY p.b&&(Zuv Γ.N (ownD Γ.sc) g p.a&&chkSs Γ b p.xs)))
 |.pas,s=>anS 8 s λ_=>Wq
 |.brk,s=>anS 9 s λ_=>Wq
 |.cnt,s=>anS 10 s λ_=>Wq
 |.seta Cs o f e,s=>aAs s λtg x=>aA f tg λxo _=>chk Γ o xo&&(chk Γ e x&&(Zde x&&((Cs.all λC=>Wu<|C∈Γ.kl.cs)&&Wu (f∈Γ.kl.ats))))
 |.auga Cs o f e,s=>anS 3 s λp=>Wu (p.op=.Add)&&aA f p.a λxo _=>chk Γ o xo&&(chk Γ e p.b&&((Cs.all λC=>Wu<|C∈Γ.kl.cs)&&Wu (f∈Γ.kl.ats)))
 |.any,_=>Wq
 |.rai C e,s=>anS 11 s λp=>oNo p.c (oSm p.o λx=>Zvr Γ C x λy=>chk Γ e y)
noncomputable def chkSs(Γ:Gm):Sxs->List Stmt->Bool
 |.nil,ss=>ss.isEmpty
 |.trq _ _ _ _ _ _ _ _ _,_=>Ws
 |.cons s r,ss=>match ss with
  |x::xs=>ZAf Γ s x&&chkSs Γ r xs
  |[]=>Ws
end
def ZW(Y:Yx)(H:Hp)(B:List Yj)(r:qd (Fl×Ev))(D:Ends)(E:XK):Prop:=match r with
 |.bad=>False
 |.ok p a=>∀H' μ',Gr H B H' μ'->RH Y H' μ' a->match p.1 with
  |.nx=>∀σ',RS Y H' μ' p.2 σ'->D.nx σ' H'
  |.bk=>∀σ',RS Y H' μ' p.2 σ'->D.bk σ' H'
  |.ct=>∀σ',RS Y H' μ' p.2 σ'->D.ct σ' H'
  |.rt d=>∀v,RD Y H' μ' d v->D.rt v H'
 |.exc c a=>∀H' μ' C,Gr H B H' μ'->RH Y H' μ' a->Y.mg c=J (.ref C)->E (.ref C) M H'
section
variable {Y:Yx}{α β:Type}{rel:Hp->List Yj->α->β->Prop}{H H1:Hp}{B μ1:List Yj}{E:XK}{D:Ends}
def ZW.mono(g:Gr H B H1 μ1)(f:ZW Y H B r D E):ZW Y H1 μ1 r D E:=by
 cases r with
 |bad=>exact f
 |ok a h=>exact λH' μ' b=>f H' μ' (g.I b)
 |exc c h=>exact λH' μ' C b=>f H' μ' C (g.I b)
theorem ZW.bind(f:ZW Y H B (r.bind k) D E)
 (hk:∀a R b H1 μ1,r=.ok a R->Gr H B H1 μ1->RH Y H1 μ1 R->rel H1 μ1 a b->ZW Y H1 μ1 (k a R) D E->Q1 b H1):Fin Y rel H B r Q1 E:=by
 cases r with
 |bad=>exact f
 |ok a h=>exact λb H' μ' d e g=>hk a h b H' μ' rfl d e g (ZW.mono d f)
 |exc c h=>exact f
theorem ZW.ofO(f:ZW Y H B ((qd.ofO o h).bind k) D E):∃a,o=J a/\ZW Y H B (k a h) D E:=by
 cases o with
 |none=>exact f.elim
 |some a=>exact⟨a,rfl,f⟩
theorem ZW.nx(f:ZW Y H B (.ok (.nx,S) h) D E)(rh:RH Y H B h)(rs:RS Y H B S Z):D.nx Z H:=f H B Gr.refl rh Z rs
def ZW.part(f:ZW Y H B (r.bind k) D E)
 (hk:∀p R H1 μ1,r=.ok p R->Gr H B H1 μ1->RH Y H1 μ1 R->ZW Y H1 μ1 (k p R) D E->match p.1 with
  |.nx=>∀σ',RS Y H1 μ1 p.2 σ'->D1.nx σ' H1
  |.bk=>∀σ',RS Y H1 μ1 p.2 σ'->D1.bk σ' H1
  |.ct=>∀σ',RS Y H1 μ1 p.2 σ'->D1.ct σ' H1
  |.rt d=>∀v,RD Y H1 μ1 d v->D1.rt v H1):ZW Y H B r D1 E:=by
 cases r with
 |bad=>exact f
 |ok p h=>exact λH' μ' a b=>hk p h H' μ' rfl a b (ZW.mono a f)
 |exc c h=>exact f
end
inductive SmS(Y:Yx)(E:XK)(m:Ev->Hd->qd (Fl×Ev))(D:Ends)(Z:L2.St)(H:Hp):Prop
 |mk (S:Ev) (h:Hd) (B:List Yj) (rh:RH Y H B h) (rs:RS Y H B S Z) (f:ZW Y H B (m S h) D E):SmS Y E m D Z H
def Zpr(T:Tb)(Y:Yx)(E:XK)(s:Sx):TS:=SmS Y E (xs1 T s)
def ZqK(T:Tb)(Y:Yx)(E:XK)(s:Sxs):TS:=SmS Y E (xs2 T s)
theorem SmS.bind{D:Ends}{γ δ:Type}{rel:Hp->List Yj->γ->δ->Prop}{m:Ev->Hd->qd γ}{k:Ev->γ->Hd->qd (Fl×Ev)}{Q1:δ->Hp->Prop}(s:SmS Y E (λS h=>(m S h).bind<|k S) D Z H)
 (hk:∀S d R v H1 μ1,RH Y H1 μ1 R->RS Y H1 μ1 S Z->rel H1 μ1 d v->ZW Y H1 μ1 (k S d R) D E->Q1 v H1):Sm Y E rel m Z H Q1:=by
 cases s with
 |mk S h B a rs f=>exact⟨S,h,B,a,rs,f.bind λd R x H1 μ1 _ g b rd c=>hk S d R x H1 μ1 b (rs.mono a g) rd c⟩
def Sm.at{α β:Type}{rel:Hp->List Yj->α->β->Prop}{m:Ev->Hd->qd α}{Q1:β->Hp->Prop}{Q:Prop}(s:Sm Y E rel m Z H Q1)(hk:∀S h B,RH Y H B h->RS Y H B S Z->Fin Y rel H B (m S h) Q1 E->Q):Q:=by
 cases s with
 |mk S h B a rs f=>exact hk S h B a rs f
def SmS.at{D:Ends}{Q:Prop}(s:SmS Y E m D Z H)(hk:∀S h B,RH Y H B h->RS Y H B S Z->ZW Y H B (m S h) D E->Q):Q:=by
 cases s with
 |mk S h B a rs f=>exact hk S h B a rs f
def _root_.L2.PS.imp(h:PS X s t)(i:∀D Z H,t' D Z H->t D Z H):PS X s t':=λa s Z H D I q=>h a s Z H D I (i D Z H q)
def _root_.L2.PSs.imp(h:PSs X s t)(i:∀D Z H,t' D Z H->t D Z H):PSs X s t':=λa s Z H D I q=>h a s Z H D I (i D Z H q)
structure XOk(K:Yl)(a:Yj):Prop extends ExcN K a where
 own:PySem.W.excIn K a [.type "ValueError",.type "Exception",.type "BaseException",.type "object"] "ValueError.__new__"=Wq
 sub:YU K (.ref a) (.ref a)=J Wq
structure GdS(T:Tb)(Γ:Gm)(X:Cx)(Y:Yx)(E:XK)(k:Nat):Prop extends Gd T Γ X Y E k where
 top:Γ.top=Wq
 fnt:∀x,X.fn x=Wq
 own:PassesOwn (model X.prog X.w) X.A X.env X.xe
 bk:X.env.blockKind=.function
 rz:Zlh X E
 stk:X.stack=X.env::X.outer
 frm:X.env.frame=J X.env.locals
 xcs:∀C∈Γ.kl.xs,∃a,X.mg C=J (.ref a)/\XOk X.K a
 xas:∀p∈Γ.kl.xa,∃a b,X.mg p.1=J (.ref a)/\X.mg p.2=J (.ref b)/\XAs X.K a b
 xis:∀p∈Γ.kl.xi,∃b v,X.mg p.1=J (.ref b)/\ClV X.mg p.2.1 v/\PySem.W.kitOne X.K (.ref b) v=J p.2.2
theorem GdS.ownD(G:GdS T Γ X Y E k):∀x,ownD Γ.sc x=Wq->Loc X.env.scope x/\(X.fn x=Wq\/X.env.scope.names.lookup x=J .local):=by intro x h;refine⟨?_,.inl<|G.fnt x⟩;unfold IV.ownD at h;rw[G.sc G.top];rw[Wn]at h;exact h.imp of_decide_eq_true of_decide_eq_true
def ZeR(h:Zde x=Wq):swapsWith x t n env=pure Ws:=(kdE x).sw (of_decide_eq_true<|bL h) (of_decide_eq_true<|bR h) _ _ _
def ZqJ(G:GdS T Γ X Y E k)(hi:Γ.N[i]?=J y)(ho:ownD Γ.sc y=Wq)(hx:ZzS e=Wq)(h:chk Γ e x=Wq):PS X (.Assign [.Name y py] x spos) (ZmM (Z6 T Y E e)<|Zec i):=by
 obtain⟨l,m⟩:=G.ownD y ho;have o:X.N[i]?=J y:=by rw[G.N];exact hi
 cases e with
 |comp NC F it g c e=>
  refine Zve h (λL O iter P scope q h p=>?_)<|Zk _ G.toGd h;cases sw:(X.env.blockKind==.function&&X.env.kindOf y==J .local&&py.line==q.line&&!(scope.names.any λ(n,k)=>n==y&&(k==.local||k==.cell)))with
  |true=>
   have S_:=Zme<|bL<|bR h;rw[<-G.N,<-G.sc (bL h)]at S_;have Gc:=λC b H3 d=>G.toGd.comp NC scope C b H3 d S_.nd;have a:=bR<|bR h;exact(ZmX (g:=tgR X.K g) (tc:=Sm Y E0 eqR<|tsto T c) (te:=Z6 T Y E0 e) G.nd o l m S_ rfl G.calm (evi_ok it G.toGd<|bL a) (λC b H3 d=>⟨Zoo rfl S_.nd rfl (λx hx=>Zos (scope:=scope) X hx)<|bL<|bR<|bR a,ifs_ok c (Gc C b H3 d)<|bL<|bR<|bR<|bR<|bR a,Zk e (Gc C b H3 d)<|bR<|bR<|bR<|bR<|bR a⟩) (Zyz X.K g) (λj r=>of_decide_eq_true<|OC.mp (bL<|bR<|bR<|bR a) j<|List.mem_range.mpr r) (ZmO X.env<|bL<|bR a)<|congrArg pure sw).imp
    λD Z H s=>Sm.bind s λS w R Q H1 μ1 t u v A D B=>Zo1 G.gk.K (λ_ _ _ z=>z) t u v A B
  |false=>exact Zq7 G.nd o l p (congrArg pure sw) m
 |any=>exact λU s Z H D I s=>Sm.at s λ_ _ _ _ _ f=>f.elim
 |_=>exact ff hx
def Zoa(ht:isTup tg=Wq)(pg:PG X tg g)(he:PE X x te)(h3:(Zde x&&(!isTup tg||Zm5 x))=Wq):PS X (.Assign [tg] x pos) (ZmM te g):=ZrR (P:=λtg=>PG X tg g->(!isTup tg||Zm5 x)=Wq->PS X (.Assign [tg] x pos) (ZmM te g)) ht (λ_ _ _ pg h3=>ZmY he pg (by unfold swapsWithSole;exact ZeR<|bL ‹_›) ((kdE x).st (of_decide_eq_true h3) _ _ _ _) rfl) pg (bR h3)
def ZxW{T:Tb}(G:Gd T Γ X Y E k)(hc:(Cs.all λC=>Wu<|C∈Γ.kl.cs)=Wq)(hf:f∈Γ.kl.ats){D:Ends}(ag:RH Y H1 μ1 R)(ak:RS Y H1 μ1 S Z)(rd:RD Y H1 μ1 d x)
 (f1:ZW Y H1 μ1 ((ZfM Cs f d R).bind λv h2=>(ev T e S h2).bind λy h3=>match v,y with
  |.int a,.int b=>if (ZZ d R).map (·.1)=(ZZ d h3).map (·.1)then(Zjy Cs f d (.int<|a+b) h3).bind λ_ h4=>.ok (.nx,S) h4 else .bad
  |_,_=>.bad) D E) :
 ∃a C dx fs v,x=.ref a/\H1 a=J (.ins C dx fs)/\Cls X.K C/\Za5 X.K C f/\fs.lookup f=J v /\
  Z6 T Y E e Z H1 λy H2=>Zy6 v y H2 λz H3=>∃cR bB,H3 a=J (.ins C cR bB)/\bB.length<1000/\D.nx Z (upd H3 a<|.ins C cR<|ZcT f z bB):=by
 unfold ZfM at f1;cases ei:ZZ d R with
 |none=>rw[ei]at f1;exact f1.elim
 |some p=>
  obtain⟨C,fs⟩:=p;rw[ei]at f1;simp only at f1;by_cases hC:C∈Cs
  . rw[if_pos hC]at f1;obtain⟨w,e1,f1⟩:=f1.ofO;obtain⟨i,a,Ca,dx,gs,rfl,rfl,q,hi,z,m,s⟩:=ZiH ag rd ei;obtain⟨v,l,rv⟩:=(s.look (f:=f)).1 w e1;have dL:=hc;rw[OC]at dL;obtain⟨jY,m',cl,na⟩:=G.cls C<|of_decide_eq_true<|dL C hC;have m0:=m;rw[G.gk.mg,m']at m;cases m;refine⟨a,Ca,dx,gs,v,rfl,z,cl,na f hf,l,S,R,μ1,ag,ak,ZW.bind f1 λy h3 u H3 μ3 _ g3 aB ry f3=>?_⟩;cases w with
    |int p=>
     cases y with
     |int r=>
      cases rv;cases ry;refine⟨p,r,rfl,rfl,?_⟩;simp only at f3;by_cases hk:Option.map (·.1) (J (C,fs))=(ZZ (.ref i) h3).map (·.1)
      . rw[if_pos hk]at f3;obtain⟨a',C',cR,bB,e4,z',_,_,l',nx⟩:=ZqI (Q:=λ_ H'=>D.nx Z H') G hc hf aB (rd.mono ag g3) (.int _)<|ZW.bind f3 λ_ h4 _ H4 μ4 _ g4 cg _ f4=>f4.nx cg<|(ak.mono ag g3).mono aB g4;cases e4;cases e5:ZZ (.ref i) h3 with
        |none=>rw[e5]at hk;cases hk
        |some p3=>obtain⟨C3,nS⟩:=p3;rw[e5]at hk;cases hk;obtain⟨i3,a3,og,nY,nQ,e6,e7,_,_,z3,m3,_⟩:=ZiH aB (rd.mono ag g3) e5;cases e7;rw[m0]at m3;cases m3;rw[z']at z3;cases z3;exact⟨cR,bB,z',l',nx⟩
      . rw[if_neg hk]at f3;exact f3.elim
     |_=>exact f3.elim
    |_=>exact f3.elim
  . rw[if_neg hC]at f1;exact f1.elim
theorem _root_.IV.Gd.nox(G:Gd T Γ X Y E k):Gd T Γ X.nox Y E0 k:=⟨⟨G.gk.K,G.gk.mg,G.gk.gd,G.gk.g,G.gk.bare⟩,G.N,G.sc,G.vis,G.glo,G.nd,G.calm,G.room,G.h60,ZjV,G.defs,G.blt,G.room1,G.cls,G.mts,G.mks⟩
def Zqj(f:Fin Y rel H B r.plain Q E):Fin Y rel H B r Q E0:=by
 cases r with
 |bad=>exact f.elim
 |ok a h=>exact f
 |exc c h=>exact f.elim
def Zor{D D1:Ends}{k:Ev->Hd->qd (Fl×Ev)}(f:ZW Y H B (r.bind λp h2=>match p with
 |(.nx,ρ2)=>k ρ2 h2
 |(.ct,ρ2)=>k ρ2 h2
 |(.bk,ρ2)=>.ok (.nx,ρ2) h2
 |(.rt d,ρ2)=>.ok (.rt d,ρ2) h2) D E) (hn:∀ρ2 h2 H2 μ2 σ',Gr H B H2 μ2->RH Y H2 μ2 h2->RS Y H2 μ2 ρ2 σ'->ZW Y H2 μ2 (k ρ2 h2) D E->D1.nx σ' H2) (hc:D1.ct=D1.nx) (hb:D1.bk=D.nx) (hr:D1.rt=D.rt):ZW Y H B r D1 E:=
 ZW.part f λp h2 H2 μ2 _ e b c=>by
  obtain⟨g,ρ2⟩:=p;cases g with
  |nx=>exact λσ' a=>hn ρ2 h2 H2 μ2 σ' e b a c
  |ct=>rw[hc];exact λσ' a=>hn ρ2 h2 H2 μ2 σ' e b a c
  |bk=>rw[hb];exact λσ' a=>ZW.nx c b a
  |rt d=>rw[hr];exact λv h=>c H2 μ2 Gr.refl b v h
def ZvC{D:Ends}(s:Zpr T Y E (.whl c b) D Z H):ZqA (Zlw T Y E c) (ZqK T Y E b) D Z H:=by
 refine⟨λm=>SmS Y E (ZU (tst T c) (xs2 T b) m) D,⟨T.L,s⟩,λm Z H s=>?_⟩;cases m with
 |zero=>exact SmS.at s λ_ _ _ _ _ f=>f.elim
 |succ m=>
  refine SmS.bind s λS t R v H1 μ1 a d rd e=>?_;cases rd;cases t with
  |false=>exact ZlY (ZW.nx e a d)
  |true=>exact ZlX ⟨SmS Y E (ZU (tst T c) (xs2 T b) m) D,λσ' H' q=>⟨m,OH m,q⟩,S,R,μ1,a,d,Zor e (λρ2 g H2 μ2 σ' _ h i j=>⟨ρ2,g,μ2,h,i,j⟩) rfl rfl rfl⟩
inductive FwS(Y:Yx)(E:XK)(H1:Hp)(μ1:List Yj)(n i:Nat)(F:Ev->Hd->qd (Fl×Ev))(D:Ends)(m:Nat)(Z:L2.St)(H:Hp):Prop
 |mk (S:Ev) (h:Hd) (B:List Yj) (hi:i<=n) (hm:m=n-i) (g:Gr H1 μ1 H B) (rh:RH Y H B h) (rs:RS Y H B S Z) (f:ZW Y H B (F S h) D E):FwS Y E H1 μ1 n i F D m Z H
def Zxq{K:Yl}{g:Tg}{D:Ends}(hY:Y.K=K)(ag:RH Y H1 μ1 R)(ak:RS Y H1 μ1 S Z)(wj:WJ Y H1 μ1 w qa)(f1:ZW Y H1 μ1 (ZY w.src g (xs2 T b) w.xs S R) D E):∃W:Nat->Nat->L2.St->Hp->Prop,(∃m,W 0 m Z H1)/\∀i m Z H,W i m Z H ->
 (qa.stop i H/\D.nx Z H)\/(qa.go i H/\∃B_:L2.St->Hp->Prop,(∀σ' H',B_ σ' H'->∃m',m'<m/\W (i+1) m' σ' H')/\∀x H',qa.yld i H x H'->tgR K g x Z H' λσ' nh=>ZqK T Y E b {D with nx:=B_,ct:=B_,bk:=D.nx} σ' nh):=by
 refine⟨λi=>FwS Y E H1 μ1 w.xs.length i (λS=>ZY w.src g (xs2 T b) (w.xs.drop i) S) D,⟨w.xs.length,S,R,μ1,Yy _,(Nat.sub_zero _).symm,Gr.refl,ag,ak,f1⟩,λi m Z H s=>?_⟩;cases s with
 |mk S h B hi hm g0 rh rs f=>
  subst hm;by_cases hs:Wk.stays w.src h=Wq
  . by_cases aC:i<w.xs.length
    . have hd:=Og aC;rw[List.drop_eq_getElem_cons aC,ZY,if_pos hs]at f;obtain⟨go,yl⟩:=(wj H B h g0 rh hs).1 i _ hd;refine .inr ⟨go,FwS Y E H1 μ1 w.xs.length (i+1) (λS=>ZY w.src g (xs2 T b) (w.xs.drop<|i+1) S) D<|w.xs.length-(i+1),λσ' H' q=>⟨_,Nat.sub_lt_sub_left aC<|OH i,q⟩,λx H' hy=>?_⟩;obtain⟨g2,ao,rx⟩:=yl x H' hy;split at f
      . exact f.elim
      . rename_i ρ1 hb;exact Zk4 hY rx (rs.mono rh g2) hb λσ1 ak=>⟨ρ1,h,B,ao,ak,Zor (ZW.mono g2 f) (λρ2 h3 H3 μ3 σ' g3 aB kr f3=>⟨ρ2,h3,μ3,aC,rfl,(g0.I g2).I g3,aB,kr,f3⟩) rfl rfl rfl⟩
    . have he:i=w.xs.length:=Nat.le_antisymm hi<|Nat.le_of_not_lt aC;subst he;rw[List.drop_eq_nil_of_le<|Oq _,ZY,if_pos hs]at f;exact .inl ⟨(wj H B h g0 rh hs).2,ZW.nx f rh rs⟩
  . cases e:w.xs.drop i with
    |nil=>rw[e,ZY,if_neg hs]at f;exact f.elim
    |cons _ _=>rw[e,ZY,if_neg hs]at f;exact f.elim
def ZvN{X:Cx}{D:Ends}(m:Y.mg C=J (.ref ca))(xo:XOk X.K ca)(s:Zpr T Y E (.trr f es C b) D Z H):Zu0 X.K (Zg6 T Y f) ca (λ_ _ D Z H=>D.rt (.bl b) H) (ZmQ T Y E0 es) D Z H:=by
 cases s with
 |mk S h B rh rs ff=>
  refine⟨S,h,B,rh,rs,Zqj<|ZW.bind ff λds R vs H1 μ1 _ g1 ag bT f1=>⟨ds,R,μ1,ag,bT,?_⟩⟩;have ak:=rs.mono rh g1;cases q:T.C f ds R with
  |bad=>rw[q]at f1;exact f1.elim
  |ok w h2=>rw[q]at f1;exact λb H' μ' g2 ao rb=>f1 H' μ' g2 ao _ (ak.mono ag g2)
  |exc w h2=>
   rw[q]at f1;unfold catchR at f1;by_cases e:w=C
   . subst e;simp only[if_true]at f1;intro H' μ' C' g2 ao mc;rw[m]at mc;cases mc;exact⟨ca,rfl,xo.sub,λa oe=>f1 H' μ' g2 ao _<|.bl b⟩
   . simp only[if_neg e]at f1;exact f1.elim
def ZvO(G:GdS T Γ X Y E k)(hf:f∈Γ.fs)(lY:glb Γ f=Wq)(hZ:C∈Γ.kl.xs)(hg:glb Γ C=Wq)(h4:chks Γ es (y::ys)=Wq)(ha:PA X.nox (y::ys) (ZmQ T Y E0 es)):
 PS X (.Try [.Expr (.Call (.Name f fp) (y::ys) [] cp) ep] [.ExceptHandler (J<|.Name C np) M [.Return (J<|.Constant (.bool b) j r) q] z] [] [] pos) (Zpr T Y E<|.trr f es C b):=by
 obtain⟨ps,d⟩:=G.defs _ hf;obtain⟨e,g⟩:=G.gl lY;obtain⟨h,i⟩:=G.gl hg;obtain⟨n,m,c⟩:=G.xcs _ hZ;exact(ZmW d G.room e ha h m c.toExcN G.stk G.frm (ts:=λ_ _ D Z H=>D.rt (.bl b) H) (λa l=>(Zti<|Zq8 (X:=cxH X a l) Zva).imp λD Z H q=>q) g i (ZdO X.env h4).1 ((ZdO X.env h4).2 _) rfl).imp λD Z H s=>ZvN (by rw[G.gk.mg];exact m) c s
mutual
theorem ZyN(s:Sx){Γ:Gm}{X:Cx}{E:XK}{k:Nat}{x:Stmt}(G:GdS T Γ X Y E k)(h:ZAf Γ s x=Wq):PS X x (Zpr T Y E s):=match s,h with
 |.ret e,h=>Zaz (P:=λx=>PS X x _) h λp h=>ZkD (P:=λo=>PS X (.Return o p.p) _) h λy h=>(Zq8<|Zk e G.toGd h).imp λD Z H s=>SmS.bind s λS d R v H1 μ1 ag ak rd f1=>f1 H1 μ1 Gr.refl ag v rd
 |.set g e,h=>Zpe (P:=λx=>PS X x _) h λtg xe pos h=>by
  have fin:∀{D:Ends}{Z:L2.St}{H:Hp},Zpr T Y E (.set g e) D Z H->ZmM (Z6 T Y E e) (tgR X.K g) D Z H:=λ{D Z H} s=>SmS.bind s λS d R v H1 μ1 ag ak rd f1=>by obtain⟨ρ1,eb,f1⟩:=f1.ofO;exact Zk4 G.gk.K rd ak eb λσ1 eT=>f1.nx ag eT
  have pg:=Zoo (X:=X) G.N G.nd G.calm G.ownD<|bL h;refine bO (bR<|bR h) (λh3=>?_) λh3=>?_
  . cases g with
    |nm i=>exact Zb9 (P:=λt=>PS X (.Assign [t] _ _) _) (bL h) λy py e1 e2=>(Zq7 G.nd (by rw[G.N];exact e1) (G.ownD y e2).1 (Zk e G.toGd<|bL<|bR h) (ZeR<|bL h3) (G.ownD y e2).2).imp λD Z H q=>fin q
    |two i j=>exact(Zoa (Zlq (P:=λt=>isTup t=Wq) (show Zsm Γ.N (ownD Γ.sc) i j tg=Wq from bL h) λ_ _ _ _=>rfl) pg (Zk e G.toGd<|bL<|bR h) h3).imp λD Z H q=>fin q
    |many is=>exact(Zoa (Zlq (P:=λt=>isTup t=Wq) (show Zsl Γ.N (ownD Γ.sc) is tg=Wq from bL h) λ_ _ _ _=>rfl) pg (Zk e G.toGd<|bL<|bR h) h3).imp λD Z H q=>fin q
  . cases g with
    |nm i=>exact Zb9 (P:=λt=>PS X (.Assign [t] _ _) _) (bL h) λy py e1 e2=>(ZqJ G e1 e2 (bR h3)<|bL<|bR h).imp λD Z H q=>fin q
    |two i j=>exact ff (Zlq (P:=λt=>Wu (tgE t=6)=Wq->Ws=Wq) (show Zsm Γ.N (ownD Γ.sc) i j tg=Wq from bL h) (λ_ _ _ _ z=>z)<|bL h3)
    |many is=>exact ff (Zlq (P:=λt=>Wu (tgE t=6)=Wq->Ws=Wq) (show Zsl Γ.N (ownD Γ.sc) is tg=Wq from bL h) (λ_ _ _ _ z=>z)<|bL h3)
 |.put o i e,h=>Zpe (P:=λx=>PS X x _) h λtg xe p2 h=>ZqM (P:=λt=>PS X (.Assign [t] _ _) _) h λxo xi p1 h=>
  (ZmY (pos:=p2) (Zk e G.toGd<|bL<|bR<|bR h) (Zrf (pos:=p1) (Zk o G.toGd<|bL h) (Zk i G.toGd<|bL<|bR h) (Zwd (Y:=Y) (E:=E))<|(kdE xi).put (of_decide_eq_true<|bL<|bR<|bR<|bR h) _ _ _) (by unfold swapsWithSole;exact ZeR<|bR<|bR<|bR<|bR h) rfl rfl).imp λD Z H s=>SmS.bind s λS d R v H1 μ1 ag ak rd f1=>
   ⟨S,R,μ1,ag,ak,f1.bind λd2 h2 v2 H2 μ2 _ g2 ao cj f2=>⟨S,h2,μ2,ao,ak.mono ag g2,f2.bind λd3 h3 v3 H3 μ3 _ g3 aB eW f3=>⟨d2,d3,d,h3,μ3,aB,cj.mono ao g3,eW,(rd.mono ag g2).mono ao g3,f3.bind λ_ h4 _ H4 μ4 _ g4 cg _ f4=>f4.nx cg<|((ak.mono ag g2).mono ao g3).mono aB g4⟩⟩⟩
 |.npt o i e,h=>Zpe (P:=λx=>PS X x _) h λtg xe p2 h=>ZqM (P:=λt=>PS X (.Assign [t] _ _) _) h λxo xi p1 h=>
  (ZmY (pos:=p2) (Zk e G.toGd<|bL<|bR<|bR h) (Zrf (pos:=p1) (Zk o G.toGd<|bL h) (Zk i G.toGd<|bL<|bR h) (ZwK (Y:=Y) (E:=E) G.room G.gk.K)<|(kdE xi).put (of_decide_eq_true<|bL<|bR<|bR<|bR h) _ _ _) (by unfold swapsWithSole;exact ZeR<|bR<|bR<|bR<|bR h) rfl rfl).imp λD Z H s=>SmS.bind s λS d R v H1 μ1 ag ak rd f1=>
   ⟨S,R,μ1,ag,ak,f1.bind λd2 h2 v2 H2 μ2 _ g2 ao cj f2=>⟨S,h2,μ2,ao,ak.mono ag g2,f2.bind λd3 h3 v3 H3 μ3 _ g3 aB eW f3=>⟨d2,d3,d,h3,μ3,aB,cj.mono ao g3,eW,(rd.mono ag g2).mono ao g3,f3.bind λ_ h4 _ H4 μ4 _ g4 cg _ f4=>f4.nx cg<|((ak.mono ag g2).mono ao g3).mono aB g4⟩⟩⟩
 |.trr f es C b,h=>Zaz (P:=λx=>PS X x _) h λp h=>ZjZ (P:=λys=>PS X (.Try p.xs p.hs ys p.zs p.p) _) h λh=>ZjZ (P:=λzs=>PS X (.Try p.xs p.hs [] zs p.p) _) h λh=>Zyv (P:=λhs=>PS X (.Try p.xs hs [] [] p.p) _) (bL h) λnp j r q z hZ hg=>
  Za9 (P:=λxs=>PS X (.Try xs _ [] [] p.p) _) (bR h) λs h5=>Zaz (P:=λs=>PS X (.Try [s] _ [] [] p.p) _) h5 λp5 h5=>Zem (P:=λx=>PS X (.Try [.Expr x p5.p] _ [] [] p.p) _) h5 λfp ys cp h5=>Zsg (P:=λys=>PS X (.Try [.Expr (.Call (.Name f fp) ys [] cp) p5.p] _ [] [] p.p) _) (bL<|bR<|bR h5) (bR<|bR<|bR h5) λy ys h4=>ZvO G (of_decide_eq_true<|bL h5) (bL<|bR h5) hZ hg h4 (evs_ok es G.toGd.nox h4)
 |.aug i op e,h=>Zaz (P:=λx=>PS X x _) h λp h=>Zb9 (P:=λa=>PS X (.AugAssign a _ _ _) _) (bL h) λy py e1 e2=>dS (P:=λo=>PS X (.AugAssign _ o _ _) _) (bL<|bR h) <| dS (P:=λo=>PS X _<|Zpr T Y E<|.aug i o e) (bL<|bR<|bR h) <|
  (Zwh G.nd (by rw[G.N];exact e1) (G.ownD _ e2).1 (Zk e G.toGd<|bR<|bR<|bR h) Zxg (G.ownD _ e2).2).imp λD Z H s=>SmS.at s λS h B rh rs f=>by
   obtain⟨d,ed,f⟩:=ZW.ofO f;obtain⟨v,ev,rd⟩:=rs.var ed;refine⟨v,ev,S,h,B,rh,rs,ZW.bind f λd2 h2 v2 H2 μ2 _ g2 ao cj f2=>?_⟩;cases rd with
   |int a=>
    cases cj with
    |int b=>exact⟨a,b,rfl,rfl,ZW.nx f2 ao<|(rs.mono rh g2).set<|.int _⟩
    |_=>exact f2.elim
   |_=>exact f2.elim
 |.drp e,h=>Zaz (P:=λx=>PS X x _) h λp h=>(Ztl (Zk e G.toGd<|bL h)<|ZeR<|bR h).imp λD Z H s=>SmS.bind s λS d R v H1 μ1 ag ak rd f1=>f1.nx ag ak
 |.iff c a b,h=>Zaz (P:=λx=>PS X x _) h λp h=>(Zza (tst_ok c G.toGd<|bL h) (sts_ok a G<|bL<|bR h)<|sts_ok b G<|bR<|bR h).imp λD Z H s=>SmS.bind s λS t R v H1 μ1 ag ak rd f1=>by
  cases rd;cases t with
  |true=>exact ZlX ⟨S,R,μ1,ag,ak,f1⟩
  |false=>exact ZlY ⟨S,R,μ1,ag,ak,f1⟩
 |.whl c b,h=>Zaz (P:=λx=>PS X x _) h λp h=>ZjZ (P:=λys=>PS X (.While _ _ ys _) _) h λh=>(Zq6 G.own (tst_ok c G.toGd<|bL h)<|sts_ok b G<|bR h).imp λD Z H s=>ZvC s
 |.forr g it b,h=>Zaz (P:=λx=>PS X x _) h λp h=>ZjZ (P:=λys=>PS X (.For _ _ _ ys _) _) h λh=>(Zwf G.own G.calm (evi_ok it G.toGd<|bL h) (Zoo (X:=X) G.N G.nd G.calm G.ownD<|bL<|bR<|bR h) (sts_ok b G<|bR<|bR<|bR h)<|ZmO X.env<|bL<|bR h).imp λD Z H s=>SmS.bind s λS w R qa H1 μ1 ag ak wj f1=>Zxq G.gk.K ag ak wj f1
 |.pas,h=>Zaz (P:=λx=>PS X x _) h λp h=>Ztk.imp λD Z H s=>SmS.at s λS h B rh rs f=>ZW.nx f rh rs
 |.brk,h=>Zaz (P:=λx=>PS X x _) h λp h=>Zra.imp λD Z H s=>SmS.at s λS h B rh rs f=>f H B Gr.refl rh Z rs
 |.cnt,h=>Zaz (P:=λx=>PS X x _) h λp h=>ZlF.imp λD Z H s=>SmS.at s λS h B rh rs f=>f H B Gr.refl rh Z rs
 |.any,h=>λaa s Z H D I s=>SmS.at s λS h B rh rs f=>f.elim
 |.rai C e,h=>Zaz (P:=λx=>PS X x _) h λp h=>Zrx (P:=λc=>PS X (.Raise _ c _) _) h λh=>ZkD (P:=λo=>PS X (.Raise o _ _) _) h λx h=>by
  unfold Zvr at h;exact Zem (P:=λx=>PS X (.Raise (J x) _ _) _) h λnp ys q h=>Za9 (P:=λys=>PS X (.Raise (J<|.Call _ ys _ _) _ _) _) h λy h=>by obtain⟨ca,m,xo⟩:=G.xcs _<|of_decide_eq_true<|bL h;have st:=Zu (xs:=[]) X.env<|bL<|bR<|bR h;exact(Zq9 G.rz G.calm PySem.F.excBase_ValueError (G.gl<|bL<|bR h).1 m xo.own (Zb7 (Zk e G.toGd<|bR<|bR<|bR h) ZfJ st) (G.gl<|bL<|bR h).2 st rfl).imp λD Z H s=>SmS.bind s λS d R v H1 μ1 ag ak rd f1=>⟨by show 1<=Yc;decide,f1 H1 μ1 ca Gr.refl ag (by rw[G.gk.mg];exact m)⟩
 |.seta Cs o f e,h=>Zpe (P:=λx=>PS X x _) h λtg xe pos h=>ZuR (P:=λt=>PS X (.Assign [t] _ _) _) h λxo q h=>(Zwg (Zk o G.toGd<|bL h) (Zk e G.toGd<|bL<|bR h)<|ZeR<|bL<|bR<|bR h).imp λD Z H s=>SmS.bind s λS d R v H1 μ1 ag ak rd f1=>⟨S,R,μ1,ag,ak,ZW.bind f1 λd2 h2 v2 H2 μ2 _ g2 ao cj f2=>ZqI (Q:=λ_ H'=>D.nx Z H') G.toGd (bL<|bR<|bR<|bR h) (of_decide_eq_true<|bR<|bR<|bR<|bR h) ao cj (rd.mono ag g2)<|ZW.bind f2 λ_ h3 _ H3 μ3 _ g3 aB _ f3=>f3.nx aB<|(ak.mono ag g2).mono ao g3⟩
 |.auga Cs o f e,h=>Zaz (P:=λx=>PS X x _) h λp h=>dS (P:=λo=>PS X (.AugAssign _ o _ _) _) (bL h) <| ZuR (P:=λt=>PS X (.AugAssign t _ _ _) _) (bR h) λxo q h=>(Zpx (Zk o G.toGd<|bL h) (Zk e G.toGd<|bL<|bR h) Zxi).imp λD Z H s=>SmS.bind s λS d R x H1 μ1 ag ak rd f1=>ZxW G.toGd (bL<|bR<|bR h) (of_decide_eq_true<|bR<|bR<|bR h) ag ak rd f1
theorem sts_ok(s:Sxs){Γ:Gm}{X:Cx}{E:XK}{k:Nat}{x:List Stmt}(G:GdS T Γ X Y E k)(h:chkSs Γ s x=Wq):PSs X x (ZqK T Y E s):=match s,x,h with
 |.nil,[],h=>Ztj.imp λD Z H s=>SmS.at s λS h B rh rs f=>ZW.nx f rh rs
 |.nil,_::_,h=>ff h
 |.trq _ _ _ _ _ _ _ _ _,x,h=>ff h
 |.cons s r,[],h=>ff h
 |.cons s r,x::xs,h=>(Zq5 (ZyN s G<|bL h)<|sts_ok r G<|bR h).imp λD Z H s=>SmS.at s λS h B rh rs f=>⟨S,h,B,rh,rs,ZW.part f λp R H1 μ1 _ g1 ag f1=>by
     obtain⟨fl,ρ1⟩:=p;cases fl with
     |nx=>exact λσ' bP=>⟨ρ1,R,μ1,ag,bP,f1⟩
     |bk=>exact λσ' bP=>f1 H1 μ1 Gr.refl ag σ' bP
     |ct=>exact λσ' bP=>f1 H1 μ1 Gr.refl ag σ' bP
     |rt d=>exact λv rv=>f1 H1 μ1 Gr.refl ag v rv⟩
end
set_option tactic.hygienic false
structure BodyOk(K:Yl)(kl:Kl)(fs:List Str)(x q:Str)(fd:Fd)(st:Stmt)(f:Yj)(av:FuncData):Prop where
 fn:Fun K x q st f av
 sc:FnScope fd.N fd.ps (ZX st)
 hb:∀(kV aW pm:Yk) (an:Option Yj) (aM ct:Yk) (us:List Yk),us.length=fd.ps.length->bindArgs (PySem.W.fnOf x q (Ze0 st) (Zck st) (ZX st) .none kV aW pm an aM ct) ⟨us,[]⟩=pure (fd.ps.zip us)
 ck:chkSs ⟨fd.N,ZX st,fs,Wq,kl⟩ fd.body (Zck st)=Wq
structure DefOk(K:Yl)(mg:Str->Option Yk)(kl:Kl)(fs:List Str)(x z:Str)(fd:Fd)(st:Stmt)(f:Yj)(av:FuncData):Prop where
 bd:BodyOk K kl fs z z fd st f av
 mg:mg x=J (.ref f)
structure Md(Pr:Yi)(w:Yh)(K:Yl)(mg:Str->Option Yk)(P:Pg)(kl:Kl):Prop where
 bare:Zic K=Wq
 gd:∀x kvs,P.GD x=J kvs->∃a aj,mg x=J (.ref a)/\DkK Pr w K a aj/\∀H B,RKs ⟨K,mg⟩ H B kvs aj
 g:∀x d,P.G x=J d->∃v u,mg x=J u/\RelV v u/\∀H B,RD ⟨K,mg⟩ H B d v
 blt:∀x∈Zpa,mg x=M
 defs:∀x fd,P.tb.lookup x=J fd->∃z st f av,DefOk K mg kl (P.tb.map (·.1)) x z fd st f av
 cls:∀C∈kl.cs,∃a,mg C=J (.ref a)/\Cls K a/\∀f∈kl.ats,Za5 K a f
 mts:∀p∈kl.ms,∃a f av fd st q,mg p.1=J (.ref a)/\Cls K a/\Meth K a p.2 f/\P.look (mnm p.1 p.2)=J fd/\BodyOk K kl (P.tb.map (·.1)) p.2 q fd st f av
 mks:∀C∈kl.is,∃a f av fd st q,mg C=J (.ref a)/\Mk K a f/\P.look (mnm C<|O "__init__")=J fd/\BodyOk K kl (P.tb.map (·.1)) (O "__init__") q fd st f av
 xcs:∀C∈kl.xs,∃a,mg C=J (.ref a)/\XOk K a
 xas:∀p∈kl.xa,∃a b,mg p.1=J (.ref a)/\mg p.2=J (.ref b)/\XAs K a b
 xis:∀p∈kl.xi,∃b v,mg p.1=J (.ref b)/\ClV mg p.2.1 v/\PySem.W.kitOne K (.ref b) v=J p.2.2
def ZqD(r:RDs Y H B ds vs):RS Y H B (ZG N ds) (L2.start N vs):=by
 refine⟨by simp[ZG,L2.start,r.length],λi d e=>?_⟩;unfold ZG at e;unfold L2.start;by_cases a:i<ds.length
 . rw[Oe<|by simp_all,On]at e;rw[Oe<|by simpa[<-r.length]using a];obtain⟨g,b,c⟩:=Oo.mp e;cases c;obtain⟨v,R,f⟩:=r.get b;exact⟨v,by simp_all,f⟩
 . rw[Om<|by simp_all]at e;have:=O1 e
   simp_all
def Zs0(f:Fin Y (RD Y) H B (Zn r) Q E):ZW Y H B r {nx:=λ_ H'=>Q .non H',rt:=Q} E:=by
 cases r with
 |bad=>trivial
 |exc c h=>exact f
 |ok p h=>
  obtain⟨b,S⟩:=p;cases b with
  |nx=>exact λH' μ' g a σ' _=>f _ _ _ g a .non
  |bk=>trivial
  |ct=>trivial
  |rt d=>exact λH' μ' g a v e=>f v _ _ g a e
section
variable {Pr:Yi}{w:Yh}{K:Yl}{mg:Str->Option Yk}{base:YG}{P:Pg}{kl:Kl}
def ZkG(h:P.tb.lookup x=J fd):P.look x=J fd:=by unfold Pg.look;rw[h]
def ZqF(hl:P.look x=J fd)(h:Zg6 (P.tbl n) ⟨K,mg⟩ x vs H Q E):vs.length=fd.ps.length:=by
 obtain⟨a,h,B,b,rs,f⟩:=h;cases n with
 |zero=>exact f.elim
 |succ n=>have f:Fin _ _ H _ (run P _ x _ h) Q E:=f;rw[run,hl]at f;obtain⟨c,_⟩:=f.iff;rw[<-rs.length];trivial
structure Lev(Pr:Yi)(w:Yh)(K:Yl)(mg:Str->Option Yk)(base:YG)(P:Pg)(kl:Kl)(n:Nat):Prop where
 defs:∀y∈P.tb.map (·.1),∃ps,Def Pr w K mg base (2*n+61) y ps (Zg6 (P.tbl n) ⟨K,mg⟩ y)
 mts:∀p∈kl.ms,∃a f fd ps,mg p.1=J (.ref a)/\Cls K a/\Meth K a p.2 f/\FnOk Pr w K mg base (CXF Pr w) (2*n+61) f fd ps (Zg6 (P.tbl n) ⟨K,mg⟩<|mnm p.1 p.2)/\Binds K fd ps []
 mks:∀C∈kl.is,∃a f fd ps,mg C=J (.ref a)/\Mk K a f/\FnOk Pr w K mg base (CXF Pr w) (2*n+61) f fd ps (Zg6 (P.tbl n) ⟨K,mg⟩<|mnm C<|O "__init__")/\Binds K fd ps []
def ZkV(qb:Md Pr w K mg P kl){x nm q}{fd}{st}{f}{av}(hl:P.look x=J fd)(o:BodyOk K kl (P.tb.map (·.1)) nm q fd st f av):
 ∀n,Lev Pr w K mg base P kl n->FnOk Pr w K mg base (CXF Pr w) (2*(n+1)+61) f av fd.ps (Zg6 (P.tbl<|n+1) ⟨K,mg⟩ x):=by
 intro n a;obtain⟨m,p,kV,r,t,an,u,v,C,rfl,e,i⟩:=o.fn.ex;refine Zz1 e i o.sc (λvs H Q E h=>ZqF hl h) λA b s H vs Q E c j=>Zuy (sts_ok _ (k:=2*n+61) (Γ:=⟨fd.N,ZX _,_,_,_⟩) ⟨⟨⟨rfl,rfl,qb.gd,qb.g,qb.bare⟩,rfl,λ_=>rfl,λy hy=>?_,λy hy=>hy,o.sc.nd,rfl,c.mono<|by lia,by lia,ZtB λ_ _ z=>z,a.defs,qb.blt,c,qb.cls,a.mts,a.mks⟩,rfl,λ_=>rfl,PassesOwn.leaving,?_,ZqP,rfl,rfl,qb.xcs,qb.xas,qb.xis⟩ o.ck) ?_
 . unfold ZsP at hy;rw[Wn,Wn]at hy;rcases hy with (hy|hy)|hy
   . exact .inl (of_decide_eq_true hy)
   . exact .inr (.inl<|of_decide_eq_true hy)
   . exact .inr (.inr<|of_decide_eq_true hy)
 . show(if (ZX st).kind.isAnnotationScope then ScopeKind.function else(ZX st).kind)=.function;rw[o.sc.kind];rfl
 . obtain⟨d,h,B,l,rs,f⟩:=j;have f:Fin ⟨K,mg⟩ (RD ⟨K,mg⟩) H B (run P (n+1) x d h) Q E:=f;rw[run,hl]at f;exact⟨ZG fd.N d,h,B,l,ZqD rs,Zs0 f.iff.2⟩
def mem_lookup{α:Type}{l:List (Str×α)}{x}(h:x∈l.map (·.1)):∃a,l.lookup x=J a:=by
 induction l with
 |nil=>simp_all
 |cons p r b=>
  rw[OF];by_cases e:x=p.1
  . simp_all
  . have:(x==p.1)=Ws:=by simpa using e
    rw[this];exact b (by simp_all)
def ZkO{x}{fd}{f}{av}(hl:P.look x=J fd):FnOk Pr w K mg base (CXF Pr w) (2*0+61) f av fd.ps (Zg6 (P.tbl 0) ⟨K,mg⟩ x):=⟨λvs H Q E h=>ZqF hl h,by rintro A outer s H args us vs Q E _ _ _ _⟨ds,h,B,rh,rs,f⟩;exact f.elim⟩
def ZsG(qb:Md Pr w K mg P kl):∀n,Lev Pr w K mg base P kl n:=by
 intro n;induction n with
 |zero=>
  refine⟨λy g=>?_,λp h=>?_,λC i=>?_⟩
  . obtain⟨d,b⟩:=mem_lookup g;obtain⟨_,st,f,e,o⟩:=qb.defs y _ b;exact⟨_,f,_,o.mg,o.bd.fn.kp,o.bd.fn.binds o.bd.hb,ZkO<|ZkG b⟩
  . obtain⟨a,f,e,d,st,q,m,c,me,b,o⟩:=qb.mts p h;exact⟨a,f,_,_,m,c,me,ZkO b,o.fn.binds o.hb⟩
  . obtain⟨a,f,e,d,st,q,m,me,b,o⟩:=qb.mks C i;exact⟨a,f,_,_,m,me,ZkO b,o.fn.binds o.hb⟩
 |succ n j=>
  refine⟨λy g=>?_,λp h=>?_,λC i=>?_⟩
  . obtain⟨d,b⟩:=mem_lookup g;obtain⟨_,st,f,e,o⟩:=qb.defs y _ b;exact⟨_,f,_,o.mg,o.bd.fn.kp,o.bd.fn.binds o.bd.hb,ZkV qb (ZkG b) o.bd n j⟩
  . obtain⟨a,f,e,d,st,q,m,c,me,b,o⟩:=qb.mts p h;exact⟨a,f,_,_,m,c,me,ZkV qb b o n j,o.fn.binds o.hb⟩
  . obtain⟨a,f,e,d,st,q,m,me,b,o⟩:=qb.mks C i;exact⟨a,f,_,d.ps,m,me,ZkV qb b o n j,o.fn.binds o.hb⟩
def Zw0(qb:Md Pr w K mg P kl){x}{a}{fd}{fa}(n)(hl:P.tb.lookup x=J fd)(fB:fd.ps=[a])(hm:mg x=J (.ref fa)):
 ∃av:FuncData,(∀(s) (v),BindsTo s av ⟨[v],[]⟩ [(a,v)])/\∀base ,FnOk Pr w K mg base (CXF Pr w) (2*(n+1)+61) fa av [a] (Zg6 (P.tbl<|n+1) ⟨K,mg⟩ x):=by
 obtain⟨_,st,f,av,o⟩:=qb.defs x _ hl;have e:=hm.symm.I o.mg;cases e;refine⟨_,λs v=>?_,λbase=>fB▸ZkV qb (ZkG hl) o.bd n (ZsG qb n)⟩;obtain⟨h,i,kV,b,c,an,d,g,j,rfl,k,l⟩:=o.bd.fn.ex;have:=o.bd.hb kV b c an d g [v] (by rw[fB];rfl);rw[fB]at this;exact BindsTo.of_eq this
end
def Zyo{α:Type}{us:List α}(h:us.length=0):us=[]:=List.length_eq_zero_iff.mp h
def Zpi{α:Type}{us:List α}{n}(h:us.length=n+1):∃a r,us=a::r/\r.length=n:=by
 cases us with
 |nil=>cases h
 |cons a r=>exact⟨a,r,rfl,Nat.succ.inj h⟩
def Zyn{α:Type}{us:List α}(h:us.length=1):∃a0,us=[a0]:=by obtain⟨a0,r,rfl,a⟩:=Zpi h;exact⟨_,by rw[Zyo a]⟩
def Zym{α:Type}{us:List α}(h:us.length=2):∃a0 a1,us=[a0,a1]:=by obtain⟨a0,r,rfl,a⟩:=Zpi h;obtain⟨a1,rfl⟩:=Zyn a;exact⟨_,_,rfl⟩
def Zyl{α:Type}{us:List α}(h:us.length=3):∃a0 a1 a2,us=[a0,a1,a2]:=by obtain⟨a0,r,rfl,a⟩:=Zpi h;obtain⟨a1,a2,rfl⟩:=Zym a;exact⟨_,_,_,rfl⟩
def Zyk{α:Type}{us:List α}(h:us.length=4):∃a0 a1 a2 a3,us=[a0,a1,a2,a3]:=by obtain⟨a0,r,rfl,a⟩:=Zpi h;obtain⟨a1,a2,a3,rfl⟩:=Zyl a;exact⟨_,_,_,_,rfl⟩
def Zyj{α:Type}{us:List α}(h:us.length=5):∃a0 a1 a2 a3 a4,us=[a0,a1,a2,a3,a4]:=by obtain⟨a0,r,rfl,a⟩:=Zpi h;obtain⟨a1,a2,a3,a4,rfl⟩:=Zyk a;exact⟨_,_,_,_,_,rfl⟩
def ZAI{α:Type}{us:List α}(h:us.length=6):∃a0 a1 a2 a3 a4 a5,us=[a0,a1,a2,a3,a4,a5]:=by obtain⟨a0,r,rfl,a⟩:=Zpi h;obtain⟨a1,a2,a3,a4,a5,rfl⟩:=Zyj a;exact⟨_,_,_,_,_,_,rfl⟩
set_option tactic.hygienic true
def All(p:α->Prop):List α->Prop
 |[]=>True
 |a::l=>p a/\All p l
theorem All.mem:∀{l:List α},All p l->∀a∈l,p a
 |[],_,a,h=>by simp_all
 |b::l,⟨_,c⟩,a,h=>by
  rcases O2.mp h with rfl|h
  . trivial
  . exact All.mem c a h
def lookup_mem{α:Type}{l:List (Str×α)}{a}(h:l.lookup x=J a):(x,a)∈l:=by
 induction l with
 |nil=>cases h
 |cons p r b=>
  rw[OF]at h;by_cases e:x=p.1
  . have:(x==p.1)=Wq:=by simpa using e
    rw[this]at h;cases h
    simp_all
  . have:(x==p.1)=Ws:=by simpa using e
    simp_all
def spL(K:Yl):Sp:=λvs H Q _=>∃(a:Yj) (b:List Int),vs=[.ref a]/\SqL K H a (b.map V.int)/\b.length<=63/\ZuS H/\∀H',Q (.bl Wq) H'
theorem ZoL:∀ns:List _,RDs Y H B (ns.map D.int) (ns.map V.int)
 |[]=>.nil
 |n::r=>.cons (.int n) (ZoL r)
def Zyi{l:PySem.W.OpenLaw}{q}{aZ}{XP}{YP}{d}{K:Params->Yl}{P}{kl}{fd}(n)(hn:l.most=J 63)(fL:d.params.defaults=[])(hd:d.name=O "law")(hr:Room (2*(n+1)+61) callerA)
 (hY:∀(w) (h),YP w h->(K w.params).In h) (hl:P.tb.lookup (O "law")=J fd) (fB:fd.ps=[O "_law_script"])
 (iq:∀ns:List _,ns.length<=63->∃h',run P (n+1) (O "law") [.ro<|ns.map .int] []=.ok (.bl Wq) h')
 (qb:∀(w) (mg) (h),(K w.params).In h->h.Ns Ye mg->Md l.prog w (K w.params) mg P kl) :
 PySem.W.WalkO q aZ XP YP l.row.toRowW d [] (λf vs=>PySem.call f vs):=by
 refine L2.ZsO (x := "_law_script") (CX:=λw=>CXF l.prog w) (sp:=λw=>spL _) hn (by decide) fL hr hY (λw mg u h KX G j=>?_) (λ_ _ a ns hl g hS=>⟨a,_,rfl,hS,hl,g,λ_=>rfl⟩) λ_ _ _ _ _ z=>by obtain⟨_,_,_,_,_,_,_,_,_,_,_,_,_,z⟩:=z;exact z
 rw[hd]at j;obtain⟨k,m,F⟩:=Zw0 (qb w _ h KX G) n hl fB j;refine⟨k,m,λc _ _=>(F c).imp λvs H Q E p=>?_⟩;obtain⟨a,ns,rfl,hS,s,g,t⟩:=p;obtain⟨h',e⟩:=iq ns s;refine⟨[.ro<|ns.map .int],[],[],⟨rfl,.nil,λi o a e=>by trivial,λi o e=>by trivial⟩,.cons (.ro ?_<|ZoL ns) .nil,?_⟩
 . rcases hS with hS|hS
   . rcases hS with hS|hS
     . rcases g a with z|⟨o,v,z⟩<;>(simp_all)
     . exact .inl hS
   . exact .inr hS
 . show Fin _ _ H [] (run P (n+1) (O "law") [.ro<|ns.map .int] []) Q E;rw[e];exact λb H' μ' _ _ r=>by cases r;exact t H'
def Zu5{K:Yl}(h:K.lookup a=J ⟨.type "tuple",od,.seq its n,sl⟩)(hz:its.size<=Yc)(r:Zs vs its.toList):SqT K H a vs:=
 .inr ⟨_,_,n,h,rfl,rfl,hz,r⟩
end IV
namespace IV
open PySem L2 PyProof.Rows
section
structure Chk(kl:Kl)(fs:List Str)(x q:Str)(fd:Fd)(st:Stmt):Prop where
 sc:FnScope fd.N fd.ps (ZX st)
 hb:∀(kV aW pm:Yk) (an:Option Yj) (aM ct:Yk) (us:List Yk),us.length=fd.ps.length->bindArgs (PySem.W.fnOf x q (Ze0 st) (Zck st) (ZX st) .none kV aW pm an aM ct) ⟨us,[]⟩=pure (fd.ps.zip us)
 ck:chkSs ⟨fd.N,ZX st,fs,Wq,kl⟩ fd.body (Zck st)=Wq
variable {K:Yl}{h:YG}{mg:Str->Option Yk}{kl:Kl}{fs:List Str}{x z q C:Str}{fd:Fd}{st:Stmt}{ca:Yj}{P:Pg}
def Chk.bd(c:Chk kl fs x q fd st)(F:Fun K x q st f av):BodyOk K kl fs x q fd st f av:=⟨F,c.sc,c.hb,c.ck⟩
def Zx3(K:Yl)(x z:Str)(st:Stmt):Prop:=∃f a,Ym K Ye x=J (J<|.ref f)/\Fun K z z st f a
def ZnS(K:Yl)(ca:Yj)(x q:Str)(st:Stmt):Prop:=∃f a,YJ K (.ref ca) x=J (J<|.ref f)/\PySem.W.isFn K (.ref f)=Wq/\Wa K (.ref f)=Wq/\Fun K x q st f a
def Zus(X:K.In h)(G:h.Ns Ye mg)(d:Zx3 K x z st)(c:Chk kl fs z z fd st):∃z st f av,DefOk K mg kl fs x z fd st f av:=by obtain⟨f,av,a,F⟩:=d;exact⟨z,_,f,_,c.bd F,YO X G a⟩
def Zt1(X:K.In h)(G:h.Ns Ye mg)(y:Ym K Ye C=J (J<|.ref ca))(cl:Cls K ca)(d:ZnS K ca x q st)(c:Chk kl (P.tb.map (·.1)) x q fd st)(e:P.look (mnm C x)=J fd):∃a f av fd st q,mg C=J (.ref a)/\Cls K a/\Meth K a x f/\P.look (mnm C x)=J fd/\BodyOk K kl (P.tb.map (·.1)) x q fd st f av:=by obtain⟨f,av,b,g,i,F⟩:=d;exact⟨_,f,_,_,_,q,YO X G y,cl,⟨b,g,i⟩,e,c.bd F⟩
def ZrE(X:K.In h)(G:h.Ns Ye mg)(y:Ym K Ye C=J (J<|.ref ca))(m:PySem.W.makesIn K ca=Wq)(k:Wa K (.ref ca)=Wq)(d:ZnS K ca (O "__init__") q st)(c:Chk kl (P.tb.map (·.1)) (O "__init__") q fd st)(e:P.look (mnm C<|O "__init__")=J fd):∃a f av fd st q,mg C=J (.ref a)/\Mk K a f/\P.look (mnm C<|O "__init__")=J fd/\BodyOk K kl (P.tb.map (·.1)) (O "__init__") q fd st f av:=by obtain⟨f,av,b,g,i,F⟩:=d;exact⟨_,f,_,_,_,q,YO X G y,⟨m,b,g,k⟩,e,c.bd F⟩
end
section
noncomputable abbrev Ml:=Str×Str×Fd×Nat×Nat
variable {K:Yl}{h:YG}{mg:Str->Option Yk}{kl:Kl}{fs:List Str}{C:Str}{ca:Yj}{P:Pg}
theorem All.app{α:Type}{p}{b}:∀{a:List α},All p a->All p b->All p (a++b)
 |[],_,c=>c
 |_::_,d,c=>⟨d.1,d.2.app c⟩
theorem ZoX(X:K.In h)(G:h.Ns Ye mg){top:Nat->Stmt}:∀{l:List (Str×Str×Fd×Nat)},All (λp=>Zx3 K p.1 p.2.1<|top p.2.2.2) l->All (λp=>Chk kl fs p.2.1 p.2.1 p.2.2.1<|top p.2.2.2) l->All (λp=>∃z st f av,DefOk K mg kl fs p.1 z p.2 st f av) (l.map λp=>(p.1,p.2.2.1))
 |[],_,_=>trivial
 |_::_,d,c=>⟨Zus X G d.1 c.1,ZoX X G d.2 c.2⟩
theorem ZkF(X:K.In h)(G:h.Ns Ye mg)(y:Ym K Ye C=J (J<|.ref ca))(cl:Cls K ca){mt:Nat->Nat->Stmt}:∀{l:List Ml},All (λp=>ZnS K ca p.1 p.2.1<|mt p.2.2.2.1 p.2.2.2.2) l->All (λp=>Chk kl (P.tb.map (·.1)) p.1 p.2.1 p.2.2.1<|mt p.2.2.2.1 p.2.2.2.2) l->All (λp=>P.look (mnm C p.1)=J p.2.2.1) l->All (λp:Str×Str=>∃a f av fd st q,mg p.1=J (.ref a)/\Cls K a/\Meth K a p.2 f/\P.look (mnm p.1 p.2)=J fd/\BodyOk K kl (P.tb.map (·.1)) p.2 q fd st f av) (l.map λp=>(C,p.1))
 |[],_,_,_=>trivial
 |_::_,d,c,e=>⟨Zt1 X G y cl d.1 c.1 e.1,ZkF X G y cl d.2 c.2 e.2⟩
theorem ZlM(X:K.In h)(G:h.Ns Ye mg):∀{l},All (λx=>Ym K Ye x=J M) l->All (λx=>mg x=M) l
 |[],_=>trivial
 |_::_,d=>⟨PySem.W.mg_none_of X G d.1,ZlM X G d.2⟩
end
end IV
namespace IV
open PySem L2
set_option tactic.hygienic false
theorem ZkC(h:Str.ofString a=Str.ofString b):a=b:=by
 have e:∀ s ,(Str.ofString s).cps.toList=s.toList.map _:=λs=>by
   show (cpsOfBytes 0 0 _).toArray.toList=_;rw [cpsOfBytes_string]
 have R:=congrArg (λs=>s.cps.toList) h;simp [e] at R;exact String.toList_inj.mp (by
   have inj:∀ {x y:Char},x.toNat=y.toNat->x=y:=λ{x y} q=>Char.ext<|UInt32.toNat_inj.mp q;exact(List.map_inj_right λx y q=>inj q).mp R)
@[simp]def ofString_eq(a b):(Str.ofString a=Str.ofString b)↔a=b:=⟨ZkC,λh=>h▸rfl⟩
@[simp]def ZtW(a b):(Str.ofString a==Str.ofString b)=(a==b):=by rw[Bool.eq_iff_iff];simp
def Un(k:γ):Type:=Unit
noncomputable def un:Un k:=()
def qd.bnd(r:qd α)(k:α->Hd->qd β)(u:Un k:=un):qd β:=r.bind k
@[simp]def Zz:qd.bnd (.ok a h) k u=k a h:=rfl
@[simp]def ZAC:qd.bnd (qd.bad:qd α) k u=.bad:=rfl
section
variable {T:Tb}{S:Ev}{h:Hd}
@[simp]def bind_ok:(qd.ok a h).bind k=k a h:=rfl
@[simp]def bind_bad:(qd.bad:qd α).bind k=.bad:=rfl
@[simp]def ofO_some:qd.ofO (J a) h=.ok a h:=rfl
@[simp]def ZpA:(qd.ok a h).plain=.ok a h:=rfl
@[simp]def Zr4{i}:ev T (.var i) S h=qd.ofO (S[i]?).join h:=rfl
@[simp]def Zxz{d}:ev T (.cst d) S h=.ok d h:=rfl
@[simp]def Zr8{x}:ev T (.glo x) S h=qd.ofO (T.G x) h:=rfl
@[simp]def ZxB{op a b}:ev T (.bin op a b) S h=(ev T a S h).bnd λx R=>(ev T b S R).bnd λy h2=>opB op x y h2:=rfl
@[simp]def ZBG{op a b}:ev T (.cmp op a b) S h=(ev T a S h).bnd λx R=>(ev T b S R).bnd λy h2=>opC T.GD op x y h2:=rfl
@[simp] theorem ZBE{a}:ev T (.neg a) S h=(ev T a S h).bnd λx R=>match x with
 |.int i=>.ok (.int<|-i) R
 |_=>.bad:=rfl
@[simp] theorem ZBU{a}:ev T (.nt a) S h=(ev T a S h).bnd λx R=>match x with
 |.bl b=>.ok (.bl<|!b) R
 |_=>.bad:=rfl
@[simp]def ZkT{es}:ev T (.ands es) S h=evAnd T es S h:=rfl
@[simp]def Zr6{es}:ev T (.ors es) S h=evOr T es S h:=rfl
@[simp]def Zx8{e}:evAnd T (.cons e .nil) S h=ev T e S h:=rfl
@[simp] theorem Zhe{e e' r}:evAnd T (.cons e<|.cons e' r) S h=(ev T e S h).bnd λx R=>match x with
 |.bl Wq=>evAnd T (.cons e' r) S R
 |.bl Ws=>.ok (.bl Ws) R
 |_=>.bad:=rfl
@[simp]def Zr9{e}:evOr T (.cons e .nil) S h=ev T e S h:=rfl
@[simp] theorem Zma{e e' r}:evOr T (.cons e<|.cons e' r) S h=(ev T e S h).bnd λx R=>match x with
 |.bl Wq=>.ok (.bl Wq) R
 |.bl Ws=>evOr T (.cons e' r) S R
 |_=>.bad:=rfl
@[simp]def ZBF{c a b}:ev T (.ite c a b) S h=(tst T c S h).bnd λc R=>if c then ev T a S R else ev T b S R:=rfl
@[simp]def ZAA{es}:ev T (.tupl es) S h=(evs T es S h).bnd λxs R=>if xs.length<=Yc then .ok (.tup xs) R else .bad:=rfl
@[simp]def Zup{es}:ev T (.lstl es) S h=(evs T es S h).bnd λxs R=>if xs.length<=Yc then ZcW (.lst xs) R else .bad:=rfl
@[simp]def ZoT{a i}:ev T (.ix a i) S h=(ev T a S h).bnd λx R=>(ev T i S R).bnd λy h2=>ZaR T.GD x y h2:=rfl
@[simp]def Zj4{a lo hi}:ev T (.sl a lo hi) S h=(ev T a S h).bnd λx R=>(evo T lo S R).bnd λl h2=>(evo T hi S h2).bnd λu h3=>Zis x l u h3:=rfl
@[simp]def ZBH{f es}:ev T (.blt f es) S h=(evs T es S h).bnd λxs R=>Zan T.GD f xs R:=rfl
@[simp]def ZoV{f es}:ev T (.call f es) S h=(evs T es S h).bnd λxs R=>T.C f xs R:=rfl
@[simp]def Zuo{m o es}:ev T (.meth m o es) S h=(ev T o S h).bnd λx R=>if Zhx x R then(evs T es S R).bnd λxs h2=>ZbM m x xs h2 else .bad:=rfl
@[simp]def ZoU{NC js it g c e}:ev T (.comp NC js it g c e) S h=(evi T it S h).bnd λw R=>(ZF w.src g (tsto T c) (ev T e) w.xs (ZbQ js S) [] R).bnd λxs h2=>ZcW (.lst xs) h2:=rfl
@[simp]def ZAB{e d}:ev T (.maxd e d) S h=(ev T e S h).bnd λx R=>(ev T d S R).bnd λy h2=>Zpd x y h2:=rfl
@[simp] theorem Zeh{ps}:ev T (.dictl ps) S h=(evs T ps S h).bnd λxs R=>match ZaX xs with
 |some a=>if a.length<=15 then ZcW (.dic<|Zbi [] a) R else .bad
 |none=>.bad:=rfl
@[simp]def Zi0{Cs o f}:ev T (.att Cs o f) S h=(ev T o S h).bnd λx R=>ZfM Cs f x R:=rfl
@[simp]def Zvj{C es}:ev T (.mk C es) S h=(evs T es S h).bnd λxs R=>Zm9 T.C C xs R:=rfl
@[simp] theorem Zxx{C m o es}:ev T (.mcl C m o es) S h=(ev T o S h).bnd λx R=>match ZZ x R with
 |some (C',fs)=>if C'=C/\fs.lookup m=M then(evs T es S R).bnd λa b=>T.C (mnm C m) (x::a) b else .bad
 |none=>.bad:=rfl
@[simp]def Zxy{e}:ev T (.lrv e) S h=(ev T e S h).bnd λx R=>ZAk x R:=rfl
@[simp]def Zql{Cs o f e}:xs1 T (.seta Cs o f e) S h=(ev T e S h).bnd λd R=>(ev T o S R).bnd λx h2=>(Zjy Cs f x d h2).bnd λ_ h3=>.ok (.nx,S) h3:=rfl
@[simp] theorem Zye{Cs o f e}:xs1 T (.auga Cs o f e) S h=(ev T o S h).bnd λx R=>(ZfM Cs f x R).bnd λv h2=>(ev T e S h2).bnd λy h3=>match v,y with
 |.int a,.int b=>if (ZZ x R).map (·.1)=(ZZ x h3).map (·.1)then(Zjy Cs f x (.int<|a+b) h3).bnd λ_ c=>.ok (.nx,S) c else .bad
 |_,_=>.bad:=rfl
@[simp]def ZoR:evs T .nil S h=.ok [] h:=rfl
@[simp]def Zl9{e es}:evs T (.cons e es) S h=(ev T e S h).bnd λx R=>(evs T es S R).bnd λxs h2=>.ok (x::xs) h2:=rfl
@[simp]def Zz3:evo T M S h=.ok M h:=rfl
@[simp] theorem Zr3{e}:evo T (J e) S h=(ev T e S h).bnd λx R=>match x with
 |.int i=>.ok (J i) R
 |_=>.bad:=rfl
@[simp]def Zqw{e}:tst T (.ex e) S h=(ev T e S h).bnd λx R=>qd.ofO (ZfF T.GD x R) R:=rfl
@[simp]def Zyr{ts}:tst T (.ands ts) S h=tstAnd T ts S h:=rfl
@[simp]def ZAw{ts}:tst T (.ors ts) S h=tstOr T ts S h:=rfl
@[simp]def Zko{a}:tst T (.nt a) S h=(tst T a S h).bnd λc R=>.ok (!c) R:=rfl
@[simp]def ZvL{t}:tstAnd T (.one t) S h=tst T t S h:=rfl
@[simp]def ZuY{t ts}:tstAnd T (.cons t ts) S h=(tst T t S h).bnd λc R=>if c then tstAnd T ts S R else .ok Ws R:=rfl
@[simp]def Zx6{t}:tstOr T (.one t) S h=tst T t S h:=rfl
@[simp]def ZvK{t ts}:tstOr T (.cons t ts) S h=(tst T t S h).bnd λc R=>if c then .ok Wq R else tstOr T ts S R:=rfl
@[simp]def Zpm:tsto T M S h=.ok Wq h:=rfl
@[simp]def Zx5{t}:tsto T (J t) S h=tst T t S h:=rfl
@[simp]def Znv{e}:evi T (.pl e) S h=(ev T e S h).bnd λx R=>qd.ofO (ZaW x R) R:=rfl
@[simp] theorem ZoS{e}:evi T (.rng e) S h=(ev T e S h).bnd λx R=>match x with
 |.int j=>if Zb6 j then .ok ⟨[],Zaj 0 j.toNat⟩ R else .bad
 |_=>.bad:=rfl
@[simp]def Zun{e}:evi T (.enu e) S h=(ev T e S h).bnd λx R=>qd.ofO ((ZjN x R).map λw=>⟨w.src,Zfz w.xs⟩) R:=rfl
@[simp]def ZAz{e}:evi T (.rev e) S h=(ev T e S h).bnd λx R=>qd.ofO ((ZjM x R).map λw=>⟨w.src,w.xs.reverse⟩) R:=rfl
@[simp]def ZAu{e}:xs1 T (.ret e) S h=(ev T e S h).bnd λx R=>.ok (.rt x,S) R:=rfl
@[simp]def Zkn{g e}:xs1 T (.set g e) S h=(ev T e S h).bnd λx R=>(qd.ofO (Zbu g x S) R).bnd λρ1 h2=>.ok (.nx,ρ1) h2:=rfl
@[simp]def ZnU{o i e}:xs1 T (.put o i e) S h=(ev T e S h).bnd λx R=>(ev T o S R).bnd λy h2=>(ev T i S h2).bnd λz h3=>(Z1 y z x h3).bnd λ_ h4=>.ok (.nx,S) h4:=rfl
@[simp]def ZsI{e}:xs1 T (.drp e) S h=(ev T e S h).bnd λ_ R=>.ok (.nx,S) R:=rfl
@[simp]def ZAv{c a b}:xs1 T (.iff c a b) S h=(tst T c S h).bnd λt R=>if t then xs2 T a S R else xs2 T b S R:=rfl
@[simp]def ZeQ{c b}:xs1 T (.whl c b) S h=ZU (tst T c) (xs2 T b) T.L S h:=rfl
@[simp]def Zyd{g it b}:xs1 T (.forr g it b) S h=(evi T it S h).bnd λw R=>ZY w.src g (xs2 T b) w.xs S R:=rfl
@[simp]def ZAt:xs2 T .nil S h=.ok (.nx,S) h:=rfl
@[simp] theorem Zqk{s r}:xs2 T (.cons s r) S h=(xs1 T s S h).bnd λp R=>match p with
 |(.nx,ρ1)=>xs2 T r ρ1 R
 |p=>.ok p R:=rfl
def Za(e:xs1 T s S h=.ok (.nx,ρ1) R):xs2 T (.cons s r) S h=xs2 T r ρ1 R:=by simp_all
def Zc(e:xs1 T s S h=.ok (.rt d,ρ1) R):xs2 T (.cons s r) S h=.ok (.rt d,ρ1) R:=by simp_all
@[simp]def ZAD{i d}:Zbu (.nm i) d S=J (S.set i<|J d):=rfl
@[simp]def Zsr{i j a b}:Zbu (.two i j) (.tup [a,b]) S=J ((S.set i<|J a).set j<|J b):=rfl
@[simp]def ZBc:Zn (.ok (.rt d,S) h)=.ok d h:=rfl
@[simp]def ZBd:Zn (.ok (.nx,S) h)=.ok .non h:=rfl
end
@[simp]def ZjS:seqOf (.tup xs) h=J xs:=rfl
@[simp]def Zzn:Zkx f (.int i) (.int j) h=.ok (.bl<|f i j) h:=rfl
section
variable {GD:Str->Option (List<|Key×D)}{h:Hd}
@[simp]def ZkA{x y}:opC GD .Eq x y h=ZbE Ws x y h:=rfl
@[simp]def Zkz{x y}:opC GD .NotEq x y h=ZbE Wq x y h:=rfl
@[simp]def ZBp{i j}:opC GD .Lt (.int i) (.int j) h=.ok (.bl<|Wu<|i<j) h:=rfl
@[simp]def ZBq{i j}:opC GD .LtE (.int i) (.int j) h=.ok (.bl<|Wu<|i<=j) h:=rfl
@[simp]def ZBs{i j}:opC GD .Gt (.int i) (.int j) h=.ok (.bl<|Wu<|j<i) h:=rfl
@[simp]def ZBt{i j}:opC GD .GtE (.int i) (.int j) h=.ok (.bl<|Wu<|j<=i) h:=rfl
@[simp]def ZBr{x}:opC GD .Is x .non h=.ok (.bl<|Wu<|x=.non) h:=rfl
@[simp]def Zrr{x}:opC GD .IsNot x .non h=.ok (.bl<|!Wu (x=.non)) h:=rfl
@[simp] theorem Zky{s n}:opC GD .NotIn (.str s) (.kd n) h=match GD n with
 |some a=>.ok (.bl<|!(Zw a<|.inr s).isSome) h
 |none=>.bad:=by
 show ZaC _ _ _ (.kd n) h=_;unfold ZaC;simp only[dicOf];cases GD n<;>rfl
def Zh9(ss:List _):(ss.map D.str).all D.flat=Wq:=by rw[OC];intro x a;obtain⟨s,_,rfl⟩:=List.mem_map.mp a;rfl
def any_words(ss:List _)(x):((ss.map D.str).any λz=>eqF z<|.str x)=Wu (x∈ss):=by
 induction ss with
 |nil=>rfl
 |cons s r a=>
  rw[Op,YZ,a];show((s==x)||decide _)=_;by_cases e:s=x
  . simp_all
  . have b:¬ x=s:=λq=>e q.symm
    simp_all
def ZaH{ss:List _}{x}:opC GD .In (.str x) (.tup<|ss.map .str) h=.ok (.bl<|Wu<|x∈ss) h:=by show ZaC GD _ _ (.tup _) h=_;unfold ZaC;rw[ZjS];simp only[Zh9,any_words];rfl
def Z2{ss:List _}{x}:opC GD .NotIn (.str x) (.tup<|ss.map .str) h=.ok (.bl<|!Wu (x∈ss)) h:=by show ZaC GD _ _ (.tup _) h=_;unfold ZaC;rw[ZjS];simp only[Zh9,any_words];rfl
@[simp]def Zzm{xs i}:ZaR GD (.tup xs) (.int i) h=qd.ofO (atI xs i) h:=rfl
@[simp]def ZAy{xs i}:ZaR GD (.ro xs) (.int i) h=qd.ofO (atI xs i) h:=rfl
@[simp] theorem ZtN{n s}:ZaR GD (.kd n) (.str s) h=match GD n with
 |some a=>qd.ofO (Zw a<|.inr s) h
 |none=>.bad:=rfl
def ZE{i k xs}(e:h[i]?=J (.lst xs)):ZaR GD (.ref i) (.int k) h=qd.ofO (atI xs k) h:=by unfold ZaR;simp[seqOf,lstOf,e]
@[simp]def ZBY{α:Type}{x}{l:List α}:atI (x::l) 0=J x:=by simp[atI,ixN]
def ZcH{α:Type}{l:List α}{k:Nat}:atI l k=l[k]? := by
 unfold atI ixN;by_cases a:k<l.length
 . simp_all
 . simp[a]
@[simp]def ZBX{α:Type}{x y}{l:List α}:atI (x::y::l) 1=J y:=ZcH
@[simp]def ZBW{α:Type}{x y z}{l:List α}:atI (x::y::z::l) 2=J z:=ZcH
@[simp]def ZBV{α:Type}{x y z w}{l:List α}:atI (x::y::z::w::l) 3=J w:=ZcH
def ZsC{α:Type}{l}{x:α}:atI (l++[x]) (-1)=J x:=by
 unfold atI ixN;rw[if_neg<|by decide,if_pos (by simp;lia)];have:(-1+((l++[x]).length:Int)).toNat=l.length:=by simp;lia
 simp_all
@[simp]def ZlJ{xs l u}:Zis (.tup xs) l u h=.ok (.tup<|cutD xs l u) h:=rfl
@[simp]def Zx9{x:D}{l:List D}:cutD (x::l) (J 1) M=l:=by simp[cutD,HT.sIx]
@[simp]def ZAx{b}:ZfF GD (.bl b) h=J b:=rfl
@[simp]def Zyu{i}:ZfF GD (.int i) h=J (i != 0):=rfl
@[simp]def Zys{xs}:ZfF GD (.tup xs) h=J (!xs.isEmpty):=rfl
@[simp]def Zyt:ZfF GD .non h=J Ws:=rfl
@[simp]def Zh5{i j}:opB .Add (.int i) (.int j) h=.ok (.int<|i+j) h:=rfl
@[simp]def ZtR{i j}:opB .Sub (.int i) (.int j) h=.ok (.int<|i-j) h:=rfl
def ZR(hj:0<j):opB .Mod (.int i) (.int j) h=.ok (.int<|i%j) h:=if_pos hj
def Zdd(hj:0<j/\j<1073741824):opB .FloorDiv (.int i) (.int j) h=.ok (.int<|i/j) h:=if_pos hj
def ZeV(hj:i.natAbs<2^2000/\j.natAbs<2^2000):opB .Mult (.int i) (.int j) h=.ok (.int<|i*j) h:=if_pos hj
def ZkB(hl:xs.length+ys.length<=Yc):opB .Add (.tup xs) (.tup ys) h=.ok (.tup<|xs++ys) h:=if_pos hl
@[simp]def Zd3:ZbE n (.str x) (.str y) h=.ok (.bl<|if n then !Wu (x=y)else Wu (x=y)) h:=rfl
@[simp]def Zit:ZbE n (.int x) (.int y) h=.ok (.bl<|if n then !Wu (x=y)else Wu (x=y)) h:=rfl
end
@[simp]def Zx7{xs:List D}(h:xs.length<=1000):xs.length<=Yc:=OE h (by decide)
def Ze(e:P.tb.lookup f=J fd)(hl:ds.length=fd.ps.length):run P (n+1) f ds h=Zn (xs2 ⟨P.G,P.GD,run P n,P.L⟩ fd.body (ZG fd.N ds) h):=by
 rw[run,show P.look f=J _ by unfold Pg.look;rw[e]]
 simp_all
def ZfG(hn:P.tb.lookup f=M)(e:P.ms.lookup f=J fd)(hl:ds.length=fd.ps.length):run P (n+1) f ds h=Zn (xs2 ⟨P.G,P.GD,run P n,P.L⟩ fd.body (ZG fd.N ds) h):=by
 rw[run,show P.look f=J _ by unfold Pg.look;rw[hn];exact e]
 simp_all
section
variable {h:Hd}{x y z:DO}{r:List DO}
@[simp]def ZL:(h++x::r)[h.length]?=J x:=by simp
@[simp]def ZsB:(h++x::y::r)[h.length+1]?=J y:=by simp
@[simp]def ZAn:(h++x::y::z::r)[h.length+2]?=J z:=by simp
@[simp]def Zy8:(h++x::r).set h.length o=h++o::r:=by simp
end
@[simp]def ZtZ:ZcW o h=.ok (.ref h.length) (h++[o]):=rfl
section
variable {h:Hd}
def Za7(e:h[i]?=J (.lst ys))(hz:ys.length<Yc):ZbM .app (.ref i) [d] h=.ok .non (h.set i<|.lst<|ys++[d]):=by
 simp only[ZbM,e,ZhL,ZrI]
 simp_all
def Zf4(e:h[i]?=J (.lst<|ys++[d])):ZbM .pop (.ref i) [] h=.ok d (h.set i<|.lst ys):=by simp only[ZbM,e,ZhL,Zt4];simp
def ZbI(e:h[i]?=J (.lst ys)):Zhx (.ref i) h=Wq:=by simp[Zhx,e]
def ZsR(e:h[i]?=J (.lst ys)):ZfF GD (.ref i) h=J (!ys.isEmpty):=by simp[ZfF,e]
@[simp]def Zz0:ZY [] g body [] S h=.ok (.nx,S) h:=rfl
def ZeY:ZY [] g body (d::ds) S h=match Zbu g d S with
 |none=>.bad
 |some ρ1=>(body ρ1 h).bnd λp a=>match p with
  |(.nx,ρ2)=>ZY [] g body ds ρ2 a
  |(.ct,ρ2)=>ZY [] g body ds ρ2 a
  |(.bk,ρ2)=>.ok (.nx,ρ2) a
  |(.rt d,ρ2)=>.ok (.rt d,ρ2) a:=rfl
def ZaZ:ZF src g test aF (d::ds) S ai h=if Wk.stays src h/\ai.length<Yc then match Zbu g d S with
 |none=>.bad
 |some ρ1=>(test ρ1 h).plain.bnd λb R=>if b then(aF ρ1 R).plain.bnd λx a=>ZF src g test aF ds S (ai++[x]) a else ZF src g test aF ds S ai R
 else .bad:=rfl
def ZaA:ZU test body (n+1) S h=(test S h).bnd λb R=>if b then(body S R).bnd λp h2=>match p with
 |(.nx,ρ2)=>ZU test body n ρ2 h2
 |(.ct,ρ2)=>ZU test body n ρ2 h2
 |(.bk,ρ2)=>.ok (.nx,ρ2) h2
 |(.rt d,ρ2)=>.ok (.rt d,ρ2) h2
 else .ok (.nx,S) R:=rfl
end
inductive Wd where
 |add|sub|mul|lt
 deriving DecidableEq
noncomputable def Wd.s:Wd->Str
 |.add=>O "+"
 |.sub=>O "-"
 |.mul=>O "*"
 |.lt=>O "<"
set_option genInjectivity true in
inductive T where
 |num (n:Int)|name (x:Str)|fn (x:Str) (e:T)|rcc (f x:Str) (e:T)|call (f a:T)|iff (c t e:T)|op (w:Wd) (a b:T)
noncomputable def T.d:T->D
 |.num n=>.tup [.str<|O "num",.int n]
 |.name x=>.tup [.str<|O "name",.str x]
 |.fn x e=>.tup [.str<|O "fn",.str x,e.d]
 |.rcc f x e=>.tup [.str<|O "rec",.str f,.str x,e.d]
 |.call f a=>.tup [.str<|O "call",f.d,a.d]
 |.iff c t e=>.tup [.str<|O "if",c.d,t.d,e.d]
 |.op w a b=>.tup [.str w.s,a.d,b.d]
noncomputable def T.parts:T->List T
 |.num _|.name _=>[]
 |.fn _ e|.rcc _ _ e=>[e]
 |.call f a=>[f,a]
 |.iff c t e=>[c,t,e]
 |.op _ a b=>[a,b]
noncomputable def T.places:T->List T
 |.num n=>[.num n]
 |.name x=>[.name x]
 |.fn x e=>.fn x e::e.places
 |.rcc f x e=>.rcc f x e::e.places
 |.call f a=>.call f a::(f.places++a.places)
 |.iff c t e=>.iff c t e::(c.places++(t.places++e.places))
 |.op w a b=>.op w a b::(a.places++b.places)
noncomputable def T.size(t:T):Nat:=t.places.length
def T.places_parts(t:T):t.places=t::t.parts.flatMap T.places:=by cases t<;>simp[T.places,T.parts]
set_option tactic.hygienic true
section
variable {U:Tb}{S:Ev}{h R:Hd}{f:Str}{as:List D}{r:qd D}
noncomputable abbrev Tb.say(U:Tb)(r:qd D):Tb:=⟨U.G,U.GD,λ_ _ _=>r,U.L⟩
def ZaN(e:U.C f as R=r)(q:xs1 U s S h=xs1 (U.say<|U.C f as R) s S h)(z:xs1 (U.say r) s S h=y):xs1 U s S h=y:=by rw[q,e,z]
def Zq(e:tst U c S h=.ok Wq R):xs1 U (.iff c a b) S h=xs2 U a S R:=by simp_all
def Zi(e:tst U c S h=.ok Ws R):xs1 U (.iff c a b) S h=xs2 U b S R:=by simp_all
def Zm(q:ev U e S h=.ok d R):xs1 U (.ret e) S h=.ok (.rt d,S) R:=by simp_all
def Zg(q:ev U e S h=.ok d R):xs1 U (.set (.nm i) e) S h=.ok (.nx,S.set i<|J d) R:=by simp_all
def Zed(q:evi U it S h=.ok w R):xs1 U (.forr g it b) S h=ZY w.src g (xs2 U b) w.xs S R:=by simp_all
def Zr(p:ev U a S h=.ok x R)(q:ev U b S R=.ok y h2):ev U (.bin op a b) S h=opB op x y h2:=by simp_all
def Zd(p:ev U a S h=.ok x R)(q:ev U b S R=.ok y h2):ev U (.cmp op a b) S h=opC U.GD op x y h2:=by simp_all
def ZI(q:ev U e S h=.ok (.bl b) R):tst U (.ex e) S h=.ok b R:=by simp_all
def Zh{b c}{y:qd Bool}(q:y=.ok b R)(e:b=c):y=.ok c R:=e▸q
noncomputable def hdS:Sxs->Sx
 |.cons s _=>s
 |_=>.pas
noncomputable def tlS:Sxs->Sxs
 |.cons _ r=>r
 |_=>.nil
def rt1(e:xs1 U (hdS ss) S h=.ok (.rt d,ρ1) h2)(hs:ss=.cons (hdS ss) (tlS ss)):Zn (xs2 U ss S h)=.ok d h2:=by rw[hs,Zc e];rfl
def nx1(e:xs1 U (hdS ss) S h=.ok (.nx,ρ1) h2)(hs:ss=.cons (hdS ss) (tlS ss)):xs2 U ss S h=xs2 U (tlS ss) ρ1 h2:=by rw[hs,Za e];rfl
def Zb(p:ev U a S h=.ok x R)(q:evs U es S R=.ok xs h2):evs U (.cons a es) S h=.ok (x::xs) h2:=by simp_all
def ZxA(p:evs U es S h=.ok xs R):ev U (.call g es) S h=U.C g xs R:=by simp_all
def Zmp(a:atI xs z=J d)(p:evs U es S h=.ok xs h)(q:ev U e S (h++[.lst xs])=.ok (.int z) (h++[.lst xs]))(hz:xs.length<=1000):ev U (.ix (.lstl es) e) S h=.ok d (h++[.lst xs]):=by rw[ZoT,Zup,p,Zz,if_pos<|OE hz<|by decide,ZtZ,Zz,q,Zz,ZE (xs:=xs)<|by simp,a];rfl
def Zl(e:U.C g xs R=y)(p:evs U es S h=.ok xs R):ev U (.call g es) S h=y:=(ZxA p).I e
def ZaF(p:evs U es S h=.ok xs R)(hz:xs.length<=1000):ev U (.tupl es) S h=.ok (.tup xs) R:=by simp_all
def ZzR(p:ev U e S h=.ok x R)(n:x≠.non):tst U (.ex<|.cmp .Is e<|.cst .non) S h=.ok Ws R:=ZI ((Zd p rfl).I<|by simp_all)
def ZzQ(p:ev U e S h=.ok .non R):tst U (.ex<|.cmp .Is e<|.cst .non) S h=.ok Wq R:=ZI ((Zd p rfl).I<|by simp)
def ZcO(p:ev U a S h=.ok (.str x) R)(q:ev U b S R=.ok (.str y) h2):tst U (.ex<|.cmp .Eq a b) S h=.ok (Wu<|x=y) h2:=ZI ((Zd p q).I<|rfl)
def Zgt(p:ev U a S h=.ok (.int x) R)(q:ev U b S R=.ok (.int y) h2):tst U (.ex<|.cmp .Eq a b) S h=.ok (Wu<|x=y) h2:=ZI ((Zd p q).I<|rfl)
def Zf(p:ev U a S h=.ok x R)(q:ev U b S R=.ok y h2):ev U (.ix a b) S h=ZaR U.GD x y h2:=by simp_all
def Zg4(p:tst U a S h=.ok Wq R)(q:tst U b S R=.ok c h2):tst U (.ands<|.cons a<|.one b) S h=.ok c h2:=by simp_all
def ZhJ(p:tst U a S h=.ok Ws R):tst U (.ands<|.cons a<|.one b) S h=.ok Ws R:=by simp_all
def ZtE(p:tst U a S h=.ok Wq R):tst U (.ors<|.cons a<|.one b) S h=.ok Wq R:=by simp_all
def Zir(p:tst U a S h=.ok Ws R)(q:tst U b S R=.ok c h2):tst U (.ors<|.cons a<|.one b) S h=.ok c h2:=by simp_all
end
end IV
namespace Gn
open PySem L2 IV
set_option tactic.hygienic false
def ZbR:Sxs:=.w (.iff (.x .NotIn (.ix V0 F0)<|.glo<|O "FORMS") (.o<|.ret<|.tupl .n) .n) (.ret<|.sl V0 (J<|.bin .Add F1<|.ix (.ix (.glo<|O "FORMS")<|.ix V0 F0) F0) M)
def ZiP:Fd:=fd_ 1 ["E"] ZbR
def Zmt:Sxs:=.z (.s 1<|.lstl .n) (.s 2<|.lstl<|.o V0) (.whl (.ex V2)<|.u (.s 3<|.meth .pop V2 .n) (.drp<|.meth .app V1<|.o V3)<|.forr (.nm 4) (.rev<|.f "parts_of"<|.o V3)<|.o<|.drp<|.meth .app V2<|.o V4) (.ret V1)
def Zgm:Fd:=fd_ 1 ["E","found","waiting","place","part"] Zmt
def ZfE:Sxs:=.w (.iff (.x .Lt V1<|.blt .len<|.o V0) (.o<|.ret<|.ix V0 V1) .n) (.ret F0)
def ZcM:Fd:=fd_ 2 ["_law_script","_law_k"] ZfE
def ZhH:Sxs:=.z (.s 2<|.bin .Add (.bin .Pow F10 F30)<|.Ci_ 57) (.s 3<|.bin .Mult (.bin .Mod V0 V2)<|.Ci_ 271828182845904523536028747135) (.s 3<|.bin .Add V3<|.bin .Mult (.bin .Mult V1 V1)<|.Ci_ 314159265358979323846264338327) (.ret<|.bin .Mod (.bin .Add V3<|.Ci_ 577215664901532860606512090082) V2)
def Zci:Fd:=fd_ 2 ["_law_cell","_law_k","_law_big","_law_number_here"] ZhH
def ZnJ:Sxs:=.z (.s 1<|.ix V0 F1) (.put V0 F1<|.bin .Add V1 F1) (.iff (.x .Lt V1<|.blt .len<|.o<|.ix V0 F0) (.o<|.ret<|.ix (.ix V0 F0) V1) .n) (.ret<|.f "_law_mixed"<|.w V1 F7)
def ZiR:Fd:=fd_ 1 ["_law_state","_law_at"] ZnJ
def ZhG:Sxs:=.c (.s 1<|.Cs_ "abcdefghijklmnopqrstuvwxyz") (.c (.s 2<|.bin .Add F1<|.bin .Mod V0 F8)<|.c (.s 3<|.bin .Mod (.bin .FloorDiv V0 F8) V2)<|.c (.s 4<|.bin .FloorDiv V0<|.Ci_ 64)<|.y (.s 5<|.Cs_ "") (.forr (.nm 6) (.rng F8)<|.w (.s 5<|.bin .Add V5<|.ix V1<|.bin .Mod V4 F26)<|.s 4<|.bin .FloorDiv V4 F26) (.s 7<|.lstl .n) (.forr (.nm 6) (.rng F5)<|.y (.s 8<|.ix V1<|.bin .Mod (.bin .Add V4<|.bin .Mult F5 V6) F26) (.s 9<|.bin .Add (.bin .Add (.sl V5 M<|J V3) V8)<|.sl V5 (J<|.bin .Add V3 F1)<|J V2) (.iff (.q (.bin .Mod (.bin .FloorDiv V4 F26) F4) F1) (.o<|.s 9<|.sl V5 M<|J<|.bin .Sub F8 V6) .n) (.iff (.x .In V9<|.tupl<|.z (.Cs_ "fn") (.Cs_ "rec") (.Cs_ "call")<|.Cs_ "if") (.o<|.s 9<|.bin .Mult (.Cs_ "q")<|.blt .len<|.o V9) .n)<|.drp<|.meth .app V7<|.o V9)<|.ret V7)
def Zch:Fd:=fd_ 1 ["_law_number_here","_law_letters","_law_long","_law_place","_law_rest","_law_base","_law_k","_law_found","_law_sign","_law_word"] ZhG
def ZhF:Sxs:=.u (.s 2<|.dictl .n) (.forr (.two 3 4) (.pl V0)<|.o<|.put V2 V3 V4) (.ret<|.comp [O "_law_name",O "_law_wish",O "_law_known"] [M,J 1,J 2] (.pl<|.blt .srt<|.o V2) (.nm 0) (J<|.q (.ix V2 V0) V1) V0)
def Zef:Fd:=fd_ 2 ["_law_scope","_law_wish","_law_known","_law_name","_law_held"] ZhF
def Zcw:Sxs:=.u (.iff (.q V0<|.Cs_ "n") (.o<|.ret<|.tupl<|.w (.Cs_ "num")<|.ix (.lstl<|.z F0 F1 F2<|.bin .Mod (.bin .FloorDiv V1 F7)<|.Ci_ 1000000)<|.bin .Mod V1 F4) .n) (.iff (.q V0<|.Cs_ "f") (.o<|.ret<|.tupl<|.u (.Cs_ "fn") (.Cs_ "w")<|.tupl<|.u (.Cs_ "-") (.tupl<|.w (.Cs_ "name")<|.Cs_ "w")<|.tupl<|.w (.Cs_ "num")<|.bin .Mod V1 F3) .n) (.ret<|.tupl<|.u (.Cs_ "fn") (.Cs_ "w")<|.tupl<|.u (.Cs_ "call") (.tupl<|.w (.Cs_ "name")<|.Cs_ "w")<|.tupl<|.w (.Cs_ "num")<|.bin .Mod V1 F5)
def Zhz:Fd:=fd_ 2 ["_law_wish","_law_number_here"] Zcw
def Za4:Sx:=.s 6 (.ix V4<|.bin .Mod V1 F5)
def Zag:Sx:=.iff (.q V0<|.Cs_ "g") (.o<|.ret<|.tupl<|.u (.Cs_ "fn") V6<|.f "_law_any"<|.y (.Cs_ "n") (.bin .Add V2<|.lstl<|.o<|.tupl<|.w V6<|.Cs_ "f") V3 V4 V5) .n
def Zaf:Sx:=.iff (.q (.bin .Mod (.bin .FloorDiv V1 F5) F3) F0) (.o<|.ret<|.tupl<|.u (.Cs_ "fn") V6<|.f "_law_any"<|.y (.Cs_ "n") (.bin .Add V2<|.lstl<|.o<|.tupl<|.w V6<|.Cs_ "n") V3 V4 V5) .n
def Za3:Sx:=.s 7 (.ix V4<|.bin .Mod (.bin .Add (.bin .Add (.bin .Mod V1 F5) F1)<|.bin .Mod (.bin .FloorDiv V1 F15) F4) F5)
def Za2:Sx:=.s 8 (.bin .Add V2<|.lstl<|.w (.tupl<|.w V7<|.Cs_ "f")<|.tupl<|.w V6<|.Cs_ "n")
def Za1:Sx:=.s 9 (.tupl<|.u (.Cs_ "call") (.tupl<|.w (.Cs_ "name") V7)<|.tupl<|.u (.Cs_ "-") (.tupl<|.w (.Cs_ "name") V6)<|.tupl<|.w (.Cs_ "num") F1)
def Zae:Sx:=.iff (.q (.bin .Mod (.bin .FloorDiv V1<|.Ci_ 60) F3) F0) (.o<|.s 9<|.f "_law_any"<|.y (.Cs_ "n") V8 V3 V4 V5) (.o<|.iff (.q (.bin .Mod (.bin .FloorDiv V1<|.Ci_ 60) F3) F1) (.o<|.s 9<|.tupl<|.u (.ix (.lstl<|.w (.Cs_ "+")<|.Cs_ "*")<|.bin .Mod (.bin .FloorDiv V1<|.Ci_ 180) F2) (.f "_law_any"<|.y (.Cs_ "n") V8 V3 V4<|.bin .Sub V5 F1) V9) .n)
def Zad:Sx:=.ret (.tupl<|.z (.Cs_ "rec") V7 V6<|.tupl<|.z (.Cs_ "if") (.tupl<|.w (.Cs_ "name") V6) V9<|.f "_law_any"<|.y (.Cs_ "n") V8 V3 V4<|.bin .Sub V5 F1)
def ZeB:Sxs:=.c Za4 (.c Zag<|.c Zaf<|.y Za3 Za2 Za1 Zae Zad)
def Z8:Fd:=fd_ 6 ["_law_wish","_law_rest","_law_scope","_law_state","_law_names_here","_law_room","_law_x","_law_f","_law_inner","_law_again"] ZeB
def ZeA:Sx:=.s 5 (.bin .Mod V0 F6)
def ZbT:Sx:=.iff (.q V5 F0) (.o<|.ret<|.f "_law_plain"<|.w (.Cs_ "n")<|.bin .FloorDiv V0 F6) .n
def ZbS:Sx:=.iff (.x .Lt V5 F3) (.w (.s 6<|.f "_law_any"<|.y (.Cs_ "n") V1 V2 V3 V4)<|.ret<|.tupl<|.u (.ix (.lstl<|.z (.Cs_ "+") (.Cs_ "-") (.Cs_ "*")<|.Cs_ "<")<|.bin .Mod (.bin .FloorDiv V0 F6) F4) V6<|.f "_law_any"<|.y (.Cs_ "n") V1 V2 V3 V4) .n
def Zez:Sx:=.s 7 (.ix (.lstl<|.u (.Cs_ "f") (.Cs_ "f")<|.Cs_ "g")<|.bin .Sub V5 F3)
def Zey:Sx:=.s 8 (.f "_law_any"<|.y V7 V1 V2 V3 V4)
def Zex:Sx:=.ret (.tupl<|.u (.Cs_ "call") V8<|.f "_law_any"<|.y (.ix (.dictl<|.z (.Cs_ "f") (.Cs_ "n") (.Cs_ "g")<|.Cs_ "f") V7) V1 V2 V3 V4)
def Zdw:Sxs:=.c ZeA (.y ZbT ZbS Zez Zey Zex)
def Zgo:Fd:=fd_ 5 ["_law_rest","_law_scope","_law_state","_law_names_here","_law_room","_law_way","_law_one","_law_wish","_law_fun"] Zdw
def Zbf:Sx:=.put V2 F2 (.bin .Sub (.ix V2 F2) F1)
def ZcE:Sx:=.s 5 (.f "_law_next"<|.o V2)
def Zbe:Sx:=.iff (.q (.bin .Mod V5 F29) F0) (.o<|.s 0<|.ix (.lstl<|.u (.Cs_ "n") (.Cs_ "f")<|.Cs_ "g")<|.bin .Mod (.bin .FloorDiv V5 F29) F3) .n
def ZcD:Sx:=.s 6 (.bin .FloorDiv V5<|.Ci_ 87)
def Zbd:Sx:=.s 7 (.f "_law_there"<|.w V1 V0)
def Zbc:Sx:=.iff (.ands<|.c (.nq V7<|.lstl .n)<|.one<|.q (.bin .Mod V6 F3) F0) (.o<|.ret<|.tupl<|.w (.Cs_ "name")<|.ix V7<|.bin .Mod (.bin .FloorDiv V6 F3)<|.blt .len<|.o V7) .n
def ZaE:Sx:=.iff (.ors<|.c (.x .Lt V4 F1)<|.one<|.x .Lt (.ix V2 F2) F0) (.o<|.ret<|.f "_law_plain"<|.w V0<|.bin .FloorDiv V6 F3) .n
def ZcC:Sx:=.s 6 (.bin .FloorDiv V6 F30)
def Zbb:Sx:=.iff (.q (.bin .Mod V6 F8) F0) (.u (.s 8<|.f "_law_any"<|.y (.Cs_ "n") V1 V2 V3<|.bin .Sub V4 F1) (.s 9<|.f "_law_any"<|.y V0 V1 V2 V3<|.bin .Sub V4 F1)<|.ret<|.tupl<|.z (.Cs_ "if") V8 V9<|.f "_law_any"<|.y V0 V1 V2 V3<|.bin .Sub V4 F1) .n
def ZaO:Sx:=.iff (.q V0<|.Cs_ "n") (.o<|.ret<|.f "_law_number"<|.y (.bin .FloorDiv V6 F8) V1 V2 V3<|.bin .Sub V4 F1) .n
def ZbH:Sx:=.ret (.f "_law_function"<|.c V0<|.y (.bin .FloorDiv V6 F8) V1 V2 V3<|.bin .Sub V4 F1)
def Zp8:Sxs:=.c Zbf (.c ZcE<|.c Zbe<|.c ZcD<|.c Zbd<|.c Zbc<|.y ZaE ZcC Zbb ZaO ZbH)
def ZeZ:Fd:=fd_ 5 ["_law_wish","_law_scope","_law_state","_law_names_here","_law_room","_law_number_here","_law_rest","_law_there_here","_law_asked_of","_law_first"] Zp8
def Zet:Sxs:=.o (.ret<|.bin .Add F1<|.blt .sum<|.o<|.comp [O "_law_part"] [M] (.pl V0) (.nm 0) (J<|.ex<|.blt .isi<|.w V0<|.cst<|.ty "tuple")<|.f "_law_width"<|.o V0)
def Zcg:Fd:=fd_ 1 ["_law_told"] Zet
def ZfS:Sxs:=.o (.ret<|.maxd (.comp [O "_law_part"] [M] (.pl V0) (.nm 0) (J<|.ex<|.blt .isi<|.w V0<|.cst<|.ty "tuple")<|.bin .Add F1<|.f "_law_deep"<|.o V0) F0)
def Zdn:Fd:=fd_ 1 ["_law_told"] ZfS
def Zas:Sx:=.s 2 (.comp [O "_law_k",O "_law_cell"] [M,M] (.enu<|.sl V0 (J V1) M) (.two 0 1) M<|.f "_law_mixed"<|.w V1<|.bin .Add V0 F2)
def ZdU:Sx:=.s 3 (.lstl<|.u V2 F0 F26)
def ZdT:Sx:=.s 4 (.f "_law_names"<|.o<|.f "_law_next"<|.o V3)
def ZdS:Sx:=.s 5 (.f "_law_any"<|.y (.Cs_ "n") (.lstl .n) V3 V4 F7)
def ZdR:Sx:=.forr (.nm 6) (.rng F2) (.o<|.iff (.x .Lt (.f "_law_width"<|.o V5)<|.Ci_ 50) (.w (.put V3 F2 F12)<|.s 5<|.tupl<|.u (.Cs_ "+") V5<|.f "_law_any"<|.y (.Cs_ "n") (.lstl .n) V3 V4 F6) .n)
def Zbj:Sx:=.iff (.ors<|.c (.x .Gt (.f "_law_width"<|.o V5)<|.Ci_ 100)<|.one<|.x .Gt (.f "_law_deep"<|.o V5) F20) (.o<|.s 5<|.f "_law_plain"<|.w (.Cs_ "n")<|.f "_law_next"<|.o V3) .n
def ZdQ:Sx:=.ret V5
def ZjF:Sxs:=.c Zas (.c ZdU<|.y ZdT ZdS ZdR Zbj ZdQ)
def Zfv:Fd:=fd_ 2 ["_law_script","_law_start","_law_cells","_law_state","_law_names_here","_law_told","_law_k"] ZjF
noncomputable def Zgj:List (Key×D):=[(.inr<|O "fn",.tup [.int 1,.int 1]),(.inr<|O "rec",.tup [.int 2,.int 1]),(.inr<|O "call",.tup [.int 0,.int 2]),(.inr<|O "if",.tup [.int 0,.int 3]),(.inr<|O "+",.tup [.int 0,.int 2]),(.inr<|O "-",.tup [.int 0,.int 2]),(.inr<|O "*",.tup [.int 0,.int 2]),(.inr<|O "<",.tup [.int 0,.int 2])]
structure Tre(P:Pg):Prop where
 parts:P.tb.lookup (O "parts_of")=J ZiP
 g:P.G (O "FORMS")=J (.kd<|O "FORMS")
 gd:P.GD (O "FORMS")=J Zgj
 big:1000000<=P.L
theorem Zb8 (H:Tre P) (hU:U.G=P.G/\U.GD=P.GD) (q:ev U e S h=.ok (.str w) h) (f:Zw Zgj (.inr w)=x):tst U (.ex<|.cmp .NotIn e<|.glo<|O "FORMS") S h=.ok (!x.isSome) h:=by
 refine ZI ((Zd q (by
   rw [Zr8,hU.1,H.g];rfl)).I ?_)
 rw [Zky,hU.2,H.gd];simp only [f]
def ZoP(H:Tre P)(hU:U.G=P.G/\U.GD=P.GD)(q:ev U e S h=.ok (.str w) h)(f:Zw Zgj (.inr w)=J x):ev U (.ix (.glo<|O "FORMS") e) S h=.ok x h:=by
 have g:ev U (.glo<|O "FORMS") S h=.ok (.kd<|O "FORMS") h:=by rw[Zr8,hU.1,H.g];rfl
 rw[ZoT,g,Zz,q,Zz,ZtN,hU.2,H.gd]
 simp_all
def Zfr:ev U (.ix (.var 0)<|.Ci_ 0) (J (.tup (.str w::ds))::S) h=.ok (.str w) h:=by show qd.ofO (atI (D.str w::ds) 0) h=_;simp
def Znq(H:Tre P)(hU:U.G=P.G/\U.GD=P.GD)(e:Zw Zgj (.inr w)=J (.tup [.int a,.int b])):ev U (.bin .Add (.Ci_ 1)<|.ix (.ix (.glo<|O "FORMS")<|.ix (.var 0)<|.Ci_ 0)<|.Ci_ 0) [J<|.tup (.str w::ds)] h=.ok (.int<|1+a) h:=by refine(Zr (y:=.int a) rfl ?_).I rfl;rw[ZoT,ZoP H hU Zfr e];rfl
def ZkR(q:ev U e S h=.ok (.int l) h):evo U (J e) S h=.ok (J l) h:=by simp_all
def ZjR(p:ev U a S h=.ok x h)(q:evo U lo S h=.ok l h)(r:evo U hi S h=.ok u h):ev U (.sl a lo hi) S h=Zis x l u h:=by simp_all
def Zf2(H:Tre P)(n)(h)(w)(ds)(e:Zw Zgj (.inr w)=M):run P (n+1) (O "parts_of") [.tup (.str w::ds)] h=.ok (.tup []) h:=by rw[Ze H.parts rfl];show Zn (xs2 (P.tbl n) ZbR [J<|.tup (.str w::ds)] h)=_;rw[ZbR,Zc<|(Zq<|Zb8 H ⟨rfl,rfl⟩ Zfr e).I<|Zc<|Zm rfl];rfl
def Z3(H:Tre P)(n)(h)(w)(ds)(a b)(e:Zw Zgj (.inr w)=J (.tup [.int a,.int b])):run P (n+1) (O "parts_of") [.tup (.str w::ds)] h=.ok (.tup<|cutD (.str w::ds) (J<|1+a) M) h:=by rw[Ze H.parts rfl];show Zn (xs2 (P.tbl n) ZbR [J<|.tup (.str w::ds)] h)=_;rw[ZbR,Za<|(Zi<|Zb8 H ⟨rfl,rfl⟩ Zfr e).I rfl,Zc<|Zm<|(ZjR rfl (ZkR<|Znq H (U:=P.tbl n) ⟨rfl,rfl⟩ (ds:=ds) (h:=h) e) rfl).I rfl];rfl
def Zoe(H:Tre P)(n)(t:T)(h):run P (n+1) (O "parts_of") [t.d] h=.ok (.tup<|t.parts.map T.d) h:=by
 cases t with
 |num z=>exact Zf2 H n h (O "num") _ rfl
 |name x=>exact Zf2 H n h (O "name") _ rfl
 |fn x e=>exact Z3 H n h (O "fn") _ 1 1 rfl
 |rcc f x e=>exact Z3 H n h (O "rec") _ 2 1 rfl
 |call f a=>exact Z3 H n h (O "call") _ 0 2 rfl
 |iff c a b=>exact Z3 H n h (O "if") _ 0 3 rfl
 |op w a b=>exact Z3 H n h w.s _ 0 2 (by cases w<;>rfl)
theorem Zhw(p):∀(ps) (W) (q),W.length+ps.length<=1000000->∃q',
 ZY [] (.nm 4) (xs2 U<|.cons (.drp<|.meth .app (.var 2)<|.cons (.var 4) .nil) .nil) ps [J E,J<|.ref h.length,J<|.ref<|h.length+1,p,q] (h++[.lst F,.lst W])
  = .ok (.nx,[J E,J<|.ref h.length,J<|.ref<|h.length+1,p,q']) (h++[.lst F,.lst<|W++ps])
 |[],W,q,a=>⟨q,by simp⟩
 |d::b,W,q,a=>by
  obtain⟨q',e⟩:=Zhw (U:=U) (h:=h) (F:=F) (E:=E) p b (W++[d]) (J d) (by simp at a ⊢;lia);refine⟨q',?_⟩;have c:W.length<Yc:=by simp at a;rw[YC];lia
  rw[ZeY];simp[Zhx,ZbM,ZhL,ZrI,c,e]
def Zm0(t:T):1<=t.places.length:=by rw[T.places_parts];simp
theorem Zfp:∀W:List T,W.length<=(W.flatMap T.places).length
 |[]=>by simp
 |t::W=>by
  have:=Zm0 t;have:=Zfp W;rw[List.flatMap_cons,OA,Os]
  lia
theorem ZlT(H:Tre P)(n):∀(fuel) (W:List T) (F) (p q),(W.flatMap T.places).length<fuel->F.length+(W.flatMap T.places).length<=900000->∃p' q',
 ZU (tst ⟨P.G,P.GD,run P<|n+1,P.L⟩<|.ex<|.var 2) (xs2 ⟨P.G,P.GD,run P<|n+1,P.L⟩<|.cons (.set (.nm 3)<|.meth .pop (.var 2) .nil)<|.cons (.drp<|.meth .app (.var 1)<|.cons (.var 3) .nil)<|.cons (.forr (.nm 4) (.rev<|.call (O "parts_of")<|.cons (.var 3) .nil)<|.cons (.drp<|.meth .app (.var 2)<|.cons (.var 4) .nil) .nil) .nil)
  fuel [J E,J<|.ref h.length,J<|.ref<|h.length+1,p,q] (h++[.lst F,.lst (W.map T.d).reverse])
  = .ok (.nx,[J E,J<|.ref h.length,J<|.ref<|h.length+1,p',q']) (h++[.lst<|F++(W.flatMap T.places).map T.d,.lst []])
 |0,W,F,p,q,R,a=>by lia
 |fuel+1,[],F,p,q,R,a=>⟨p,q,by rw[ZaA];simp[ZfF]⟩
 |fuel+1,t::W,F,p,q,R,a=>by
  have b:((t::W).flatMap T.places)=t::((t.parts++W).flatMap T.places):=by rw[List.flatMap_cons,T.places_parts t,List.flatMap_append];simp
  rw[b]at R a ⊢;have j:t.parts.length<=3:=by cases t<;>simp[T.parts]
  simp only[Os]at R a;have c:=Zfp<|t.parts++W;rw[OA]at c;obtain⟨e,f⟩:=Zhw (U:=⟨P.G,P.GD,run P<|n+1,P.L⟩) (h:=h) (F:=F++[t.d]) (E:=E) (J t.d) (t.parts.map T.d).reverse (W.map T.d).reverse q (by simp;lia);obtain⟨p',q',g⟩:=ZlT H (h:=h) (E:=E) n fuel (t.parts++W) (F++[t.d]) (J t.d) e (by lia) (by rw[OA,List.length_singleton];lia);refine⟨p',q',?_⟩;have i:F.length<Yc:=by rw[YC];lia
  rw[ZaA];simp[ZfF,Zhx,ZbM,ZhL,ZrI,Zt4,i,Zoe H,ZjM,f];simpa using g
def ZqS(H:Tre P)(hp:P.tb.lookup (O "places")=J Zgm)(n)(t:T)(h)(hz:t.size<=800000):run P (n+2) (O "places") [t.d] h=.ok (.ref h.length) (h++[.lst<|t.places.map T.d,.lst []]):=by rw[Ze hp<|rfl];obtain⟨a,b,e⟩:=ZlT H (h:=h) (E:=t.d) n P.L [t] [] M M (by have:=H.big;unfold T.size at hz;simp;lia) (by unfold T.size at hz;simp;lia);simp at e;simp[Zgm,Zmt,ZG,YC,e]
end Gn
namespace IV
open PySem L2
section
variable {U:Tb}{S:Ev}{h R h2:Hd}
def ZjA(p:ev U o S h=.ok (.ref i) R)(l:R[i]?=J (.lst ys))(q:evs U es S R=.ok xs h2)(e:ZbM m (.ref i) xs h2=r):ev U (.meth m o es) S h=r:=by rw[Zuo,p,Zz,ZbI l,q];exact e
def Zgv(q:ev U e S h=.ok d R):xs1 U (.drp e) S h=.ok (.nx,S) R:=by simp_all
def Zj5(p:ev U o S h=.ok (.ref i) R)(l:R[i]?=J (.ins C fs))(f:fs.lookup m=M)(q:evs U es S R=.ok xs h2)(e:U.C (mnm C m) (.ref i::xs) h2=r):ev U (.mcl C m o es) S h=r:=by rw[Zxx,p,Zz,show ZZ _ _=J (C,fs) by simp[ZZ,l]];simp[f,q];exact e
def Zei(p:evi U it S h=.ok w R)(q:ZF w.src g (tsto U c) (ev U e) w.xs (ZbQ js S) [] R=.ok xs h2):ev U (.comp NC js it g c e) S h=.ok (.ref h2.length) (h2++[.lst xs]):=by simp_all
def ZiX(p:ev U e S h=.ok (.tup xs) R):evi U (.pl e) S h=.ok ⟨[],xs⟩ R:=by rw[Znv,p];rfl
def ZkS(p:evs U es S h=.ok xs R)(hz:xs.length<=1000):ev U (.lstl es) S h=.ok (.ref R.length) (R++[.lst xs]):=by simp_all
def Zb1(p:evs U es S h=.ok xs R)(q:Zan U.GD f xs R=r):ev U (.blt f es) S h=r:=by simp_all
def Zhv(e:h[i]?=J (.lst ys)):Zan GD .len [.ref i] h=.ok (.int ys.length) h:=by simp only[Zan,ZmC,seqOf,lstOf,e];rfl
def ZuX(e:h[i]?=J (.lst ys)):Zan GD .tup [.ref i] h=.ok (.tup ys) h:=by simp only[Zan,Zqd,lstOf,e];rfl
def Zlo(p:ev U e S h=.ok (.ref i) R)(l:R[i]?=J (.lst ys)):tst U (.ex e) S h=.ok (!ys.isEmpty) R:=by rw[Zqw,p,Zz,ZsR l];rfl
def Zb5(e:test S h=.ok Wq R)(q:body S R=.ok (.nx,ρ1) h2):ZU test body (n+1) S h=ZU test body n ρ1 h2:=by rw[ZaA,e,Zz,q];rfl
def ZhY(e:test S h=.ok Ws R):ZU test body (n+1) S h=.ok (.nx,S) R:=by rw[ZaA,e];rfl
def Zxm(p:ev U a S h=.ok (.int x) R)(q:ev U b S R=.ok (.int y) h2):tst U (.ex<|.cmp .Gt a b) S h=.ok (Wu<|y<x) h2:=ZI (Zd p q)
def ZwT(p:ev U a S h=.ok (.int x) R)(q:ev U b S R=.ok (.int y) h2):tst U (.ex<|.cmp .Lt a b) S h=.ok (Wu<|x<y) h2:=ZI (Zd p q)
def Zdk(b:Zbu g d S=J ρ1)(q:body ρ1 h=.ok (.nx,ρ2) h2):ZY [] g body (d::ds) S h=ZY [] g body ds ρ2 h2:=by rw[ZeY,b];simp ;rw[q];rfl
def Zqq(e:test S h=.ok Wq R)(q:body S R=.ok (.rt d,ρ1) h2):ZU test body (n+1) S h=.ok (.rt d,ρ1) h2:=by rw[ZaA,e,Zz,q];rfl
def Zxf(p:ev U e S h=.ok x R):tst U (.ex<|.cmp .IsNot e<|.cst .non) S h=.ok (!Wu (x=.non)) R:=ZI ((Zd p rfl).I Zrr)
def Znr(b:Zbu g d S=J ρ1)(q:body ρ1 h=.ok (.rt x,ρ2) h2):ZY [] g body (d::ds) S h=.ok (.rt x,ρ2) h2:=by rw[ZeY,b];simp ;rw[q];rfl
variable {c:Str}
def ZnT(q:xs1 U s S h=.exc c R):xs2 U (.cons s r) S h=.exc c R:=by rw[xs2,q];rfl
def Zz8(q:ev U e S h=.exc c R):xs1 U (.drp e) S h=.exc c R:=by rw[ZsI,q];rfl
def ZyU(q:ev U e S h=.ok d R):xs1 U (.rai c e) S h=.exc c R:=by rw[xs1,q];rfl
def ZsL(e:test S h=.ok Wq R)(q:body S R=.exc c h2):ZU test body (n+1) S h=.exc c h2:=by rw[ZaA,e,Zz,q];rfl
end
end IV
section
set_option tactic.hygienic false
set_option exponentiation.threshold 3000
namespace Gn
open PySem L2 IV
def Up(i:Nat)(h h':Hd):Prop:=h.length<=h'.length/\∀m,m<h.length->m≠i->h'[m]?=h[m]?
def Up.refl:Up i h h:=⟨Oq _,λ_ _ _=>rfl⟩
theorem Up.I(x:Up i a b)(y:Up i b c):Up i a c:=⟨OE x.1 y.1,λm R d=>(y.2 m (Ot R x.1) d).I<|x.2 m R d⟩
theorem Up.set:Up i h (h.set i o):=⟨by simp,λm _ a=>by rw[Oc<|YL a]⟩
def Up.app:Up i h (h++g):=⟨by simp,λm R _=>Oe R⟩
def ZM{h:Hd}(e:h[i]?=J o):i<h.length:=(Ob.mp e).1
def Up.at{i m}(u:Up i h h')(e:h[m]?=J o)(ne:m≠i):h'[m]?=J o:=(u.2 m (ZM e) ne).I e
def Alk(P:Pg)(f:Str)(fd:Fd):Prop:=∃ps N,ps.length=fd.ps.length/\N.length=fd.N.length/\P.tb.lookup f=J ⟨ps,N,fd.body⟩
def Alk.same(e:P.tb.lookup f=J fd):Alk P f fd:=⟨_,_,rfl,rfl,e⟩
def ZeU(e:Alk P f fd)(hl:ds.length=fd.ps.length):run P (n+1) f ds h=Zn (xs2 ⟨P.G,P.GD,run P n,P.L⟩ fd.body (ZG fd.N ds) h):=by obtain⟨ps,N,R,a,e⟩:=e;rw[Ze e<|hl.I R.symm];unfold ZG;rw[a]
structure Mk0(P:Pg):Prop where
 mixed:P.tb.lookup (O "_law_mixed")=J Zci
 next:P.tb.lookup (O "_law_next")=J ZiR
 names:P.tb.lookup (O "_law_names")=J Zch
 there:P.tb.lookup (O "_law_there")=J Zef
 plain:P.tb.lookup (O "_law_plain")=J Zhz
 function:Alk P (O "_law_function") Z8
 number:Alk P (O "_law_number") Zgo
 any:Alk P (O "_law_any") ZeZ
 width:P.tb.lookup (O "_law_width")=J Zcg
structure Mkr(P:Pg):Prop extends Mk0 P where
 deep:P.tb.lookup (O "_law_deep")=J Zdn
 program:Alk P (O "_law_program") Zfv
noncomputable def big:Int:=1000000000000000000000000000057
def mixed(c k:Int):Int:=(c%big*271828182845904523536028747135+k*k*314159265358979323846264338327+577215664901532860606512090082)%big
def ZQ(h:-(2^128)<i)(h2:i<2^128):i.natAbs<2^2000:=by lia
def Zpo(hk:-(2^60)<k/\k<2^60):0<=k*k/\k*k<2^120:=by
 have a:k.natAbs<2^60:=by lia
 have b:=Nat.mul_lt_mul'' a a;rw[<-Int.natAbs_mul_self];constructor
 . lia
 . exact Int.ofNat_lt.mpr b
def Zil(H:Alk P (O "_law_mixed") Zci)(n)(c k)(h)(hk:-(2^60)<k/\k<2^60):run P (n+1) (O "_law_mixed") [.int c,.int k] h=.ok (.int<|mixed c k) h:=by rw[ZeU H rfl];have a:opB .Pow (.int 10) (.int 30) h=.ok _ h:=rfl;have i:=Zpo hk;have b:opB _ _ _ h=.ok (.int<|c%1000000000000000000000000000057) h:=ZR (by decide);have d:opB _ _ _ h=.ok (.int<|c%1000000000000000000000000000057*271828182845904523536028747135) h:=ZeV ⟨ZQ (by lia)<|by lia,ZQ (by decide)<|by simp⟩;have e:opB _ _ _ h=.ok (.int<|k*k) h:=ZeV ⟨ZQ (by lia)<|by lia,ZQ (by lia)<|by lia⟩;have f:opB _ _ _ h=.ok (.int<|k*k*314159265358979323846264338327) h:=ZeV ⟨ZQ (by lia)<|by lia,ZQ (by simp)<|by decide⟩;have g:opB .Mod (.int<|c%1000000000000000000000000000057*271828182845904523536028747135+k*k*314159265358979323846264338327+577215664901532860606512090082) (.int 1000000000000000000000000000057) h=.ok (.int<|mixed c k) h:=ZR (by decide);simp[Zci,ZhH,ZG,a,b,d,e,f,g]
def Zs8(H:Mkr P)(n)(c k)(h)(hk:-(2^60)<k/\k<2^60):run P (n+1) (O "_law_mixed") [.int c,.int k] h=.ok (.int<|mixed c k) h:=Zil (.same H.mixed) n c k h hk
def St3(h:Hd)(i j:Nat)(cs:List Int)(at' b:Int):Prop:=h[i]?=J (.lst [.ref j,.int at',.int b])/\h[j]?=J (.lst<|cs.map .int)/\i≠j
def ZmU{P}(H:Mk0 P)(n)(st:St3 h i j cs a b)(ha:0<=a/\a<2^50):∃v,run P (n+2) (O "_law_next") [.ref i] h=.ok (.int v) (h.set i<|.lst [.ref j,.int<|a+1,.int b])/\(v∈cs\/v=mixed a 7):=by
 obtain⟨R,q,ne⟩:=st;rw[Ze H.next<|rfl];have d:(h.set i<|.lst [.ref j,.int<|a+1,.int b])[i]?=J (.lst [.ref j,.int<|a+1,.int b]):=by rw[Ol<|ZM R]
 have e:(h.set i<|.lst [.ref j,.int<|a+1,.int b])[j]?=J (.lst<|cs.map .int):=by simp_all
 have o:Z1 (.ref i) (.int 1) (.int<|a+1) h=.ok () (h.set i<|.lst [.ref j,.int<|a+1,.int b]):=by simp only[Z1,R];rfl
 have f:xs1 (P.tbl<|n+1) (.put (.var 0) (.Ci_ 1)<|.bin .Add (.var 1)<|.Ci_ 1) [J<|.ref i,J<|.int a] h=.ok (.nx,[J<|.ref i,J<|.int a]) (h.set i<|.lst [.ref j,.int<|a+1,.int b]):=by rw[ZnU];show(Z1 (.ref i) (.int 1) (.int<|a+1) h).bnd _=_;rw[o];rfl
 generalize h.set i (.lst [.ref j,.int<|a+1,.int b])=g at *;have c:tst (P.tbl<|n+1) (.ex<|.cmp .Lt (.var 1)<|.blt .len<|.cons (.ix (.var 0)<|.Ci_ 0) .nil) [J<|.ref i,J<|.int a] g=.ok (Wu<|a<(cs.map D.int).length) g:=ZwT rfl<|Zb1 (Zb ((Zf rfl rfl).I<|(ZE d).I rfl) rfl)<|Zhv e;rw[Yu]at c;by_cases l:a<cs.length
 . obtain⟨k,rfl⟩:∃k:Nat,a=k:=⟨a.toNat,by lia⟩
   have m:k<cs.length:=by lia
   have p:atI (cs.map D.int) (k)=J (.int cs[k]):=by rw[IV.ZcH,On,Og m];rfl
   exact⟨cs[k],(congrArg Zn<|(nx1 (Zg<|(Zf rfl rfl).I<|(ZE R).I rfl) rfl).I<|nx1 f rfl).I<|rt1 ((Zq<|Zh c<|decide_eq_true l).I<|Zc<|Zm<|(Zf ((Zf rfl rfl).I<|(ZE d).I rfl) rfl).I<|(ZE e).I (by rw[p];rfl)) rfl,.inl<|List.getElem_mem m⟩
 . exact⟨mixed a 7,(congrArg Zn<|((nx1 (Zg<|(Zf rfl rfl).I<|(ZE R).I rfl) rfl).I<|nx1 f rfl).I<|nx1 ((Zi<|Zh c<|decide_eq_false l).I rfl) rfl).I<|rt1 (Zm<|Zl (Zil (.same H.mixed) n a 7 _<|by decide) rfl) rfl,.inr rfl⟩
def Wl(n:Nat)(x:Str):Prop:=Yp x=Wq/\x.length<=n
def Cl:List Str->T->Prop
 |_,.num n=>0<=n/\n<1000000
 |sc,.name x=>x∈sc
 |sc,.fn x e=>Cl (x::sc) e/\Wl 20 x
 |sc,.rcc f x e=>Cl (x::f::sc) e/\f≠x/\Wl 20 f/\Wl 20 x
 |sc,.call f a=>Cl sc f/\Cl sc a
 |sc,.iff c t e=>Cl sc c/\Cl sc t/\Cl sc e
 |sc,.op _ a b=>Cl sc a/\Cl sc b
noncomputable def dep:T->Nat
 |.num _|.name _=>0
 |.fn _ e|.rcc _ _ e=>dep e+1
 |.call f a=>max (dep f) (dep a)+1
 |.iff c t e=>max (dep c) (max (dep t)<|dep e)+1
 |.op _ a b=>max (dep a) (dep b)+1
noncomputable def fw:T->Int
 |.num _|.name _=>-1
 |.fn _ e|.rcc _ _ e=>fw e+3
 |.call f a=>fw f+fw a-1
 |.iff c t e=>fw c+fw t+fw e-1
 |.op _ a b=>fw a+fw b-1
noncomputable def nb:T->Nat
 |.num _|.name _=>0
 |.fn _ e=>nb e+1
 |.rcc _ _ e=>nb e+2
 |.call f a=>max (nb f) (nb a)
 |.iff c t e=>max (nb c) (max (nb t)<|nb e)
 |.op _ a b=>max (nb a) (nb b)
def at4(k)(h0:0<=k)(h4:k<4):∃v,atI [D.int a,.int b,.int c,.int d] k=J (.int v)/\(v=a\/v=b\/v=c\/v=d):=by
 have:k=0\/k=1\/k=2\/k=3:=by lia
 rcases this with rfl|rfl|rfl|rfl
 . simp
 . simp
 . simp
 simp
def Zkt(H:Mk0 P)(n)(w)(v)(h)(sc):∃t g,run P (n+1) (O "_law_plain") [.str w,.int v] h=.ok (T.d t) (h++g)/\Cl sc t/\(nb t<=dep t/\dep t<=2)/\t.size<=4/\fw t<=0:=by
 rw[Ze H.plain<|rfl];by_cases w1:w=O "n"
 . obtain⟨u,e,hu⟩:=at4 (a:=0) (b:=1) (c:=2) (d:=v/7%1000000) (v%4) (by lia) (by lia);exact⟨.num u,_,rt1 (U:=P.tbl n) (ss:=Zcw) ((Zq<|Zh (ZcO rfl rfl)<|decide_eq_true w1).I<|Zc<|Zm<|ZaF (Zb rfl<|Zb (Zmp e (Zb rfl<|Zb rfl<|Zb rfl<|Zb ((Zr (x:=.int<|v/7) ((Zr rfl rfl).I<|Zdd<|by decide) rfl).I<|ZR<|by decide) rfl) ((Zr rfl rfl).I<|ZR<|by decide)<|Nat.le_of_ble_eq_true rfl) rfl)<|Nat.le_of_ble_eq_true rfl) rfl,by show 0<=u/\u<1000000;lia,⟨Oq _,by show 0<=2;lia⟩,by show 1<=4;lia,by show(-1)<=0;decide⟩
 . by_cases w2:w=O "f"
   . refine⟨.fn (O "w")<|.op .sub (.name<|O "w")<|.num<|v%3,[],?_,?_,by simp only[dep,nb];lia,by show 4<=4;lia,by simp only[fw];lia⟩
     . rw[Yt];exact(congrArg Zn<|nx1 ((Zi<|Zh (ZcO rfl rfl)<|decide_eq_false w1).I rfl) rfl).I (rt1 (U:=P.tbl n) (ss:=tlS Zcw) ((Zq<|Zh (ZcO rfl rfl)<|decide_eq_true w2).I<|Zc<|Zm<|ZaF (Zb rfl<|Zb rfl<|Zb (ZaF (Zb rfl<|Zb rfl<|Zb (ZaF (Zb rfl<|Zb ((Zr rfl rfl).I<|ZR<|by decide) rfl)<|Nat.le_of_ble_eq_true rfl) rfl)<|Nat.le_of_ble_eq_true rfl) rfl)<|Nat.le_of_ble_eq_true rfl) rfl)
     . exact⟨⟨Oi,by show 0<=v%3/\v%3<1000000;lia⟩,by unfold Wl;decide +kernel⟩
   . refine⟨.fn (O "w")<|.call (.name<|O "w")<|.num<|v%5,[],?_,?_,by simp only[dep,nb];lia,by show 4<=4;lia,by simp only[fw];lia⟩
     . rw[Yt];exact(congrArg Zn<|(nx1 ((Zi<|Zh (ZcO rfl rfl)<|decide_eq_false w1).I rfl) rfl).I<|nx1 ((Zi<|Zh (ZcO rfl rfl)<|decide_eq_false w2).I rfl) rfl).I (rt1 (U:=P.tbl n) (ss:=tlS<|tlS Zcw) (Zm<|ZaF (Zb rfl<|Zb rfl<|Zb (ZaF (Zb rfl<|Zb rfl<|Zb (ZaF (Zb rfl<|Zb ((Zr rfl rfl).I<|ZR<|by decide) rfl)<|Nat.le_of_ble_eq_true rfl) rfl)<|Nat.le_of_ble_eq_true rfl) rfl)<|Nat.le_of_ble_eq_true rfl) rfl)
     . exact⟨⟨Oi,by show 0<=v%5/\v%5<1000000;lia⟩,by unfold Wl;decide +kernel⟩
noncomputable def ZP:Str:=O "abcdefghijklmnopqrstuvwxyz"
def Zng:Yp ZP=Wq:=by decide +kernel
noncomputable def ltr(k:Int):Nat:=ZP.cps.toList.getD k.toNat 0
def lt1(k:Int):Str:=⟨#[ltr k]⟩
def Znh(k)(h0:0<=k)(R:k<26):ZaR GD (.str ZP) (.int k) h=.ok (.str<|lt1 k) h/\Wl 1 (lt1 k):=by
 obtain⟨m,rfl⟩:∃m:Nat,k=m:=⟨k.toNat,by lia⟩
 have b:ZP.cps.toList.length=26:=rfl;have hm:m<ZP.cps.toList.length:=by lia
 have a:ltr m=ZP.cps.toList[m]:=by show ZP.cps.toList.getD _ 0=_;rw[Int.toNat_natCast,List.getD_eq_getElem?_getD,Og _];rfl
 have e:atI ZP.cps.toList m=J ZP.cps.toList[m]:=by rw[IV.ZcH,Og _]
 unfold lt1;rw[a];refine⟨?_,Zrw Zng<|List.getElem_mem _,by show #[ZP.cps.toList[m]].size<=1;simp⟩;have q:ZaR GD (.str ZP) (.int m) h=if ZP.length<=Yc then qd.ofO _ h else .bad:=rfl;rw[q,e];rfl
def len_cat{x y:Str}:(x++y).length=x.length+y.length:=by show(x.cps++y.cps).size=_;rw[Array.size_append];rfl
def Zgy{x y}(hx:Wl a x)(hy:Wl b y)(hz:a+b<=1000):opB .Add (.str x) (.str y) h=.ok (.str<|x++y) h/\Wl (a+b) (x++y):=by refine⟨if_pos (by rw[YC];have:=hx.2;have:=hy.2;lia),ZjW hx.1 hy.1,by rw[len_cat];have:=hx.2;have:=hy.2;lia⟩
theorem ZrM{U}:∀(ks:List _) (r) (x) (m) (k),Wl m x->x.length=m->m+ks.length<=100->∃r' x' k',Wl (m+ks.length) x'/\x'.length=m+ks.length /\
 ZY [] (.nm 6) (xs2 U<|.cons (.set (.nm 5)<|.bin .Add (.var 5)<|.ix (.var 1)<|.bin .Mod (.var 4)<|.Ci_ 26)<|.cons (.set (.nm 4)<|.bin .FloorDiv (.var 4)<|.Ci_ 26) .nil) (ks.map D.int) [a,J<|.str ZP,l,p,J<|.int r,J<|.str x,k,f,sg,wd] h
  = .ok (.nx,[a,J<|.str ZP,l,p,J<|.int r',J<|.str x',k',f,sg,wd]) h
 |[],r,x,m,k,b,d,hm=>⟨r,x,k,b,d,rfl⟩
 |c::e,r,x,m,k,b,d,hm=>by
  obtain⟨o,i⟩:=Znh (GD:=U.GD) (h:=h) (r%26) (by lia) (by lia);obtain⟨q,j⟩:=Zgy (h:=h) b i (by lia);obtain⟨r',x',k',R,n,s⟩:=ZrM (U:=U) (h:=h) (a:=a) (l:=l) (p:=p) (f:=f) (sg:=sg) (wd:=wd) e (r/26) (x++lt1 (r%26)) (m+1) (J<|.int c) j (by rw[len_cat,d];rfl) (by simp at hm ⊢;lia);have g:m+(c::e).length=m+1+e.length:=by rw[Os];lia
  refine⟨r',x',k',g▸R,g▸n,?_⟩;have t:opB .Mod (.int r) (.int 26) h=.ok (.int<|r%26) h:=ZR (by decide);have u:opB .FloorDiv (.int r) (.int 26) h=.ok (.int<|r/26) h:=Zdd (by decide);rw[Op,ZeY]
  simp_all
def Zv0(x)(l u):(Yq x l u).length<=x.length:=by
 unfold Yq;split
 . simp
 . refine OE (List.length_filterMap_le _ _) (PySem.sliceRange_length_le _ _ _ _ (λ_=>?_)<|λz=>absurd (by simp) z)
   lia
def ZeT(hx:Wl m x)(hm:m<=1000)(l u):Zis (.str x) l u h=.ok (.str<|Yq x l u) h/\Wl m (Yq x l u):=by
 refine⟨if_pos (by rw[YC];have:=hx.2;lia),Zru hx.1<|Zih _ _ _,?_⟩;have:=hx.2;have q:=Zv0 x l u
 lia
def in4:opC GD .In (.str x) (.tup [.str<|O "fn",.str<|O "rec",.str<|O "call",.str<|O "if"]) h=.ok (.bl<|Wu<|x∈[O "fn",O "rec",O "call",O "if"]) h:=ZaH (ss:=[Str.ofString _,Str.ofString _,Str.ofString _,Str.ofString _])
def len_str(hx:Wl m x)(hm:m<=1000):Zan GD .len [.str x] h=.ok (.int x.length) h:=if_pos (by rw[YC];have:=hx.2;lia)
def Zu7(hx:Wl m x)(hm:m<=1000):opB .Mult (.str<|O "q") (.int x.length) h=.ok (.str<|ZhK (O "q") x.length) h/\Wl m (ZhK (O "q") x.length):=by
 have hq:(O "q").length=1:=rfl;have:=hx.2;refine⟨if_pos ⟨by lia,by lia,by trivial⟩,Zrv (by decide +kernel) _,?_⟩;rw[Zf0,hq]
 lia
def nmW(b:Str)(l p r c:Int):Str:=if r/26%4=1 then Yq b M (J<|8-c)else Yq b M (J p)++lt1 ((r+5*c)%26)++Yq b (J<|p+1) (J l)
def nmQ(w:Str):Str:=if w∈[O "fn",O "rec",O "call",O "if"]then ZhK (O "q") w.length else w
def nm(b:Str)(l p r c:Int):Str:=nmQ (nmW b l p r c)
def ZrA(hb:Wl 8 b)(l p r c):Wl 20 (nmW b l p r c):=by
 unfold nmW;split
 . have q:=(ZeT (h:=[]) hb (by decide) M<|J<|8-c).2;exact⟨q.1,by have:=q.2;lia⟩
 . have q:=(Zgy (h:=[]) (Zgy (h:=[]) (ZeT (h:=[]) hb (by decide) M<|J p).2 (Znh (GD:=λ_=>M) (h:=[]) ((r+5*c)%26) (by lia)<|by lia).2<|by decide).2 (ZeT (h:=[]) hb (by decide) (J<|p+1)<|J l).2<|by decide).2;exact⟨q.1,by have:=q.2;lia⟩
def Zzs(hb:Wl 8 b)(l p r c):Wl 20 (nm b l p r c):=by
 unfold nm nmQ;split
 . exact(Zu7 (h:=[]) (ZrA hb l p r c)<|by simp).2
 . exact ZrA hb l p r c
def ZwZ:Sx:=.s 8 (.ix V1<|.bin .Mod (.bin .Add V4<|.bin .Mult F5 V6) F26)
def ZwY:Sx:=.s 9 (.bin .Add (.bin .Add (.sl V5 M<|J V3) V8)<|.sl V5 (J<|.bin .Add V3 F1)<|J V2)
def ZwU:Tx:=.q (.bin .Mod (.bin .FloorDiv V4 F26) F4) F1
def ZzD:Sx:=.s 9 (.sl V5 M<|J<|.bin .Sub F8 V6)
def ZzC:Exs:=.z (.Cs_ "fn") (.Cs_ "rec") (.Cs_ "call") (.Cs_ "if")
def ZzE:Sx:=.s 9 (.bin .Mult (.Cs_ "q")<|.blt .len<|.o V9)
def ZwW:Sx:=.drp (.meth .app V7<|.o V9)
def ZwV:Sxs:=.w (.iff (.x .In V9<|.tupl ZzC) (.o ZzE) .n) ZwW
def ZwX:Sxs:=.c ZwZ (.c ZwY<|.c (.iff ZwU (.o ZzD) .n) ZwV)
def vn(a:Option D)(l p r:Int)(b:Str)(q:Nat)(k sg wd:Option D):Ev:=[a,J<|.str ZP,J<|.int l,J<|.int p,J<|.int r,J<|.str b,k,J<|.ref q,sg,wd]
def ZrJ(hw:Wl 20 wd)(hz:ds.length<16777216):xs2 U ZwV (vn a l p r b h.length k sg<|J<|.str wd) (h++[.lst ds])=.ok (.nx,vn a l p r b h.length k sg<|J<|.str<|nmQ wd) (h++[.lst<|ds++[.str<|nmQ wd]]):=by
 have ap:∀w:Str,xs1 U ZwW (vn a l p r b h.length k sg<|J<|.str w) (h++[.lst ds])=.ok (.nx,vn a l p r b h.length k sg<|J<|.str w) (h++[.lst<|ds++[.str w]]):=λw=>by have e:=Zgv<|ZjA (U:=U) (S:=vn a l p r b h.length k sg<|J<|.str w) (o:=.var 7) (es:=.cons (.var 9) .nil) rfl ZL rfl<|Za7 (d:=.str w) (ZL (h:=h) (x:=.lst ds) (r:=[]))<|YC▸hz;rw[show(h++[DO.lst ds]).set h.length (.lst<|ds++[.str w])=h++[.lst<|ds++[.str w]] by simp]at e;exact e
 unfold nmQ;by_cases eK:wd∈[O "fn",O "rec",O "call",O "if"]
 . rw[if_pos eK];exact(Za<|(Zq<|Zh (ZI<|(Zd (x:=.str wd) rfl<|ZaF (xs:=[.str<|O "fn",.str<|O "rec",.str<|O "call",.str<|O "if"]) rfl<|by decide).I in4)<|decide_eq_true eK).I<|(Za<|Zg<|(Zr rfl<|Zb1 rfl<|len_str hw<|by decide).I (Zu7 hw<|by decide).1).I rfl).I ((Za<|ap _).I rfl)
 . rw[if_neg eK];exact(Za<|(Zi<|Zh (ZI<|(Zd (x:=.str wd) rfl<|ZaF (xs:=[.str<|O "fn",.str<|O "rec",.str<|O "call",.str<|O "if"]) rfl<|by decide).I in4)<|decide_eq_false eK).I rfl).I ((Za<|ap _).I rfl)
def ZzF(hb:Wl 8 b)(hc:0<=c/\c<100)(hz:ds.length<16777216):xs2 U ZwX (vn a l p r b h.length (J<|.int c) sg wd) (h++[.lst ds])=.ok (.nx,vn a l p r b h.length (J<|.int c) (J<|.str<|lt1<|(r+5*c)%26)<|J<|.str<|nm b l p r c) (h++[.lst<|ds++[.str<|nm b l p r c]]):=by
 obtain⟨e1,hy⟩:=Znh (GD:=U.GD) (h:=h++[.lst ds]) ((r+5*c)%26) (by lia) (by lia);obtain⟨f1,w1⟩:=ZeT (h:=h++[.lst ds]) hb (by decide) M<|J p;obtain⟨f2,w2⟩:=ZeT (h:=h++[.lst ds]) hb (by decide) (J<|p+1)<|J l;obtain⟨f3,w3⟩:=ZeT (h:=h++[.lst ds]) hb (by decide) M<|J<|8-c;obtain⟨c1,v1⟩:=Zgy (h:=h++[.lst ds]) w1 hy (by decide);obtain⟨c2,v2⟩:=Zgy (h:=h++[.lst ds]) v1 w2 (by decide);unfold nm nmW;generalize lt1 ((r+5*c)%26)=y at *;have x8:xs1 U ZwZ (vn a l p r b h.length (J<|.int c) sg wd) (h++[.lst ds])=.ok (.nx,vn a l p r b h.length (J<|.int c) (J<|.str y) wd) (h++[.lst ds]):=Zg ((Zf (x:=.str ZP) rfl<|(Zr (x:=.int<|r+5*c) ((Zr rfl<|(Zr rfl rfl).I<|ZeV ⟨ZQ (by decide)<|by decide,ZQ (by lia)<|by lia⟩).I rfl) rfl).I<|ZR<|by decide).I e1);have g1:ev U (.sl (.var 5) M<|J<|.var 3) (vn a l p r b h.length (J<|.int c) (J<|.str y) wd) (h++[.lst ds])=.ok (.str<|Yq b M<|J p) (h++[.lst ds]):=f1;have g2:ev U (.sl (.var 5) (J<|.bin .Add (.var 3)<|.Ci_ 1)<|J<|.var 2) (vn a l p r b h.length (J<|.int c) (J<|.str y) wd) (h++[.lst ds])=.ok (.str<|Yq b (J<|p+1)<|J l) (h++[.lst ds]):=f2;have g3:∀w,ev U (.sl (.var 5) M<|J<|.bin .Sub (.Ci_ 8)<|.var 6) (vn a l p r b h.length (J<|.int c) (J<|.str y) w) (h++[.lst ds])=.ok (.str<|Yq b M<|J<|8-c) (h++[.lst ds]):=λ_=>f3;have x9:xs1 U ZwY (vn a l p r b h.length (J<|.int c) (J<|.str y) wd) (h++[.lst ds])=.ok (.nx,vn a l p r b h.length (J<|.int c) (J<|.str y)<|J<|.str<|Yq b M (J p)++y++Yq b (J<|p+1) (J l)) (h++[.lst ds]):=Zg<|(Zr ((Zr g1 rfl).I c1) g2).I c2;have tt:tst U ZwU (vn a l p r b h.length (J<|.int c) (J<|.str y)<|J<|.str<|Yq b M (J p)++y++Yq b (J<|p+1) (J l)) (h++[.lst ds])=.ok (Wu<|r/26%4=1) (h++[.lst ds]):=Zgt ((Zr (x:=.int<|r/26) ((Zr rfl rfl).I<|Zdd<|by decide) rfl).I<|ZR<|by decide) rfl;refine(Za x8).I<|(Za x9).I ?_;by_cases hr:r/26%4=1
 . rw[if_pos hr];exact(Za<|(Zq<|Zh tt<|decide_eq_true hr).I<|(Za<|Zg<|g3 _).I rfl).I (ZrJ ⟨w3.1,by have:=w3.2;lia⟩ hz)
 . rw[if_neg hr];exact(Za<|(Zi<|Zh tt<|decide_eq_false hr).I rfl).I (ZrJ ⟨v2.1,by have:=v2.2;lia⟩ hz)
theorem Zf6(hb:Wl 8 b):∀(ks:List _) (fo) (k sg wd),fo.length+ks.length<=100->(∀c∈ks,0<=c/\c<100)->∃k' ge f8,
 ZY [] (.nm 6) (xs2 U ZwX) (ks.map D.int) (vn a l p r b h.length k sg wd) (h++[.lst<|fo.map .str])
  = .ok (.nx,vn a l p r b h.length k' ge f8) (h++[.lst<|(fo++ks.map (nm b l p r)).map .str])
 |[],fo,k,sg,wd,e,d=>⟨k,sg,wd,by simp⟩
 |c::g,fo,k,sg,wd,e,d=>by rw[Os]at e;obtain⟨k',ge,f8,f⟩:=Zf6 (U:=U) (h:=h) (a:=a) (l:=l) (p:=p) (r:=r) hb g (fo++[nm b l p r c]) (J<|.int c) (J<|.str<|lt1<|(r+5*c)%26) (J<|.str<|nm b l p r c) (by rw[OA,List.length_singleton];lia)<|λz i=>d z<|.tail _ i;refine⟨k',ge,f8,(Zdk rfl<|ZzF hb (d c<|.head _) (by rw[Yu];lia)).I ?_⟩;rw[List.map_append,Oz]at f;exact f
def Zw3:∀k∈[[102,110],[114,101,99],[99,97,108,108],[105,102]],∀l∈[[102,110],[114,101,99],[99,97,108,108],[105,102],YK k.length 113],k=l\/k.length≠l.length\/∀i,i<4->∃j,j<4/\j≠i/\k[j]?≠l[j]? := by trivial
def ZoG(ne:x≠y)(a)(h:a++x::b∈[[102,110],[114,101,99],[99,97,108,108],[105,102]]):a++y::b ∉ [[102,110],[114,101,99],[99,97,108,108],[105,102]]/\a++y::b≠YK (a++x::b).length 113:=by
 have c:=by
  have:∀k∈[[102,110],[114,101,99],[99,97,108,108],[105,102]],k.length<=4:=by decide
  exact this _ h
 have g:(a++x::b).length=(a++y::b).length:=by simp
 have no:∀l∈[[102,110],[114,101,99],[99,97,108,108],[105,102],YK _ _],a++y::b≠l:=λl f e=>by
  rcases Zw3 _ h l f with q|q|q
  . rw[<-e]at q;exact ne (List.cons.inj<|List.append_cancel_left q).1
  . exact q (by rw[<-e];trivial)
  . obtain⟨j,_,i,d⟩:=q a.length (by simp at c;lia);rw[<-e]at d;rcases Nat.lt_or_ge j _ with z|z
    . exact d (by rw[Oe z,Oe z])
    . rw[Om z,Om z]at d;obtain⟨m,hm⟩:∃m,j-a.length=m+1:=⟨j-a.length-1,by lia⟩
      rw[hm]at d;exact d rfl
 refine⟨λm=>no _ (Ys _ m) rfl,no _<|Ov [[102,110],[114,101,99],[99,97,108,108],[105,102]]<|Ox.mpr rfl⟩
def ZrO:w∈[O "fn",O "rec",O "call",O "if"]↔w.cps.toList∈[[102,110],[114,101,99],[99,97,108,108],[105,102]]:=by
 have e:[[102,110],[114,101,99],[99,97,108,108],[105,102]]=[O "fn",O "rec",O "call",O "if"].map (·.cps.toList):=rfl;rw[e];refine⟨λh=>List.mem_map_of_mem h,λh=>?_⟩;obtain⟨v,a,q⟩:=List.mem_map.mp h;have:v=w:=by obtain⟨⟨w⟩⟩:=w;cases q;rfl
 exact this▸a
def Zlz:∀n,(ZhK (O "q") n).cps.toList=YK n 113
 |n=>by
  have:∀(n) (a),((YK n (O "q").cps).foldl (·++·) a).toList=a.toList++YK n 113:=by
   intro n;induction n with
   |zero=>simp
   |succ n b=>intro a;rw[List.replicate_succ,List.foldl_cons,b,Array.toList_append,Oz];rfl
  have q:=this n #[];trivial
def nq(hv:v.cps.toList=a++x::b)(hw:w.cps.toList=a++y::b)(ne:x≠y):nmQ v≠nmQ w:=by
 have hl:v.length=(a++x::b).length/\w.length=(a++y::b).length:=by rw[<-hv,<-hw];trivial
 unfold nmQ;intro e;have e':=congrArg (·.cps.toList) e;simp only[ZrO]at e';split at e'
 . rename_i kv;rw[hv]at kv;obtain⟨k1,k2⟩:=ZoG ne a kv;rw[if_neg (by rw[hw];trivial),Zlz,hw,hl.1]at e';exact k2 e'.symm
 . split at e'
   . rename_i kw;rw[hw]at kw;obtain⟨k1,k2⟩:=ZoG (YL ne) a kw;rw[Zlz,hv,hl.2]at e';trivial
   simp_all
def Zov(w):(nmQ w).length=w.length:=by
 unfold nmQ;split
 . rw[Zf0,show(Str.ofString _).length=1 by trivial,Nat.mul_one]
 . rfl
def Zt5:∀i j:Fin 26,ltr i.val=ltr j.val->i=j:=by trivial
theorem Zzt(hb:b.length=8)(hc:0<=c/\c<5)(hd:0<=d/\d<5)(ne:c≠d):nm b l p r c≠nm b l p r d:=by
 unfold nm nmW;split
 . intro e;have f:=congrArg Str.length e;have len:∀ z ,0<=z/\z<5->(Yq b _<|J<|8-z).length=(8-z).toNat:=λz h=>by
     have g:b.cps.toList.length=8:=by simpa [Str.length] using hb
     rw [StrLaws.sliceText_to ⟨by lia,by lia⟩];show (List.take _ _).toArray.size=_;rw [Of,List.length_take,List.drop_zero,g]
     lia
   rw [Zov,Zov,len c hc,len d hd] at f
   lia
 . refine nq (a:=(Yq b M<|J p).cps.toList) (b:=(Yq b (J<|p+1)<|J l).cps.toList) (x:=ltr<|(r+5*c)%26) (y:=ltr<|(r+5*d)%26) ?_ ?_ ?_
   . show (_++#[ltr<|(r+5*c)%26]++_).toList=_;simp
   . show (_++#[ltr<|(r+5*d)%26]++_).toList=_;simp
   . intro e;have q:=Zt5 ⟨((r+5*c)%26).toNat,by lia⟩ ⟨((r+5*d)%26).toNat,by lia⟩ (by
       show ltr (((r+5*c)%26).toNat)=ltr (((r+5*d)%26).toNat);rw [Int.toNat_of_nonneg<|by lia,Int.toNat_of_nonneg<|by lia];exact e)
     have q:=Fin.mk.inj q
     lia
def Zrz(hb:b.length=8):([0,1,2,3,4].map<|nm b l p r).Nodup:=by
 refine List.pairwise_map.mpr (List.Pairwise.imp_of_mem (λ{x y} a c ne=>Zzt hb ?_ ?_ ne)<|by decide)
 . simp at a;lia
 . simp at c;lia
def Zs7(H:Alk P (O "_law_names") Zch)(n)(v)(h):∃ns:List _,ns.length=5/\(∀x∈ns,Wl 20 x)/\ns.Nodup/\run P (n+1) (O "_law_names") [.int v] h=.ok (.ref h.length) (h++[.lst<|ns.map .str]):=by
 rw[ZeU H rfl];have u8:Zaj 0 8=[0,1,2,3,4,5,6,7].map D.int:=by rfl
 have u5:Zaj 0 5=[0,1,2,3,4].map D.int:=by rfl
 have m8:opB .Mod (.int v) (.int 8) h=.ok (.int<|v%8) h:=ZR (by decide);have d8:opB .FloorDiv (.int v) (.int 8) h=.ok (.int<|v/8) h:=Zdd (by decide);have mp:opB .Mod (.int<|v/8) (.int<|1+v%8) h=.ok (.int<|v/8%(1+v%8)) h:=ZR (by lia);have mW:opB .FloorDiv (.int v) (.int 64) h=.ok (.int<|v/64) h:=Zdd (by decide);obtain⟨r',b,k',hb,mn,e1⟩:=ZrM (U:=⟨P.G,P.GD,run P n,P.L⟩) (h:=h) (a:=J<|.int v) (l:=J<|.int<|1+v%8) (p:=J<|.int<|v/8%(1+v%8)) (f:=M) (sg:=M) (wd:=M) [0,1,2,3,4,5,6,7] (v/64) (O "") 0 M ⟨by decide +kernel,by decide +kernel⟩ (by decide +kernel) (by decide);obtain⟨k2,ge,f8,e2⟩:=Zf6 (U:=⟨P.G,P.GD,run P n,P.L⟩) (h:=h) (a:=J<|.int v) (l:=1+v%8) (p:=v/8%(1+v%8)) (r:=r') hb [0,1,2,3,4] [] k' M M (by decide) (by decide);refine⟨[0,1,2,3,4].map<|nm b (1+v%8) (v/8%(1+v%8)) r',rfl,λx hx=>?_,Zrz mn,?_⟩
 . obtain⟨c,_,rfl⟩:=List.mem_map.mp hx;exact Zzs hb _ _ _ _
 generalize nm b (1+v%8) (v/8%(1+v%8)) r'=F at e2 ⊢;simp only[Oy,OB]at e2;have s8:Zb6 8=Wq:=by decide
 have s5:Zb6 5=Wq:=by decide
 unfold ZP at e1;unfold vn ZwX ZwV ZwZ ZwY ZwU ZzD ZzC ZzE ZwW ZP at e2;rw[<-u8]at e1;rw[<-u5]at e2
 try simp at e1
 try simp at e2
 simp[Zch,ZhG,ZG,m8,d8,mp,mW,s8,s5,e1,e2,YC]
end Gn
end
namespace Gn
open PySem L2 IV
set_option tactic.hygienic false
noncomputable abbrev Scp:=List (Str×Str)
noncomputable def pairOf(p:Str×Str):D:=.tup [.str p.1,.str p.2]
def Zqg(h:Hd)(k:Nat)(sc:Scp):Prop:=h[k]?=J (.lst<|sc.map pairOf)
structure KnOk(sc:Scp)(kn:List (Key×D)):Prop where
 key:∀p∈kn,∃x,p.1=YE x/\x∈sc.map (·.1)
 val:∀p∈kn,∃s,p.2=D.str s
def ZlE(h:p∈putD kn k v):p∈kn\/p=(k,v):=by
 unfold putD at h;split at h
 . obtain⟨q,a,e⟩:=List.mem_map.mp h;split at e
   . simp_all
   simp_all
 simp_all
def Zq2:(putD kn k v).length<=kn.length+1:=by unfold putD;split<;>simp
def Zth(hz:kn.length<1000):Z1 (.ref h.length) (.str x) v (h++[.dic kn])=.ok () (h++[.dic<|putD kn (.inr x) v]):=by simp only[Z1,ZL,keyOf];rw[if_pos (by rw[YC];lia)];simp
theorem ZoC(hs:Zqg h k sc0):∀ (sc:Scp) (kn) (a b),(∀ p∈sc,p∈sc0)->KnOk sc0 kn->kn.length+sc.length<=500->∃ cL a' b',KnOk sc0 cL/\cL.length<=kn.length+sc.length /\
   ZY [(k,sc0.map pairOf)] (.two 3 4) (xs2 U<|.cons (.put (.var 2) (.var 3)<|.var 4) .nil) (sc.map pairOf) [J<|.ref k,w,J<|.ref h.length,a,b] (h++[.dic kn])
     = .ok (.nx,[J<|.ref k,w,J<|.ref h.length,a',b']) (h++[.dic cL])
 |[],kn,a,b,R,d,f=>by
   refine⟨kn,a,b,d,by simp,?_⟩;simp [ZY,Wk.stays,(Oe<|ZM hs).I hs]
 | (x,s)::sc,kn,a,b,R,d,f=>by
   simp only [Os] at f;have i:=Zq2 (kn:=kn) (k:=.inr x) (v:=.str s);obtain⟨cL,a',b',g,j,e⟩:=ZoC (U:=U) (w:=w) hs sc (putD kn (.inr x)<|.str s) (J<|.str x) (J<|.str s) (λp c=>R p<|by simp [c]) (by
     refine⟨λp c=>?_,λp c=>?_⟩
     . rcases ZlE c with z|rfl
       . exact d.key p z
       . exact⟨x,rfl,List.mem_map.mpr ⟨(x,s),R _<|by simp,rfl⟩⟩
     . rcases ZlE c with z|rfl
       . exact d.val p z
       . exact⟨s,rfl⟩) (by lia)
   refine⟨cL,a',b',g,by simp only [Os];lia,?_⟩;rw [Op,ZY];simp only [Wk.stays,(Oe<|ZM hs).I hs,decide_true,if_true];simp [pairOf,Zth (h:=h) (kn:=kn) (x:=x) (v:=.str s)<|by lia];simpa [pairOf] using e
def find_key(hx:YE x∈kn.map (·.1)):∃v,Zw kn (.inr x)=J v/\(YE x,v)∈kn:=by
 induction kn with
 |nil=>simp_all
 |cons p r a=>
  unfold Zw;by_cases e:p.1=YE x
  . refine⟨p.2,?_,?_⟩
    . simp_all
    . rw[<-e];exact Oi
  . obtain⟨v,R,b⟩:=a (by simpa[YL e]using hx);refine⟨v,?_,Oh _ b⟩;simpa[Wm,e,Zw]using R
theorem ZoJ{sc:Scp}:∀{kn:List (Key×D)},(∀p∈kn,∃x,p.1=YE x/\x∈sc.map (·.1))->∃ss,Z0 kn=J ss/\ss.length=kn.length/\(∀x∈ss,x∈sc.map (·.1)/\YE x∈kn.map (·.1))
 |[],_=>⟨_,rfl,rfl,by simp⟩
 |(k,v)::r,h=>by
  obtain⟨x,e,b⟩:=h (k,v) (by simp);cases e;obtain⟨ss,c,d,a⟩:=ZoJ (kn:=r) λp f=>h p (by simp_all);refine⟨_,by rw[Z0,c];rfl,by simp_all,λy hy=>?_⟩;rcases O2.mp hy with rfl|hy
  . exact⟨b,by simp⟩
  . exact⟨(a y hy).1,by simp[(a y hy).2]⟩
theorem Znj{U}{so:List _}(hv:∀p∈kn,∃s,p.2=D.str s):∀(xs:List _) (ai:List _),(∀x∈xs,YE x∈kn.map (·.1))->ai.length+xs.length<=1000->∃ys,(∀y∈ys,y∈xs) /\
 ZF [(h.length+1,so.map D.str)] (.nm 0) (tsto U<|J<|.ex<|.cmp .Eq (.ix (.var 2)<|.var 0)<|.var 1) (ev U<|.var 0) (xs.map D.str) [M,J<|.str w,J<|.ref h.length] (ai.map .str) (h++[.dic kn,.lst<|so.map .str])
  = .ok ((ai++ys).map .str) (h++[.dic kn,.lst<|so.map .str])
 |[],ai,R,c=>⟨[],by simp,by simp[ZF,Wk.stays]⟩
 |x::xs,ai,R,c=>by
  simp only[Os]at c;obtain⟨v,f,hm⟩:=find_key (R x<|by simp);obtain⟨s,rfl⟩:∃s,v=D.str s:=hv _ hm;have ix:ZaR U.GD (.ref h.length) (.str x) (h++[.dic kn,.lst<|so.map .str])=.ok (.str s) (h++[.dic kn,.lst<|so.map .str]):=by simp[ZaR,dicOf,f]
  have d:ai.length<Yc:=by rw[YC];lia
  by_cases e:s=w
  . obtain⟨ys,b,a⟩:=Znj (U:=U) (h:=h) (w:=w) (so:=so) hv xs (ai++[x]) (λy hy=>R y<|by simp[hy]) (by simp;lia);refine⟨x::ys,λy hy=>?_,?_⟩
    . rcases O2.mp hy with rfl|hy
      . simp
      . simp[b y hy]
    . rw[Op,ZaZ];simp at a;simp[Wk.stays,d,ix,e,a]
  . obtain⟨ys,b,a⟩:=Znj (U:=U) (h:=h) (w:=w) (so:=so) hv xs ai (λy hy=>R y<|by simp[hy]) (by lia);refine⟨ys,λy hy=>by simp[b y hy],?_⟩;rw[Op,ZaZ];simp at a;simp[Wk.stays,d,ix,e,a]
theorem Zs3{P}(H:Mk0 P)(n){sc}(w)(hs:Zqg h k sc)(hl:sc.length<=60)(hok:∀ p∈sc,Yp p.1=Wq):∃ (ys:List _) (g:Hd),(∀ y∈ys,y∈sc.map (·.1))/\g.length=2 /\
   run P (n+1) (O "_law_there") [.ref k,.str w] h=.ok (.ref<|h.length+2) (h++g++[.lst<|ys.map .str]):=by
 rw [Ze H.there rfl];obtain⟨kn,a',b',hk,jB,e1⟩:=ZoC (U:=⟨P.G,P.GD,run P n,P.L⟩) (w:=J<|.str w) hs sc [] M M (λ_ hp=>hp) ⟨by simp,by simp⟩ (by simp;lia);obtain⟨ss,e2,e3,e4⟩:=ZoJ hk.key;have perm:=ZeS ss;obtain⟨ys,q1,q2⟩:=Znj (U:=⟨P.G,P.GD,run P n,P.L⟩) (h:=h) (kn:=kn) (w:=w) (so:=ZdI ss) hk.val (ZdI ss) [] (λx hx=>(e4 x<|perm.mem_iff.mp hx).2) (by rw [perm.length_eq];simp at jB ⊢;lia);refine⟨ys,[.dic kn,.lst<|(ZdI ss).map .str],λy hy=>(e4 y<|perm.mem_iff.mp<|q1 y hy).1,rfl,?_⟩;have io:Zan P.GD .srt [.ref h.length] (h++[.dic kn])=.ok (.ref<|h.length+1) (h++[.dic kn,.lst<|(ZdI ss).map .str]):=by
   show Zg2 P.GD [.ref h.length] (h++[.dic kn])=_;simp only [Zg2,dicOf,ZL,Yz,e2];rw [if_pos ⟨by simp at jB;lia,by
   rw [OC];intro x hx;obtain⟨p,hp,rfl⟩:=List.mem_map.mp (e4 x hx).1;exact hok p hp⟩]
   simp
 have lh:ZaW (.ref k) (h++[DO.dic []])=J ⟨[(k,sc.map pairOf)],sc.map pairOf⟩:=by
   have:(h++[DO.dic []])[k]?=J (.lst<|sc.map pairOf):=(Oe<|ZM hs).I hs;simp [ZaW,this]
 have lg:ZaW (.ref<|h.length+1) (h++[DO.dic kn,.lst<|(ZdI ss).map .str])=J ⟨[(h.length+1,(ZdI ss).map .str)],(ZdI ss).map .str⟩:=by
   simp [ZaW]
 simp at q2 e1;simp [Zef,ZhF,ZG,ZaX,Zbi,lh,e1,io,lg,ZbQ,q2]
set_option tactic.hygienic true
section
structure Ctx(cs:List Int)(ns:List Str)(h:Hd)(i j m k:Nat)(sc:Scp)(a b:Int):Prop where
 st:St3 h i j cs a b
 nm:h[m]?=J (.lst<|ns.map .str)
 n5:ns.length=5
 nok:∀x∈ns,Wl 20 x
 nd:ns.Nodup
 sca:Zqg h k sc
 sco:∀p∈sc,Wl 20 p.1
 im:i≠m
 ik:i≠k
 ab:0<=a
variable {P:Pg}{cs:List Int}{ns:List Str}{h h':Hd}{i j m k:Nat}{sc:Scp}{a b a' b':Int}
def Ctx.up(c:Ctx cs ns h i j m k sc a b)(u:Up i h h')(st:St3 h' i j cs a' b')(ab:0<=a'):Ctx cs ns h' i j m k sc a' b':=⟨st,u.at c.nm<|YL c.im,c.n5,c.nok,c.nd,u.at c.sca<|YL c.ik,c.sco,c.im,c.ik,ab⟩
def St3.app(s:St3 h i j cs a b):St3 (h++g) i j cs a b:=⟨(Oe<|ZM s.1).I s.1,(Oe<|ZM s.2.1).I s.2.1,s.2.2⟩
theorem Ctx.app(c:Ctx cs ns h i j m k sc a b):Ctx cs ns (h++g) i j m k sc a b:=c.up Up.app c.st.app c.ab
def Ctx.name(c:Ctx cs ns h i j m k sc a b)(v)(h0:0<=v)(h5:v<5):∃x,ZaR GD (.ref m) (.int v) h=.ok (.str x) h/\Wl 20 x/\ns[v.toNat]?=J x:=by
 obtain⟨q,rfl⟩:∃q:Nat,v=q:=⟨v.toNat,by lia⟩
 have d:q<ns.length:=by have:=c.n5;lia
 refine⟨_,?_,c.nok _<|List.getElem_mem _,Og d⟩;rw[ZE c.nm,IV.ZcH,On,Og _];rfl
noncomputable def A(r:Nat):Int:=4^(r+1)
def ZmF(r:Nat):0<A r:=Int.pow_pos (by decide)
def Zx4(r):A (r+1)=4*A r:=by unfold A;rw[Int.pow_succ];lia
noncomputable def pz(x:Int):Int:=max x 0
inductive Made(cs:List Int)(h:Hd)(i j:Nat)(sc:Scp)(a b ex mx:Int)(dm:Nat)(r:qd D):Prop
 |mk (t:T) (h':Hd) (a' b':Int) (e:r=.ok (T.d t) h') (u:Up i h h') (s:St3 h' i j cs a' b') (l1:a<=a') (l2:a'<=a+mx) (c:Cl (sc.map (·.1)) t) (p:nb t<=dep t/\dep t<=dm) (z:fw t<=3*(pz b-pz b')+ex)
def Zpg(P:Pg)(r n0:Nat):Prop:=∀(n:Nat) (d:List Int) (e:List Str) (h:Hd) (i j m k:Nat) (sc:Scp) (a b:Int) (w:Str) (c:Int),c<=r->Ctx d e h i j m k sc a b->sc.length+2*r<=50->a+A r<2^50 ->
 Made d h i j sc a b 0 (A r) (3*r+3) (run P (n+n0) (O "_law_any") [.str w,.ref k,.ref i,.ref m,.int c] h)
def ZsE(H:Mk0 P)(n)(c:Ctx cs ns h i j m k sc a b)(w)(room)(hl:sc.length<=50)(ha:a<2^50)(T1 T2 T3:Option D):∃(v:Int) (w':Str) (ys:List _) (h':Hd) (l:Nat),
 xs2 ⟨P.G,P.GD,run P<|n+2,P.L⟩ (.cons Zbf<|.cons ZcE<|.cons Zbe<|.cons ZcD<|.cons Zbd .nil) [J<|.str w,J<|.ref k,J<|.ref i,J<|.ref m,J<|.int room,T1,T2,T3,M,M] h
  = .ok (.nx,[J<|.str w',J<|.ref k,J<|.ref i,J<|.ref m,J<|.int room,J<|.int v,J<|.int<|v/87,J<|.ref l,M,M]) h'/\Up i h h'/\Ctx cs ns h' i j m k sc (a+1) (b-1)/\h'[l]?=J (.lst<|ys.map .str)/\(∀y∈ys,y∈sc.map (·.1)):=by
 have o:=c.st.1;have B:Z1 (.ref i) (.int 2) (.int<|b-1) h=.ok () (h.set i<|.lst [.ref j,.int a,.int<|b-1]):=by simp only[Z1,o];rfl
 have r:St3 (h.set i<|.lst [.ref j,.int a,.int<|b-1]) i j cs a (b-1):=⟨by rw[Ol<|ZM o],by rw[Oc c.st.2.2];exact c.st.2.1,c.st.2.2⟩
 obtain⟨v,t,_⟩:=ZmU H n r ⟨c.ab,ha⟩;have lt1:i<(h.set i<|.lst [.ref j,.int a,.int<|b-1]).length:=by simpa using (ZM o)
 have u:St3 ((h.set i<|.lst [.ref j,.int a,.int<|b-1]).set i<|.lst [.ref j,.int<|a+1,.int<|b-1]) i j cs (a+1) (b-1):=⟨by rw[Ol lt1],by rw[Oc c.st.2.2];exact r.2.1,c.st.2.2⟩
 have f:=(c.up Up.set r c.ab).up Up.set u (by have:=c.ab;lia);generalize C:(h.set i<|.lst [.ref j,.int a,.int<|b-1]).set i (.lst [.ref j,.int<|a+1,.int<|b-1])=d at t u f;have mX:∀h,opB .FloorDiv (.int v) (.int 29) h=.ok (.int<|v/29) h:=λh=>Zdd (by decide);have m3:∀h,opB .Mod (.int<|v/29) (.int 3) h=.ok (.int<|v/29%3) h:=λh=>ZR (by decide);have mV:∀h,opB .FloorDiv (.int v) (.int 87) h=.ok (.int<|v/87) h:=λh=>Zdd (by decide);have E:ZaR P.GD (.ref i) (.int 2) h=.ok (.int b) h:=by rw[ZE o];simp
 have F:∃(w':Str) (h3:Hd),xs1 ⟨P.G,P.GD,run P<|n+2,P.L⟩ Zbe [J<|.str w,J<|.ref k,J<|.ref i,J<|.ref m,J<|.int room,J<|.int v,T2,T3,M,M] d
  = .ok (.nx,[J<|.str w',J<|.ref k,J<|.ref i,J<|.ref m,J<|.int room,J<|.int v,T2,T3,M,M]) h3/\Up i d h3/\Ctx cs ns h3 i j m k sc (a+1) (b-1):=by
  have z:tst (P.tbl<|n+2) (.ex<|.cmp .Eq (.bin .Mod (.var 5)<|.Ci_ 29)<|.Ci_ 0) [J<|.str w,J<|.ref k,J<|.ref i,J<|.ref m,J<|.int room,J<|.int v,T2,T3,M,M] d=.ok (Wu<|v%29=0) d:=Zgt ((Zr rfl rfl).I<|(λh=>ZR<|by decide) d) rfl;by_cases A:v%29=0
  . have go:∀w':Str,atI [D.str<|O "n",.str<|O "f",.str<|O "g"] (v/29%3)=J (D.str w')->xs1 (P.tbl<|n+2) Zbe [J<|.str w,J<|.ref k,J<|.ref i,J<|.ref m,J<|.int room,J<|.int v,T2,T3,M,M] d
     = .ok (.nx,[J<|.str w',J<|.ref k,J<|.ref i,J<|.ref m,J<|.int room,J<|.int v,T2,T3,M,M]) (d++[.lst [.str<|O "n",.str<|O "f",.str<|O "g"]]):=λw' e=>
     (Zq<|Zh z<|decide_eq_true A).I ((Za<|Zg<|Zmp e rfl ((Zr (x:=.int<|v/29) ((Zr rfl rfl).I<|mX _) rfl).I<|m3 _)<|by decide).I rfl)
    have q:v/29%3=0\/v/29%3=1\/v/29%3=2:=by lia
    rcases q with q|q|q
    . exact⟨O "n",_,go _ (by rw[q];rfl),Up.app,f.app⟩
    . exact⟨O "f",_,go _ (by rw[q];rfl),Up.app,f.app⟩
    . exact⟨O "g",_,go _ (by rw[q];rfl),Up.app,f.app⟩
  . exact⟨w,d,(Zi<|Zh z<|decide_eq_false A).I rfl,Up.refl,f⟩
 obtain⟨w',h3,K,N,s⟩:=F;obtain⟨ys,g,Q,R,S⟩:=Zs3 H (n+1) w' s.sca (by lia)<|λp T=>(s.sco p T).1;refine⟨v,w',ys,h3++g++[.lst<|ys.map .str],h3.length+2,?_,((C▸Up.set.I Up.set).I N).I<|Up.app.I Up.app,s.app.app,?_,Q⟩
 . have U:xs1 ⟨P.G,P.GD,run P<|n+2,P.L⟩ Zbf [J<|.str w,J<|.ref k,J<|.ref i,J<|.ref m,J<|.int room,T1,T2,T3,M,M] h=.ok (.nx,[J<|.str w,J<|.ref k,J<|.ref i,J<|.ref m,J<|.int room,T1,T2,T3,M,M]) (h.set i<|.lst [.ref j,.int a,.int<|b-1]):=by have q:ev (P.tbl<|n+2) (.bin .Sub (.ix (.var 2)<|.Ci_ 2)<|.Ci_ 1) [J<|.str w,J<|.ref k,J<|.ref i,J<|.ref m,J<|.int room,T1,T2,T3,M,M] h=.ok (.int<|b-1) h:=(Zr (x:=.int b) ((Zf rfl rfl).I E) rfl).I rfl;rw[Zbf,ZnU];show(ev (P.tbl<|n+2) (.bin .Sub (.ix (.var 2)<|.Ci_ 2)<|.Ci_ 1) _ h).bnd _=_;rw[q];show(Z1 (.ref i) (.int 2) (.int<|b-1) h).bnd _=_;rw[B];rfl
   have V:xs1 ⟨P.G,P.GD,run P<|n+2,P.L⟩ ZcE [J<|.str w,J<|.ref k,J<|.ref i,J<|.ref m,J<|.int room,T1,T2,T3,M,M] (h.set i<|.lst [.ref j,.int a,.int<|b-1])=.ok (.nx,[J<|.str w,J<|.ref k,J<|.ref i,J<|.ref m,J<|.int room,J<|.int v,T2,T3,M,M]) d:=by exact Zg (Zl t rfl)
   have x4:∀q,xs1 ⟨P.G,P.GD,run P<|n+2,P.L⟩ ZcD [J<|.str w',J<|.ref k,J<|.ref i,J<|.ref m,J<|.int room,J<|.int v,q,T3,M,M] h3=.ok (.nx,[J<|.str w',J<|.ref k,J<|.ref i,J<|.ref m,J<|.int room,J<|.int v,J<|.int<|v/87,T3,M,M]) h3:=by exact λq=>Zg ((Zr rfl rfl).I<|mV _)
   have W:xs1 ⟨P.G,P.GD,run P<|n+2,P.L⟩ Zbd [J<|.str w',J<|.ref k,J<|.ref i,J<|.ref m,J<|.int room,J<|.int v,J<|.int<|v/87,T3,M,M] h3=.ok (.nx,[J<|.str w',J<|.ref k,J<|.ref i,J<|.ref m,J<|.int room,J<|.int v,J<|.int<|v/87,J<|.ref<|h3.length+2,M,M]) (h3++g++[.lst<|ys.map .str]):=by simp only[Zbd,Zkn,ZoV,Zl9,ZoR,Zr4,O0,OJ,Option.join_some,ofO_some,Zz,bind_ok,S];rfl
   exact(Za U).I ((Za V).I<|(Za K).I<|(Za<|x4 _).I<|(Za W).I rfl)
 . have:h3.length+2=(h3++g).length:=by simp[R]
   rw[this];simp
end
set_option tactic.hygienic false
section
variable {P:Pg}{cs:List Int}{ns:List Str}{h h':Hd}{i j m k:Nat}{sc:Scp}{a b:Int}
theorem Cl.mono{sc bN:List _}:∀ {t:T},(∀ x∈sc,x∈bN)->Cl sc t->Cl bN t
 |.num n,_,c=>c
 |.name x,s,c=>s x c
 |.fn x e,s,c=>⟨Cl.mono (t:=e) (λy a=>by
     rcases O2.mp a with z|z
     . rw [z];exact Oi
     . exact Oh _ (s y z)) c.1,c.2⟩
 |.rcc f x e,s,c=>⟨Cl.mono (t:=e) (λy a=>by
     rcases O2.mp a with z|z
     . rw [z];exact Oi
     . rcases O2.mp z with q|q
       . rw [q];exact Oh _ Oi
       . exact Oh _ (Oh _<|s y q)) c.1,c.2⟩
 |.call f e,s,c|.op w p q,s,c=>⟨Cl.mono s c.1,Cl.mono s c.2⟩
 |.iff p q r,s,c=>⟨Cl.mono s c.1,Cl.mono s c.2.1,Cl.mono s c.2.2⟩
noncomputable def ZsM(z:Int):Wd:=if z=0 then .add else if z=1 then .sub else if z=2 then .mul else .lt
def wd4(z)(h0:0<=z)(h4:z<4):atI [D.str<|O "+",.str<|O "-",.str<|O "*",.str<|O "<"] z=J (.str (ZsM z).s):=by
 have:z=0\/z=1\/z=2\/z=3:=by lia
 rcases this with rfl|rfl|rfl|rfl<;>simp[ZsM,Wd.s]
noncomputable def me(ac:Int)(k i m:Nat)(room:Int)(a b c d:Option D):Ev:=[J<|.int ac,J<|.ref k,J<|.ref i,J<|.ref m,J<|.int room,a,b,c,d]
def ZwJ(H:Mk0 P)(ih:Zpg P r n0)(hn:1<=n0)(n)(c:Ctx cs ns h i j m k sc a b)(ac)(room:Int)(hr:room<=r)(hl:sc.length+2*r<=50)(ha:a+2*A r<2^50):
 Made cs h i j sc a b 0 (2*A r) (3*r+4) (run P (n+n0+1) (O "_law_number") [.int ac,.ref k,.ref i,.ref m,.int room] h):=by
 have Ap:=ZmF r;rw[ZeU H.number rfl];show Made cs h i j sc a b 0 (2*A r) (3*r+4) (Zn<|xs2 (P.tbl<|n+n0) Zdw (me ac k i m room M M M M) h);have x1:∀h,xs1 (P.tbl<|n+n0) ZeA (me ac k i m room M M M M) h=.ok (.nx,me ac k i m room (J<|.int<|ac%6) M M M) h:=λh=>rfl;rw[Zdw,Za<|x1 h];obtain⟨v,W⟩:∃v,n+n0=v+1:=⟨n+n0-1,by lia⟩
 by_cases U:ac%6=0
 . obtain⟨t,g,o,X,pt⟩:=Zkt H v (O "n") (ac/6) h (sc.map (·.1));refine⟨t,h++g,a,b,?_,Up.app,c.st.app,by lia,by lia,X,by lia,by lia⟩;rw[<-W]at o;have w:xs1 (P.tbl<|n+n0) ZbT (me ac k i m room (J<|.int<|ac%6) M M M) h=.ok (.rt t.d,me ac k i m room (J<|.int<|ac%6) M M M) (h++g):=(Zq<|Zh (Zgt rfl rfl)<|decide_eq_true U).I<|Zc<|ZaN o rfl rfl;rw[Zc w];rfl
 . have w:xs1 (P.tbl<|n+n0) ZbT (me ac k i m room (J<|.int<|ac%6) M M M) h=.ok (.nx,me ac k i m room (J<|.int<|ac%6) M M M) h:=(Zi<|Zh (Zgt rfl rfl)<|decide_eq_false U).I rfl;rw[Za w];by_cases V:ac%6<3
   . obtain⟨f,l,x,y,o,u1,z,l1,l2,B,Y,Z⟩:=ih n cs ns h i j m k sc a b (O "n") room hr c hl (by lia);obtain⟨p,s,C,E,F,G,K,l3,l4,L,p2,z2⟩:=ih n cs ns (l++[.lst [.str<|O "+",.str<|O "-",.str<|O "*",.str<|O "<"]]) i j m k sc x y (O "n") room hr (c.up u1 z (by have:=c.ab;lia)).app hl (by lia);refine⟨.op (ZsM<|ac/6%4) f p,s,C,E,?_,u1.I<|Up.app.I G,K,by lia,by lia,⟨B,L⟩,by simp only[dep,nb];lia,by simp only[fw];clear ih hl ha;lia⟩;have N:xs1 (P.tbl<|n+n0) ZbS (me ac k i m room (J<|.int<|ac%6) M M M) h=.ok (.rt (T.op (ZsM<|ac/6%4) f p).d,me ac k i m room (J<|.int<|ac%6) (J f.d) M M) s:=by refine(Zq<|Zh rfl<|decide_eq_true V).I ?_;refine(Za (ρ1:=me ac k i m room (J<|.int<|ac%6) (J f.d) M M) (R:=l)<|ZaN o rfl rfl).I ?_;exact Zc (Zm<|ZaF (Zb (Zmp (wd4 (ac/6%4) (by lia)<|by lia) rfl rfl<|by simp)<|Zb rfl<|Zb (Zl F rfl) rfl)<|by simp)
     rw[Zc N];rfl
   . have Q:∃e,(e=O "f" \/ e=O "g")/\atI [D.str<|O "f",.str<|O "f",.str<|O "g"] (ac%6-3)=J (.str e):=by
      have:ac%6-3=0\/ac%6-3=1\/ac%6-3=2:=by lia
      rcases this with q|q|q<;>rw[q]<;>simp
     obtain⟨e,la,Q⟩:=Q;obtain⟨f,l,x,y,o,u1,z,l1,l2,B,Y,Z⟩:=ih n cs ns (h++[.lst [.str<|O "f",.str<|O "f",.str<|O "g"]]) i j m k sc a b e room hr c.app hl (by lia);have cc:=c.app.up u1 z (by have:=c.ab;lia);have S:∃u,ZaR P.GD (.ref l.length) (.str e) (l++[.dic [(.inr<|O "f",.str<|O "n"),(.inr<|O "g",.str<|O "f")]])=.ok (.str u) (l++[.dic [(.inr<|O "f",.str<|O "n"),(.inr<|O "g",.str<|O "f")]]):=by
      rcases la with rfl|rfl
      . exact⟨O "n",by simp[ZaR,dicOf,Zw]⟩
      . exact⟨O "f",by simp[ZaR,dicOf,Zw]⟩
     obtain⟨u,S⟩:=S;obtain⟨p,s,C,E,F,G,K,l3,l4,L,p2,z2⟩:=ih n cs ns (l++[.dic [(.inr<|O "f",.str<|O "n"),(.inr<|O "g",.str<|O "f")]]) i j m k sc x y u room hr cc.app hl (by lia);refine⟨.call f p,s,C,E,?_,Up.app.I<|u1.I<|Up.app.I G,K,by lia,by lia,⟨B,L⟩,by simp only[dep,nb];lia,by simp only[fw];clear ih hl ha;lia⟩;have N:xs1 (P.tbl<|n+n0) ZbS (me ac k i m room (J<|.int<|ac%6) M M M) h=.ok (.nx,me ac k i m room (J<|.int<|ac%6) M M M) h:=(Zi<|Zh rfl<|decide_eq_false V).I rfl;have x4:xs1 (P.tbl<|n+n0) Zez (me ac k i m room (J<|.int<|ac%6) M M M) h=.ok (.nx,me ac k i m room (J<|.int<|ac%6) M (J<|.str e) M) (h++[.lst [.str<|O "f",.str<|O "f",.str<|O "g"]]):=Zg (i:=7) (Zmp Q rfl rfl<|by simp);have x5:xs1 (P.tbl<|n+n0) Zey (me ac k i m room (J<|.int<|ac%6) M (J<|.str e) M) (h++[.lst [.str<|O "f",.str<|O "f",.str<|O "g"]])=.ok (.nx,me ac k i m room (J<|.int<|ac%6) M (J<|.str e)<|J f.d) l:=ZaN o rfl rfl;have p6:ev (P.tbl<|n+n0) (.ix (.dictl<|.cons (.Cs_ "f")<|.cons (.Cs_ "n")<|.cons (.Cs_ "g")<|.cons (.Cs_ "f") .nil)<|.var 7) (me ac k i m room (J<|.int<|ac%6) M (J<|.str e)<|J f.d) l=.ok (.str u) (l++[.dic [(.inr<|O "f",.str<|O "n"),(.inr<|O "g",.str<|O "f")]]):=S;have x6:xs1 (P.tbl<|n+n0) Zex (me ac k i m room (J<|.int<|ac%6) M (J<|.str e)<|J f.d) l=.ok (.rt (T.call f p).d,me ac k i m room (J<|.int<|ac%6) M (J<|.str e)<|J f.d) s:=Zm (ZaF (Zb rfl<|Zb rfl<|Zb ((ZxA<|Zb p6 rfl).I F) rfl)<|by simp);rw[Za N,Za x4,Za x5,Zc x6];rfl
def Ctx.wider(c:Ctx cs ns h i j m k sc a b)(more)(hm:∀p∈more,Wl 20 p.1):Ctx cs ns (h++[.lst<|more.map pairOf,.lst<|(sc++more).map pairOf]) i j m (h.length+1) (sc++more) a b:=by
 have d:=c.app (g:=[.lst<|more.map pairOf,.lst<|(sc++more).map pairOf]);refine⟨d.st,d.nm,d.n5,d.nok,d.nd,by unfold Zqg;simp,λp e=>?_,d.im,?_,d.ab⟩
 . rcases OD.mp e with z|z
   . exact c.sco p z
   . exact hm p z
 . have:=ZM c.st.1
   lia
def ZkX(c:Ctx cs ns h i j m k sc a b)(more)(hz:sc.length+more.length<=100):opB .Add (.ref k) (.ref h.length) (h++[.lst<|more.map pairOf])=.ok (.ref<|h.length+1) (h++[.lst<|more.map pairOf,.lst<|(sc++more).map pairOf]):=by simp only[opB,ZuQ,(Oe<|ZM c.sca).I c.sca,ZL];rw[if_pos (by simp;rw[YC];lia)];simp
def ZyM{sc:Scp}{x s:Str}:∀y∈(sc++[(x,s)]).map (·.1),y∈x::sc.map (·.1):=λy a=>by
 rw[List.map_append]at a;rcases OD.mp a with z|z
 . exact Oh _ z
 simp_all
def unlike{ns:List Str}(n5:ns.length=5)(nd:ns.Nodup){x f}{ac:Int}(ax:ns[(ac%5).toNat]?=J x)(af:ns[((ac%5+1+ac/15%4)%5).toNat]?=J f):f≠x:=λe=>by
 have q:=(List.getElem?_inj (i:=(ac%5).toNat) (j:=((ac%5+1+ac/15%4)%5).toNat) (by rw[n5];lia) nd).mp (by simp_all)
 lia
noncomputable def fe(w:Str)(ac:Int)(k i m:Nat)(room:Int)(a b c d:Option D):Ev:=[J<|.str w,J<|.int ac,J<|.ref k,J<|.ref i,J<|.ref m,J<|.int room,a,b,c,d]
def Zz2{N}{s}{w}{ac}{room}{x}{t1}{g1 R}(hc:opB .Add (.ref k) (.ref h.length) (h++[.lst<|[(x,s)].map pairOf])=.ok (.ref<|h.length+1) R)(e1:run P N (O "_law_any") [.str<|O "n",.ref<|h.length+1,.ref i,.ref m,.int room] R=.ok t1.d g1):ev (P.tbl N) (.tupl<|.cons (.Cs_ "fn")<|.cons (.var 6)<|.cons (.call (O "_law_any")<|.cons (.Cs_ "n")<|.cons (.bin .Add (.var 2)<|.lstl<|.cons (.tupl<|.cons (.var 6)<|.cons (.cst<|.str s) .nil) .nil)<|.cons (.var 3)<|.cons (.var 4)<|.cons (.var 5) .nil) .nil) (fe w ac k i m room (J<|.str x) M M M) h=.ok (T.fn x t1).d g1:=ZaF (Zb rfl<|Zb rfl<|Zb ((ZxA<|Zb rfl<|Zb ((Zr rfl rfl).I hc) rfl).I e1) rfl) (by simp)
def Zxn(H:Mk0 P){r n0}(ih:Zpg P r n0)(n)(c:Ctx cs ns h i j m k sc a b)(w)(ac)(room:Int)(hr:room<=r)(hl:sc.length+2+2*r<=50)(ha:a+2*A r<2^50):
 Made cs h i j sc a b 3 (2*A r) (3*r+6) (run P (n+n0+1) (O "_law_function") [.str w,.int ac,.ref k,.ref i,.ref m,.int room] h):=by
 have Ap:=ZmF r;have L:=c.ab;rw[ZeU H.function rfl];obtain⟨x,X,G,ax⟩:=c.name (GD:=P.GD) (ac%5) (by clear ih ha L hl hr;lia) (by clear ih ha L hl hr;lia);show Made cs h i j sc a b 3 (2*A r) (3*r+6) (Zn<|xs2 (P.tbl<|n+n0) (.cons Za4<|.cons Zag<|.cons Zaf<|.cons Za3<|.cons Za2<|.cons Za1<|.cons Zae<|.cons Zad .nil) (fe w ac k i m room M M M M) h);have Y:xs1 (P.tbl<|n+n0) Za4 (fe w ac k i m room M M M M) h=.ok (.nx,fe w ac k i m room (J<|.str x) M M M) h:=by exact Zg (i:=6) X
 rw[Za Y];by_cases Z:w=O "g"
 . have E:=ZkX c [(x,O "f")] (by simp;lia);obtain⟨l,o,p,q,F,u1,v,l1,l2,B,N,Q⟩:=ih n cs ns _ i j m (h.length+1) (sc++[(x,O "f")]) a b (O "n") room hr (c.wider [(x,O "f")]<|by simp[G]) (by simp;lia) (by lia);refine⟨.fn x l,o,p,q,?_,Up.app.I u1,v,l1,by lia,⟨Cl.mono (t:=l) ZyM B,G⟩,by simp only[dep,nb];lia,by simp only[fw];clear ih hl ha;lia⟩;have e:xs1 (P.tbl<|n+n0) Zag (fe w ac k i m room (J<|.str x) M M M) h=.ok (.rt (T.fn x l).d,fe w ac k i m room (J<|.str x) M M M) o:=by subst Z;exact(Zq rfl).I (Zc<|Zm<|Zz2 E F)
   rw[Zc e];rfl
 have x2:xs1 (P.tbl<|n+n0) Zag (fe w ac k i m room (J<|.str x) M M M) h=.ok (.nx,fe w ac k i m room (J<|.str x) M M M) h:=by exact(Zi<|Zh (ZcO rfl rfl)<|decide_eq_false Z).I rfl
 rw[Za x2];by_cases h3:ac/5%3=0
 . have E:=ZkX c [(x,O "n")] (by simp;lia);obtain⟨l,o,p,q,F,u1,v,l1,l2,B,N,Q⟩:=ih n cs ns _ i j m (h.length+1) (sc++[(x,O "n")]) a b (O "n") room hr (c.wider [(x,O "n")]<|by simp[G]) (by simp;lia) (by lia);refine⟨.fn x l,o,p,q,?_,Up.app.I u1,v,l1,by lia,⟨Cl.mono (t:=l) ZyM B,G⟩,by simp only[dep,nb];lia,by simp only[fw];clear ih hl ha;lia⟩;have e:xs1 (P.tbl<|n+n0) Zaf (fe w ac k i m room (J<|.str x) M M M) h=.ok (.rt (T.fn x l).d,fe w ac k i m room (J<|.str x) M M M) o:=(Zq<|Zh (Zgt (x:=ac/5%3) rfl rfl)<|decide_eq_true h3).I<|Zc<|Zm<|Zz2 E F;rw[Zc e];rfl
 have x3:xs1 (P.tbl<|n+n0) Zaf (fe w ac k i m room (J<|.str x) M M M) h=.ok (.nx,fe w ac k i m room (J<|.str x) M M M) h:=by exact(Zi<|Zh (Zgt (x:=ac/5%3) rfl rfl)<|decide_eq_false h3).I rfl
 obtain⟨f,ef,wf,af⟩:=c.name (GD:=P.GD) ((ac%5+1+ac/15%4)%5) (by clear ih ha L hl hr;lia) (by clear ih ha L hl hr;lia);have x4:xs1 (P.tbl<|n+n0) Za3 (fe w ac k i m room (J<|.str x) M M M) h=.ok (.nx,fe w ac k i m room (J<|.str x) (J<|.str f) M M) h:=by exact Zg (i:=7) ef
 have E:=ZkX c [(f,O "f"),(x,O "n")] (by simp;lia);have K:=c.wider [(f,O "f"),(x,O "n")] (by simp[G,wf]);have sub:∀y∈(sc++[(f,O "f"),(x,O "n")]).map (·.1),y∈x::f::sc.map (·.1):=λy hy=>by simp at hy ⊢;rcases hy with z|z|z<;>simp[z]
 generalize S:(h++[DO.lst<|[(f,O "f"),(x,O "n")].map pairOf,.lst<|(sc++[(f,O "f"),(x,O "n")]).map pairOf])=R at E K;have ug:Up i h R:=by rw[<-S];exact Up.app
 have gu:R.length=h.length+2:=by rw[<-S];simp
 have x5:xs1 (P.tbl<|n+n0) Za2 (fe w ac k i m room (J<|.str x) (J<|.str f) M M) h=.ok (.nx,fe w ac k i m room (J<|.str x) (J<|.str f) (J<|.ref<|h.length+1) M) R:=by exact Zg (i:=8) ((Zr (x:=.ref k) (y:=.ref h.length) (R:=h) (h2:=h++[.lst<|[(f,O "f"),(x,O "n")].map pairOf]) rfl rfl).I E)
 have x6:xs1 (P.tbl<|n+n0) Za1 (fe w ac k i m room (J<|.str x) (J<|.str f) (J<|.ref<|h.length+1) M) R=.ok (.nx,fe w ac k i m room (J<|.str x) (J<|.str f) (J<|.ref<|h.length+1)<|J (T.call (.name f)<|.op .sub (.name x)<|.num 1).d) R:=by exact rfl
 rw[Za x3,Za x4,Za x5,Za x6];generalize bM:sc++[(f,O "f"),(x,O "n")]=C at K sub S;have nE:C.length=sc.length+2:=by rw[<-bM];simp
 clear Y x2 x3 x4 x5 x6 E S bM X ef;have u:∀(l:T) (o:Hd) (p q:Int),Up i R o->St3 o i j cs p q->a<=p->p<=a+A r->Cl (x::f::sc.map (·.1)) l->nb l<=dep l/\dep l<=3*r+4->fw l<=3*(pz b-pz q) ->
  xs1 (P.tbl<|n+n0) Zae (fe w ac k i m room (J<|.str x) (J<|.str f) (J<|.ref<|h.length+1)<|J (T.call (.name f)<|.op .sub (.name x)<|.num 1).d) R=.ok (.nx,fe w ac k i m room (J<|.str x) (J<|.str f) (J<|.ref<|h.length+1)<|J l.d) o ->
  Made cs h i j sc a b 3 (2*A r) (3*r+6) (Zn<|xs2 (P.tbl<|n+n0) (.cons Zae<|.cons Zad .nil) (fe w ac k i m room (J<|.str x) (J<|.str f) (J<|.ref<|h.length+1)<|J (T.call (.name f)<|.op .sub (.name x)<|.num 1).d) R):=by
  intro l o p q u1 v l1 l2 B N Q x7;rw[Za x7];obtain⟨t2,g2,a2,b2,e2,u2,s2,l3,l4,c2,p2,z2⟩:=ih n cs ns o i j m (h.length+1) C p q (O "n") (room-1) (by clear ha;lia) (K.up u1 v (by clear hl ha hr;lia)) (by clear ha hr;lia) (by clear hl hr;lia);refine⟨.rcc f x<|.iff (.name x) l t2,g2,a2,b2,?_,ug.I<|u1.I u2,s2,Int.le_trans l1 l3,by clear hl hr ha;lia,⟨⟨Oi,B,Cl.mono sub c2⟩,unlike c.n5 c.nd ax af,wf,G⟩,by simp only[dep,nb];clear hl hr ha;lia,by simp only[fw];clear hl hr ha ih;lia⟩;have e:xs1 (P.tbl<|n+n0) Zad (fe w ac k i m room (J<|.str x) (J<|.str f) (J<|.ref<|h.length+1)<|J l.d) o=.ok (.rt (T.rcc f x<|.iff (.name x) l t2).d,fe w ac k i m room (J<|.str x) (J<|.str f) (J<|.ref<|h.length+1)<|J l.d) g2:=by exact Zm (ZaF (Zb rfl<|Zb rfl<|Zb rfl<|Zb (ZaF (Zb rfl<|Zb rfl<|Zb rfl<|Zb (Zl e2 rfl) rfl)<|by simp) rfl)<|by simp)
  rw[Zc e];rfl
 by_cases U:ac/60%3=0
 . obtain⟨l,o,p,q,F,u1,v,l1,l2,B,N,Q⟩:=ih n cs ns R i j m (h.length+1) C a b (O "n") room hr K (by clear ha hr;lia) (by clear hl hr;lia);refine u l o p q u1 v l1 l2 (Cl.mono sub B) (by lia) (by lia) ?_;exact(Zq<|Zh (Zgt (x:=ac/60%3) rfl rfl)<|decide_eq_true U).I (Za<|ZaN F rfl rfl)
 . by_cases V:ac/60%3=1
   . have W:∃wd:Wd,atI [D.str<|O "+",.str<|O "*"] (ac/180%2)=J (.str wd.s):=by
      have:ac/180%2=0\/ac/180%2=1:=by clear ih ha hl hr U V;lia
      rcases this with z|z<;>rw[z]
      . exact⟨.add,by simp[Wd.s]⟩
      . exact⟨.mul,by simp[Wd.s]⟩
     obtain⟨wd,W⟩:=W;obtain⟨l,o,p,q,F,u1,v,l1,l2,B,N,Q⟩:=ih n cs ns _ i j m (h.length+1) C a b (O "n") (room-1) (by clear ha;lia) (K.app (g:=[.lst [.str<|O "+",.str<|O "*"]])) (by clear ha hr;lia) (by clear hl hr;lia);refine u (.op wd l<|.call (.name f)<|.op .sub (.name x)<|.num 1) o p q (Up.app.I u1) v l1 l2 ⟨Cl.mono sub B,Oh _ Oi,Oi,by show(0:Int)<=1/\(1:Int)<1000000;decide⟩ (by simp only[dep,nb];clear hl hr ha;lia) (by simp only[fw];clear hl hr ha ih;lia) ?_;exact(Zi<|Zh (Zgt (x:=ac/60%3) rfl rfl)<|decide_eq_false U).I (Za<|(Zq<|Zh (Zgt (x:=ac/60%3) rfl rfl)<|decide_eq_true V).I<|Za<|Zg (i:=9)<|ZaF (Zb (Zmp W rfl rfl<|by simp)<|Zb (Zl F rfl) rfl)<|by simp)
   . refine u (.call (.name f)<|.op .sub (.name x)<|.num 1) R a b Up.refl K.st (Int.le_refl _) (by lia) ⟨Oh _ Oi,Oi,by show(0:Int)<=1/\(1:Int)<1000000;decide⟩ (by simp only[dep,nb];lia) (by simp only[fw];lia) ?_;exact(Zi<|Zh (Zgt (x:=ac/60%3) rfl rfl)<|decide_eq_false U).I (Za<|(Zi<|Zh (Zgt (x:=ac/60%3) rfl rfl)<|decide_eq_false V).I rfl)
theorem Zoi(rd):∀ys:List _,D.pys rd (ys.map D.str)=J (ys.map PyData.str)
 |[]=>rfl
 |y::ys=>by rw[Op,D.pys,Zoi _ _];rfl
theorem ZwN{l}{ys:List _}(e:h[l]?=J (.lst<|ys.map .str)):ZbE Wq (.ref l) (.ref h.length) (h++[.lst []])=.ok (.bl<|!ys.isEmpty) (h++[.lst []]):=by
 have p1:Zku (h++[.lst []]) (.ref l)=J (.list<|ys.map .str):=by
   show Zd1 (h++[.lst []]) 4 l=_;rw [Zd1,(Oe<|ZM e).I e];simp [Zoi]
 have p2:Zku (h++[DO.lst []]) (.ref h.length)=J (.list []):=by
   show Zd1 (h++[.lst []]) 4 h.length=_;rw [Zd1,ZL];rfl
 unfold IV.ZbE;rw [p1,p2];simp only;rw [if_pos (by
   have:(PyData.list []).depth<=1:=by decide +kernel
   lia)]
 cases ys with
 |nil=>rfl
 |cons y r=>rfl
def ZfW{U:Tb}{qd:Sxs}{ρ':Ev}{h':Hd}{s:Sx}{A B_:Sxs}{S:Ev}{h:Hd}(e:xs2 U (.cons s A) S h=.ok (.nx,ρ') h')(q:∀ρ1 R,xs2 U A ρ1 R=.ok (.nx,ρ') h'->xs2 U B_ ρ1 R=xs2 U qd ρ' h'):xs2 U (.cons s B_) S h=xs2 U qd ρ' h':=by
 rw[Zqk]at e ⊢;cases a:xs1 U s _ h with
 |bad|exc c R=>rw[a]at e;cases e
 |ok p R=>
  rw[a]at e;obtain⟨b,ρ1⟩:=p;cases b with
  |nx=>exact q _ _ e
  |bk=>cases e
  |ct=>cases e
  |rt d=>cases e
def Zyc(qd)(e:xs2 U (.cons s1<|.cons s2<|.cons s3<|.cons s4<|.cons s5 .nil) S h=.ok (.nx,ρ') h'):xs2 U (.cons s1<|.cons s2<|.cons s3<|.cons s4<|.cons s5 qd) S h=xs2 U qd ρ' h':=ZfW e λ_ _ e=>ZfW e λ_ _ e=>ZfW e λ_ _ e=>ZfW e λ_ _ e=>ZfW e λ_ _ e=>by simp_all
noncomputable def ae(w:Str)(k i m:Nat)(room v q:Int)(l:Nat)(a b:Option D):Ev:=[J<|.str w,J<|.ref k,J<|.ref i,J<|.ref m,J<|.int room,J<|.int v,J<|.int q,J<|.ref l,a,b]
def any_gen(H:Mk0 P)(n1)(c:Ctx cs ns h i j m k sc a b)(w)(room:Int)(mx:Int)(dm:Nat)(nP:2<=dm)(hl:sc.length<=50)(ha:a<2^50)(nH:1<=mx)
 (rc:1<=room->∃r n0 n',room-1<=(r:Nat)/\Zpg P r n0/\n1+2=n'+n0+1/\1<=n0/\sc.length+2+2*r<=50/\1+3*A r<=mx/\a+mx<2^50/\3*r+6<=dm) :
 Made cs h i j sc a b 0 mx dm (run P (n1+3) (O "_law_any") [.str w,.ref k,.ref i,.ref m,.int room] h):=by
 have cB:=c.ab;rw[ZeU H.any rfl];obtain⟨v,e,ys,n,l,e5,u5,c5,W,k7⟩:=ZsE H n1 c w room hl ha M M M;have st:ZG ZeZ.N [.str w,.ref k,.ref i,.ref m,.int room]=[J<|.str w,J<|.ref k,J<|.ref i,J<|.ref m,J<|.int room,M,M,M,M,M]:=rfl;rw[st,show ZeZ.body=.cons Zbf (.cons ZcE<|.cons Zbe<|.cons ZcD<|.cons Zbd<|.cons Zbc<|.cons ZaE<|.cons ZcC<|.cons Zbb<|.cons ZaO<|.cons ZbH .nil)from rfl,Zyc _ e5];show Made cs h i j sc a b 0 mx dm (Zn<|xs2 (P.tbl<|n1+2) (.cons Zbc<|.cons ZaE<|.cons ZcC<|.cons Zbb<|.cons ZaO<|.cons ZbH .nil) (ae e k i m room v (v/87) l M M) n);have nn:=ZwN W;have o:tst (P.tbl<|n1+2) (.ex<|.cmp .NotEq (.var 7)<|.lstl .nil) (ae e k i m room v (v/87) l M M) n=.ok (!ys.isEmpty) (n++[.lst []]):=ZI<|(Zd (x:=.ref l) (y:=.ref n.length) (R:=n) (h2:=n++[DO.lst []]) rfl rfl).I nn;have C:∀h,tst (P.tbl<|n1+2) (.ex<|.cmp .Eq (.bin .Mod (.var 6)<|.Ci_ 3)<|.Ci_ 0) (ae e k i m room v (v/87) l M M) h=.ok (Wu<|v/87%3=0) h:=λh=>Zgt rfl rfl;have t8:∀h,tst (P.tbl<|n1+2) (.ex<|.cmp .Eq (.bin .Mod (.var 6)<|.Ci_ 8)<|.Ci_ 0) (ae e k i m room v (v/87/30) l M M) h=.ok (Wu<|v/87/30%8=0) h:=λh=>Zgt rfl rfl;by_cases U:ys.isEmpty=Ws/\v/87%3=0
 ·
  have hp:0<ys.length:=by
   cases ys with
   |nil=>simp at U
   |cons y r=>simp
  have ix:opB .Mod (.int<|v/87/3) (.int ys.length) (n++[.lst []])=.ok (.int<|v/87/3%ys.length) (n++[.lst []]):=ZR (by lia);have X:(0:Int)<=v/87/3%ys.length/\v/87/3%ys.length<ys.length:=⟨Int.emod_nonneg _<|by lia,Int.emod_lt_of_pos _<|by lia⟩
  obtain⟨q,hq⟩:∃q:Nat,v/87/3%ys.length=q:=⟨(v/87/3%ys.length).toNat,by lia⟩
  have jw:q<ys.length:=by lia
  have jz:(n++[DO.lst []])[l]?=J (.lst<|ys.map .str):=by rw[Oe<|ZM W];exact W
  have len:Zan P.GD .len [.ref l] (n++[.lst []])=.ok (.int ys.length) (n++[.lst []]):=by simp only[Zan,ZmC,seqOf,lstOf,jz];simp
  have m6:ZaR P.GD (.ref l) (.int (q:Int)) (n++[.lst []])=.ok (.str ys[q]) (n++[.lst []]):=by rw[ZE jz,IV.ZcH,On,Og jw];rfl
  refine⟨.name ys[q],n++[.lst []],a+1,b-1,?_,u5.I Up.app,c5.st.app,by lia,by lia,k7 _<|List.getElem_mem jw,⟨Oq _,Yy _⟩,by simp only[fw,pz];lia⟩;have V:xs1 (P.tbl<|n1+2) Zbc (ae e k i m room v (v/87) l M M) n=.ok (.rt (T.name ys[q]).d,(ae e k i m room v (v/87) l M M)) (n++[.lst []]):=by have el:ev (P.tbl<|n1+2) (.blt .len<|.cons (.var 7) .nil) (ae e k i m room v (v/87) l M M) (n++[.lst []])=.ok (.int ys.length) (n++[.lst []]):=len;have ei:ev (P.tbl<|n1+2) (.bin .Mod (.bin .FloorDiv (.var 6)<|.Ci_ 3)<|.blt .len<|.cons (.var 7) .nil) (ae e k i m room v (v/87) l M M) (n++[.lst []])=.ok (.int (q:Int)) (n++[.lst []]):=(Zr (x:=.int<|v/87/3) rfl el).I (ix.I<|by rw[hq]);rw[U.1]at o;exact(Zq<|Zg4 o<|Zh (C _)<|decide_eq_true U.2).I (Zc<|Zm<|ZaF (Zb rfl<|Zb ((Zf (x:=.ref l) rfl ei).I m6) rfl)<|by simp)
  rw[Zc V];rfl
 . have V:xs1 (P.tbl<|n1+2) Zbc (ae e k i m room v (v/87) l M M) n
    = .ok (.nx,(ae e k i m room v (v/87) l M M)) (n++[.lst []]):=by
    cases q:ys.isEmpty with
    |true=>rw[q]at o;exact(Zi<|ZhJ o).I rfl
    |false=>rw[q]at o;have h3:¬ v/87%3=0:=λz=>U ⟨q,z⟩;exact(Zi<|Zg4 o<|Zh (C _)<|decide_eq_false h3).I rfl
   have p:=c5.app (g:=[.lst []]);have E:=u5.I<|Up.app (i:=i) (g:=[.lst []]);clear o nn;generalize hh6:n++[.lst []]=f at V p E;rw[Za V];have kZ:ZaR P.GD (.ref i) (.int 2) f=.ok (.int<|b-1) f:=by rw[ZE p.st.1];simp
   have Y:tst (P.tbl<|n1+2) (.ex<|.cmp .Lt (.var 4)<|.Ci_ 1) (ae e k i m room v (v/87) l M M) f=.ok (Wu<|room<1) f:=rfl;have r2:tst (P.tbl<|n1+2) (.ex<|.cmp .Lt (.ix (.var 2)<|.Ci_ 2)<|.Ci_ 0) (ae e k i m room v (v/87) l M M) f=.ok (Wu<|b-1<0) f:=ZI<|(Zd (y:=.int 0) (h2:=f) ((Zf (x:=.ref i) (y:=.int 2) rfl rfl).I kZ) rfl).I rfl;obtain⟨t,g,ep,ct,pt⟩:=Zkt H (n1+1) e (v/87/3) f (sc.map (·.1));by_cases Z:room<1
   . refine⟨t,f++g,a+1,b-1,?_,E.I Up.app,p.st.app,by lia,by lia,ct,by lia,by simp only[pz];lia⟩;have F:xs1 (P.tbl<|n1+2) ZaE (ae e k i m room v (v/87) l M M) f=.ok (.rt t.d,(ae e k i m room v (v/87) l M M)) (f++g):=(Zq<|ZtE<|Zh Y<|decide_eq_true Z).I<|Zc<|ZaN ep rfl rfl;rw[Zc F];rfl
   . by_cases X:b-1<0
     . refine⟨t,f++g,a+1,b-1,?_,E.I Up.app,p.st.app,by lia,by lia,ct,by lia,by simp only[pz];lia⟩;have F:xs1 (P.tbl<|n1+2) ZaE (ae e k i m room v (v/87) l M M) f=.ok (.rt t.d,(ae e k i m room v (v/87) l M M)) (f++g):=(Zq<|Zir (Zh Y<|decide_eq_false Z)<|Zh r2<|decide_eq_true X).I<|Zc<|ZaN ep rfl rfl;rw[Zc F];rfl
     . obtain⟨r,n0,n',G,s,q2,q3,q4,q5,q6,q7⟩:=rc (by lia);have Ap:=ZmF r;have F:xs1 (P.tbl<|n1+2) ZaE (ae e k i m room v (v/87) l M M) f
        = .ok (.nx,(ae e k i m room v (v/87) l M M)) f:=by
        exact(Zi<|Zir (Zh Y<|decide_eq_false Z)<|Zh r2<|decide_eq_false X).I rfl
       have x8:xs1 (P.tbl<|n1+2) ZcC (ae e k i m room v (v/87) l M M) f
        = .ok (.nx,(ae e k i m room v (v/87/30) l M M)) f:=by
        exact rfl
       rw[Za F,Za x8];have pb:pz b=pz (b-1)+1:=by simp only[pz];lia
       by_cases h8:v/87/30%8=0
       . obtain⟨o,u,K,L,B,u1,Q,l1,l2,S,p1,z1⟩:=s (n'+1) cs ns f i j m k sc (a+1) (b-1) (O "n") (room-1) G p (by lia) (by lia);have jU:=p.up u1 Q (by lia);obtain⟨C,g2,a2,b2,e2,u2,s2,l3,l4,c2,p2,z2⟩:=s (n'+1) cs ns u i j m k sc K L e (room-1) G jU (by lia) (by lia);have m5:=jU.up u2 s2 (by lia);obtain⟨t3,g3,a3,b3,e3,u3,s3,l5,l6,c3,p3,z3⟩:=s (n'+1) cs ns g2 i j m k sc a2 b2 e (room-1) G m5 (by lia) (by lia);rw[show n'+1+n0=n1+2 by lia]at B e2 e3;refine⟨.iff o C t3,g3,a3,b3,?_,E.I<|u1.I<|u2.I u3,s3,by lia,by lia,⟨S,c2,c3⟩,by simp only[dep,nb];lia,by simp only[fw];rw[pb];clear s rc;lia⟩;have x9:xs1 (P.tbl<|n1+2) Zbb (ae e k i m room v (v/87/30) l M M) f=.ok (.rt (T.iff o C t3).d,(ae e k i m room v (v/87/30) l (J o.d)<|J C.d)) g3:=by refine(Zq<|Zh (t8 _)<|decide_eq_true h8).I ?_;refine(Za (ρ1:=ae e k i m room v (v/87/30) l (J o.d) M) (R:=u)<|ZaN B rfl rfl).I ?_;refine(Za (ρ1:=ae e k i m room v (v/87/30) l (J o.d)<|J C.d) (R:=g2)<|ZaN e2 rfl rfl).I ?_;exact Zc (ZaN e3 rfl rfl)
         rw[Zc x9];rfl
       . have x9:xs1 (P.tbl<|n1+2) Zbb (ae e k i m room v (v/87/30) l M M) f=.ok (.nx,(ae e k i m room v (v/87/30) l M M)) f:=(Zi<|Zh (t8 _)<|decide_eq_false h8).I rfl;rw[Za x9];by_cases hw:e=O "n"
         . obtain⟨o,u,K,L,B,u1,Q,l1,l2,S,p1,z1⟩:=ZwJ H s q3 n' p (v/87/30/8) (room-1) G (by lia) (by lia);rw[<-q2]at B;refine⟨o,u,K,L,?_,E.I u1,Q,by lia,by lia,S,by lia,by rw[pb];clear s rc;lia⟩;have D:xs1 (P.tbl<|n1+2) ZaO (ae e k i m room v (v/87/30) l M M) f=.ok (.rt o.d,(ae e k i m room v (v/87/30) l M M)) u:=(Zq<|Zh (ZcO rfl rfl)<|decide_eq_true hw).I<|Zc<|ZaN B rfl rfl;rw[Zc D];rfl
         . obtain⟨o,u,K,L,B,u1,Q,l1,l2,S,p1,z1⟩:=Zxn H s n' p e (v/87/30/8) (room-1) G (by lia) (by lia);rw[<-q2]at B;refine⟨o,u,K,L,?_,E.I u1,Q,by lia,by lia,S,by lia,by rw[pb];clear s rc;lia⟩;have D:xs1 (P.tbl<|n1+2) ZaO (ae e k i m room v (v/87/30) l M M) f=.ok (.nx,(ae e k i m room v (v/87/30) l M M)) f:=(Zi<|Zh (ZcO rfl rfl)<|decide_eq_false hw).I rfl;have jZ:xs1 (P.tbl<|n1+2) ZbH (ae e k i m room v (v/87/30) l M M) f=.ok (.rt o.d,(ae e k i m room v (v/87/30) l M M)) u:=ZaN B rfl rfl;rw[Za D,Zc jZ];rfl
theorem ZsD(H:Mk0 P):∀r ,Zpg P r (2*r+3)
 |0=>λn e f h i j m k sc a b w d g c l o=>by have:=any_gen H n c w d (A 0) 3 (by simp) (by lia) (by have:=ZmF 0;lia) (by decide) (λz=>by lia);trivial
 |r+1=>λn e f h i j m k sc a b w d g c l o=>by have Ap:=ZmF r;have As:=Zx4 r;have:=any_gen H _ c w d (A<|r+1) (3*(r+1)+3) (by lia) (by lia) (by lia) (by lia) (λ_=>⟨r,2*r+3,n,by lia,ZsD H r,rfl,by lia,by lia,by lia,by lia,by lia⟩);trivial
end
set_option tactic.hygienic true
section
noncomputable def front:T->List D
 |.num n=>[.str<|O "num",.int n]
 |.name x=>[.str<|O "name",.str x]
 |.fn x _=>[.str<|O "fn",.str x]
 |.rcc f x _=>[.str<|O "rec",.str f,.str x]
 |.call _ _=>[.str<|O "call"]
 |.iff _ _ _=>[.str<|O "if"]
 |.op w _ _=>[.str w.s]
def Zsf(t:T):t.d=.tup (front t++t.parts.map T.d):=by cases t<;>rfl
noncomputable def ZkK:D->Bool
 |.str _|.int _=>Wq
 |_=>Ws
def Znp(t):∀d∈front t,ZkK d=Wq:=by cases t<;>simp[front,ZkK]
def ZrS(hf:ZkK d=Wq):Zan GD .isi [d,.ty "tuple"] h=.ok (.bl Ws) h:=by
 cases d with
 |str x=>rfl
 |int x=>rfl
 |_=>trivial
def Zue:Zan GD .isi [.tup xs,.ty "tuple"] h=.ok (.bl Wq) h:=rfl
abbrev isT:Tx:=.ex (.blt .isi<|.w V0<|.cst<|.ty "tuple")
theorem Zi4{U}{ai ac}:∀ds ,(∀d∈ds,ZkK d=Wq)->ai.length<Yc->ZF [] (.nm 0) (tsto U<|J isT) (ev U e) (ds++ac) [M] ai h=ZF [] (.nm 0) (tsto U<|J isT) (ev U e) ac [M] ai h
 |[],_,_=>rfl
 |d::ds,hd,a=>by rw[List.cons_append,ZaZ];simp[a,ZrS (GD:=U.GD) (h:=h)<|hd d _];exact Zi4 _ (λx b=>hd x<|by simp_all) a
theorem Zi2{U}{f:T->Int}:∀(ts:List T) (ai) (h),(∀t∈ts,∀h,∃g,ev U e [J t.d] h=.ok (.int<|f t) (h++g))->ai.length+ts.length<=1000->∃g,ZF [] (.nm 0) (tsto U<|J isT) (ev U e) (ts.map T.d) [M] ai h=.ok (ai++ts.map λt=>.int<|f t) (h++g)
 |[],ai,h,_,_=>⟨[],by simp[ZF,Wk.stays]⟩
 |t::ts,ai,h,a,c=>by
  simp only[Os]at c;obtain⟨b,i⟩:=a t (by simp) h;obtain⟨j,k⟩:=Zi2 (U:=U) (e:=e) (f:=f) ts (ai++[.int<|f t]) (h++b) (λx l=>a x<|by simp[l]) (by simp;lia);refine⟨b++j,?_⟩;have m:ai.length<Yc:=by rw[YC];lia
  have it:Zan U.GD .isi [t.d,.ty "tuple"] h=.ok (.bl Wq) h:=by rw[Zsf];exact Zue
  rw[Op,ZaZ];simp[Wk.stays,m,it,i,k]
def Zgx{U}{f:T->Int}(t)(h)(ht:∀s∈t.parts,∀h,∃g,ev U e [J s.d] h=.ok (.int<|f s) (h++g)):∃g,ZF [] (.nm 0) (tsto U<|J isT) (ev U e) (front t++t.parts.map T.d) [M] [] h=.ok (t.parts.map λs=>.int<|f s) (h++g):=by obtain⟨g,a⟩:=Zi2 _ [] h ht (by cases t<;>simp[T.parts]);refine⟨g,?_⟩;rw[Zi4 _ (Znp t)<|by trivial,a];simp
theorem ints_map(f):∀ts:List T,intsOf (ts.map λs=>D.int<|f s)=J (ts.map f)
 |[]=>rfl
 |t::ts=>by rw[Op,intsOf,ints_map f _];rfl
variable {P:Pg}
def Zn9(t:T):t.size=1+(t.parts.map λs=>(s.size:Int)).sum:=by
 unfold T.size;rw[T.places_parts];have:∀a:List T,(a.flatMap T.places).length=(a.map λs=>(s.places.length:Int)).sum:=by
  intro a;induction a with
  |nil=>rfl
  |cons t a b=>simp_all
 rw[Os,<-this]
 lia
def Zgw{t s}(hs:s∈t.parts):dep s<dep t:=by
 cases t<;>simp[T.parts]at hs<;>simp[dep]
 . subst hs;lia
 . subst hs;lia
 . rcases hs with rfl|rfl<;>lia
 . lia
 . rcases hs with rfl|rfl<;>lia
theorem ZqQ (H:Mk0 P):∀ (d n) (t) (h),dep t<=d->∃ g,run P (n+d+1) (O "_law_width") [t.d] h=.ok (.int t.size) (h++g):=by
 intro d;induction d with
 |zero =>
   intro n t h c;rw [Ze H.width rfl];obtain⟨g,e⟩:=Zgx (U:=⟨P.G,P.GD,run P<|n+0,P.L⟩) (e:=.call (O "_law_width")<|.cons (.var 0) .nil) (f:=λs=>(s.size)) t h (λs b=>by have:=Zgw b;lia);refine⟨g++[.lst<|t.parts.map λs=>.int s.size],?_⟩;rw [Zn9,Zsf];have a:Zan P.GD .sum [.ref (h++g).length] (h++g++[.lst<|t.parts.map λs=>D.int s.size])=.ok (.int (t.parts.map λs=>(s.size)).sum) (h++g++[.lst<|t.parts.map λs=>D.int s.size]):=by
     simp only [Zan,Zsx,lstOf,ZL,Yz,ints_map];rfl
   simp at a e;simp [Zcg,Zet,ZG,ZaW,ZbQ,e,a]
 |succ d i =>
   intro n t h c;rw [Ze H.width rfl];obtain⟨g,e⟩:=Zgx (U:=⟨P.G,P.GD,run P<|n+(d+1),P.L⟩) (e:=.call (O "_law_width")<|.cons (.var 0) .nil) (f:=λs=>(s.size)) t h (λs b R=>by
     have:=Zgw b;obtain⟨g,e⟩:=i n s R (by lia);refine⟨g,?_⟩;have j:run P (n+(d+1)) (O "_law_width") [s.d] R=.ok (.int s.size) (R++g):=e;simp [j])
   refine⟨g++[.lst<|t.parts.map λs=>.int s.size],?_⟩;rw [Zn9,Zsf];have a:Zan P.GD .sum [.ref (h++g).length] (h++g++[.lst<|t.parts.map λs=>D.int s.size])=.ok (.int (t.parts.map λs=>(s.size:Int)).sum) (h++g++[.lst<|t.parts.map λs=>D.int s.size]):=by
     simp only [Zan,Zsx,lstOf,ZL,Yz,ints_map];rfl
   simp at a e;simp [Zcg,Zet,ZG,ZaW,ZbQ,e,a]
def Zs2(H:Mkr P)(d n)(t)(h)(hd:dep t<=d):∃g,run P (n+d+1) (O "_law_width") [t.d] h=.ok (.int t.size) (h++g):=ZqQ H.toMk0 d n t h hd
end
section
variable {P:Pg}
def max2(x y:Nat):(if (1+(y:Int)) > 1+x then 1+(y:Int)else 1+x)=(max x y+1:Nat):=by split<;>lia
def ZxE(t:T):Zg8 (t.parts.map λs=>1+(dep s)) 0=dep t:=by
 cases t with
 |num n=>rfl
 |name x=>rfl
 |fn x e|rcc f x e=>simp[T.parts,Zg8,dep];lia
 |call f a|op w f a=>simp only[T.parts,Zg8,dep,Op,Oy,List.foldl_cons,List.foldl_nil];rw[max2]
 |iff c t e=>
  simp only[T.parts,Zg8,dep,Op,Oy,List.foldl_cons,List.foldl_nil];rw[max2]
  lia
theorem Zv6 (H:Mkr P):∀ (d n) (t) (h),dep t<=d->∃ g,run P (n+d+1) (O "_law_deep") [t.d] h=.ok (.int<|dep t) (h++g):=by
 have fin:∀ (t) (h g:Hd),Zpd (.ref (h++g).length) (.int 0) (h++g++[.lst<|t.parts.map λs=>D.int<|1+dep s])=.ok (.int<|dep t) (h++g++[.lst<|t.parts.map λs=>D.int<|1+dep s]):=by
   intro t h g;simp only [Zpd,lstOf,ZL,Yz,ints_map (λs=>1+(dep s:Int)) t.parts,Yv,ZxE,ofO_some]
 intro d;induction d with
 |zero =>
   intro n t h c;rw [Ze H.deep rfl];obtain⟨g,e⟩:=Zgx (U:=⟨P.G,P.GD,run P<|n+0,P.L⟩) (e:=.bin .Add (.Ci_ 1)<|.call (O "_law_deep")<|.cons (.var 0) .nil) (f:=λs=>1+(dep s)) t h (λs b=>by have:=Zgw b;lia);refine⟨g++[.lst<|t.parts.map λs=>.int<|1+(dep s)],?_⟩;have a:=fin t h g;rw [Zsf];simp at a e;simp [Zdn,ZfS,ZG,ZaW,ZbQ,e,a]
 |succ d i =>
   intro n t h c;rw [Ze H.deep rfl];obtain⟨g,e⟩:=Zgx (U:=⟨P.G,P.GD,run P<|n+(d+1),P.L⟩) (e:=.bin .Add (.Ci_ 1)<|.call (O "_law_deep")<|.cons (.var 0) .nil) (f:=λs=>1+(dep s)) t h (λs b R=>by
     have:=Zgw b;obtain⟨g,e⟩:=i n s R (by lia);refine⟨g,?_⟩;have j:run P (n+(d+1)) (O "_law_deep") [s.d] R=.ok (.int<|dep s) (R++g):=e;simp [j])
   refine⟨g++[.lst<|t.parts.map λs=>.int<|1+(dep s:Int)],?_⟩;have a:=fin t h g;rw [Zsf];simp at a e;simp [Zdn,ZfS,ZG,ZaW,ZbQ,e,a]
theorem Zi3(H:Mk0 P)(hk:h[k]?=J (.lst xs0)):∀(xs:List _) (j) (ai:List _),ai.length+xs.length<=1000->j+xs.length<=1000->∃cs:List _,cs.length=ai.length+xs.length /\
 ZF [(k,xs0)] (.two 0 1) (tsto ⟨P.G,P.GD,run P<|n+1,P.L⟩ M) (ev ⟨P.G,P.GD,run P<|n+1,P.L⟩<|.call (O "_law_mixed")<|.cons (.var 1)<|.cons (.bin .Add (.var 0)<|.Ci_ 2) .nil) (xs.mapIdx λq x=>D.tup [.int (q+j:Nat),.int x]) [M,M] (ai.map .int) h
  = .ok (cs.map .int) h
 |[],j,ai,_,_=>⟨ai,rfl,by simp[ZF,Wk.stays,hk]⟩
 |x::xs,j,ai,R,h2=>by
  simp only[Os]at R h2;obtain⟨cs,q1,q2⟩:=Zi3 H hk xs (j+1) (ai++[mixed x<|(j)+2]) (by simp;lia) (by lia);refine⟨cs,by simp at q1;simp;lia,?_⟩;have hz:ai.length<Yc:=by rw[YC];lia
  have ei:(λ(q) (x)=>D.tup [.int<|(q+1+j:Nat),.int x])=λq x=>D.tup [.int<|(q+(j+1):Nat),.int x]:=by funext q x;rw[show q+1+j=q+(j+1) by lia]
  rw[List.mapIdx_cons,ZaZ];simp only[Wk.stays,hk,decide_true,true_and,Yu,hz,if_true,Zsr,List.set_cons_zero,List.set_cons_succ,Zpm,ZpA,Zz,bind_ok,ZoV,Zl9,ZoR,Zr4,O0,OJ,Option.join_some,ofO_some,ZxB,Zxz,Zh5,Nat.zero_add,Zil (.same H.mixed) n x ((j)+2) h ⟨by lia,by lia⟩];rw[ei];rw[List.map_append]at q2;exact q2
end
set_option tactic.hygienic false
section
variable {P:Pg}{cs:List Int}{ns:List Str}{h h':Hd}{i j m:Nat}{a b:Int}
def ZsF(H:Mk0 P)(r N:Nat)(hN:2*r+3<=N)(c:Ctx cs ns h i j m k sc a b)(w)(room:Int)(hr:room<=r)(hl:sc.length+2*r<=50)(ha:a+A r<2^50):
 Made cs h i j sc a b 0 (A r) (3*r+3) (run P N (O "_law_any") [.str w,.ref k,.ref i,.ref m,.int room] h):=by
 have:=ZsD H r (N-(2*r+3)) _ _ h i j m k _ a b w _ hr c hl ha
 simp_all
def Zlk(H:Mkr P)(N)(t)(h)(hd:dep t<N):∃g,run P N (O "_law_width") [t.d] h=.ok (.int t.size) (h++g):=by obtain⟨g,e⟩:=Zs2 H _ _ t h<|Oq _;rw[show N-dep t-1+dep t+1=N by lia]at e;exact⟨g,e⟩
def Zut(H:Mkr P)(N)(t)(h)(hd:dep t<N):∃g,run P N (O "_law_deep") [t.d] h=.ok (.int<|dep t) (h++g):=by obtain⟨g,e⟩:=Zv6 H _ _ t h<|Oq _;rw[show N-dep t-1+dep t+1=N by lia]at e;exact⟨g,e⟩
def Ctx.bare(c:Ctx cs ns h i j m k sc a b):Ctx cs ns (h++[.lst []]) i j m h.length [] a b:=by
 have d:=c.app (g:=[.lst []]);refine⟨d.st,d.nm,d.n5,d.nok,d.nd,by unfold Zqg;simp,by simp,d.im,?_,d.ab⟩;have:=ZM c.st.1
 lia
noncomputable def vp(ro:D)(st:Int)(o2 o3 o4 o5 o6:Option D):Ev:=[J ro,J<|.int st,o2,o3,o4,o5,o6]
def Zt7:Sxs:=.o (.iff (.x .Lt (.f "_law_width"<|.o V5)<|.Ci_ 50) (.w (.put V3 F2 F12)<|.s 5<|.tupl<|.u (.Cs_ "+") V5<|.f "_law_any"<|.y (.Cs_ "n") (.lstl .n) V3 V4 F6) .n)
inductive Turned(cs:List Int)(ns:List Str)(h:Hd)(i j m k:Nat)(sc:Scp)(a:Int)(dm:Nat)(S:Option D->Ev)(r:qd (Fl×Ev))(z0:Int):Prop
 |mk (t:T) (h':Hd) (a' b':Int) (e:r=.ok (.nx,S (J t.d)) h') (c:Cl [] t) (d:nb t<=dep t/\dep t<=dm) (u:Up i h h') (x:Ctx cs ns h' i j m k sc a' b') (l:a'<=a+65536) (z:fw t<=z0+36)
theorem turn(H:Mkr P)(hN:40<=N)(c:Ctx cs ns h i j m k sc a b)(ct:Cl [] t)(hd:nb t<=dep t/\dep t<=30)(ha:a<2^45)(ro)(st)(o2 o6):Turned cs ns h i j m k sc a (max (dep t) 21+1) (λo=>vp ro st o2 (J<|.ref i) (J<|.ref m) o o6)
   (xs2 (P.tbl N) Zt7 (vp ro st o2 (J<|.ref i) (J<|.ref m) (J t.d) o6) h) (fw t):=by
 have A6:A 6=16384:=rfl;obtain⟨g,n⟩:=Zlk H N t h (by lia);have e:=c.app (g:=g);by_cases p:(t.size:Int)<50
 . have l:Z1 (.ref i) (.int 2) (.int 12) (h++g)=.ok () ((h++g).set i<|.lst [.ref j,.int a,.int 12]):=by
     simp only [Z1,e.st.1];rfl
   obtain⟨f,l,r,s⟩:∃ f,Z1 _ _ _ _=.ok _ f/\Up i h f/\Ctx _ _ f i j m k sc a 12:=⟨_,l,Up.app.I Up.set,e.up Up.set ⟨by rw [Ol<|ZM e.st.1],(Oc e.st.2.2).I e.st.2.1,e.st.2.2⟩ c.ab⟩
   obtain⟨u,v,w,x,y,z,B,l1,l2,C,D,E⟩:=ZsF H.toMk0 6 N (by lia) s.bare (O "n") 6 (by decide) (by simp) (by rw [A6];lia);have q:=r.I<|(Up.app (i:=i) (g:=[.lst []])).I z;refine⟨.op .add t u,v,w,x,(Za ((Zq<|Zh (ZwT (Zl n rfl) rfl)<|decide_eq_true p).I ((Za (by
     show qd.bnd (Z1 (.ref i) (.int 2) (.int 12)<|h++g) _=_;rw [l];rfl)).I ((Za<|Zg<|ZaF (Zb rfl<|Zb rfl<|Zb (Zl y<|Zb rfl<|Zb (ZkS rfl<|by simp) rfl) rfl)<|by simp).I rfl)))).I rfl,⟨ct,C⟩,by simp only [dep,nb];lia,q,c.up q B (by have:=c.ab;lia),by rw [A6] at l2;lia,by simp only [fw,pz] at *;lia⟩
 . exact⟨t,h++g,a,b,(Za<|(Zi<|Zh (ZwT (Zl n rfl) rfl)<|decide_eq_false p).I rfl).I rfl,ct,by lia,Up.app,e,by lia,by lia⟩
def ZyZ(zs:List _)(st)(hz:zs.length<=100):∃ys:List _,ys.length<=100/\∀h ,Zis (.ro<|zs.map D.int) (J st) M h=.ok (.ref h.length) (h++[.lst<|ys.map .int]):=by
 refine⟨(zs.drop<|HT.sIx zs.length 0<|J st).take<|HT.sIx zs.length zs.length M-HT.sIx zs.length 0 (J st),?_,λh=>?_⟩
 . rw[List.length_take,List.length_drop]
   lia
 . show ZcW _ h=_;simp[cutD,List.map_take]
inductive Begun(h:Hd)(S:Option D->Option D->Option D->Ev)(r:Sxs->qd (Fl×Ev))(U:Tb):Prop
 |mk (cs:List Int) (ns:List Str) (h':Hd) (i j m:Nat) (e:∀s,r s=xs2 U s (S (J (.ref j)) (J (.ref i)) (J (.ref m))) h') (c:Ctx cs ns (h'++[.lst []]) i j m h'.length [] 1 26) (l:h.length<=i) (u:Up i h h')
def Zwj(H:Mkr P)(hN:40<=N)(zs:List _)(st)(h)(hz:zs.length<=100):Begun h (λo2 o3 o4=>vp (.ro<|zs.map .int) st o2 o3 o4 M M) (λs=>xs2 (P.tbl N) (.cons Zas<|.cons ZdU<|.cons ZdT s) (vp (.ro<|zs.map .int) st M M M M M) h) (P.tbl N):=by
 obtain⟨N,rfl⟩:∃N3,N=N3+2:=⟨N-2,by lia⟩
 obtain⟨ys,nC,bY⟩:=ZyZ zs st hz;obtain⟨cs,iR,ec⟩:=Zi3 H.toMk0 (n:=N+1) (h:=h++[.lst<|ys.map .int]) (k:=h.length) (xs0:=ys.map .int) (by simp) ys 0 [] (by simp;lia) (by lia);have en:Zfz (ys.map D.int)=ys.mapIdx λq x=>D.tup [.int<|(q+0:Nat),.int x]:=by unfold Zfz;apply List.ext_getElem?;intro q;simp;cases ys[q]?<;>rfl
 have ei:evi (P.tbl<|N+2) (.enu<|.sl (.var 0) (J<|.var 1) M) (vp (.ro<|zs.map .int) st M M M M M) h=.ok ⟨[(h.length,ys.map .int)],Zfz<|ys.map D.int⟩ (h++[.lst<|ys.map .int]):=by rw[Zun,show ev (P.tbl<|N+2) (.sl (.var 0) (J<|.var 1) M) (vp (.ro<|zs.map .int) st M M M M M) h=.ok (.ref h.length) (h++[.lst<|ys.map .int])from bY h,Zz];simp[ZjN]
 rw[<-en]at ec;have x1:xs1 (P.tbl<|N+2) Zas (vp (.ro<|zs.map .int) st M M M M M) h=.ok (.nx,vp (.ro<|zs.map .int) st (J<|.ref (h++[DO.lst<|ys.map .int]).length) M M M M) (h++[.lst<|ys.map .int]++[.lst<|cs.map .int]):=Zg<|Zei ei ec;generalize D.ro (zs.map .int)=ro at *;obtain⟨R,j,u1,k1,lj,x1⟩:∃(R:Hd) (j:Nat),Up R.length h R/\R[j]?=J (.lst<|cs.map .int)/\j<R.length/\xs1 (P.tbl<|N+2) Zas (vp ro st M M M M M) h=.ok (.nx,vp ro st (J<|.ref j) M M M M) R:=⟨_,_,Up.app.I Up.app,ZL,by simp,x1⟩
 have s2:St3 (R++[.lst [.ref j,.int 0,.int 26]]) R.length j cs 0 26:=⟨ZL,by rw[Oe lj];exact k1,by lia⟩
 obtain⟨v,e3,_⟩:=ZmU H.toMk0 N s2 (by decide);rw[Zy8]at e3;obtain⟨ns,n5,nok,kH,e4⟩:=Zs7 (.same H.names) (N+1) v<|R++[.lst [.ref j,.int 1,.int 26]];have lQ:=u1.1;refine⟨cs,ns,R++[.lst [.ref j,.int 1,.int 26]]++[.lst<|ns.map .str],R.length,j,(R++[DO.lst [.ref j,.int 1,.int 26]]).length,λs=>?_,⟨⟨by simp,by simp[Oe lj,k1],by lia⟩,by simp,n5,nok,kH,by unfold Zqg;simp,by simp,by simp,by simp,by decide⟩,lQ,?_⟩
 . exact(Za x1).I ((Za<|Zg<|ZkS (Zb rfl<|Zb rfl<|Zb rfl rfl)<|by simp).I<|(Za<|Zg<|Zl e4<|Zb (Zl e3 rfl) rfl).I rfl)
 . rw[Oz];exact⟨by simp;lia,λm a n=>by rw[Oe<|by lia];exact u1.2 m a n⟩
inductive Sixth(h:Hd)(i:Nat)(S:Option D->Ev)(r:qd (Fl×Ev)):Prop
 |mk (t:T) (h':Hd) (e:r=.ok (.nx,S (J t.d)) h') (c:Cl [] t) (s:t.size<=100) (d:dep t<=20) (u:Up i h h') (z:fw t<=150/\nb t<=dep t)
def Zwi(H:Mkr P)(hN:40<=N)(c:Ctx cs ns h i j m k sc a b)(ct:Cl [] t)(hd:nb t<=dep t/\dep t<=26)(hf:fw t<=150)(ha:a<2^50)(ro)(st)(o2 o4 o6):Sixth h i (λo=>vp ro st o2 (J<|.ref i) o4 o o6) (xs1 (P.tbl N) Zbj (vp ro st o2 (J<|.ref i) o4 (J t.d) o6) h):=by
 obtain⟨g1,A⟩:=Zlk H N t h (by lia);obtain⟨B,s⟩:=Zut H N t (h++g1) (by lia);have w:tst (P.tbl N) (.ex<|.cmp _ (.call _<|.cons (.var 5) .nil)<|.cst _) (vp ro st o2 (J<|.ref i) o4 (J _) o6) h=.ok (Wu<|(100:Int)<t.size) _:=Zxm (Zl A rfl) rfl;have plain:∀{q:Sxs} (g),∃f l,xs2 (P.tbl N) (.cons (.set (.nm 5)<|.call (O "_law_plain")<|.cons (.Cs_ "n")<|.cons (.call (O "_law_next")<|.cons (.var 3) .nil) .nil) .nil) (vp ro st o2 (J<|.ref i) o4 (J t.d) o6) (h++g)=.ok (.nx,vp ro st o2 (J<|.ref i) o4 (J<|T.d f) o6) l/\Cl [] f/\(nb f<=dep f/\dep f<=2)/\(f.size<=4/\fw f<=0)/\Up i h l:=λg=>by
  obtain⟨N,rfl⟩:∃N3,N=N3+2:=⟨N-2,by lia⟩
  obtain⟨v,C,_⟩:=ZmU H.toMk0 N (c.app (g:=g)).st ⟨c.ab,ha⟩;obtain⟨tp,E,D,n,p,r⟩:=Zkt H.toMk0 (N+1) (O "n") v ((h++g).set i<|.lst [.ref j,.int<|a+1,.int b]) [];exact⟨tp,_,(Za<|Zg<|Zl D<|Zb rfl<|Zb (Zl C rfl) rfl).I rfl,n,p,r,(Up.app.I Up.set).I Up.app⟩
 by_cases x:(100:Int)<t.size
 . obtain⟨f,l,e,n,p,r,u⟩:=plain (q:=.nil) g1;exact⟨f,l,(Zq<|ZtE<|Zh w<|decide_eq_true x).I e,n,by lia,by lia,u,by lia⟩
 . have y:=Zh w<|decide_eq_false x;by_cases z:(20:Int)<dep t
   . obtain⟨f,l,e,n,p,r,u⟩:=plain (q:=.nil)<|g1++B;rw[<-Oz]at e;exact⟨f,l,(Zq<|Zir y<|Zh (Zxm (Zl s rfl) rfl)<|decide_eq_true z).I e,n,by lia,by lia,u,by lia⟩
   . exact⟨t,_,(Zi<|Zir y<|Zh (Zxm (Zl s rfl) rfl)<|decide_eq_false z).I rfl,ct,by lia,by lia,Up.app.I Up.app,hf,hd.1⟩
def Zpv(H:Mkr P)(hN:40<=N)(zs:List _)(st)(h)(hz:zs.length<=100):∃t h',run P (N+1) (O "_law_program") [.ro<|zs.map .int,.int st] h=.ok (T.d t) h'/\Cl [] t/\t.size<=100/\dep t<=20/\h.length<=h'.length/\(∀q,q<h.length->h'[q]?=h[q]?)/\fw t<=150/\nb t<=dep t:=by
 rw[ZeU H.program rfl];have A7:A 7=65536:=rfl;cases Zwj H hN _ _ h hz with
 |mk Q R S i j m n e U o=>
 cases ZsF H.toMk0 7 N (by lia) e (O "n") 7 (by simp) (by decide) (by trivial)with
 |mk p V W X r f s l1 l2 a Y k=>
 have k:fw p<=78:=by simp only[pz]at k;lia
 rw[A7]at l2;cases turn H hN (e.up f s<|by lia) a (by lia) (by lia) (.ro<|zs.map .int) st (J<|.ref j) (J<|.int 0)with
 |mk Z h5 a5 b5 v b d5 x y l4 z5=>
 cases turn H hN y b (by lia) (by lia) (.ro<|zs.map .int) st (J<|.ref j) (J<|.int 1)with
 |mk t6 h6 a6 b6 B c d6 C D l6 z6=>
 cases Zwi H hN D c (by lia) (by lia) (by lia) (.ro<|zs.map .int) st (J<|.ref j) (J<|.ref m) (J<|.int 1)with
 |mk t E F G sz K u z=>
 have l:=(o.I<|(Up.app (i:=i) (g:=[.lst []])).I<|(f.I x).I C).I u;exact⟨t,E,(congrArg Zn<|(n<|.cons ZdS<|.cons ZdR<|.cons Zbj<|.cons ZdQ .nil).I<|(Za<|Zg<|Zl r<|Zb rfl<|Zb (ZkS rfl<|by simp) rfl).I<|(Za<|(Zed (w:=⟨[],[.int 0,.int 1]⟩) rfl).I<|(Zdk rfl v).I<|(Zdk rfl B).I rfl).I<|(Za F).I rfl).I rfl,G,sz,K,l.1,λq L=>l.2 q L<|by lia,z⟩
end
end Gn
namespace Rw
open PySem L2 IV Gn
section
def ZN:Sxs:=.y (.iff (.ors<|.c (.nq (.ix V1 F0)<|.Cs_ "num")<|.one<|.nq (.ix V2 F0)<|.Cs_ "num") (.o<|.ret<|.cst .non) .n) (.iff (.q V0<|.Cs_ "<") (.o<|.ret<|.tupl<|.w (.Cs_ "num")<|.ite (.x .Lt (.ix V1 F1)<|.ix V2 F1) F1 F0) .n) (.iff (.q V0<|.Cs_ "+") (.o<|.ret<|.tupl<|.w (.Cs_ "num")<|.bin .Mod (.bin .Add (.ix V1 F1)<|.ix V2 F1)<|.glo<|O "BEYOND") .n) (.iff (.q V0<|.Cs_ "-") (.o<|.ret<|.tupl<|.w (.Cs_ "num")<|.bin .Mod (.bin .Sub (.ix V1 F1)<|.ix V2 F1)<|.glo<|O "BEYOND") .n) (.ret<|.tupl<|.w (.Cs_ "num")<|.bin .Mod (.bin .Mult (.ix V1 F1)<|.ix V2 F1)<|.glo<|O "BEYOND")
def Zgl:Fd:=fd_ 3 ["word","first","second"] ZN
variable {P:Pg}{h:Hd}
noncomputable def wk(w:Wd)(a b:Int):Int:=match w with
 |.lt=>if a<b then 1 else 0
 |.add=>(a+b)%1000000
 |.sub=>(a-b)%1000000
 |.mul=>a*b%1000000
theorem worked_nn (hw:P.tb.lookup (O "worked")=J Zgl) (hb:P.G (O "BEYOND")=J (.int 1000000)) (n) (w) (hx:0<=x/\x<1000000) (hy:0<=y/\y<1000000):run P (n+1) (O "worked") [.str w.s,(T.num x).d,(T.num y).d] h=.ok (T.num<|wk w x y).d h:=by
 rw [Ze hw<|rfl];have fin:∀ (S:Ev) (e:Ex) (z:Int),ev (P.tbl n) e S h=.ok (.int z) h->xs1 (P.tbl n) (.ret<|.tupl<|.cons (.Cs_ "num")<|.cons (.bin .Mod e<|.glo<|O "BEYOND") .nil) S h=.ok (.rt (T.num<|z%1000000).d,S) h:=λS e z q =>
   Zm (ZaF (Zb rfl (Zb ((Zr q (λS=>by
   show qd.ofO (P.G<|O "BEYOND") h=_
   simp_all S)).I (ZR<|by decide)) rfl)) (by simp))
 show Zn (xs2 (P.tbl n) ZN [J<|.str w.s,J (T.num x).d,J (T.num y).d] h)=_;rw [nx1 (U:=P.tbl n) (ss:=ZN) (ρ1:=[J<|.str w.s,J (T.num x).d,J (T.num y).d]) (h2:=h) rfl rfl];cases w with
 |lt=>by_cases e:x<y<;>simp [ZN,tlS,T.d,Wd.s,wk,e,YC]
 |add =>
   rw [nx1 (U:=P.tbl n) (ss:=tlS ZN) (ρ1:=[J<|.str Wd.add.s,J (T.num x).d,J (T.num y).d]) (h2:=h) rfl rfl];exact rt1 (U:=P.tbl n) (ss:=tlS<|tlS ZN) ((Zq rfl).I<|Zc<|fin _ _ (x+y) rfl) rfl
 |sub =>
   rw [nx1 (U:=P.tbl n) (ss:=tlS ZN) (ρ1:=[J<|.str Wd.sub.s,J (T.num x).d,J (T.num y).d]) (h2:=h) rfl rfl,nx1 (U:=P.tbl n) (ss:=tlS<|tlS ZN) (ρ1:=[J<|.str Wd.sub.s,J (T.num x).d,J (T.num y).d]) (h2:=h) rfl rfl];exact rt1 (U:=P.tbl n) (ss:=tlS<|tlS<|tlS ZN) ((Zq rfl).I<|Zc<|fin _ _ (x-y) rfl) rfl
 |mul =>
   rw [nx1 (U:=P.tbl n) (ss:=tlS ZN) (ρ1:=[J<|.str Wd.mul.s,J (T.num x).d,J (T.num y).d]) (h2:=h) rfl rfl,nx1 (U:=P.tbl n) (ss:=tlS<|tlS ZN) (ρ1:=[J<|.str Wd.mul.s,J (T.num x).d,J (T.num y).d]) (h2:=h) rfl rfl,nx1 (U:=P.tbl n) (ss:=tlS<|tlS<|tlS ZN) (ρ1:=[J<|.str Wd.mul.s,J (T.num x).d,J (T.num y).d]) (h2:=h) rfl rfl];exact rt1 (U:=P.tbl n) (ss:=tlS<|tlS<|tlS<|tlS ZN) (fin _ _ (x*y)<|ZeV ⟨ZQ (by lia)<|by lia,ZQ (by lia)<|by lia⟩) rfl
end
end Rw
namespace IV
open PySem L2
mutual
noncomputable def D.pure:D->Bool
 |.non|.bl _|.int _|.str _=>Wq
 |.tup xs=>D.pures xs
 |_=>Ws
noncomputable def D.pures:List D->Bool
 |[]=>Wq
 |x::xs=>D.pure x&&D.pures xs
end
mutual
noncomputable def D.dp:D->Nat
 |.tup xs=>D.dps xs+1
 |_=>0
noncomputable def D.dps:List D->Nat
 |[]=>0
 |x::xs=>max (D.dp x) (D.dps xs)
end
mutual
theorem Zoj:∀d:D,d.pure=Wq->∃p,D.py rd d=J p/\p.depth<=d.dp/\YQ p p=Wq
 |.non,_=>⟨.none,rfl,Oq _,rfl⟩
 |.bl b,_=>⟨.bool b,rfl,Oq _,by simp[YQ]⟩
 |.int b,_=>⟨.int b,rfl,Oq _,by simp[YQ]⟩
 |.str b,_=>⟨.str b,rfl,Oq _,by simp[YQ]⟩
 |.tup xs,h=>by
  obtain⟨ps,e1,e2,e3⟩:=pys_same (rd:=rd) xs (by simpa[D.pure]using h);refine⟨.tuple ps,by simp[D.py,e1],?_,?_⟩
  . simp only[PyData.depth,D.dp];lia
  . simpa[YQ]using e3
 |.ref _,h=>by cases h
 |.ty _,h=>by cases h
 |.ro _,h=>by cases h
 |.kd _,h=>by cases h
theorem pys_same:∀ds:List D,D.pures ds=Wq->∃ps,D.pys rd ds=J ps/\PyData.depthAll ps<=D.dps ds/\PyData.eqvAll ps ps=Wq
 |[],_=>⟨[],rfl,Oq _,by simp[PyData.eqvAll]⟩
 |x::xs,h=>by
  rw[D.pures,Oa]at h;obtain⟨p,a1,a2,a3⟩:=Zoj (rd:=rd) x h.1;obtain⟨ps,b1,b2,b3⟩:=pys_same (rd:=rd) xs h.2;refine⟨p::ps,by simp[D.pys,a1,b1],?_,?_⟩
  . simp only[PyData.depthAll,D.dps];lia
  . simp[PyData.eqvAll,a3,b3]
end
def ZpJ(hp:d.pure=Wq)(hd:d.dp<=1100):ZbE n d d h=.ok (.bl<|!n) h:=by obtain⟨p,e1,e2,e3⟩:=Zoj (rd:=Zd1 h 4) d hp;unfold ZbE;rw[show Zku h d=J p from e1];simp only;rw[if_pos<|by lia,e3];cases n<;>rfl
end IV
namespace Rw
open PySem L2 IV Gn
def wk_ok(w:Wd)(a b:Int):0<=wk w a b/\wk w a b<1000000:=by
 cases w<;>simp only[wk]
 . lia
 . lia
 . exact⟨Int.emod_nonneg _<|by decide,Int.emod_lt_of_pos _<|by decide⟩
 . split<;>lia
end Rw
namespace Tm
open PySem L2 IV
def Zap:Sxs:=.w (.iff (.x .NotIn (.ix V0 F0)<|.glo<|O "FORMS") (.o<|.ret<|.tupl .n) .n) (.ret<|.sl V0 (J F1)<|J<|.bin .Add F1<|.ix (.ix (.glo<|O "FORMS")<|.ix V0 F0) F0)
def ZcN:Fd:=fd_ 1 ["E"] Zap
def ZbW:Sxs:=.w (.iff (.x .NotIn (.ix V0 F0)<|.glo<|O "FORMS") (.o<|.ret V0) .n) (.ret<|.sl V0 M<|J<|.bin .Add F1<|.ix (.ix (.glo<|O "FORMS")<|.ix V0 F0) F0)
def ZfN:Fd:=fd_ 1 ["E"] ZbW
def Zao:Sxs:=.w (.iff (.x .NotIn (.ix V0 F0)<|.glo<|O "FORMS") (.o<|.ret F0) .n) (.ret<|.ix (.ix (.glo<|O "FORMS")<|.ix V0 F0) F1)
def Zfy:Fd:=fd_ 1 ["front"] Zao
def Zpc:Sxs:=.u (.s 1<|.lstl .n) (.forr (.nm 2) (.rev V0)<|.w (.s 3<|.comp [O "k",O "done"] [M,J 1] (.rng<|.f "count_parts"<|.o V2) (.nm 0) M<|.meth .pop V1 .n)<|.drp<|.meth .app V1<|.o<|.bin .Add V2<|.blt .tup<|.o V3) (.ret<|.ix V1 F0)
def ZkP:Fd:=fd_ 1 ["fronts","done","front","parts"] Zpc
def ZnN:Sxs:=.w (.forr (.two 2 3) (.pl V1)<|.o<|.iff (.q V2 V0) (.o<|.ret V3) .n) (.ret<|.cst .non)
def ZiW:Fd:=fd_ 2 ["name","around","known","thing"] ZnN
def Zsu:Sxs:=.w (.iff (.q (.ix V0 F0)<|.Cs_ "clo") (.o<|.ret<|.sl V0 (J F1) M) .n) (.ret<|.tupl<|.w V0<|.tupl .n)
def Zl5:Fd:=fd_ 1 ["thing"] Zsu
def ZnI:Sxs:=.w (.iff (.nq (.ix V0 F0)<|.Cs_ "name") (.o<|.ret<|.cst .non) .n) (.ret<|.f "bound_to"<|.w (.ix V0 F1) V1)
def ZiQ:Fd:=fd_ 2 ["place","around"] ZnI
def Zss:Sxs:=.o (.ret<|.bin .Add (.blt .tup<|.o<|.comp [O "name"] [M] (.pl<|.f "bound_names"<|.o V0) (.nm 0) M<|.tupl<|.w V0<|.cst .non) V1)
def Zl4:Fd:=fd_ 2 ["place","around"] Zss
def ZnK:Sxs:=.o (.ret<|.cmp .In (.ix V0 F0)<|.glo<|O "VALUES")
def ZiT:Fd:=fd_ 1 ["E"] ZnK
def ZfB:Sxs:=.w (.iff (.q (.ix V0 F0)<|.Cs_ "if") (.o<|.ret<|.sl V0 (J F1)<|J F2) .n) (.ret<|.f "parts_of"<|.o V0)
def Zfu:Fd:=fd_ 1 ["E"] ZfB
def Zmx:Sxs:=.w (.iff (.nq (.ix V0 F0)<|.Cs_ "num") (.o<|.ret<|.cst .non) .n) (.ret<|.ite (.q (.ix V0 F1) F0) V2 V1)
def ZiV:Fd:=fd_ 3 ["C","T","E"] Zmx
def Zjb:Sx:=.iff (.ors<|.c (.nq (.ix V1 F0)<|.Cs_ "num")<|.one<|.nq (.ix V2 F0)<|.Cs_ "num") (.o<|.ret<|.cst .non) .n
def ZnH:Sx:=.iff (.q V0<|.Cs_ "<") (.o<|.ret<|.tupl<|.w (.Cs_ "num")<|.ite (.x .Lt (.ix V1 F1)<|.ix V2 F1) F1 F0) .n
def ZnG:Sx:=.iff (.q V0<|.Cs_ "+") (.o<|.ret<|.tupl<|.w (.Cs_ "num")<|.bin .Mod (.bin .Add (.ix V1 F1)<|.ix V2 F1)<|.glo<|O "BEYOND") .n
def ZnF:Sx:=.iff (.q V0<|.Cs_ "-") (.o<|.ret<|.tupl<|.w (.Cs_ "num")<|.bin .Mod (.bin .Sub (.ix V1 F1)<|.ix V2 F1)<|.glo<|O "BEYOND") .n
def ZnE:Sx:=.ret (.tupl<|.w (.Cs_ "num")<|.bin .Mod (.bin .Mult (.ix V1 F1)<|.ix V2 F1)<|.glo<|O "BEYOND")
def ZN:Sxs:=.y Zjb ZnH ZnG ZnF ZnE
def Zgl:Fd:=fd_ 3 ["word","first","second"] ZN
def ZeO:Sxs:=.w (.sa "Pen" V0 "most" V1) (.sa "Pen" V0 "used" F0)
def ZaK:Fd:=fd_ 2 ["self","most"] ZeO
noncomputable def Zst(x:Sx):Sxs:=(.cons (.iff (.ex<|.cmp .Eq (.att [O "Pen"] (.var 0)<|O "used")<|.att [O "Pen"] (.var 0)<|O "most") (.cons x .nil) .nil)<|.cons (.auga [O "Pen"] (.var 0) (O "used")<|.Ci_ 1) .nil)
def Zns(x:Sx):Fd:=⟨[O "self"],[O "self"],Zst x⟩
def Zle:Sxs:=.z (.s 3<|.lstl .n) (.s 4<|.lstl<|.o<|.tupl<|.w V1 V2) (.whl (.ex V4)<|.u (.s 5<|.meth .pop V4 .n) (.s 6<|.f "meant_by"<|.w (.ix V5 F0)<|.ix V5 F1)<|.iff (.x .Is V6<|.cst .non) (.z (.drp<|.m "Pen" "take_place" V0 .n) (.drp<|.meth .app V3<|.o<|.f "front_of"<|.o<|.ix V5 F0) (.s 7<|.f "within"<|.w (.ix V5 F0)<|.ix V5 F1)<|.drp<|.meth .ext V4<|.o<|.comp [O "part",O "inner"] [M,J 7] (.rev<|.f "parts_of"<|.o<|.ix V5 F0) (.nm 0) M<|.tupl<|.w V0 V1)<|.o<|.drp<|.meth .app V4<|.o<|.f "opened"<|.o V6) (.ret<|.f "built"<|.o V3)
def Zgs:Fd:=fd_ 3 ["self","E","around","fronts","waiting","pair","thing","inner"] Zle
structure Trb(P:Pg):Prop extends Gn.Tre P where
 bound_names:P.tb.lookup (O "bound_names")=J ZcN
 front_of:P.tb.lookup (O "front_of")=J ZfN
 count_parts:P.tb.lookup (O "count_parts")=J Zfy
 built:P.tb.lookup (O "built")=J ZkP
 bound_to:P.tb.lookup (O "bound_to")=J ZiW
 opened:P.tb.lookup (O "opened")=J Zl5
 meant_by:P.tb.lookup (O "meant_by")=J ZiQ
 within:P.tb.lookup (O "within")=J Zl4
 n_Pen___init__:P.tb.lookup (mnm (O "Pen")<|O "__init__")=M
 Pen___init__:P.ms.lookup (mnm (O "Pen")<|O "__init__")=J ZaK
 n_Pen_take_place:P.tb.lookup (mnm (O "Pen")<|O "take_place")=M
 tk:∃x,P.ms.lookup (mnm (O "Pen")<|O "take_place")=J (Zns x)
 n_Pen_filled:P.tb.lookup (mnm (O "Pen")<|O "filled")=M
 Pen_filled:P.ms.lookup (mnm (O "Pen")<|O "filled")=J Zgs
section
variable {P:Pg}{h:Hd}
section
variable {w:Wd}
@[simp]def ZmI:(w.s=O "num")↔False:=by cases w<;>simp[Wd.s]
@[simp]def ZhZ:(w.s=O "name")↔False:=by cases w<;>simp[Wd.s]
@[simp]def Zqr:(w.s=O "if")↔False:=by cases w<;>simp[Wd.s]
@[simp]def ZuW:(w.s=O "fn")↔False:=by cases w<;>simp[Wd.s]
@[simp]def ZAG:(w.s=O "rec")↔False:=by cases w<;>simp[Wd.s]
@[simp]def Zd0:Zw Gn.Zgj (.inr w.s)=J (.tup [.int 0,.int 2]):=by cases w<;>rfl
end
noncomputable def bnd:T->List Str
 |.fn x _=>[x]
 |.rcc f x _=>[f,x]
 |_=>[]
noncomputable def fr:T->List D
 |.num n=>[.str<|O "num",.int n]
 |.name x=>[.str<|O "name",.str x]
 |.fn x _=>[.str<|O "fn",.str x]
 |.rcc f x _=>[.str<|O "rec",.str f,.str x]
 |.call _ _=>[.str<|O "call"]
 |.iff _ _ _=>[.str<|O "if"]
 |.op w _ _=>[.str w.s]
def ZBJ(t:T):t.d=.tup (fr t++t.parts.map T.d):=by cases t<;>rfl
theorem Zta (H:Trb P) (n) (t) (h):run P (n+1) (O "count_parts") [.tup<|fr t] h=.ok (.int t.parts.length) h:=by
 have no:∀ (w) (g),Zw _ _=M->run P _ _ [.tup _] h=.ok _ h:=λw g e=>by
   rw [Ze H.count_parts rfl];show Zn (xs2 (P.tbl n) Zao [J<|.tup (.str w::g)] h)=_;rw [Zao,Zc<|(Zq<|Gn.Zb8 H.toTre ⟨rfl,rfl⟩ Gn.Zfr e).I<|Zc<|Zm rfl];rfl
 have d:∀ (w) (g) (a b),Zw _ _=J (.tup [.int a,.int b])->run P _ _ [.tup _] h=.ok _ h:=λw g a b e=>by
   rw [Ze H.count_parts rfl];show Zn (xs2 (P.tbl n) Zao [J<|.tup (.str w::g)] h)=_;rw [Zao,Za<|(Zi<|Gn.Zb8 H.toTre ⟨rfl,rfl⟩ Gn.Zfr e).I rfl,Zc (Zm (by
     rw [ZoT,Gn.ZoP H.toTre ⟨rfl,rfl⟩ Gn.Zfr e];rfl))]
   rfl
 cases t with
 |num z=>exact no (O "num") _ rfl
 |name x=>exact no (O "name") _ rfl
 |fn x e=>exact d (O "fn") _ 1 1 rfl
 |rcc f x e=>exact d (O "rec") _ 2 1 rfl
 |call f a=>exact d (O "call") _ 0 2 rfl
 |iff c a b=>exact d (O "if") _ 0 3 rfl
 |op w a b=>exact d w.s _ 0 2 Zd0
noncomputable abbrev Ar:=List (Str×Option T)
noncomputable def get:Ar->Str->Option T
 |[],_=>M
 |(y,v)::r,x=>if y=x then v else get r x
def ZwP(ar:Ar):T->Option T
 |.name x=>get ar x
 |_=>M
def inn(t:T)(ar:Ar):Ar:=(bnd t).map (λx=>(x,M))++ar
end
section
variable {P:Pg}
def sub:Ar->T->T
 |_,.num n=>.num n
 |ar,.name x=>(get ar x).getD (.name x)
 |ar,.fn x e=>.fn x (sub ((x,M)::ar) e)
 |ar,.rcc f x e=>.rcc f x (sub ((f,M)::(x,M)::ar) e)
 |ar,.call f a=>.call (sub ar f) (sub ar a)
 |ar,.iff c t e=>.iff (sub ar c) (sub ar t) (sub ar e)
 |ar,.op w a b=>.op w (sub ar a) (sub ar b)
def Zt(t:T):t.size=1+(t.parts.map T.size).sum:=by
 unfold T.size;rw[T.places_parts];simp
 lia
def ZC(t:T):1<=t.size:=by rw[Zt];lia
def Zpn(t)(ar)(h:ZwP ar t=M):(sub ar t).parts=t.parts.map (sub<|inn t ar)/\fr (sub ar t)=fr t:=by
 cases t with
 |name x=>rw[sub,show get _ x=M from h];trivial
 |_=>trivial
def tf(t:T):D:=.tup (fr t)
def Zv{h:Hd}(e:h[i]?=J o):i<h.length:=(Ob.mp e).1
def keep{h}{i:Nat}{g:Hd}(e:h[i]?=J o):(h++g)[i]?=J o:=(Oe<|Zv e).I e
structure B_(h0 h:Hd)(fk dk:Nat)(fs ds:List D):Prop where
 f:h[fk]?=J (.lst fs)
 d:h[dk]?=J (.lst ds)
 ne:dk≠fk
 o1:h0.length<=dk
 ol:h0.length<=h.length
 old:∀i,i<h0.length->h[i]?=h0[i]?
theorem B_.set{h0 h}(b:B_ h0 h fk dk fs ds)(es):B_ h0 (h.set dk<|.lst es) fk dk fs es:=⟨(Oc b.ne).I b.f,by rw[Ol<|Zv b.d],b.ne,b.o1,by simpa using b.ol,λi a=>(Oc (by have:=b.o1;lia)).I<|b.old i a⟩
def B_.app{h0 h g}{fk dk}{fs ds}(b:B_ h0 h fk dk fs ds):B_ h0 (h++g) fk dk fs ds:=⟨keep b.f,keep b.d,b.ne,b.o1,by have:=b.ol;simp;lia,λi a=>(Oe (by have:=b.ol;lia)).I<|b.old i a⟩
theorem Zsp:∀(ks xs D0 ai) (h),ks.length=xs.length->ai.length+xs.length<=1000->B_ h0 h fk dk fs (D0++xs.reverse)->∃h',
 ZF [] (.nm 0) (tsto U M) (ev U<|.meth .pop (.var 1) .nil) ks [M,J<|.ref dk] ai h=.ok (ai++xs) h'/\B_ h0 h' fk dk fs D0
 |[],[],D0,ai,h,_,_,b=>⟨h,by simp[ZF,Wk.stays],by simp_all⟩
 |[],_::_,_,_,_,e,_,_=>by cases e
 |_::_,[],_,_,_,e,_,_=>by cases e
 |k::ks,x::xs,D0,ai,h,e,a,b=>by
  have b1:B_ h0 h fk dk fs ((D0++xs.reverse)++[x]):=by simp_all
  obtain⟨h',q,c⟩:=Zsp _ _ D0 (ai++[x]) _ (by simpa using e) (by simp at a ⊢;lia)<|b1.set<|D0++xs.reverse;refine⟨h',?_,c⟩;have f:ai.length<16777216:=by lia
  rw[ZaZ];simp[Wk.stays,f,YC,ZbI b1.d,Zf4 b1.d];simpa using q
def Zf5:Sxs:=.w (.s 3<|.comp [O "k",O "done"] [M,J 1] (.rng<|.f "count_parts"<|.o V2) (.nm 0) M<|.meth .pop V1 .n) (.drp<|.meth .app V1<|.o<|.bin .Add V2<|.blt .tup<|.o V3)
def ZsU(H:Trb P)(n){h0 h}{fk dk}{fs D0}(t)(b:B_ h0 h fk dk fs (D0++(t.parts.map T.d).reverse))(hz:D0.length<=1000000)(o0 o3):∃h' gf,
 xs2 (P.tbl<|n+1) Zf5 [o0,J<|.ref dk,J<|tf t,o3] h=.ok (.nx,[o0,J<|.ref dk,J<|tf t,gf]) h'/\B_ h0 h' fk dk fs (D0++[t.d]):=by
 have hp:t.parts.length<=3:=by cases t<;>simp[T.parts]
 have hf:(fr t).length<=3:=by cases t<;>simp[fr]
 obtain⟨R,q1,b1⟩:=Zsp (U:=P.tbl<|n+1) (Zaj 0 t.parts.length) (t.parts.map T.d) D0 [] h (by simp[Zaj]) (by simp;lia) b;refine⟨_,J<|.ref R.length,?_,(b1.app (g:=[.lst<|t.parts.map T.d])).set<|D0++[t.d]⟩;have k1:(R++[DO.lst<|t.parts.map T.d])[dk]?=J (.lst D0):=keep b1.d;have x1:xs1 (P.tbl<|n+1) (.set (.nm 3)<|.comp [O "k",O "done"] [M,J 1] (.rng<|.call (O "count_parts")<|.cons (.var 2) .nil) (.nm 0) M<|.meth .pop (.var 1) .nil) [o0,J<|.ref dk,J<|tf t,o3] h=.ok (.nx,[o0,J<|.ref dk,J<|tf t,J<|.ref R.length]) (R++[.lst<|t.parts.map T.d]):=by
  have ei:evi (P.tbl<|n+1) (.rng<|.call (O "count_parts")<|.cons (.var 2) .nil) [o0,J<|.ref dk,J<|tf t,o3] h=.ok ⟨[],Zaj 0 t.parts.length⟩ h:=by have e1:ev (P.tbl<|n+1) (.call (O "count_parts")<|.cons (.var 2) .nil) [o0,J<|.ref dk,J<|tf t,o3] h=.ok (.int t.parts.length) h:=Zta H n t h;rw[ZoS,e1,Zz];exact(if_pos (by simp[Zb6];lia)).I (by rw[Int.toNat_natCast])
  rw[Zkn,ZoU,ei,Zz];simp only[ZbQ,Op,Oy,Option.bind_none,Yz];rw[show([o0,J<|D.ref dk,J<|tf t,o3][1]?).join=J (.ref dk)from rfl,q1];rfl
 have x2:xs1 (P.tbl<|n+1) (.drp<|.meth .app (.var 1)<|.cons (.bin .Add (.var 2)<|.blt .tup<|.cons (.var 3) .nil) .nil) [o0,J<|.ref dk,J<|tf t,J<|.ref R.length] (R++[.lst<|t.parts.map T.d])=.ok (.nx,[o0,J<|.ref dk,J<|tf t,J<|.ref R.length]) (List.set (R++[.lst<|t.parts.map T.d]) dk<|.lst<|D0++[t.d]):=by
  have ad:∀h',opB .Add (tf t) (.tup<|t.parts.map T.d) h'=.ok t.d h':=λh'=>by rw[ZBJ];exact ZkB (by rw[YC];simp;lia)
  simp[ZbI k1,Zan,Zqd,lstOf,ad,Za7 (d:=t.d) k1 (by rw[YC];lia)]
 rw[Zf5,Za x1,Za x2];rfl
def Zl2(e:h[j]?=J (.lst L))(b:Zbu g d S=J ρ1)(q:body ρ1 h=.ok (.nx,ρ2) h2):ZY [(j,L)] g body (d::ds) S h=ZY [(j,L)] g body ds ρ2 h2:=by
 have:Wk.stays [(j,L)] h=Wq:=by simp[Wk.stays,e]
 rw[ZY]
 simp_all
def Zl3(e:h[j]?=J (.lst L)):ZY [(j,L)] g body [] S h=.ok (.nx,S) h:=by rw[ZY,if_pos<|by simp[Wk.stays,e]]
def wb(P:Pg)(n fk dk:Nat)(fs:List D)(o0:Option D)(ac:List D)(o2 o3:Option D)(h:Hd):qd (Fl×Ev):=ZY [(fk,fs)] (.nm 2) (xs2 (P.tbl<|n+1) Zf5) ac [o0,J<|.ref dk,o2,o3] h
def Bt(P:Pg)(n:Nat)(h0:Hd)(fk dk:Nat)(fs:List D)(o0:Option D)(xs D0 D1:List D):Prop:=∀(a:List D) (h:Hd) (c d:Option D),B_ h0 h fk dk fs D0->∃b e f,wb P n fk dk fs o0 (xs++a) c d h=wb P n fk dk fs o0 a e f b/\B_ h0 b fk dk fs D1
section
variable {n:Nat}{h0:Hd}{fk dk:Nat}{fs:List D}{o0:Option D}{xs ys D0 D1 D2:List D}
def Bt.I(a:Bt P n h0 fk dk fs o0 xs D0 D1)(b:Bt P n h0 fk dk fs o0 ys D1 D2):Bt P n h0 fk dk fs o0 (xs++ys) D0 D2:=λc h d e q=>by obtain⟨R,f,g,m,i⟩:=a (ys++c) h d e q;obtain⟨o,j,k,p,l⟩:=b c _ f g i;exact⟨_,j,k,by simp_all,l⟩
def Bt.front(H:Trb P)(t)(hz:D0.length<=1000000):Bt P n h0 fk dk fs o0 [tf t] (D0++(t.parts.map T.d).reverse) (D0++[t.d]):=λc h g i b=>by obtain⟨j,k,e,a⟩:=ZsU H n t b hz _ _;exact⟨_,_,_,Zl2 b.f rfl e,a⟩
end
theorem ZcI(H:Trb P):∀(t:T) (D0),D0.length+t.size<=1000000->Bt P n h0 fk dk fs o0 (t.places.map tf).reverse D0 (D0++[t.d])
 |.num m,D0,b=>by simpa[T.places,T.parts]using Bt.front H (.num m) (by lia)
 |.name m,D0,b=>by simpa[T.places,T.parts]using Bt.front H (.name m) (by lia)
 |.fn x e,D0,b=>by rw[Zt]at b;simp only[T.parts,Op,Oy,OI,List.sum_nil]at b;simpa[T.places,T.parts]using (ZcI H (n:=n) (h0:=h0) (fk:=fk) (dk:=dk) (fs:=fs) (o0:=o0) e D0<|by lia).I (Bt.front H (.fn x e)<|by lia)
 |.rcc f x e,D0,b=>by rw[Zt]at b;simp only[T.parts,Op,Oy,OI,List.sum_nil]at b;simpa[T.places,T.parts]using (ZcI H (n:=n) (h0:=h0) (fk:=fk) (dk:=dk) (fs:=fs) (o0:=o0) e D0<|by lia).I (Bt.front H (.rcc f x e)<|by lia)
 |.call f a,D0,b=>by rw[Zt]at b;simp only[T.parts,Op,Oy,OI,List.sum_nil]at b;have g:=ZC f;have q:=(ZcI H (n:=n) (h0:=h0) (fk:=fk) (dk:=dk) (fs:=fs) (o0:=o0) a D0<|by lia).I (ZcI H f (D0++[a.d]) (by simp;lia));have r:=Bt.front (P:=P) (n:=n) (h0:=h0) (fk:=fk) (dk:=dk) (fs:=fs) (o0:=o0) (D0:=D0) H (.call f a) (by lia);simp only[T.parts,Op,Oy,List.reverse_cons,List.reverse_nil,OB]at r;rw[<-Oz]at r;simpa[T.places]using q.I r
 |.op w f a,D0,b=>by rw[Zt]at b;simp only[T.parts,Op,Oy,OI,List.sum_nil]at b;have g:=ZC f;have q:=(ZcI H (n:=n) (h0:=h0) (fk:=fk) (dk:=dk) (fs:=fs) (o0:=o0) a D0<|by lia).I (ZcI H f (D0++[a.d]) (by simp;lia));have r:=Bt.front (P:=P) (n:=n) (h0:=h0) (fk:=fk) (dk:=dk) (fs:=fs) (o0:=o0) (D0:=D0) H (.op w f a) (by lia);simp only[T.parts,Op,Oy,List.reverse_cons,List.reverse_nil,OB]at r;rw[<-Oz]at r;simpa[T.places]using q.I r
 |.iff c t e,D0,b=>by rw[Zt]at b;simp only[T.parts,Op,Oy,OI,List.sum_nil]at b;have g:=ZC c;have h:=ZC t;have r:=Bt.front (P:=P) (n:=n) (h0:=h0) (fk:=fk) (dk:=dk) (fs:=fs) (o0:=o0) (D0:=D0) H (.iff c t e) (by lia);simp only[T.parts,Op,Oy,List.reverse_cons,List.reverse_nil,OB]at r;rw[<-Oz,<-Oz]at r;simpa[T.places]using (((ZcI H (n:=n) (h0:=h0) (fk:=fk) (dk:=dk) (fs:=fs) (o0:=o0) e D0<|by lia).I<|ZcI H t (D0++[e.d]) (by simp;lia)).I<|ZcI H c (D0++[e.d]++[t.d]) (by simp;lia)).I r
theorem Ztb (H:Trb P) (n) (t:T) (hf:h[fk]?=J (.lst<|t.places.map tf)) (hz:t.size<=500000):∃ g,run P (n+2) (O "built") [.ref fk] h=.ok t.d (h++g):=by
 rw [Ze H.built<|by rfl];have b0:B_ h (h++[.lst []]) fk h.length (t.places.map tf) []:=⟨keep hf,by simp,by have:=Zv hf;lia,Oq _,by simp,λi hi=>Oe hi⟩
 obtain⟨R,o2,o3,e1,b1⟩:=ZcI H (n:=n) (o0:=J<|.ref fk) t [] (by simp;lia) [] _ M M b0;have e2:wb P n fk h.length (t.places.map tf) (J<|.ref fk) [] o2 o3 R=.ok (.nx,[J<|.ref fk,J<|.ref h.length,o2,o3]) R:=Zl3 b1.f;rw [e2,Yt] at e1;have ex:∃ g,R=h++g:=⟨R.drop h.length,by
   apply List.ext_getElem?;intro i;rcases Nat.lt_or_ge i h.length with q|q
   . rw [b1.old i q,Oe q]
   . rw [Om q,List.getElem?_drop];congr 1
     lia⟩
 obtain⟨g,rfl⟩:=ex;refine⟨g,?_⟩;have x0:=ZE (GD:=P.GD) (k:=0) b1.d;have hw:ZjM (.ref fk) (h++[.lst []])=J ⟨[(fk,t.places.map tf)],t.places.map tf⟩:=by simp [ZjM,b0.f]
 unfold wb Zf5 at e1;simp only [Pg.tbl] at e1;simp only [OB] at x0;simp [ZkP,Zpc,ZG,YC,hw,e1,x0]
end
section
variable {P:Pg}
noncomputable def Ze1(mo:D)(u:Int):DO:=.ins (O "Pen") [(O "most",mo),(O "used",.int u)]
def Lim(mo:D)(z:Int):Prop:=mo=.non\/∃m:Int,mo=.int m/\z<=m
def ZyV(H:Trb P)(n)(mo)(h):Zm9 (run P<|n+1) (O "Pen") [mo] h=.ok (.ref h.length) (h++[Ze1 mo 0]):=by unfold Zm9;rw[ZfG H.n_Pen___init__ H.Pen___init__<|rfl];simp[ZaK,ZeO,ZG,Zjy,Zin,Ze1]
def Zv3(H:Trb P)(n)(lm:Lim mo (u+1))(hp:h[pk]?=J (Ze1 mo u)):run P (n+1) (mnm (O "Pen")<|O "take_place") [.ref pk] h=.ok .non (h.set pk<|Ze1 mo<|u+1):=by
 obtain⟨x,a⟩:=H.tk;rw[ZfG H.n_Pen_take_place a<|rfl];have ne:IV.ZbE Ws (D.int u) mo h=.ok (D.bl Ws) h:=by
  rcases lm with rfl|⟨m,rfl,q⟩
  . trivial
  . have:¬ u=m:=by lia
    simp_all
 unfold Ze1 at hp ⊢;simp[Zns,Zst,ZG,ZfM,ZZ,hp,Wf,ne,Zjy,Zin]
def Wid(P:Pg):Prop:=∃m,P.ms.lookup (mnm (O "Pen")<|O "take_place")=J (Zns<|.rai (O "Wide")<|.cst m)
def ZqR(H:Trb P)(w:Wid P)(n)(hp:h[pk]?=J (Ze1 (.int u) u)):run P (n+1) (mnm (O "Pen")<|O "take_place") [.ref pk] h=.exc (O "Wide") h:=by
 obtain⟨m,a⟩:=w;rw[ZfG H.n_Pen_take_place a<|rfl];have b:tst (P.tbl n) (.ex<|.cmp .Eq (.att [O "Pen"] (.var 0)<|O "used")<|.att [O "Pen"] (.var 0)<|O "most") [J<|.ref pk] h=.ok Wq h:=by unfold Ze1 at hp;simp[ZfM,ZZ,hp,Wf]
 exact congrArg _ (ZnT<|(Zq b).I<|ZnT<|ZyU rfl)
noncomputable abbrev Fil:=List (Str×T)
noncomputable def Fil.ar(f:Fil):Ar:=f.map λp=>(p.1,J p.2)
end
section
variable {h:Hd}
noncomputable def isV:T->Bool
 |.num _|.fn _ _|.rcc _ _ _=>Wq
 |_=>Ws
def Zuf:opC GD .In (.str x) (.tup [.str<|O "num",.str<|O "fn",.str<|O "rec"]) h=.ok (.bl<|Wu<|x=O "num" \/ x=O "fn" \/ x=O "rec") h:=by
 have:=@ZaH GD h [O "num",O "fn",O "rec"] x
 simp_all
def pth:T->List (T×Nat)
 |.call f a=>if isV f then(if isV a then []else(.call f a,2)::pth a)else(.call f a,1)::pth f
 |.op w f a=>if isV f then(if isV a then []else(.op w f a,2)::pth a)else(.op w f a,1)::pth f
 |.iff c t e=>if isV c then []else(.iff c t e,1)::pth c
 |_=>[]
def bot:T->T
 |.call f a=>if isV f then(if isV a then .call f a else bot a)else bot f
 |.op w f a=>if isV f then(if isV a then .op w f a else bot a)else bot f
 |.iff c t e=>if isV c then .iff c t e else bot c
 |t=>t
noncomputable def ZjU:T->Nat->T->T
 |.call _ a,1,u=>.call u a
 |.call f _,2,u=>.call f u
 |.op w _ a,1,u=>.op w u a
 |.op w f _,2,u=>.op w f u
 |.iff _ t e,1,u=>.iff u t e
 |s,_,_=>s
def ZfH:List (T×Nat)->T->T
 |[],u=>u
 |(s,k)::r,u=>ZjU s k (ZfH r u)
def p1c:ZjU (.call f a) 1 u=.call u a:=rfl
def p2c:ZjU (.call f a) 2 u=.call f u:=rfl
def p1o:ZjU (.op w f a) 1 u=.op w u a:=rfl
def p2o:ZjU (.op w f a) 2 u=.op w f u:=rfl
def p1i:ZjU (.iff c t e) 1 u=.iff u t e:=rfl
def Zr2(f:Str)(F:T)(x:Str)(A:T):Fil:=if f=x then [(x,A)]else [(f,F),(x,A)]
def bec:T->Option T
 |.call F A=>match F with
  |.fn x e=>J (sub (Fil.ar [(x,A)]) e)
  |.rcc f x e=>J (sub (Fil.ar<|Zr2 f (.rcc f x e) x A) e)
  |_=>M
 |.iff c t e=>match c with
  |.num z=>J (if z=0 then e else t)
  |_=>M
 |.op w a b=>match a,b with
  |.num a,.num b=>J (.num<|_root_.Rw.wk w a b)
  |_,_=>M
 |_=>M
def next(t:T):Option T:=(bec<|bot t).map (ZfH<|pth t)
def Red:T->Prop
 |.call f a|.op _ f a=>isV f=Wq/\isV a=Wq
 |.iff c _ _=>isV c=Wq
 |_=>False
theorem Zdv:∀t ,isV t=Ws->Gn.Cl [] t->Red (bot t)/\Gn.Cl [] (bot t)/\(bot t).size<=t.size
 |.num _,nv,_=>by trivial
 |.name x,_,c=>by cases c
 |.fn _ _,nv,_=>by trivial
 |.rcc _ _ _,nv,_=>by trivial
 |.call f a,_,c=>by
  have z:(T.call f a).size=1+(f.size+a.size):=by rw[Zt];trivial
  simp[bot];split
  . split
    . exact⟨⟨by trivial,by trivial⟩,c,Oq _⟩
    . rename_i q;have d:=Zdv a (by simpa using q) c.2;exact⟨d.1,d.2.1,by lia⟩
  . rename_i q;have d:=Zdv f (by simpa using q) c.1;exact⟨d.1,d.2.1,by lia⟩
 |.op w f a,_,c=>by
  have z:(T.op w f a).size=1+(f.size+a.size):=by rw[Zt];simp[T.parts]
  simp only[bot];split
  . split
    . exact⟨⟨by assumption,by assumption⟩,c,Oq _⟩
    . rename_i q;have d:=Zdv a (by simpa using q) c.2;exact⟨d.1,d.2.1,by lia⟩
  . rename_i q;have d:=Zdv f (by simpa using q) c.1;exact⟨d.1,d.2.1,by lia⟩
 |.iff f a b,_,c=>by
  have z:(T.iff f a b).size=1+(f.size+(a.size+b.size)):=by rw[Zt];simp[T.parts]
  simp only[bot];split
  . exact⟨by assumption,c,Oq _⟩
  . rename_i q;have d:=Zdv f (by simpa using q) c.1;exact⟨d.1,d.2.1,by lia⟩
def Kp(ar:Ar)(sc bN:List Str):Prop:=∀x∈sc,(∃V,get ar x=J V/\Gn.Cl [] V)\/(get ar x=M/\x∈bN)
def Kp.bind(k:Kp ar sc bN)(y):Kp ((y,M)::ar) (y::sc) (y::bN):=λx hx=>by
 unfold get;by_cases e:y=x
 . rw[if_pos e];exact .inr ⟨rfl,by rw[e];simp⟩
 . rw[if_neg e];rcases O2.mp hx with z|z
   . simp_all
   . rcases k x z with q|q
     . exact .inl q
     . exact .inr ⟨q.1,Oh _ q.2⟩
def Kp.two(k:Kp ar sc bN)(f x):Kp ((f,M)::(x,M)::ar) (x::f::sc) (x::f::bN):=λz a=>by
 have q:=(k.bind x).bind f z (by simp at a ⊢;rcases a with h|h|h<;>simp[h]);rcases q with q|q
 . exact .inl q
 . exact .inr ⟨q.1,by have:=q.2;simp at this ⊢;rcases this with h|h|h<;>simp[h]⟩
theorem Zdp:∀(t:T) {ar:Ar}{sc bN:List _},Kp ar sc bN->Gn.Cl sc t->Gn.Cl bN (sub ar t)
 |.num _,_,_,_,_,c=>c
 |.name x,ar,sc,bN,k,c=>by
  rcases k x c with⟨V,e,d⟩|⟨e,m⟩
  . rw[sub,e];exact Gn.Cl.mono (λy g=>by cases g) d
  . rw[sub,e];exact m
 |.fn x e,_,_,_,k,c=>⟨Zdp e (k.bind x) c.1,c.2⟩
 |.rcc f x e,_,_,_,k,c=>⟨Zdp e (k.two f x) c.1,c.2⟩
 |.call f a,_,_,_,k,c|.op _ f a,_,_,_,k,c=>⟨Zdp f k c.1,Zdp a k c.2⟩
 |.iff f a b,_,_,_,k,c=>⟨Zdp f k c.1,Zdp a k c.2.1,Zdp b k c.2.2⟩
def zc(f a):(T.call f a).size=1+(f.size+a.size):=by rw[Zt];trivial
def zo(w)(f a):(T.op w f a).size=1+(f.size+a.size):=by rw[Zt];trivial
def zi(f a b):(T.iff f a b).size=1+(f.size+(a.size+b.size)):=by rw[Zt];trivial
def zf(x)(e):(T.fn x e).size=1+e.size:=by rw[Zt];trivial
def zr(f x)(e):(T.rcc f x e).size=1+e.size:=by rw[Zt];trivial
def Zr1{f:Fil}(hc:∀p∈f,Gn.Cl [] p.2)(sc:List _)(hk:∀x∈sc,x∈f.map (·.1)):Kp f.ar sc []:=λx hx=>by
 have:∀(f:Fil),(∀p∈f,Gn.Cl [] p.2)->x∈f.map (·.1)->∃V,get f.ar x=J V/\Gn.Cl [] V:=by
  intro f;induction f with
  |nil=>simp
  |cons p r ih=>
   intro hc z;rw[Fil.ar,Op,get];by_cases e:p.1=x
   . rw[if_pos e];exact⟨_,rfl,hc p Oi⟩
   . rw[if_neg e];rcases O2.mp z with q|q
     . simp_all
     . exact ih (λp hp=>hc p<|Oh _ hp) q
 exact .inl (this f hc<|hk x hx)
def Zrc:∀(t:T) (u:T),Gn.Cl [] t->Gn.Cl [] u->Gn.Cl [] (ZfH (pth t) u)/\(ZfH (pth t) u).size<=t.size+u.size:=by
 have two:∀a b c u:Nat,a<=b+u->1+(a+c)<=1+(b+c)+u:=λa b c u q=>by lia
 have j:∀a b c u:Nat,a<=b+u->1+(c+a)<=1+(c+b)+u:=λa b c u q=>by lia
 intro t u;induction t with
 |num _|name _|fn _ _ _|rcc _ _ _ _=>exact λ_ d=>⟨d,Nat.le_add_left _ _⟩
 |call f a g h=>
  intro c d;cases e:isV f with
  |false=>simp only[pth,e,ZfH,p1c,p2c,p1o,p2o,p1i,OG,if_false];exact⟨⟨(g c.1 d).1,c.2⟩,by rw[zc,zc];exact two _ _ _ _ (g c.1 d).2⟩
  |true=>
   cases i:isV a with
   |false=>simp only[pth,e,i,ZfH,p1c,p2c,p1o,p2o,p1i,OG,if_false,if_true];exact⟨⟨c.1,(h c.2 d).1⟩,by rw[zc,zc];exact j _ _ _ _ (h c.2 d).2⟩
   |true=>simp only[pth,e,i,ZfH,if_true];exact⟨d,Nat.le_add_left _ _⟩
 |op w f a g h=>
  intro c d;cases e:isV f with
  |false=>simp only[pth,e,ZfH,p1c,p2c,p1o,p2o,p1i,OG,if_false];exact⟨⟨(g c.1 d).1,c.2⟩,by rw[zo,zo];exact two _ _ _ _ (g c.1 d).2⟩
  |true=>
   cases i:isV a with
   |false=>simp only[pth,e,i,ZfH,p1c,p2c,p1o,p2o,p1i,OG,if_false,if_true];exact⟨⟨c.1,(h c.2 d).1⟩,by rw[zo,zo];exact j _ _ _ _ (h c.2 d).2⟩
   |true=>simp only[pth,e,i,ZfH,if_true];exact⟨d,Nat.le_add_left _ _⟩
 |iff f a b g h k=>
  intro c d;cases e:isV f with
  |false=>simp only[pth,e,ZfH,p1c,p2c,p1o,p2o,p1i,OG,if_false];exact⟨⟨(g c.1 d).1,c.2.1,c.2.2⟩,by rw[zi,zi];exact two _ _ _ _ (g c.1 d).2⟩
  |true=>simp only[pth,e,ZfH,if_true];exact⟨d,Nat.le_add_left _ _⟩
end
end Tm
namespace Grf
open PySem L2 IV
def Zbk:Sx:=.s 1 (.f "places"<|.o V0)
def Zax:Sx:=.s 2 (.lstl .n)
def Zaw:Sx:=.s 3 (.lstl .n)
def ZhP:Ix:=.rev V1
def ZgY:Sx:=.s 5 (.comp [O "part",O "numbers"] [M,J 3] (.pl<|.f "parts_of"<|.o V4) (.nm 0) M<|.meth .pop V1 .n)
def ZgX:Sx:=.drp (.meth .app V2<|.o<|.bin .Add (.f "front_of"<|.o V4)<|.blt .tup<|.o V5)
def ZgW:Sx:=.drp (.meth .app V3<|.o<|.bin .Sub (.blt .len<|.o V1)<|.blt .len<|.o V2)
def ZhM:Sxs:=.u ZgY ZgX ZgW
def Zav:Sx:=.forr (.nm 4) ZhP ZhM
def Zau:Sx:=.drp (.meth .rev V2 .n)
def ZdW:Sx:=.ret (.tupl<|.w V2 F0)
def ZjI:Sxs:=.c Zbk (.y Zax Zaw Zav Zau ZdW)
def Zfx:Fd:=fd_ 1 ["E","told","cells","numbers","place","parts"] ZjI
def ZiJ:Ix:=.pl (.f "parts_first"<|.o V1)
def ZcY:Tx:=.nt (.ex<|.f "is_value"<|.o<|.ix V0 V2)
def Zfc:Sx:=.ret V2
def Zg9:Sxs:=.o Zfc
def Zhp:Sx:=.iff ZcY Zg9 .n
def ZaI:Sxs:=.o Zhp
def Zjr:Sx:=.forr (.nm 2) ZiJ ZaI
def Zjq:Sx:=.ret (.cst .non)
def Zlc:Sxs:=.w Zjr Zjq
def Zgr:Fd:=fd_ 2 ["cells","cell","number"] Zlc
def ZjE:Sx:=.s 2 V1
def ZjD:Sx:=.s 3 (.f "first_open"<|.w V0<|.ix V0 V1)
def ZcP:Tx:=.x .IsNot V3 (.cst .non)
def ZhR:Sx:=.s 2 V3
def ZhQ:Sx:=.s 3 (.f "first_open"<|.w V0<|.ix V0 V2)
def Zfq:Sxs:=.w ZhR ZhQ
def ZfC:Sx:=.whl ZcP Zfq
def ZjC:Sx:=.ret V2
def ZhD:Sxs:=.z ZjE ZjD ZfC ZjC
def Zhy:Fd:=fd_ 2 ["cells","root","found","inner"] ZhD
def ZmB:Sx:=.s 3 (.ix V0 V1)
def ZmA:Sx:=.s 4 (.f "bound_names"<|.o V3)
def Zmz:Sx:=.s 5 (.blt .tup<|.o<|.comp [O "name",O "bound"] [M,J 4] (.pl V2) (.nm 0) (J<|.x .NotIn V0 V1) V0)
def Zmy:Sx:=.ret (.comp [O "part",O "inner"] [M,J 5] (.pl<|.f "parts_of"<|.o V3) (.nm 0) M<|.tupl<|.w V0 V1)
def Zkm:Sxs:=.z ZmB ZmA Zmz Zmy
def Zj3:Fd:=fd_ 3 ["cells","number","names","cell","bound","inner"] Zkm
def Zlb:Sx:=.ret (.ands<|.w (.cmp .Eq (.ix V0 F0)<|.Cs_ "name")<|.cmp .In (.ix V0 F1) V1)
def ZfT:Sxs:=.o Zlb
def ZiU:Fd:=fd_ 2 ["cell","names"] ZfT
def Zho:Sx:=.s 3 .ndl
def Zhn:Sx:=.s 4 (.lstl<|.o<|.tupl<|.w V1 V2)
def Zac:Tx:=.ex V4
def ZbY:Sx:=.s 5 (.comp [O "pair"] [M] (.pl<|.f "beneath"<|.u V0 (.ix (.ix V4<|.neg F1) F0)<|.ix (.ix V4<|.neg F1) F1) (.nm 0) (J<|.ex<|.ix V0 F1) V0)
def ZbX:Sx:=.s 6 (.comp [O "pair",O "free"] [M,J 3] (.pl V5) (.nm 0) (J<|.ex<|.nin Wq V0 V1) V0)
def ZfR:Tx:=.ex V6
def ZdY:Sx:=.drp (.meth .ext V4<|.o V6)
def ZaS:Sx:=.s 7 (.meth .pop V4 .n)
def ZdZ:Sx:=.npt V3 V7 (.ors<|.w (.f "is_meant"<|.w (.ix V0<|.ix V7 F0)<|.ix V7 F1)<|.blt .anb<|.o<|.comp [O "part",O "free"] [M,J 3] (.pl V5) (.nm 0) M<|.nix V1 V0)
def ZfK:Sxs:=.o ZdY
def ZfO:Sxs:=.w ZaS ZdZ
def ZfU:Sx:=.iff ZfR ZfK ZfO
def Zab:Sxs:=.u ZbY ZbX ZfU
def Zc5:Sx:=.whl Zac Zab
def Zhm:Sx:=.ret V3
def ZeN:Sxs:=.z Zho Zhn Zc5 Zhm
def Zeg:Fd:=fd_ 3 ["cells","start","names","free","waiting","inner","unknown","pair"] ZeN
def ZbC:Sx:=.sa "Copier" V0 "cells" V1
def ZbB:Sx:=.sa "Copier" V0 "meant" V3
def ZbA:Sx:=.sa "Copier" V0 "free" (.f "free_beneath"<|.u V1 V2<|.blt .tdk<|.o V3)
def Zbz:Sx:=.sa "Copier" V0 "known" .ndl
def Zby:Sx:=.sa "Copier" V0 "waiting" (.lstl .n)
def ZcG:Sxs:=.y ZbC ZbB ZbA Zbz Zby
def ZaL:Fd:=fd_ 4 ["self","cells","start","meant"] ZcG
def Zbx:Sx:=.s 3 (.ix (.a "Copier" V0 "cells") V1)
def Zbt:Tx:=.ands (.c (.ex<|.f "is_value"<|.o V3)<|.one<|.nt<|.ex<|.nix (.a "Copier" V0 "free")<|.tupl<|.w V1 V2)
def ZdH:Sx:=.ret V1
def Zbn:Sxs:=.o ZdH
def Zfg:Sx:=.iff Zbt Zbn .n
def Zbs:Tx:=.ex (.f "is_meant"<|.w V3 V2)
def ZdG:Sx:=.ret (.ix (.a "Copier" V0 "meant")<|.ix V3 F1)
def Zbm:Sxs:=.o ZdG
def Zff:Sx:=.iff Zbs Zbm .n
def Zbr:Tx:=.ex (.nin Wq (.tupl<|.w V1 V2)<|.a "Copier" V0 "known")
def ZdF:Sx:=.npt (.a "Copier" V0 "known") (.tupl<|.w V1 V2) (.blt .len<|.o<|.a "Copier" V0 "cells")
def ZdE:Sx:=.drp (.meth .app (.a "Copier" V0 "cells")<|.o V3)
def ZaP:Sx:=.drp (.meth .app (.a "Copier" V0 "waiting")<|.o<|.tupl<|.w V1 V2)
def Zak:Sxs:=.u ZdF ZdE ZaP
def Zfe:Sx:=.iff Zbr Zak .n
def Zfd:Sx:=.ret (.nix (.a "Copier" V0 "known")<|.tupl<|.w V1 V2)
def ZgZ:Sxs:=.y Zbx Zfg Zff Zfe Zfd
def Zcj:Fd:=fd_ 3 ["self","number","names","cell"] ZgZ
def ZaV:Sx:=.s 1 (.meth .pop (.a "Copier" V0 "waiting") .n)
def ZaU:Sx:=.s 2 (.comp [O "part",O "names",O "self"] [M,M,J 0] (.pl<|.f "beneath"<|.u (.a "Copier" V0 "cells") (.ix V1 F0)<|.ix V1 F1) (.two 0 1) M<|.m "Copier" "stand_in" V2<|.w V0 V1)
def ZaT:Sx:=.put (.a "Copier" V0 "cells") (.nix (.a "Copier" V0 "known") V1) (.bin .Add (.f "front_of"<|.o<|.ix (.a "Copier" V0 "cells")<|.ix V1 F0)<|.blt .tup<|.o V2)
def Zbw:Sxs:=.u ZaV ZaU ZaT
def Zbp:Fd:=fd_ 1 ["self","pair","parts"] Zbw
def Zg1:Sx:=.s 2 (.m "Copier" "stand_in" V0<|.w V1<|.blt .tdk<|.o<|.a "Copier" V0 "meant")
def Zcr:Tx:=.ex (.a "Copier" V0 "waiting")
def Zfh:Sx:=.drp (.m "Copier" "write_next" V0 .n)
def Zcc:Sxs:=.o Zfh
def ZcF:Sx:=.whl Zcr Zcc
def Zg0:Sx:=.ret V2
def ZdX:Sxs:=.u Zg1 ZcF Zg0
def ZdN:Fd:=fd_ 2 ["self","start","number"] ZdX
def Zju:Sx:=.s 3 (.ix V0 V1)
def ZnC:Tx:=.q (.ix V3 F0) (.Cs_ "num")
def ZjL:Sx:=.ret (.cst .non)
def Znl:Sxs:=.o ZjL
def ZnM:Sx:=.iff ZnC Znl .n
def ZnB:Tx:=.q (.ix V3 F0) (.Cs_ "fn")
def ZjJ:Sx:=.s 4 (.dictl<|.w (.ix V3 F1) V2)
def ZjK:Sx:=.s 4 (.dictl<|.z (.ix V3 F1) V1 (.ix V3 F2) V2)
def Znk:Sxs:=.o ZjJ
def Znz:Sxs:=.o ZjK
def ZnL:Sx:=.iff ZnB Znk Znz
def Zjt:Sx:=.s 5 (.ix (.f "parts_of"<|.o V3) F0)
def Zjs:Sx:=.ret (.ix V0<|.m "Copier" "copied" (.mk (O "Copier")<|.u V0 V5 V4)<|.o V5)
def Zsv:Sxs:=.y Zju ZnM ZnL Zjt Zjs
def Zl7:Fd:=fd_ 3 ["cells","F","A","function","meant","start"] Zsv
def Zmw:Sx:=.s 2 (.f "chosen"<|.u (.ix V0<|.ix V1 F1) (.ix V1 F2)<|.ix V1 F3)
def Zmo:Tx:=.x .Is V2 (.cst .non)
def Zjp:Sx:=.ret (.cst .non)
def ZlU:Sxs:=.o Zjp
def Zmv:Sx:=.iff Zmo ZlU .n
def Zmu:Sx:=.ret (.ix V0 V2)
def Zqc:Sxs:=.u Zmw Zmv Zmu
def Zj2:Fd:=fd_ 2 ["cells","cell","number"] Zqc
def Zmn:Tx:=.q (.ix V1 F0) (.Cs_ "call")
def Zja:Sx:=.ret (.f "called"<|.u V0 (.ix V1 F1)<|.ix V1 F2)
def ZlS:Sxs:=.o Zja
def Zms:Sx:=.iff Zmn ZlS .n
def Zmm:Tx:=.q (.ix V1 F0) (.Cs_ "if")
def Zi9:Sx:=.ret (.f "gone_on"<|.w V0 V1)
def ZlR:Sxs:=.o Zi9
def Zmr:Sx:=.iff Zmm ZlR .n
def Zmq:Sx:=.ret (.f "worked"<|.u (.ix V1 F0) (.ix V0<|.ix V1 F1)<|.ix V0<|.ix V1 F2)
def Zp7:Sxs:=.u Zms Zmr Zmq
def Zj1:Fd:=fd_ 2 ["cells","cell"] Zp7
def Zes:Tx:=.ex (.f "is_value"<|.o<|.ix (.ix V0 F0)<|.ix V0 F1)
def ZgV:Sx:=.ret (.tupl<|.o<|.Cs_ "value")
def ZiB:Sxs:=.o ZgV
def Zjm:Sx:=.iff Zes ZiB .n
def ZeL:Sx:=.s 1 (.blt .lst<|.o<|.ix V0 F0)
def Zjl:Sx:=.s 2 (.f "next_cell"<|.w V1<|.ix V0 F1)
def Zjk:Sx:=.s 3 (.f "written"<|.w V1<|.ix V1 V2)
def Zi8:Tx:=.x .Is V3 (.cst .non)
def ZgU:Sx:=.ret (.tupl<|.o<|.Cs_ "stuck")
def ZiA:Sxs:=.o ZgU
def ZeK:Sx:=.iff Zi8 ZiA .n
def ZeJ:Sx:=.put V1 V2 V3
def Zjj:Sx:=.ret (.tupl<|.w (.Cs_ "loud")<|.tupl<|.w V1<|.ix V0 F1)
def ZdC:Sxs:=.c Zjm (.c ZeL<|.y Zjl Zjk ZeK ZeJ Zjj)
def Zgp:Fd:=fd_ 1 ["state","cells","number","cell"] ZdC
def Zjo:Sx:=.s 1 (.mk (O "Pen")<|.o<|.glo<|O "WIDEST")
def ZbV:Sx:=.s 2 (.lstl .n)
def ZeM:Sx:=.s 3 (.lstl<|.o<|.ix V0 F1)
def ZaM:Tx:=.ex V3
def Zc4:Sx:=.s 4 (.ix (.ix V0 F0)<|.meth .pop V3 .n)
def Zc3:Sx:=.drp (.m "Pen" "take_place" V1 .n)
def Zc2:Sx:=.drp (.meth .app V2<|.o<|.f "front_of"<|.o V4)
def Zhl:Sx:=.drp (.meth .ext V3<|.o<|.lrv<|.f "parts_of"<|.o V4)
def Z7:Sxs:=.z Zc4 Zc3 Zc2 Zhl
def ZbU:Sx:=.whl ZaM Z7
def Zjn:Sx:=.ret (.f "built"<|.o V2)
def ZdD:Sxs:=.y Zjo ZbV ZeM ZbU Zjn
def Zgq:Fd:=fd_ 1 ["state","pen","fronts","waiting","cell"] ZdD
end Grf
namespace Grf
open PySem L2 IV Tm
set_option genInjectivity true in
inductive Gc where
 |num (n:Int)|name (x:Str)|fn (x:Str) (e:Nat)|rcc (f x:Str) (e:Nat)|call (f a:Nat)|iff (c t e:Nat)|op (w:Wd) (a b:Nat)
noncomputable def Gc.fr:Gc->List D
 |.num n=>[.str<|O "num",.int n]
 |.name x=>[.str<|O "name",.str x]
 |.fn x _=>[.str<|O "fn",.str x]
 |.rcc f x _=>[.str<|O "rec",.str f,.str x]
 |.call _ _=>[.str<|O "call"]
 |.iff _ _ _=>[.str<|O "if"]
 |.op w _ _=>[.str w.s]
noncomputable def Gc.ps:Gc->List Nat
 |.num _|.name _=>[]
 |.fn _ e|.rcc _ _ e=>[e]
 |.call f a=>[f,a]
 |.iff c t e=>[c,t,e]
 |.op _ a b=>[a,b]
noncomputable def Gc.bd:Gc->List Str
 |.fn x _=>[x]
 |.rcc f x _=>[f,x]
 |_=>[]
noncomputable def Gc.isV:Gc->Bool
 |.num _|.fn _ _|.rcc _ _ _=>Wq
 |_=>Ws
noncomputable def nI(n:Nat):D:=.int (n:Int)
def Gc.d(c:Gc):D:=.tup (c.fr++c.ps.map nI)
noncomputable def Gc.wp:Gc->List Nat->Gc
 |.fn x _,[e]=>.fn x e
 |.rcc f x _,[e]=>.rcc f x e
 |.call _ _,[a,b]=>.call a b
 |.iff _ _ _,[a,b,c]=>.iff a b c
 |.op w _ _,[a,b]=>.op w a b
 |c,_=>c
def Zqn{c:Gc}{ms:List _}(h:ms.length=c.ps.length):(c.wp ms).fr=c.fr/\(c.wp ms).ps=ms:=by
 have two:∀{l:List Nat},l.length=2->∃a b,l=[a,b]:=λ{l} h=>match l,h with|[a,b],_=>⟨a,b,rfl⟩
 have three:∀{l:List Nat},l.length=3->∃a b c,l=[a,b,c]:=λ{l} h=>match l,h with|[a,b,c],_=>⟨a,b,c,rfl⟩
 cases c with
 |num n|name n=>cases List.length_eq_zero_iff.mp h;exact⟨rfl,rfl⟩
 |fn x e|rcc f x e=>obtain⟨a,rfl⟩:=(λh=>List.length_eq_one_iff.mp h) h;exact⟨rfl,rfl⟩
 |call f a|op w a b=>obtain⟨a,b,rfl⟩:=two h;exact⟨rfl,rfl⟩
 |iff c a b=>obtain⟨a,b,c,rfl⟩:=three h;exact⟨rfl,rfl⟩
def Fit:Gc->T->Prop
 |.num n,.num m=>n=m
 |.name x,.name y=>x=y
 |.fn x _,.fn y _=>x=y
 |.rcc f x _,.rcc g y _=>f=g/\x=y
 |.call _ _,.call _ _=>True
 |.iff _ _ _,.iff _ _ _=>True
 |.op w _ _,.op v _ _=>w=v
 |_,_=>False
inductive Rd(g:Nat->Option Gc):Nat->T->Prop
 |num:g i=J (.num n)->Rd g i (.num n)
 |name:g i=J (.name x)->Rd g i (.name x)
 |fn:g i=J (.fn x e)->Rd g e t->Rd g i (.fn x t)
 |rcc:g i=J (.rcc f x e)->Rd g e t->Rd g i (.rcc f x t)
 |call:g i=J (.call a b)->Rd g a s->Rd g b t->Rd g i (.call s t)
 |iff:g i=J (.iff a b c)->Rd g a s->Rd g b t->Rd g c u->Rd g i (.iff s t u)
 |op:g i=J (.op w a b)->Rd g a s->Rd g b t->Rd g i (.op w s t)
def Rd.inv(h:Rd g i t):∃c,g i=J c/\Fit c t/\Paired (Rd g) c.ps t.parts:=by
 cases h with
 |num e|name e=>exact⟨_,e,rfl,.nil⟩
 |fn e a=>exact⟨_,e,rfl,.cons a .nil⟩
 |rcc e a=>exact⟨_,e,⟨rfl,rfl⟩,.cons a .nil⟩
 |call e a b=>exact⟨_,e,trivial,.cons a<|.cons b .nil⟩
 |iff e a b c=>exact⟨_,e,trivial,.cons a<|.cons b<|.cons c .nil⟩
 |op e a b=>exact⟨_,e,rfl,.cons a<|.cons b .nil⟩
def Rd.mk{c}{t}(e:g i=J c)(f:Fit c t)(p:Paired (Rd g) c.ps t.parts):Rd g i t:=by
 cases c<;>cases t<;>simp[Fit]at f
 . subst f;exact .num e
 . subst f;exact .name e
 . subst f;cases p with|cons a q=>exact .fn e a
 . obtain⟨rfl,rfl⟩:=f;cases p with|cons a q=>exact .rcc e a
 . cases p with|cons a q=>cases q with|cons b q=>exact .call e a b
 . cases p with|cons a q=>cases q with|cons b q=>cases q with|cons c q=>exact .iff e a b c
 . subst f;cases p with|cons a q=>cases q with|cons b q=>exact .op e a b
def Rd.ind{P:Nat->T->Prop}(k:∀i t c,g i=J c->Fit c t->Paired (λn s=>Rd g n s/\P n s) c.ps t.parts->P i t):∀{i t},Rd g i t->P i t:=by
 intro i t h;induction h with
 |num e|name e=>exact k _ _ _ e rfl .nil
 |fn e a d=>exact k _ _ _ e rfl (.cons ⟨a,d⟩ .nil)
 |rcc e a d=>exact k _ _ _ e ⟨rfl,rfl⟩ (.cons ⟨a,d⟩ .nil)
 |call e a b d f=>exact k _ _ _ e trivial (.cons ⟨a,d⟩<|.cons ⟨b,f⟩ .nil)
 |iff e a b c d f j=>exact k _ _ _ e trivial (.cons ⟨a,d⟩<|.cons ⟨b,f⟩<|.cons ⟨c,j⟩ .nil)
 |op e a b d f=>exact k _ _ _ e rfl (.cons ⟨a,d⟩<|.cons ⟨b,f⟩ .nil)
def ZcL{c}{t}(f:Fit c t):c.fr=Tm.fr t/\c.bd=bnd t/\c.isV=Tm.isV t/\c.ps.length=t.parts.length:=by
 cases c<;>cases t<;>simp[Fit]at f
 . subst f;trivial
 . subst f;trivial
 . subst f;trivial
 . obtain⟨rfl,rfl⟩:=f;trivial
 . trivial
 . trivial
 . subst f;trivial
def Zxs{c}{t u}(f:Fit c t)(f':Fit c u)(e:t.parts=u.parts):t=u:=by
 cases c<;>cases t<;>simp[Fit]at f<;>cases u<;>simp[Fit]at f'<;>simp[T.parts]at e
 . simp_all
 . simp_all
 . simp_all
 . simp_all
 . simp_all
 . simp_all
 simp_all
def Rd.one(h:Rd g i t):∀{u},Rd g i u->t=u:=by
 refine Rd.ind (P:=λi t=>∀{u},Rd g i u->t=u) (λi t c e f p u l=>?_) h;obtain⟨v,k,m,o⟩:=l.inv;rw[e]at k;cases k;refine Zxs f m ?_;have:∀{ns}{ts d},Paired (λn s=>Rd g n s/\∀{u},Rd g n u->s=u) ns ts->Paired (Rd g) ns d->ts=d:=by
  intro ns ts d q j;induction q generalizing d with
  |nil=>cases j;rfl
  |cons a q r=>cases j with|cons b j=>rw[a.2 b,r j]
 exact this p o
def Rd.mono(h:Rd g i t){g'}(m:∀i c,g i=J c->g' i=J c):Rd g' i t:=Rd.ind (λi t c e f p=>Rd.mk (m i c e) f<|Paired.mapP p λ_ _ z=>z.2) h
noncomputable def wo(g:Nat->Option Gc)(x:Nat):Nat->Option Gc:=λi=>if i=x then M else g i
def Zlj(h:i≠x):wo g x i=g i:=if_neg h
def ZJ:∀i c,wo g x i=J c->g i=J c:=λi c e=>by
 unfold wo at e
 simp_all
def Zn4{t s:T}(h:s∈t.parts):s.size<t.size:=by
 rw[Zt t];have:∀l:List T,s∈l->s.size<=(l.map T.size).sum:=by
  intro l;induction l with
  |nil=>simp
  |cons a r b=>
   intro h;rw[Op,OI];rcases O2.mp h with rfl|h
   . lia
   lia
 have:=this _ h
 lia
theorem Paired.imp_mem{F G}:∀{l₁:List α}{l₂:List β},Paired F l₁ l₂->(∀a b,a∈l₁->b∈l₂->F a b->G a b)->Paired G l₁ l₂
 |_,_,.nil,_=>.nil
 |_,_,.cons r t,f=>.cons (f _ _ (.head _) (.head _) r) (Paired.imp_mem t λa b c d=>f a b (.tail _ c)<|.tail _ d)
theorem Rd.wo{tz}(hx:Rd g x tz)(h:Rd g i t)(hs:t.size<tz.size):Rd (Grf.wo g x) i t:=by
 exact Rd.ind (P:=λi t=>t.size<tz.size->Rd _ i t) (λi t c e f p hs=>Rd.mk ((Zlj λz=>by
   subst z;have:=(Rd.mk e f<|Paired.mapP p λ_ _ z=>z.1).one hx
   simp_all).I e) f (Paired.imp_mem p λn s _ hm z=>z.2<|Nat.lt_trans (Zn4 hm) hs)) h hs
noncomputable def gl(G:List Gc):Nat->Option Gc:=λi=>G[i]?
noncomputable def rs(ns:List Str)(b:List Str):List Str:=ns.filter λx=>!Wu (x∈b)
def fin:List Str->T->Bool
 |_,.num _=>Ws
 |ns,.name x=>Wu (x∈ns)
 |ns,.fn x e=>fin (rs ns [x]) e
 |ns,.rcc f x e=>fin (rs ns [f,x]) e
 |ns,.call a b|ns,.op _ a b=>fin ns a||fin ns b
 |ns,.iff a b c=>fin ns a||(fin ns b||fin ns c)
def Zbg(ns):rs ns []=ns:=by simp[rs]
noncomputable def mnt(ns:List Str):T->Bool
 |.name x=>Wu (x∈ns)
 |_=>Ws
def ZiO(ns)(t):fin ns t=(mnt ns t||t.parts.any (fin<|rs ns<|bnd t)):=by cases t<;>simp[fin,mnt,T.parts,bnd,Zbg]
theorem ZaJ:∀t:T,fin [] t=Ws
 |.num _=>rfl
 |.name _=>by simp[fin]
 |.fn x e|.rcc f x e=>by simp[fin,rs,ZaJ e]
 |.call a b|.op _ a b=>by simp[fin,ZaJ a,ZaJ b]
 |.iff a b c=>by simp[fin,ZaJ a,ZaJ b,ZaJ c]
noncomputable def arN(qb:List (Str×T))(ns:List Str):Ar:=(qb.filter λp=>Wu<|p.1∈ns).map λp=>(p.1,J p.2)
def Zcf(qb:List _)(ns:List _)(x:Str):get (arN qb ns) x=if x∈ns then get (qb.map λp=>(p.1,J p.2)) x else M:=by induction qb<;>grind [Tm.get,arN]
theorem ZaB:∀(t:T) {a b:Ar},(∀x,get a x=get b x)->sub a t=sub b t
 |.num _,_,_,_=>rfl
 |.name x,a,b,h=>by simp[sub,h x]
 |.fn x e,a,b,h=>by simp only[sub];rw[ZaB e (b:=(x,M)::b) λy=>by simp only[Tm.get];rw[h y]]
 |.rcc f x e,a,b,h=>by simp only[sub];rw[ZaB e (b:=(f,M)::(x,M)::b) λy=>by simp only[Tm.get];rw[h y]]
 |.call s t,a,b,h|.op w s t,a,b,h=>by simp only[sub];rw[ZaB s h,ZaB t h]
 |.iff s t u,a,b,h=>by simp only[sub];rw[ZaB s h,ZaB t h,ZaB u h]
def ZbD(qb)(ns)(t s):sub (inn t<|arN qb ns) s=sub (arN qb<|rs ns<|bnd t) s:=by
 refine ZaB s λx=>?_;have e:∀(bs:List _) (a),get (bs.map (λy=>(y,M))++a) x=if x∈bs then M else get a x:=by
  intro bs a;induction bs with
  |nil=>simp
  |cons y bs b=>
   rw[Op,List.cons_append];simp only[Tm.get];by_cases h:y=x
   . simp[h]
   . have c:¬ x=y:=λz=>h z.symm
     simp_all
 rw[show inn t _=(bnd t).map _++arN qb _ from rfl,e,Zcf,Zcf];by_cases h:x∈bnd t
 . simp[h,rs]
 . simp[h,rs]
theorem Zc6(qb:List _):∀(t:T) (ns:List _),fin ns t=Ws->sub (arN qb ns) t=t
 |.num _,_,_=>rfl
 |.name x,ns,h=>by simp only[sub];rw[Zcf,if_neg<|by simpa[fin]using h];rfl
 |.fn x e,ns,h=>by show T.fn x (sub (inn (.fn x e)<|arN qb _) e)=_;rw[ZbD];exact congrArg _ (Zc6 qb e _ h)
 |.rcc f x e,ns,h=>by show T.rcc f x (sub (inn (.rcc f x e)<|arN qb _) e)=_;rw[ZbD];exact congrArg _ (Zc6 qb e _ h)
 |.call a b,ns,h|.op w a b,ns,h=>by have h:=Bool.or_eq_false_iff.mp h;simp only[sub];rw[Zc6 qb a _ h.1,Zc6 qb b _ h.2]
 |.iff a b c,ns,h=>by have h:=Bool.or_eq_false_iff.mp h;have h2:=Bool.or_eq_false_iff.mp h.2;simp only[sub];rw[Zc6 qb a _ h.1,Zc6 qb b _ h2.1,Zc6 qb c _ h2.2]
def Zul{c}{t}{ar}{ms}(f:Fit c t)(m:ZwP ar t=M)(h:ms.length=c.ps.length):Fit (c.wp ms) (sub ar t):=by
 have two:∀{l:List Nat},l.length=2->∃a b,l=[a,b]:=λ{l} h=>match l,h with|[a,b],_=>⟨a,b,rfl⟩
 have three:∀{l:List Nat},l.length=3->∃a b c,l=[a,b,c]:=λ{l} h=>match l,h with|[a,b,c],_=>⟨a,b,c,rfl⟩
 cases c<;>cases t<;>simp[Fit]at f
 . trivial
 . simp[sub];rw[show get _ _=M from m];exact f
 . obtain⟨a,rfl⟩:=(λh=>List.length_eq_one_iff.mp h) h;exact f
 . obtain⟨a,rfl⟩:=(λh=>List.length_eq_one_iff.mp h) h;exact f
 . obtain⟨a,b,rfl⟩:=two h;exact f
 . obtain⟨a,b,c,rfl⟩:=three h;exact f
 . obtain⟨a,b,rfl⟩:=two h;exact f
def cc:List Str->T->Nat
 |_,.num _=>0
 |ns,.name x=>if x∈ns then 0 else 1
 |ns,.fn x e=>if fin (rs ns [x]) e then 1+cc (rs ns [x]) e else 0
 |ns,.rcc f x e=>if fin (rs ns [f,x]) e then 1+cc (rs ns [f,x]) e else 0
 |ns,.call a b|ns,.op _ a b=>1+(cc ns a+cc ns b)
 |ns,.iff a b c=>1+(cc ns a+(cc ns b+cc ns c))
def Zvs{ns}{t}(v:Tm.isV t=Wq->fin ns t=Wq)(m:mnt ns t=Ws):cc ns t=1+(t.parts.map<|cc<|rs ns<|bnd t).sum:=by
 cases t with
 |num n=>exact absurd (v rfl) (by simp[fin])
 |name x=>simp[mnt]at m;simp[cc,T.parts,m]
 |fn x e=>have q:fin _ e=Wq:=v rfl;simp[cc,q,T.parts,bnd]
 |rcc f x e=>have q:fin _ e=Wq:=v rfl;simp[cc,q,T.parts,bnd]
 |_=>simp[cc,T.parts,bnd,Zbg]
theorem ZcX:∀(ns) (t),cc ns t<=t.size
 |_,.num _=>Yy _
 |ns,.name x=>by have:=ZC<|.name x;simp only[cc];split<;>lia
 |ns,.fn x e=>by have:=ZcX (rs ns [x]) e;have:=zf x e;simp only[cc];split<;>lia
 |ns,.rcc f x e=>by have:=ZcX (rs ns [f,x]) e;have:=zr f x e;simp only[cc];split<;>lia
 |ns,.call a b=>by have:=ZcX ns a;have:=ZcX ns b;have:=zc a b;simp only[cc];lia
 |ns,.iff a b c=>by have:=ZcX ns a;have:=ZcX ns b;have:=ZcX ns c;have:=zi a b c;simp only[cc];lia
 |ns,.op w a b=>by have:=ZcX ns a;have:=ZcX ns b;have:=zo w a b;simp only[cc];lia
section
variable {P:Pg}{h:Hd}
structure Trs(P:Pg):Prop extends Gn.Tre P where
 bound_names:P.tb.lookup (O "bound_names")=J Tm.ZcN
 front_of:P.tb.lookup (O "front_of")=J Tm.ZfN
structure Gs(P:Pg):Prop where
 b:Trs P
 pl:P.tb.lookup (O "places")=J Gn.Zgm
 gv:P.G (O "VALUES")=J (.tup [.str<|O "num",.str<|O "fn",.str<|O "rec"])
 gb:P.G (O "BEYOND")=J (.int 1000000)
 is_value:P.tb.lookup (O "is_value")=J Tm.ZiT
 parts_first:P.tb.lookup (O "parts_first")=J Tm.Zfu
 chosen:P.tb.lookup (O "chosen")=J Tm.ZiV
 worked:P.tb.lookup (O "worked")=J Tm.Zgl
 graph_begun:P.tb.lookup (O "graph_begun")=J Zfx
 first_open:P.tb.lookup (O "first_open")=J Zgr
 next_cell:P.tb.lookup (O "next_cell")=J Zhy
 beneath:P.tb.lookup (O "beneath")=J Zj3
 is_meant:P.tb.lookup (O "is_meant")=J ZiU
 free_beneath:P.tb.lookup (O "free_beneath")=J Zeg
 n_Copier___init__:P.tb.lookup (mnm (O "Copier")<|O "__init__")=M
 Copier___init__:P.ms.lookup (mnm (O "Copier")<|O "__init__")=J ZaL
 n_Copier_stand_in:P.tb.lookup (mnm (O "Copier")<|O "stand_in")=M
 Copier_stand_in:P.ms.lookup (mnm (O "Copier")<|O "stand_in")=J Zcj
 n_Copier_write_next:P.tb.lookup (mnm (O "Copier")<|O "write_next")=M
 Copier_write_next:P.ms.lookup (mnm (O "Copier")<|O "write_next")=J Zbp
 n_Copier_copied:P.tb.lookup (mnm (O "Copier")<|O "copied")=M
 Copier_copied:P.ms.lookup (mnm (O "Copier")<|O "copied")=J ZdN
 called:P.tb.lookup (O "called")=J Zl7
 gone_on:P.tb.lookup (O "gone_on")=J Zj2
 written:P.tb.lookup (O "written")=J Zj1
 graph_step:P.tb.lookup (O "graph_step")=J Zgp
structure Grr(P:Pg):Prop where
 b:Tm.Trb P
 w:Tm.Wid P
 s:Gs P
 gw:P.G (O "WIDEST")=J (.int 120)
 graph_read:P.tb.lookup (O "graph_read")=J Zgq
def Zgi(H:Trs P)(n)(h)(w)(ds)(e:Zw Gn.Zgj (.inr w)=M):run P (n+1) (O "front_of") [.tup (.str w::ds)] h=.ok (.tup (.str w::ds)) h:=by rw[Ze H.front_of rfl];show Zn (xs2 _ ZbW [J _] h)=_;rw[ZbW,Zc<|(Zq<|Gn.Zb8 H.toTre ⟨rfl,rfl⟩ Gn.Zfr e).I<|Zc<|Zm rfl];rfl
def Z4(H:Trs P)(n)(h)(w)(ds)(a b)(e:Zw Gn.Zgj (.inr w)=J (.tup [.int a,.int b])):run P (n+1) (O "front_of") [.tup (.str w::ds)] h=.ok (.tup<|cutD (.str w::ds) M<|J<|1+a) h:=by rw[Ze H.front_of rfl];show Zn (xs2 (P.tbl n) ZbW [J _] h)=_;rw[ZbW,Za<|(Zi<|Gn.Zb8 H.toTre ⟨rfl,rfl⟩ Gn.Zfr e).I rfl,Zc<|Zm<|(Gn.ZjR rfl rfl<|Gn.ZkR<|Gn.Znq H.toTre (U:=P.tbl n) ⟨rfl,rfl⟩ (ds:=ds) (h:=h) e).I rfl];rfl
def Zs9(H:Trs P)(n)(t)(h):run P (n+1) (O "front_of") [t.d] h=.ok (.tup<|fr t) h:=by
 cases t with
 |num z=>exact Zgi H n h _ _ rfl
 |name x=>exact Zgi H n h _ _ rfl
 |fn x e=>exact Z4 H n h _ _ 1 1 rfl
 |rcc f x e=>exact Z4 H n h _ _ 2 1 rfl
 |call f a=>exact Z4 H n h _ _ 0 2 rfl
 |iff c a b=>exact Z4 H n h _ _ 0 3 rfl
 |op w a b=>exact Z4 H n h _ _ 0 2 Zd0
def ZBI(c:Gc):∃w ds,c.d=.tup (.str w::ds)/\c.isV=Wu (w=O "num" \/ w=O "fn" \/ w=O "rec"):=by
 cases c with
 |op w a b=>exact⟨_,_,rfl,by cases w<;>simp[Gc.isV]⟩
 |_=>exact⟨_,_,rfl,rfl⟩
def ZhN:ZaR GD (.tup (x::xs)) (.int 0) h=.ok x h:=by simp
def Zsq(H:Gs P)(n)(c:Gc):run P (n+1) (O "is_value") [c.d] h=.ok (.bl c.isV) h:=by obtain⟨w,a,e,ev⟩:=ZBI c;rw[Ze H.is_value rfl,e,ev];exact congrArg _ (Zc<|Zm<|(Zd ((Zf rfl rfl).I ZhN)<|show IV.ev (P.tbl n) (.glo _) _ h=.ok _ h from congrArg (λo=>qd.ofO o h) H.gv).I Zuf)
def Zh7(H:Gn.Tre P)(n)(c:Gc):run P (n+1) (O "parts_of") [c.d] h=.ok (.tup<|c.ps.map nI) h:=by
 cases c with
 |num z=>exact Gn.Zf2 H n h _ _ rfl
 |name x=>exact Gn.Zf2 H n h _ _ rfl
 |fn x e=>exact Gn.Z3 H n h _ _ 1 1 rfl
 |rcc f x e=>exact Gn.Z3 H n h _ _ 2 1 rfl
 |call f a=>exact Gn.Z3 H n h _ _ 0 2 rfl
 |iff c a b=>exact Gn.Z3 H n h _ _ 0 3 rfl
 |op w a b=>exact Gn.Z3 H n h _ _ 0 2 Zd0
def Zo7(H:Trs P)(n)(c:Gc):run P (n+1) (O "front_of") [c.d] h=.ok (.tup c.fr) h:=by
 cases c with
 |num z=>exact Zgi H n h _ _ rfl
 |name x=>exact Zgi H n h _ _ rfl
 |fn x e=>exact Z4 H n h _ _ 1 1 rfl
 |rcc f x e=>exact Z4 H n h _ _ 2 1 rfl
 |call f a=>exact Z4 H n h _ _ 0 2 rfl
 |iff c a b=>exact Z4 H n h _ _ 0 3 rfl
 |op w a b=>exact Z4 H n h _ _ 0 2 Zd0
def Zux(H:Trs P)(n)(c:Gc):run P (n+1) (O "bound_names") [c.d] h=.ok (.tup<|c.bd.map .str) h:=by
 have no:∀(w) (ds),Zw _ _=M->run P _ _ [.tup _] h=.ok _ h:=λw ds e=>by rw[Ze H.bound_names rfl];show Zn (xs2 (P.tbl n) Zap [J<|.tup (.str w::ds)] h)=_;rw[Zap,Zc<|(Zq<|Gn.Zb8 H.toTre ⟨rfl,rfl⟩ Gn.Zfr e).I<|Zc<|Zm rfl];rfl
 have g:∀(w) (ds) (a b),Zw _ _=J (.tup [.int a,.int b])->run P _ _ [.tup _] h=.ok _ h:=λw ds a b e=>by rw[Ze H.bound_names rfl];show Zn (xs2 (P.tbl n) Zap [J<|.tup (.str w::ds)] h)=_;rw[Zap,Za<|(Zi<|Gn.Zb8 H.toTre ⟨rfl,rfl⟩ Gn.Zfr e).I rfl,Zc<|Zm<|(Gn.ZjR rfl rfl<|Gn.ZkR<|Gn.Znq H.toTre (U:=P.tbl n) ⟨rfl,rfl⟩ (ds:=ds) (h:=h) e).I rfl];rfl
 cases c with
 |num z=>exact no _ _ rfl
 |name x=>exact no _ _ rfl
 |fn x e=>exact g _ _ 1 1 rfl
 |rcc f x e=>exact g _ _ 2 1 rfl
 |call f a=>exact g _ _ 0 2 rfl
 |iff c a b=>exact g _ _ 0 3 rfl
 |op w a b=>exact g _ _ 0 2 Zd0
def Gc.pf:Gc->List Nat
 |.iff c _ _=>[c]
 |c=>c.ps
def ZAi(H:Gs P)(n:Nat)(c:Gc):run P (n+2) (O "parts_first") [c.d] h=.ok (.tup<|c.pf.map nI) h:=by
 rw[Ze H.parts_first rfl];have no:∀(w:Str) (g:List D),c.d=.tup (.str w::g)->w≠Str.ofString _->c.pf=c.ps->Zn (xs2 (P.tbl<|n+1) ZfB [J c.d] h)=.ok (.tup<|c.pf.map nI) h:=λw g e ne i=>i▸congrArg _ ((Za<|(Zi<|Zh (ZcO ((Zf rfl rfl).I<|e▸ZhN) rfl)<|decide_eq_false ne).I rfl).I<|Zc<|Zm<|Zl (Zh7 H.b.toTre n c) rfl);cases c with
 |iff a b e=>exact congrArg _ (Zc<|(Zq<|Zh (ZcO (x:=Str.ofString _) rfl rfl)<|decide_eq_true rfl).I<|Zc<|Zm rfl)
 |num z|name x|fn x e|rcc f x e|call f e|op w f e=>exact no _ _ rfl (by simp) rfl
end
section
variable {P:Pg}
def fop(G:List Gc):List Nat->Option Nat
 |[]=>M
 |n::r=>match G[n]? with
  |some c=>if c.isV then fop G r else J n
  |none=>M
def oI:Option Nat->D
 |some n=>nI n
 |none=>.non
noncomputable def cl(G:List Gc):DO:=.lst (G.map Gc.d)
def ZxZ{G:List _}{n:Nat}{c}(e:G[n]?=J c):atI (G.map Gc.d) n=J c.d:=by rw[IV.ZcH,On,e];rfl
def Zy{U}{a b}{G}{h}{n}{c}(p:ev U a S h=.ok (.ref k) h)(q:ev U b S h=.ok (nI n) h)(hk:h[k]?=J (cl G))(e:G[n]?=J c):ev U (.ix a b) S h=.ok c.d h:=(Zf p q).I ((ZE hk).I (by rw[ZxZ e];rfl))
theorem ZzL(H:Gs P)(n){G}{h}(hk:h[k]?=J (cl G)):∀(ns) (o),(∀m∈ns,∃c,G[m]?=J c)->(∃S q,fop G ns=J q/\ZY [] (.nm 2) (xs2 (P.tbl<|n+2) ZaI) (ns.map nI) [J<|.ref k,E,o] h=.ok (.rt<|nI q,S) h)\/(fop G ns=M/\∃o',ZY [] (.nm 2) (xs2 (P.tbl<|n+2) ZaI) (ns.map nI) [J<|.ref k,E,o] h=.ok (.nx,[J<|.ref k,E,o']) h)
 |[],o,_=>.inr ⟨rfl,o,rfl⟩
 |m::ns,o,f=>by
  obtain⟨c,e⟩:=f m<|.head _;have a:tst (P.tbl<|n+2) ZcY [J<|.ref k,E,J<|nI m] h=.ok (!c.isV) h:=by show tst _ (.nt _) _ h=_;rw[Zko,ZI<|Zl (Zsq H _ c)<|Zb (Zy rfl rfl hk e) rfl];rfl
  cases v:c.isV with
  |false=>rw[v]at a;exact .inl ⟨_,m,by simp[fop,e,v],Znr rfl<|Zc<|(Zq a).I<|Zc<|Zm rfl⟩
  |true=>
   rw[v]at a;have st:=Zdk (ds:=ns.map nI) (g:=.nm 2) (S:=[J _,E,o]) rfl ((Za<|(Zi a).I rfl).I rfl:xs2 _ ZaI _ h=_);rcases ZzL H n hk _ _ λx i=>f x (.tail _ i)with⟨S,q,b,d⟩|⟨b,o',d⟩
   . exact .inl ⟨_,q,by simp[fop,e,v,b],st.I d⟩
   . exact .inr ⟨by simp[fop,e,v,b],o',st.I d⟩
def ZyY(H:Gs P)(n:Nat){G:List _}{h:Hd}(c:Gc)(hk:h[k]?=J (cl G))(hn:∀m∈c.ps,∃c,G[m]?=J c):run P (n+3) (O "first_open") [.ref k,c.d] h=.ok (oI<|fop G c.pf) h:=by
 rw[Ze H.first_open rfl];have sub:∀m∈c.pf,m∈c.ps:=by
  intro m hm;cases c with
  |iff a b e=>rw[Ox.mp hm];exact .head _
  |_=>exact hm
 rcases ZzL H n (E:=J _) hk _ _ λm hm=>hn m (sub m hm)with⟨S,q,f,g⟩|⟨f,i,g⟩
 . rw[f];exact congrArg _ (Zc<|(Zed<|ZiX<|Zl (ZAi H n c) rfl).I g)
 . rw[f];exact congrArg _ ((Za<|(Zed<|ZiX<|Zl (ZAi H n c) rfl).I g).I<|Zc<|Zm rfl)
theorem Zgk{G}:∀{ns},fop G ns=M->(∀m∈ns,∃c,G[m]?=J c)->∀m∈ns,∃c,G[m]?=J c/\c.isV=Wq
 |[],_,_,m,hm=>by trivial
 |n::ns,h,a,m,hm=>by
  obtain⟨c,e⟩:=a n<|.head _;unfold fop at h;rw[e]at h;simp at h;split at h
  . rename_i v;rcases O2.mp hm with rfl|hm
    . exact⟨c,e,v⟩
    . exact Zgk h (λx b=>a x<|.tail _ b) m hm
  trivial
theorem ZfI{F}:∀{ns:List Nat}{ts:List T},Paired F ns ts->∀m∈ns,∃s∈ts,F m s
 |_,_,.nil,m,hm=>by trivial
 |_,_,.cons r t,m,hm=>by
  rcases O2.mp hm with rfl|hm
  . exact⟨_,.head _,r⟩
  . obtain⟨s,a,q⟩:=ZfI t m hm;exact⟨s,.tail _ a,q⟩
def Rd.at(h:Rd (gl G) i t):∃c,G[i]?=J c/\Fit c t/\Paired (Rd<|gl G) c.ps t.parts/\∀m∈c.ps,∃c,G[m]?=J c:=by obtain⟨c,e,f,p⟩:=h.inv;refine⟨c,e,f,p,λm hm=>?_⟩;obtain⟨s,_,q⟩:=ZfI p m hm;obtain⟨b,a,_⟩:=q.inv;exact⟨_,a⟩
def vn(k r n:Nat)(o:Option Nat):Ev:=[J<|.ref k,J<|nI r,J<|nI n,J<|oI o]
def ZlH{c:Gc}:∀m∈c.pf,m∈c.ps:=by
 intro m hm;cases c with
 |iff a b e=>rw[Ox.mp hm];exact .head _
 |_=>exact hm
structure Fm(S_:List Nat)(h h':Hd):Prop where
 l:h.length<=h'.length
 o:∀i,i<h.length->i ∉ S_->h'[i]?=h[i]?
def Fm.refl{S_}{h}:Fm S_ h h:=⟨Oq _,λ_ _ _=>rfl⟩
theorem Fm.I{S_}{h R h2}(a:Fm S_ h R)(b:Fm S_ R h2):Fm S_ h h2:=⟨OE a.l b.l,λi c d=>(b.o i (Ot c a.l) d).I<|a.o i c d⟩
def Fm.app{S_}{h g}:Fm S_ h (h++g):=⟨by simp,λi a _=>Oe a⟩
theorem Fm.set{S_}{h}{i}{o}(hi:i∈S_):Fm S_ h (h.set i o):=⟨by simp,λj _ a=>Oc λ(e:i=j)=>a<|e▸hi⟩
def Fm.at{S_}{h h'}{i}{o}(a:Fm S_ h h')(e:h[i]?=J o)(hs:i ∉ S_):h'[i]?=J o:=(a.o i (Zv e) hs).I e
def Fm.sub{S_ S'}{h h'}(a:Fm S_ h h')(q:∀i∈S_,i∈S'):Fm S' h h':=⟨a.l,λi b c=>a.o i b λz=>c<|q i z⟩
def Fm.cut{S_ S'}{h h'}(a:Fm S_ h h')(q:∀i∈S_,i∈S'\/h.length<=i):Fm S' h h':=⟨a.l,λi hi hs=>a.o i hi λz=>(q i z).elim hs λw=>absurd hi<|Nat.not_lt.mpr w⟩
theorem Z5{α:Type}(dd)(p)(f){src}{g}{tt}{ee}{S}{h}(st:Wk.stays src h=Wq):∀(xs:List α) (ai),(∀x∈xs,∃ρ1,Zbu g (dd x) S=J ρ1/\tt ρ1 h=.ok (p x) h/\(p x=Wq->ee ρ1 h=.ok (f x) h))->ai.length+xs.length<=100000->ZF src g tt ee (xs.map dd) S ai h=.ok (ai++(xs.filter p).map f) h
 |[],ai,_,_=>by simp[ZF,st]
 |x::xs,ai,hx,hz=>by
  simp at hz;obtain⟨ρ1,b,t,e⟩:=hx x<|.head _;rw[Op,ZF,if_pos ⟨st,by rw[YC];lia⟩,b];simp;rw[t];cases q:p x with
  |true=>rw[show((qd.ok _ h).plain.bind _)=(ee _ h).plain.bind _ from rfl,e q];exact(Z5 _ p f st _ _ (λy hy=>hx y<|.tail _ hy) (by simp;lia)).I (by simp[q])
  |false=>exact(Z5 _ p f st _ _ (λy hy=>hx y<|.tail _ hy)<|by lia).I (by simp[q])
def Zc8{h}(e:h[j]?=J (.lst xs)):Wk.stays [(j,xs)] h=Wq:=by simp[Wk.stays,e]
noncomputable abbrev Pr:=Nat×List Str
noncomputable def nD(ns:List Str):D:=.tup (ns.map .str)
def pD(p:Pr):D:=.tup [nI p.1,nD p.2]
noncomputable def pk(p:Pr):NK:=((p.1:Int),p.2)
theorem Zn6:∀ss ,strsOf (ss.map D.str)=J ss
 |[]=>rfl
 |s::r=>by rw[Op,strsOf,Zn6 r];rfl
def ZwL(p):nkD (pD p)=J (pk p):=by show(strsOf _).map _=_;rw[Zn6];rfl
def Zkv{p q}(e:pk p=pk q):p=q:=by
 obtain⟨a,b⟩:=p;simp[pk,Int.natCast_inj]at e
 simp_all
def bn(c:Gc)(ns:List Str):List Pr:=c.ps.map λm=>(m,rs ns c.bd)
def Zda(c:Gc):c.ps.length<=3:=by cases c<;>simp[Gc.ps]
def ZjT(H:Gs P)(n){G}{h}{m}{c}(hk:h[k]?=J (cl G))(e:G[m]?=J c)(ns)(hn:ns.length<=2):run P (n+2) (O "beneath") [.ref k,nI m,nD ns] h=.ok (.ref<|h.length+1) (h++[.lst<|(rs ns c.bd).map .str,.lst<|(bn c ns).map pD]):=by
 rw[Ze H.beneath rfl];have f:ev (P.tbl<|n+1) (.blt .tup<|.cons (.comp [O "name",O "bound"] [M,J 4] (.pl<|.var 2) (.nm 0) (J<|.ex<|.cmp .NotIn (.var 0)<|.var 1)<|.var 0) .nil) [J<|.ref k,J<|nI m,J<|nD ns,J c.d,J<|.tup<|c.bd.map .str,M] h=.ok (nD<|rs ns c.bd) (h++[.lst<|(rs ns c.bd).map .str]):=Zb1 (Zb (Zei (ZiX rfl)<|Z5 D.str (λx=>!Wu (x∈c.bd)) D.str (src:=[]) (g:=.nm 0) (tt:=tsto (P.tbl<|n+1)<|J<|.ex<|.cmp .NotIn (.var 0)<|.var 1) (ee:=ev (P.tbl<|n+1)<|.var 0) (S:=[M,J<|.tup<|c.bd.map .str]) (h:=h) rfl ns [] (λx _=>⟨[J<|.str x,J<|.tup<|c.bd.map .str],rfl,ZI<|(Zd rfl rfl).I Z2,λ_=>rfl⟩) (by simp;lia)) rfl)<|ZuX ZL;have j:=Z5 nI (λ_=>Wq) (λm=>pD (m,rs ns c.bd)) (src:=[]) (g:=.nm 0) (tt:=tsto (P.tbl<|n+1) M) (ee:=ev (P.tbl<|n+1)<|.tupl<|.cons (.var 0)<|.cons (.var 1) .nil) (S:=[M,J<|nD<|rs ns c.bd]) (h:=h++[.lst<|(rs ns c.bd).map .str]) rfl c.ps [] (λx _=>⟨[J<|nI x,J<|nD<|rs ns c.bd],rfl,rfl,λ_=>ZaF rfl<|by simp⟩) (by have:=Zda c;simp;lia);have l:ev (P.tbl<|n+1) (.comp [O "part",O "inner"] [M,J 5] (.pl<|.call (O "parts_of")<|.cons (.var 3) .nil) (.nm 0) M<|.tupl<|.cons (.var 0)<|.cons (.var 1) .nil) [J<|.ref k,J<|nI m,J<|nD ns,J c.d,J<|.tup<|c.bd.map .str,J<|nD<|rs ns c.bd] (h++[.lst<|(rs ns c.bd).map .str])=.ok (.ref<|h.length+1) (h++[.lst<|(rs ns c.bd).map .str,.lst<|(bn c ns).map pD]):=by rw[Zei (ZiX<|Zl (Zh7 H.b.toTre n c) rfl) j];simp[bn,List.filter_eq_self.mpr (λ(_:Nat) _=>rfl:∀a∈c.ps,(λ_=>Wq) a=Wq),Function.comp_def]
 have w:xs2 (P.tbl<|n+1) Zkm [J<|.ref k,J<|nI m,J<|nD ns,M,M,M] h=.ok (.rt<|.ref<|h.length+1,_) _:=(Za<|Zg (i:=3)<|Zy rfl rfl hk e).I<|(Za<|Zg (i:=4)<|Zl (Zux H.b n c) rfl).I<|(Za<|Zg (i:=5) f).I<|Zc<|Zm l;exact congrArg Zn w
noncomputable def cm(ns:List Str):Gc->Bool
 |.name x=>Wu (x∈ns)
 |_=>Ws
def Zi5{c}{t}(f:Fit c t)(ns):cm ns c=mnt ns t:=by cases c<;>cases t<;>simp[Fit]at f<;>first|rfl|(subst f;rfl)
def Zof(H:Gs P)(n:Nat)(c:Gc)(ns:List _)(h:Hd):run P (n+1) (O "is_meant") [c.d,nD ns] h=.ok (.bl<|cm ns c) h:=by
 rw[Ze H.is_meant rfl];have no:∀(w:Str) (j:List D),c.d=.tup _->w≠O "name" -> cm _ c=Ws->Zn (xs2 _ ZfT [J c.d,J _] h)=.ok (.bl<|cm ns c) h:=λw j e ne k=>by rw[k,e];have i:ev (P.tbl n) (.cmp _ (.ix (.var 0)<|.Ci_ 0)<|.Cs_ "name") [J<|.tup (.str w::j),J<|nD ns] h=.ok (.bl Ws) h:=(Zd ((Zf rfl rfl).I ZhN) rfl).I (by rw[ZkA,Zd3];simp[ne]);exact congrArg Zn (Zc<|Zm (by rw[ZkT,Zhe,i];rfl))
 cases c with
 |name x=>have i:ev (P.tbl n) (.cmp .Eq (.ix (.var 0)<|.Ci_ 0)<|.Cs_ "name") [J (Gc.name x).d,J<|nD ns] h=.ok (.bl Wq) h:=(Zd ((Zf rfl rfl).I ZhN) rfl).I (by rw[ZkA,Zd3];simp);have l:ev (P.tbl n) (.cmp .In (.ix (.var 0)<|.Ci_ 1)<|.var 1) [J (Gc.name x).d,J<|nD ns] h=.ok (.bl<|Wu<|x∈ns) h:=(Zd (x:=.str x) rfl rfl).I ZaH;have q:xs2 (P.tbl n) ZfT [J (Gc.name x).d,J<|nD ns] h=.ok (.rt<|.bl<|Wu<|x∈ns,_) h:=Zc (Zm (by rw[ZkT,Zhe,i];exact l));exact congrArg Zn q
 |op w a b=>exact no _ _ rfl (by cases w<;>simp[Wd.s]) rfl
 |num z|fn x e|rcc f x e|call f e|iff f e g=>exact no _ _ rfl (by simp) rfl
def Zln(kv)(k k')(v):valN (putN kv k v) k'=if k=k' then J v else valN kv k':=by
 have A:∀kv ,valN (kv.map λkv=>if kv.1=k then(kv.1,v)else kv) k'=if k=k' then(if (kv.any λkv=>Wu<|kv.1=k)=Wq then J v else M)else valN kv k':=by
  intro kv;induction kv with
  |nil=>simp[valN]
  |cons p r ih=>
   unfold valN at ih ⊢;by_cases e:p.1=k
   . by_cases e':p.1=k'<;>simp_all
   . by_cases e':p.1=k'
     . subst e';have e2:¬ k=p.1:=λz=>e z.symm;simp[e,e2]
     . rw[Op,if_neg e,Wm,Wm,YZ];simp only[e',decide_false,decide_eq_false e,Bool.false_or];exact ih
 have B_:∀kv:List _,(kv.any λkv=>Wu<|kv.1=k)=Ws->valN (kv++[(k,v)]) k'=if k=k' then J v else valN kv k':=by
  intro kv;induction kv with
  |nil=>intro _;by_cases e:k=k'<;>simp[valN,e]
  |cons p r ih=>
   intro h;rw[YZ,Bool.or_eq_false_iff]at h;have ih:=ih h.2;have ne:¬ p.1=k:=by simpa using h.1
   unfold valN at ih ⊢;by_cases e':p.1=k'
   . subst e';have e2:¬ k=p.1:=λz=>ne z.symm;simp[e2]
   . simp only[List.cons_append,Wm,e',decide_false];exact ih
 unfold putN;by_cases q:(kv.any λkv=>Wu<|kv.1=k)=Wq
 . rw[if_pos q,A,if_pos q]
 . rw[if_neg q,B_ _<|Bool.eq_false_iff.mpr q]
def Zol(kv)(k)(v):(putN kv k v).length<=kv.length+1:=by unfold putN;split<;>simp
def inN(kv:List (NK×D))(p:Pr):Bool:=(valN kv<|pk p).isSome
def ZiI:inN (putN kv (pk p) v) q=(Wu (p=q)||inN kv q):=by
 unfold inN;rw[Zln];by_cases e:p=q
 . subst e;simp
 . have:=λz=>e (Zkv z)
   simp_all
def Zr7{U}{S}{h}{a b}(x:ev U a S h=.ok (pD p) h)(y:ev U b S h=.ok (.ref j) h)(hj:h[j]?=J (.dnk kv)):ev U (.nin Wq a b) S h=.ok (.bl<|!inN kv p) h:=by show(ev U a _ h).bind _=_;rw[x,bind_ok,y,bind_ok];unfold ZnP Zp0;simp only[hj,ZwL];rfl
def ZiZ{U}{S}{h}{a b}(x:ev U a S h=.ok (.ref j) h)(y:ev U b S h=.ok (pD p) h)(hj:h[j]?=J (.dnk kv))(hv:valN kv (pk p)=J v):ev U (.nix a b) S h=.ok v h:=by show(ev U a _ h).bind _=_;rw[x,bind_ok,y,bind_ok];unfold ZuN Zp0;simp only[hj,ZwL,hv];rfl
def Zvb{U}{S}{h R}{o i e}(z:ev U e S h=.ok v R)(x:ev U o S R=.ok (.ref j) R)(y:ev U i S R=.ok (pD p) R)(hj:R[j]?=J (.dnk kv))(hl:kv.length<=100000):xs1 U (.npt o i e) S h=.ok (.nx,S) (R.set j<|.dnk<|putN kv (pk p) v):=by show(ev U e _ h).bind _=_;rw[z,bind_ok,x,bind_ok,y,bind_ok];unfold ZuM;simp[hj,ZwL];rw[if_pos (by rw[YC];lia)];rfl
def ZlQ{h}(e:h[i]?=J (.lst ys))(e':h[j]?=J (.lst zs))(ne:i≠j)(hz:ys.length+zs.length<=100000):ZbM .ext (.ref i) [.ref j] h=.ok .non (h.set i<|.lst<|ys++zs):=by
 have:ys.length+zs.length<=Yc:=by rw[YC];lia
 simp[ZbM,ZhL,ZwS,e,e',this]
def Zjv(G:List Gc)(kv:List (NK×D)):Prop:=∀p v,valN kv (pk p)=J v->∀t,Rd (gl G) p.1 t->v=.bl (fin p.2 t)
def Zqi(G:List Gc)(kv:List (NK×D)):Prop:=∀p,inN kv p=Wq->∀c,G[p.1]?=J c->∀q∈bn c p.2,q.2≠[]->inN kv q=Wq
structure Sf(G:List Gc)(k fk wk:Nat)(h0 h:Hd)(kv:List (NK×D))(W:List Pr):Prop where
 c:h[k]?=J (cl G)
 f:h[fk]?=J (.dnk kv)
 w:h[wk]?=J (.lst<|W.map pD)
 m:Fm [fk,wk] h0 h
 ok:Zjv G kv
 cd:Zqi G kv
 nk:k≠wk
def ef(k s fk wk:Nat)(ns:List Str)(a b c:Option D):Ev:=[J<|.ref k,J<|nI s,J<|nD ns,J<|.ref fk,J<|.ref wk,a,b,c]
def lf(P:Pg)(n F:Nat):Ev->Hd->qd (Fl×Ev):=ZU (tst (P.tbl<|n+3) Zac) (xs2 (P.tbl<|n+3) Zab) F
def wn(c:Gc)(ns:List Str):List Pr:=(bn c ns).filter λp=>!p.2.isEmpty
def ZtD{U}{S}{h}{a}(x:ev U a S h=.ok (pD p) h):ev U (.ix a<|.Ci_ 0) S h=.ok (nI p.1) h:=(Zf x rfl).I rfl
def ZtC{U}{S}{h}{a}(x:ev U a S h=.ok (pD p) h):ev U (.ix a<|.Ci_ 1) S h=.ok (nD p.2) h:=(Zf x rfl).I rfl
def Zr5{U}{S}{h}{a}{W}{p}(x:ev U a S h=.ok (.ref j) h)(hj:h[j]?=J (.lst<|(W++[p]).map pD)):ev U (.ix a<|.neg<|.Ci_ 1) S h=.ok (pD p) h:=by rw[List.map_append]at hj;exact(Zf x rfl).I ((ZE hj).I<|congrArg (λo=>qd.ofO o h)<|ZsC)
def ZiY{U}{S}{h R}{e}(p:ev U e S h=.ok (.ref i) R)(l:R[i]?=J (.lst xs)):evi U (.pl e) S h=.ok ⟨[(i,xs)],xs⟩ R:=by rw[Znv,p];simp[ZaW,l]
def ZmS(ns b):(rs ns b).length<=ns.length:=List.length_filter_le _ _
def ZvJ{U}{S}{h}{a}(x:ev U a S h=.ok (pD p) h):tst U (.ex<|.ix a<|.Ci_ 1) S h=.ok (!p.2.isEmpty) h:=by rw[Zqw,ZtC x];show qd.ofO (J _) h=_;simp
def Zvh(H:Gs P)(n){G}{h0 h}{kv}{W}{m:Nat}{ns ms:List Str}{c}(s:Sf G k fk wk h0 h kv (W++[(m,ns)]))(hn:ns.length<=2)(e:G[m]?=J c)(a b d):∃i j h',xs1 (P.tbl<|n+3) ZbY (ef k r fk wk ms a b d) h=.ok (.nx,ef k r fk wk ms (J<|.ref i) b d) h'/\h'[i]?=J (.lst<|(wn c ns).map pD)/\(∃h'',xs1 (P.tbl<|n+3) ZbX (ef k r fk wk ms (J<|.ref i) b d) h'=.ok (.nx,ef k r fk wk ms (J<|.ref i) (J<|.ref j) d) h''/\h''[i]?=J (.lst<|(wn c ns).map pD)/\h''[j]?=J (.lst<|((wn c ns).filter λp=>!inN kv p).map pD)/\(∃g,h''=h++g)/\h.length<=i/\h.length<=j):=by
 have o:(bn c ns).length<=3:=by unfold bn;rw[Yu];exact Zda c
 have q:ev (P.tbl<|n+3) (.call _<|.cons (.var 0)<|.cons (.ix (.ix (.var 4)<|.neg<|.Ci_ 1)<|.Ci_ 0)<|.cons (.ix (.ix (.var 4)<|.neg<|.Ci_ 1)<|.Ci_ 1) .nil) (ef k r fk wk ms a b d) h=_:=Zl (ZjT H (n+1) s.c e ns hn)<|Zb rfl<|Zb (ZtD<|Zr5 rfl s.w)<|Zb (ZtC<|Zr5 rfl s.w) rfl;have l:(h++[DO.lst<|(rs ns c.bd).map .str,.lst<|(bn c ns).map pD])[h.length+1]?=J (.lst<|(bn c ns).map pD):=ZsB;have t:(h++[DO.lst<|(rs ns c.bd).map .str,.lst<|(bn c ns).map pD])[fk]?=J (.dnk kv):=keep s.f;have u:∃g,h++[DO.lst<|(rs ns c.bd).map .str,.lst<|(bn c ns).map pD]=h++g:=⟨_,rfl⟩
 generalize h++[DO.lst<|(rs ns c.bd).map .str,.lst<|(bn c ns).map pD]=R at *;have lw:(wn c ns).length<=3:=OE (List.length_filter_le _ _) o;have v:(R++[DO.lst<|(wn c ns).map pD])[fk]?=J (.dnk kv):=keep t;have y:=Z5 pD (λp=>!inN kv p) pD (src:=[(R.length,(wn c ns).map pD)]) (g:=.nm 0) (tt:=tsto (P.tbl<|n+3)<|J<|.ex<|.nin Wq (.var 0)<|.var 1) (ee:=ev (P.tbl<|n+3)<|.var 0) (S:=[M,J<|.ref fk]) (Zc8 ZL) (wn c ns) [] (λx _=>⟨[J<|pD x,J<|.ref fk],rfl,ZI<|Zr7 rfl rfl v,λ_=>rfl⟩) (by simp;lia);obtain⟨g,rfl⟩:=u;refine⟨_,_,_,Zg (i:=5)<|Zei (ZiY q l)<|Z5 pD (λp=>!p.2.isEmpty) pD (src:=[(h.length+1,(bn c ns).map pD)]) (g:=.nm 0) (tt:=tsto (P.tbl<|n+3)<|J<|.ex<|.ix (.var 0)<|.Ci_ 1) (ee:=ev (P.tbl<|n+3)<|.var 0) (S:=[M]) (Zc8 l) (bn c ns) [] (λx _=>⟨[J<|pD x],rfl,ZvJ rfl,λ_=>rfl⟩) (by simp;lia),ZL,_,Zg (i:=6)<|Zei (ZiY rfl ZL) y,keep ZL,ZL,⟨_,by rw[Oz,Oz]⟩,by simp,by simp ⟩
def Znc:p∈bn c ns↔p.1∈c.ps/\p.2=rs ns c.bd:=by
 unfold bn;rw[List.mem_map];constructor
 . rintro ⟨q,hq,rfl⟩;trivial
 . intro h;exact⟨_,h.1,by rw[<-h.2]⟩
def ZrF:p∈wn c ns↔p.1∈c.ps/\p.2=rs ns c.bd/\p.2≠[]:=by unfold wn;rw[List.mem_filter,Znc,and_assoc];simp
def Sf.ne(s:Sf G k fk wk h0 h kv W):k≠fk/\fk≠wk:=⟨λz=>(by have a:=s.c;rw[z,s.f]at a;cases a),λz=>(by have a:=s.f;rw[z,s.w]at a;lia)⟩
def Zvw{h}{bs:List _}(e:h[i]?=J (.lst<|bs.map .bl)):Zan GD .anb [.ref i] h=.ok (.bl<|bs.any id) h:=by
 have:∀bs ,Zkd (bs.map D.bl)=J bs:=by
  intro bs;induction bs with
  |nil=>rfl
  |cons b r a=>rw[Op,Zkd,a];rfl
 show qd.ofO _ h=_;rw[show lstOf _ h=J (bs.map D.bl) by simp[lstOf,e],Yz,this];rfl
def fv(kv:List (NK×D))(p:Pr):Bool:=match valN kv (pk p)with
 |some (.bl b)=>b
 |_=>Ws
def ZrX{G}{kv}(ok:Zjv G kv)(i:inN kv p=Wq)(rd:Rd (gl G) p.1 t):valN kv (pk p)=J (.bl<|fv kv p)/\fv kv p=fin p.2 t:=by obtain⟨v,e⟩:=Option.isSome_iff_exists.mp i;have:=ok p v e t rd;subst this;unfold fv;rw[e];simp
def Zx0{G}{kv}(ok:Zjv G kv)(ns):∀{ps}{ts},Paired (Rd<|gl G) ps ts->(∀p∈(ps.map λm=>(m,ns)).filter λp=>!p.2.isEmpty,inN kv p=Wq)->(((ps.map λm=>(m,ns)).filter λp=>!p.2.isEmpty).map<|fv kv).any id=ts.any (fin ns):=by
 intro ps ts q hi;induction q with
 |nil=>rfl
 |@cons m t ps ts a q ih=>
  rw[Op,List.filter_cons]at hi ⊢;cases ns with
  |nil=>rw[YZ,ZaJ,<-ih λp hp=>hi p<|by trivial];rfl
  |cons x r=>have yes:(!(m,x::r).2.isEmpty)=Wq:=rfl;rw[if_pos yes]at hi ⊢;rw[Op,YZ,ih λp hp=>hi p<|.tail _ hp,(ZrX ok (hi _<|.head _) a).2];rfl
def Zvi(H:Gs P)(n){G}{h0 h}{kv}{W}{m}{ns ms}{c}{t}(s:Sf G k fk wk h0 h kv (W++[(m,ns)]))(hn:ns.length<=2)(e:G[m]?=J c)(f:Fit c t)(pp:Paired (Rd<|gl G) c.ps t.parts)(all:∀p∈wn c ns,inN kv p=Wq)(hl:kv.length<=100000)(a b d):∃h' a' b' d',xs2 (P.tbl<|n+3) Zab (ef k r fk wk ms a b d) h=.ok (.nx,ef k r fk wk ms a' b' d') h'/\Sf G k fk wk h0 h' (putN kv (pk (m,ns))<|.bl<|fin ns t) W:=by
 obtain⟨i,j,h',x1,_,h2,x2,ki,kj,⟨g,rfl⟩,li,lj⟩:=Zvh H n (r:=r) (ms:=ms) s hn e a b d;rw[List.filter_eq_nil_iff.mpr λp hp=>by simp[all p hp]]at kj;have kw:(h++g)[wk]?=J (.lst<|W.map pD++[pD (m,ns)]):=by rw[keep s.w];simp
 have kc:(h++g)[k]?=J (cl G):=keep s.c;have kf:(h++g)[fk]?=J (.dnk kv):=keep s.f;have fm:Fm [fk,wk] h0 (h++g):=s.m.I .app;have lw:=Zv s.w;have lf:=Zv s.f;generalize h++g=h2 at *;have x3:xs1 (P.tbl<|n+3) ZaS (ef k r fk wk ms (J<|.ref i) (J<|.ref j) d) h2=.ok (.nx,ef k r fk wk ms (J<|.ref i) (J<|.ref j)<|J<|pD (m,ns)) (h2.set wk<|.lst<|W.map pD):=Zg (i:=7)<|ZjA (i:=wk) rfl kw rfl<|Zf4 kw;have kP:(h2.set wk<|.lst<|W.map pD)[wk]?=J (.lst<|W.map pD):=by rw[Ol<|Zv kw]
 have jq:(h2.set wk<|.lst<|W.map pD)[k]?=J (cl G):=by rw[Oc<|λz=>s.nk z.symm];exact kc
 have fh:(h2.set wk<|.lst<|W.map pD)[fk]?=J (.dnk kv):=by rw[Oc<|λz=>s.ne.2 z.symm];exact kf
 have jp:(h2.set wk<|.lst<|W.map pD)[i]?=J (.lst<|(wn c ns).map pD):=by rw[Oc<|by lia];exact ki
 have gD:Fm [fk,wk] h0 (h2.set wk<|.lst<|W.map pD):=fm.I (.set<|by simp);generalize h2.set wk (.lst<|W.map pD)=h3 at *;have a9:∀p∈wn c ns,valN kv (pk p)=J (.bl<|fv kv p):=λp hp=>by obtain⟨s',_,rd⟩:=ZfI pp p.1 (ZrF.mp hp).1;exact(ZrX s.ok (all _ hp) rd).1
 have kL:(wn c ns).length<=3:=OE (List.length_filter_le _ _) (by unfold bn;rw[Yu];exact Zda c);have e2:=Z5 pD (λ_=>Wq) (λp=>D.bl<|fv kv p) (src:=[(i,(wn c ns).map pD)]) (g:=.nm 0) (tt:=tsto (P.tbl<|n+3) M) (ee:=ev (P.tbl<|n+3)<|.nix (.var 1)<|.var 0) (S:=[M,J<|.ref fk]) (Zc8 jp) (wn c ns) [] (λx hx=>⟨[J<|pD x,J<|.ref fk],rfl,rfl,λ_=>ZiZ (j:=fk) (p:=x) rfl rfl fh<|a9 x hx⟩) (by simp;lia);have mP:ev (P.tbl<|n+3) (.comp [O "part",O "free"] [M,J 3] (.pl<|.var 5) (.nm 0) M<|.nix (.var 1)<|.var 0) (ef k r fk wk ms (J<|.ref i) (J<|.ref j)<|J<|pD (m,ns)) h3=.ok (.ref h3.length) (h3++[.lst<|((wn c ns).map<|fv kv).map .bl]):=by rw[Zei (ZiY (i:=i) rfl jp) e2,List.filter_eq_self.mpr<|λ_ _=>rfl,List.map_map];rfl
 have e3:ev (P.tbl<|n+3) (.blt .anb<|.cons (.comp [O "part",O "free"] [M,J 3] (.pl<|.var 5) (.nm 0) M<|.nix (.var 1)<|.var 0) .nil) (ef k r fk wk ms (J<|.ref i) (J<|.ref j)<|J<|pD (m,ns)) h3=.ok (.bl<|t.parts.any<|fin<|rs ns c.bd) (h3++[.lst<|((wn c ns).map<|fv kv).map .bl]):=by rw[Zb1 (Zb mP rfl)<|Zvw ZL];rw[show((wn c ns).map<|fv kv).any id=t.parts.any (fin<|rs ns c.bd)from Zx0 s.ok (rs ns c.bd) pp all]
 have ff:fin ns t=(cm ns c||t.parts.any (fin<|rs ns c.bd)):=by rw[ZiO,Zi5 f,(ZcL f).2.1]
 have e4:∃g,ev (P.tbl<|n+3) (.ors<|.cons (.call (O "is_meant")<|.cons (.ix (.var 0)<|.ix (.var 7)<|.Ci_ 0)<|.cons (.ix (.var 7)<|.Ci_ 1) .nil)<|.cons (.blt .anb<|.cons (.comp [O "part",O "free"] [M,J 3] (.pl<|.var 5) (.nm 0) M<|.nix (.var 1)<|.var 0) .nil) .nil) (ef k r fk wk ms (J<|.ref i) (J<|.ref j)<|J<|pD (m,ns)) h3=.ok (.bl<|fin ns t) (h3++g):=by
  rw[Zr6,Zma,Zl (Zof H (n+2) c ns h3)<|Zb (Zy (k:=k) (n:=m) rfl (ZtD (p:=(m,ns)) rfl) jq e)<|Zb (ZtC (p:=(m,ns)) rfl) rfl,Zz,ff];cases cm ns c with
  |true=>exact⟨[],by rw[Yt];rfl⟩
  |false=>exact⟨_,e3⟩
 obtain⟨g',e4⟩:=e4;have x4:=Zvb (o:=.var 3) (i:=.var 7) (p:=(m,ns)) e4 rfl rfl (keep fh) hl;refine⟨_,_,_,_,(Za x1).I<|(Za x2).I<|(Za<|(Zi<|Zlo (i:=j) rfl kj).I<|(Za x3).I<|(Za x4).I rfl).I rfl,?_⟩;have kX:(h3++g')[k]?=J (cl G):=keep jq;have kO:(h3++g')[wk]?=J (.lst<|W.map pD):=keep kP;have gn:(h3++g')[fk]?=J (.dnk kv):=keep fh;refine⟨by rw[Oc<|λz=>s.ne.1 z.symm];exact kX,by rw[Ol<|Zv gn],by rw[Oc s.ne.2];exact kO,(gD.I .app).I<|.set<|by simp,?_,?_,s.nk⟩
 . intro p v hv t' de;rw[Zln]at hv;by_cases z:pk (m,ns)=pk p
   . rw[if_pos z]at hv;cases hv;have z:=Zkv z;subst z;rw[(Rd.mk e f pp).one de]
   . rw[if_neg z]at hv;exact s.ok p v hv t' de
 . intro p hp c' e' q hq jx;rw[ZiI]at hp ⊢;rw[Wn];refine .inr ?_;rcases Wn _ _▸hp with z|z
   . have z:=of_decide_eq_true z;subst z;rw[e]at e';cases e';exact all q (ZrF.mpr ⟨(Znc.mp hq).1,(Znc.mp hq).2,jx⟩)
   . exact s.cd p z c' e' q hq jx
noncomputable def smz(VS:List (Pr×T)):Nat:=(VS.map λx=>x.2.size).sum
def ZcR(x)(VS):smz (x::VS)=x.2.size+smz VS:=rfl
def Zh0(VS):smz VS.reverse=smz VS:=by unfold smz;simp
theorem Zkr:∀VS ,VS.length<=smz VS
 |[]=>Oq _
 |x::VS=>by have:=Zkr VS;have:=ZC x.2;rw[ZcR,Os];lia
def ccs(VS:List (Pr×T)):Nat:=(VS.map λx=>cc x.1.2 x.2).sum
def Zmk(x)(VS):ccs (x::VS)=cc x.1.2 x.2+ccs VS:=rfl
theorem ZmH{g:Nat->Option _}(ns:List _)(φ:Pr->Bool):∀{ps:List _}{ts:List T},Paired (Rd g) ps ts->∃VS:List (Pr×T),VS.map (·.1)=(ps.map λm=>(m,ns)).filter φ/\(∀x∈VS,Rd g x.1.1 x.2/\x.1.2=ns)/\smz VS<=(ts.map T.size).sum/\ccs VS<=(ts.map<|cc ns).sum
 |_,_,.nil=>⟨[],rfl,λ_ h=>(by cases h),Oq _,Oq _⟩
 |_,_,.cons (a:=m) (b:=t) r q=>by
  obtain⟨VS,e,hx,c,d⟩:=ZmH _ φ q;rw[Op,Op,List.filter_cons,OI,Op,OI];cases φ _ with
  |true=>exact⟨((m,ns),t)::VS,by simp_all,λx h=>(O2.mp h).elim (λz=>z▸⟨r,rfl⟩)<|hx x,by rw[ZcR];lia,by show cc ns t+ccs _<=_;lia⟩
  |false=>exact⟨_,e,hx,by lia,by lia⟩
def Zxu(H:Gs P)(n){G}{h0 h}{kv}{W}{m:Nat}{ns ms}{c}(s:Sf G k fk wk h0 h kv (W++[(m,ns)]))(hn:ns.length<=2)(e:G[m]?=J c)(je:((wn c ns).filter λp=>!inN kv p)≠[])(hl:W.length<=30000)(a b d):∃h' a' b' d',xs2 (P.tbl<|n+3) Zab (ef k r fk wk ms a b d) h=.ok (.nx,ef k r fk wk ms a' b' d') h'/\Sf G k fk wk h0 h' kv (W++[(m,ns)]++(wn c ns).filter λp=>!inN kv p):=by obtain⟨i,j,h',q,_,t,u,y,o,⟨g,rfl⟩,A,B⟩:=Zvh H n (r:=r) (ms:=ms) s hn e a b d;have C:((wn c ns).filter λp=>!inN kv p).length<=3:=OE (List.length_filter_le _ _) (OE (List.length_filter_le _ _) (by unfold bn;rw[Yu];exact Zda c));generalize ((wn c _).filter _)=U at *;have l:(h++g)[wk]?=J _:=keep s.w;have v:(h++g)[k]?=J _:=keep s.c;have x:(h++g)[fk]?=J _:=keep s.f;have fm:Fm _ _ (h++g):=s.m.I .app;have lw:=Zv s.w;generalize h++g=t at *;exact⟨_,_,_,_,(Za q).I<|(Za u).I<|(Za<|(Zq<|Zh (Zlo rfl o)<|by simp_all).I<|(Za<|Zgv<|ZjA rfl l rfl<|ZlQ l o (by lia) (by simp;lia)).I rfl).I rfl,⟨(Oc<|λz=>s.nk z.symm).I v,(Oc<|λz=>s.ne.2 z.symm).I x,by rw[Ol<|Zv l,List.map_append (l₁:=W++[(m,ns)])],fm.I<|.set<|by simp,s.ok,s.cd,s.nk⟩⟩
def ZoQ(n){G}{h0 h}{kv}{W}(s:Sf G k fk wk h0 h kv W)(a b d):tst (P.tbl<|n+3) Zac (ef k r fk wk ms a b d) h=.ok (!W.isEmpty) h:=Zh (Zlo rfl s.w) (by simp)
def Gf(P:Pg)(n:Nat)(G:List Gc)(k fk wk:Nat)(h0:Hd)(r:Nat)(ms:List Str)(z:Nat)(W U:List Pr)(h:Hd)(kv:List (NK×D))(a b d:Option D):Prop:=∃q e c f g i,q<=2*z/\(∀F,lf P n (F+q) (ef k r fk wk ms a b d) h=lf P n F (ef k r fk wk ms f g i) e)/\Sf G k fk wk h0 e c W/\c.length<=kv.length+q/\(∀p,inN kv p=Wq->inN c p=Wq)/\∀p∈U,inN c p=Wq
theorem ZzM(H:Gs P)(n){G}{h0}{r}{ms}:∀ (z) (t:T) (m:Nat) (ns:List _) (W:List _) (h:Hd) (kv:List _) (a b d:Option D),t.size<=z->Rd (gl G) m t->ns.length<=2->Sf G k fk wk h0 h kv (W++[(m,ns)])->W.length+t.size<=30000->kv.length+2*t.size<=100000->Gf P n G k fk wk h0 r ms t.size W [(m,ns)] h kv a b d
 |0,t,m,ns,W,h,kv,a,b,d,K,_,_,_,_,_=>by have:=ZC t;lia
 |z+1,t,m,ns,W,h,kv,a,b,d,K,rd,N,s,U,V=>by
   have L:∀ (VS:List (Pr×T)) (W:List Pr) (h:Hd) (kv:List (NK×D)) (a b d:Option D),(∀ x∈VS,Rd (gl G) x.1.1 x.2/\x.1.2.length<=2)->smz VS<=z->Sf G k fk wk h0 h kv (W++(VS.map (·.1)).reverse)->W.length+smz VS<=30000->kv.length+2*smz VS<=100000->Gf P n G k fk wk h0 r ms (smz VS) W (VS.map (·.1)) h kv a b d:=by
     intro VS;induction VS with
     |nil=>intro W h kv a b d _ _ s _ _;exact⟨0,h,kv,a,b,d,Yy _,λF=>rfl,by simpa using s,Oq _,λ_ x=>x,λ_ h=>by cases h⟩
     |cons x VS ih =>
       intro W h kv a b d B K s U V;rw [ZcR] at K U V;have lv:=Zkr VS;obtain⟨r1,r2⟩:=B x<|.head _;obtain⟨q1,R,kR,j,l,o,l1,C,q,v1,m1,i1⟩:=ZzM H n z x.2 x.1.1 x.1.2 (W++(VS.map (·.1)).reverse) h kv a b d (by lia) r1 r2 (by simpa using s) (by simp;lia) (by lia);obtain⟨i,E,X,u,v,A,l2,O,J,v2,I,Q⟩:=ih W R kR j l o (λy hy=>B y<|.tail _ hy) (by lia) q (by lia) (by lia);refine⟨i+q1,E,X,u,v,A,by rw [ZcR];lia,λF=>?_,J,by lia,λp hp=>I p<|m1 p hp,λp hp=>?_⟩
       . rw [<-Nat.add_assoc,C,O]
       . rw [Op] at hp;rcases O2.mp hp with rfl|hp
         . exact I _ (i1 _<|.head _)
         . exact Q p hp
   obtain⟨c,e,f,S,_⟩:=rd.at;have sz:=Zt t;by_cases all:∀ p∈wn c ns,inN kv p=Wq
   . obtain⟨R,j,l,o,C,q⟩:=Zvi H n (r:=r) (ms:=ms) s N e f S all (by lia) a b d;exact⟨1,R,_,j,l,o,by lia,λF=>Zb5 (Zh (ZoQ n s a b d)<|by simp) C,q,Zol _ _ _,λp hp=>by rw [ZiI,hp,Bool.or_true],λp hp=>by rw [Ox.mp hp,ZiI];simp⟩
   . obtain⟨R,j,l,o,C,q⟩:=Zxu H n (r:=r) (ms:=ms) s N e (λz=>all λp hp=>by simpa using List.filter_eq_nil_iff.mp z p hp) (by lia) a b d;obtain⟨VS,eV,Y,zV,_⟩:=ZmH (g:=gl G) (rs ns c.bd) (λp=>(!inN kv p)&&!p.2.isEmpty) S;have Z:((wn c ns).filter λp=>!inN kv p)=VS.map (·.1):=by rw [eV];unfold wn bn;rw [List.filter_filter]
     rw [Z] at q;have rl:=ZmS ns c.bd;obtain⟨i,E,X,u,v,A,l2,O,J,v2,I,Q⟩:=L VS.reverse (W++[(m,ns)]) R kv j l o (λx B=>⟨(Y x<|List.mem_reverse.mp B).1,by rw [(Y x<|List.mem_reverse.mp B).2];lia⟩) (by rw [Zh0];lia) (by rw [List.map_reverse,List.reverse_reverse];exact q) (by rw [Zh0];simp;lia) (by rw [Zh0];lia);rw [Zh0] at l2;have j9:tst (P.tbl<|n+3) Zac (ef k r fk wk ms u v A) E=.ok Wq E:=Zh (ZoQ n J u v A) (by simp);obtain⟨h3,a3,b3,d3,e3,s3⟩:=Zvi H n (r:=r) (ms:=ms) J N e f S (λp hp=>by
       cases w:inN kv p with
       |true=>exact I p w
       |false=>exact Q p (by rw [List.map_reverse,List.mem_reverse,<-Z];exact List.mem_filter.mpr ⟨hp,by rw [w];rfl⟩)) (by lia) u v A
     refine⟨1+i+1,h3,_,a3,b3,d3,by lia,λF=>?_,s3,OE (Zol _ _ _)<|by lia,λp hp=>by rw [ZiI,I p hp,Bool.or_true],λp hp=>by rw [Ox.mp hp,ZiI];simp⟩;have w1:lf P n (F+1+i+1) (ef k r fk wk ms a b d) h=lf P n (F+1+i) (ef k r fk wk ms j l o) R:=Zb5 (Zh (ZoQ n s a b d)<|by simp) C;have w3:lf P n (F+1) (ef k r fk wk ms u v A) E=lf P n F (ef k r fk wk ms a3 b3 d3) h3:=Zb5 j9 e3;rw [show F+(1+i+1)=F+1+i+1 by lia,w1,O,w3]
theorem Zv5 (H:Gs P) (n) {G}{h}{m}{ns}{t:T} (hk:h[k]?=J (cl G)) (rd:Rd (gl G) m t) (hz:t.size<=20000) (hn:ns.length<=2):∃ h' fk kv,run P (n+4) (O "free_beneath") [.ref k,nI m,nD ns] h=.ok (.ref fk) h'/\h'[fk]?=J (.dnk kv)/\h.length<=fk/\Fm [] h h'/\Zjv G kv/\Zqi G kv/\inN kv (m,ns)=Wq:=by
 have big:=H.b.big;have y:=Zv hk;have g:Sf G k h.length (h.length+1) h (h++[DO.dnk [],.lst [pD (m,ns)]]) [] ([]++[(m,ns)]):=⟨keep hk,ZL,ZsB,.app,λp v e=>(by cases e),λp e=>(by cases e),by lia⟩
 obtain⟨q,R,kv,a,b,d,l1,j,c,_,_,l⟩:=ZzM H n (r:=m) (ms:=ns) t.size t m ns [] _ [] M M M (Oq _) rd hn g (by simp;lia) (by simp;lia);obtain⟨F,o⟩:∃ F,P.L=F+1+q:=⟨P.L-1-q,by lia⟩
 have w:lf P n P.L (ef k m h.length (h.length+1) ns M M M) (h++[DO.dnk [],.lst [pD (m,ns)]])=.ok (.nx,ef k m h.length (h.length+1) ns a b d) R:=by
   rw [o,j];exact ZhY (ZoQ n c a b d)
 refine⟨R,h.length,kv,?_,c.f,Oq _,c.m.cut<|λi u=>.inr (by simp at u;lia),c.ok,c.cd,l _<|.head _⟩;rw [Ze H.free_beneath rfl];have x:xs2 (P.tbl<|n+3) ZeN [J<|.ref k,J<|nI m,J<|nD ns,M,M,M,M,M] h=.ok (.rt<|.ref h.length,_) R:=(Za<|Zg (i:=3) rfl).I ((Za (by
   have q:ev (P.tbl<|n+3) (.lstl<|.cons (.tupl<|.cons (.var 1)<|.cons (.var 2) .nil) .nil) [J<|.ref k,J<|nI m,J<|nD ns,J<|.ref h.length,M,M,M,M] (h++[.dnk []])=.ok (.ref<|h.length+1) (h++[.dnk [],.lst [pD (m,ns)]]):=by
     rw [ZkS (xs:=[pD (m,ns)]) (Zb (ZaF (xs:=[nI m,nD ns]) rfl<|by simp) rfl)<|by simp];simp
   exact Zg (i:=4) q)).I ((Za (s:=Zc5)<|ZeQ.I w).I<|Zc<|Zm rfl))
 exact congrArg Zn x
structure Adr where
 o:Nat
 k:Nat
 m:Nat
 f:Nat
 n:Nat
 w:Nat
noncomputable def cpD(A:Adr):DO:=.ins (O "Copier") [(O "cells",.ref A.k),(O "meant",.ref A.m),(O "free",.ref A.f),(O "known",.ref A.n),(O "waiting",.ref A.w)]
def knF:Nat->List Pr->List (NK×D)
 |_,[]=>[]
 |i,p::r=>(pk p,nI i)::knF (i+1) r
def Zt9:∀(K) (i) (p),knF i (K++[p])=knF i K++[(pk p,nI<|i+K.length)]:=by intro K;induction K<;>simp_all [knF,nI]<;>grind
theorem ZoI:∀(K) (i),(knF i K).length=K.length
 |[],i=>rfl
 |q::K,i=>by rw[knF,Os,ZoI K,Os]
theorem ZiC:∀(K) (i) {p},p∈K->∃j,K[j]?=J p/\valN (knF i K) (pk p)=J (nI<|i+j)
 |[],i,p,h=>by cases h
 |q::K,i,p,h=>by
  unfold valN;rw[knF,Wm];by_cases e:q=p
  . subst e;exact⟨0,rfl,by simp⟩
  . obtain⟨j,a,b⟩:=ZiC K _<|(O2.mp h).resolve_left λz=>e z.symm;refine⟨j+1,a,?_⟩;rw[decide_eq_false λz=>e<|Zkv z];exact b.I (by lia)
theorem Znm:∀(K) (i) {p},p ∉ K->((knF i K).any λkv=>Wu<|kv.1=pk p)=Ws
 |[],i,p,h=>rfl
 |q::K,i,p,h=>by rw[knF,YZ,Znm K _ λz=>h<|.tail _ z,decide_eq_false λz=>h (by rw[Zkv z];exact .head _)];rfl
def Zt8(K)(i){p}(h:p ∉ K):putN (knF i K) (pk p) (nI<|i+K.length)=knF i (K++[p]):=by unfold putN;rw[Znm K i h,if_neg<|by simp,Zt9]
def ZzT(K)(i)(p):inN (knF i K) p=Wu (p∈K):=by
 by_cases h:p∈K
 . obtain⟨j,_,e⟩:=ZiC K i h;unfold inN
   simp_all
 . rw[decide_eq_false h];unfold inN valN;have:=Znm K i h;rw[List.any_eq_false]at this;rw[List.find?_eq_none.mpr this];rfl
structure Sc(A:Adr)(G:List Gc)(kv:List (NK×D))(md:List (Key×D))(h0 h:Hd)(K:List Pr)(N:List Gc)(W:List (Pr×T)):Prop where
 o:h[A.o]?=J (cpD A)
 c:h[A.k]?=J (cl<|G++N)
 m:h[A.m]?=J (.dic md)
 f:h[A.f]?=J (.dnk kv)
 n:h[A.n]?=J (.dnk<|knF G.length K)
 w:h[A.w]?=J (.lst<|W.map λx=>pD x.1)
 fm:Fm [A.k,A.n,A.w] h0 h
 kw:A.k≠A.w
 fn:A.f≠A.n
def Std(G:List Gc)(md:List (Key×D))(K:List Pr)(p:Pr)(num:Nat):Prop:=∃t c,Rd (gl G) p.1 t/\G[p.1]?=J c/\((c.isV=Wq/\fin p.2 t=Ws/\num=p.1)\/(∃x,c=.name x/\x∈p.2/\Zw md (.inr x)=J (nI num))\/(cm p.2 c=Ws/\∃j,K[j]?=J p/\num=G.length+j))
def Zaq{K L:List α}{j:Nat}(e:K[j]?=J p):(K++L)[j]?=J p:=(Oe (Ob.mp e).1).I e
def Std.mono(s:Std G md K p num)(L):Std G md (K++L) p num:=by obtain⟨t,c,a,b,d⟩:=s;refine⟨t,c,a,b,d.imp id<|Or.imp id λz=>⟨z.1,?_⟩⟩;obtain⟨_,j,e,f⟩:=z;exact⟨j,Zaq e,f⟩
structure Gd(G:List Gc)(kv:List (NK×D))(nm:List Str)(p:Pr)(t:T):Prop where
 r:Rd (gl G) p.1 t
 i:inN kv p=Wq
 e:p.2≠[]
 l:p.2.length<=2
 s:∀x∈p.2,x∈nm
structure Pu(G:List Gc)(kv:List (NK×D))(md:List (Key×D))(nm:List Str)(K:List Pr)(N:List Gc)(W:List (Pr×T))(X:List Pr):Prop where
 l:N.length=K.length
 nd:K.Nodup
 g:∀p∈K,∃t c,Gd G kv nm p t/\G[p.1]?=J c/\(c.isV=Wq->fin p.2 t=Wq)/\cm p.2 c=Ws
 w:∀x∈W,x.1∈K/\Rd (gl G) x.1.1 x.2
 d:∀(j:Nat) (p:Pr),K[j]?=J p->p ∉ W.map (·.1)->p ∉ X->∃c ah,G[p.1]?=J c/\N[j]?=J (c.wp ah)/\Paired (Std G md K) (bn c p.2) ah
def dz(W:List (Pr×T)):Nat:=(W.map λx=>cc x.1.2 x.2-1).sum
def Zsd(W)(x):dz (W++[x])=dz W+(cc x.1.2 x.2-1):=by simp[dz]
def Zn7(W)(x):smz (W++[x])=smz W+x.2.size:=by simp[smz]
structure Mt(G:List Gc)(md:List (Key×D))(qb:List (Str×T))(nm:List Str):Prop where
 v:∀x∈nm,∃a v,Zw md (.inr x)=J (nI a)/\get (qb.map λp=>(p.1,J p.2)) x=J v/\Rd (gl G) a v
section
variable {U:Tb}{S:Ev}{h:Hd}{A:Adr}
def Zqe(e:h[A.o]?=J (cpD A))(q:ev U a S h=.ok (.ref A.o) h):ev U (.att [O "Copier"] a<|O "cells") S h=.ok (.ref A.k) h:=by rw[Zi0,q];simp[ZfM,ZZ,e,cpD]
def ZAm(e:h[A.o]?=J (cpD A))(q:ev U a S h=.ok (.ref A.o) h):ev U (.att [O "Copier"] a<|O "meant") S h=.ok (.ref A.m) h:=by rw[Zi0,q];simp[ZfM,ZZ,e,cpD,Wf]
def ZBO(e:h[A.o]?=J (cpD A))(q:ev U a S h=.ok (.ref A.o) h):ev U (.att [O "Copier"] a<|O "free") S h=.ok (.ref A.f) h:=by rw[Zi0,q];simp[ZfM,ZZ,e,cpD,Wf]
def ZsA(e:h[A.o]?=J (cpD A))(q:ev U a S h=.ok (.ref A.o) h):ev U (.att [O "Copier"] a<|O "known") S h=.ok (.ref A.n) h:=by rw[Zi0,q];simp[ZfM,ZZ,e,cpD,Wf]
def ZxY(e:h[A.o]?=J (cpD A))(q:ev U a S h=.ok (.ref A.o) h):ev U (.att [O "Copier"] a<|O "waiting") S h=.ok (.ref A.w) h:=by rw[Zi0,q];simp[ZfM,ZZ,e,cpD,Wf]
def Zrq{h}(e:h[i]?=J (.dic md)):ZaR GD (.ref i) (.str z) h=qd.ofO (Zw md<|.inr z) h:=by simp[ZaR,dicOf,e]
end
def Sc.ne(s:Sc A G kv md h0 h K N W):A.o≠A.k/\A.o≠A.n/\A.o≠A.w/\A.m≠A.k/\A.m≠A.n/\A.m≠A.w/\A.f≠A.k/\A.f≠A.w/\A.n≠A.k/\A.n≠A.w:=by obtain⟨o,c,m,f,n,w,_,_,_⟩:=s;have k:∀{i j:Nat}{x y},h[i]?=J x->h[j]?=J y->x≠y->i≠j:=λa b c z=>c (by simp_all);exact⟨k o c<|by simp[cpD,cl],k o n<|by simp[cpD],k o w<|by simp[cpD],k m c<|by simp[cl],k m n<|by simp,k m w<|by simp,k f c<|by simp[cl],k f w<|by simp,k n c<|by simp[cl],k n w<|by simp⟩
section
variable {A:Adr}{G:List Gc}{kv:List (NK×D)}{md:List (Key×D)}{nm:List Str}{qb:List (Str×T)}{h0 h:Hd}{K X:List Pr}{N:List Gc}{W:List (Pr×T)}{p:Pr}{t:T}{c:Gc}
def Sc.sn(s:Sc A G kv md h0 h K N W):Sc A G kv md h0 (h.set A.n<|.dnk<|knF G.length<|K++[p]) (K++[p]) N W:=⟨(Oc s.ne.2.1.symm).I s.o,(Oc s.ne.2.2.2.2.2.2.2.2.1).I s.c,(Oc s.ne.2.2.2.2.1.symm).I s.m,(Oc s.fn.symm).I s.f,Ol<|Zv s.n,(Oc s.ne.2.2.2.2.2.2.2.2.2).I s.w,s.fm.I<|.set<|by simp,s.kw,s.fn⟩
def Sc.sc{N'}(s:Sc A G kv md h0 h K N W):Sc A G kv md h0 (h.set A.k<|cl<|G++N') K N' W:=⟨(Oc s.ne.1.symm).I s.o,Ol<|Zv s.c,(Oc s.ne.2.2.2.1.symm).I s.m,(Oc s.ne.2.2.2.2.2.2.1.symm).I s.f,(Oc s.ne.2.2.2.2.2.2.2.2.1.symm).I s.n,(Oc s.kw).I s.w,s.fm.I<|.set<|by simp,s.kw,s.fn⟩
def Sc.sw{W'}(s:Sc A G kv md h0 h K N W):Sc A G kv md h0 (h.set A.w<|.lst<|W'.map λx=>pD x.1) K N W':=⟨(Oc s.ne.2.2.1.symm).I s.o,(Oc s.kw.symm).I s.c,(Oc s.ne.2.2.2.2.2.1.symm).I s.m,(Oc s.ne.2.2.2.2.2.2.2.1.symm).I s.f,(Oc s.ne.2.2.2.2.2.2.2.2.2.symm).I s.n,Ol<|Zv s.w,s.fm.I<|.set<|by simp,s.kw,s.fn⟩
theorem Pu.new(u:Pu G kv md nm K N W X)(gd:Gd G kv nm p t)(e:G[p.1]?=J c)(hv:c.isV=Wq->fin p.2 t=Wq)(z:cm p.2 c=Ws)(hp:p ∉ K):Pu G kv md nm (K++[p]) (N++[c]) (W++[(p,t)]) X:=by
 refine⟨by simp [u.l],List.nodup_append.mpr ⟨u.nd,by simp,λa ha b hb=>Ox.mp hb▸λz=>hp<|z▸ha⟩,λq hq=>?_,λx hx=>?_,λj q hj hw hX=>?_⟩
 . rcases OD.mp hq with hq|hq
   . exact u.g q hq
   . rw [Ox.mp hq];exact⟨t,c,gd,e,hv,z⟩
 . rcases OD.mp hx with hx|hx
   . exact⟨Ys _ (u.w x hx).1,(u.w x hx).2⟩
   . rw [Ox.mp hx];exact⟨by simp,gd.r⟩
 . rw [List.map_append,OD,not_or] at hw;obtain⟨c',ah,a1,a2,a3⟩:=u.d j q (by
     rcases Nat.lt_or_ge j _ with l|l
     . rwa [Oe l] at hj
     . rw [Om l] at hj;exact absurd (by simpa using O1 hj)<|by simpa using hw.2) hw.1 hX
   exact⟨_,_,a1,Zaq a2,Paired.mapP a3 λ_ _ z=>z.mono _⟩
inductive Stn(A:Adr)(G:List Gc)(kv:List (NK×D))(md:List (Key×D))(nm:List Str)(h0:Hd)(K X:List Pr)(W:List (Pr×T))(p:Pr)(t:T)(r:qd D):Prop
 |mk (num:Nat) (h':Hd) (K':List Pr) (N':List Gc) (W':List (Pr×T)) (e:r=.ok (nI num) h') (s:Sc A G kv md h0 h' K' N' W') (u:Pu G kv md nm K' N' W' X) (sd:Std G md K' p num) (l:∃L,K'=K++L) (z:K'.length+dz W'<=K.length+dz W+cc p.2 t) (y:smz W'<=smz W+t.size)
def v4(A:Adr)(p:Pr)(c:Option D):Ev:=[J<|.ref A.o,J<|nI p.1,J<|nD p.2,c]
def Zph{U}{c}(h):ev U (.tupl<|.cons (.var 1)<|.cons (.var 2) .nil) (v4 A p c) h=.ok (pD p) h:=ZaF rfl (by simp)
def ZvX(n)(s:Sc A G kv md h0 h K N W)(lK:K.length=N.length)(hp:p ∉ K)(lz:G.length+N.length<=90000)(wz:W.length<=30000):∃h',xs2 (P.tbl<|n+1) Zak (v4 A p<|J c.d) h=.ok (.nx,v4 A p<|J c.d) h'/\Sc A G kv md h0 h' (K++[p]) (N++[c]) (W++[(p,t)]):=by have f:ev (P.tbl<|n+1) (.blt _<|.cons (.att _ (.var 0) _) .nil) (v4 A p<|J c.d) h=.ok (nI<|G.length+K.length) h:=Zb1 (Zb (Zqe s.o rfl) rfl) ((Zhv s.c).I (by rw[lK];simp[nI]));have e:=Zvb (o:=.att _ (.var 0) _) f (ZsA s.o rfl) (Zph h) s.n (by rw[ZoI];lia);rw[Zt8 K _ hp]at e;have a:=s.sn (p:=p);have y3:∀{h2}{K}{N},Sc A G kv md h0 _ K N W->xs1 (P.tbl<|n+1) ZaP (v4 A p<|J c.d) h2=.ok (.nx,v4 A p<|J c.d) (h2.set A.w<|.lst<|(W++[(p,t)]).map λx=>pD x.1):=λ{h2 _ _} b=>List.map_append▸Zgv (ZjA (ZxY b.o rfl) b.w (Zb (Zph _) rfl)<|Za7 b.w (by rw[YC];simp;lia));exact⟨_,(Za e).I<|(Za<|(λa=>show cl (G++(N++[c]))=.lst ((G++N).map Gc.d++[c.d]) by simp[cl]▸Zgv (ZjA (Zqe a.o rfl) a.c rfl<|Za7 a.c (by rw[YC];simp;lia))) a).I<|(Za<|y3 a.sc).I rfl,a.sc.sw⟩
def ZA1(H:Gs P)(n)(s:Sc A G kv md h0 h K N W)(gd:Gd G kv nm p t)(ok:Zjv G kv):tst (P.tbl<|n+1) Zbt (v4 A p<|J c.d) h=.ok (c.isV&&!fin p.2 t) h:=by
 have a:tst (P.tbl<|n+1) (.ex<|.call _<|.cons (.var 3) .nil) (v4 A p<|J _) h=.ok _ h:=ZI<|Zl (Zsq H n c) rfl;cases v:c.isV with
 |false=>rw[v]at a;exact ZhJ a
 |true=>rw[v]at a;refine Zg4 a ?_;obtain⟨b,e⟩:=ZrX ok gd.i gd.r;rw[Zko,ZI<|ZiZ (ZBO s.o rfl) (Zph h) s.f b,e];rfl
def Zod(H:Gs P)(n)(s:Sc A G kv md h0 h K N W)(u:Pu G kv md nm K N W X)(gd:Gd G kv nm p t)(mt:Mt G md qb nm)(ok:Zjv G kv)(lz:G.length+N.length<=90000)(wz:W.length<=30000):Stn A G kv md nm h0 K X W p t (run P (n+2) (mnm (O "Copier")<|O "stand_in") [.ref A.o,nI p.1,nD p.2] h):=by
 rw[ZfG H.n_Copier_stand_in H.Copier_stand_in rfl];obtain⟨c,e,f,V,_⟩:=gd.r.at;have k:xs1 (P.tbl<|n+1) Zbx (v4 A p M) h=.ok _ h:=Zg<|Zy (Zqe s.o rfl) rfl s.c<|Zaq e;have q:=ZA1 H n (c:=c) s gd ok;have w:tst (P.tbl<|n+1) Zbs (v4 A p<|J _) h=.ok _ h:=ZI<|Zl (Zof H n c _ h) rfl;cases v:(c.isV&&!fin _ t)with
 |true=>rw[v]at q;simp only[Oa,Bool.not_eq_true']at v;exact⟨_,h,K,N,W,congrArg _<|(Za k).I<|Zc<|(Zq q).I<|Zc<|Zm rfl,s,u,⟨t,c,gd.r,e,.inl ⟨v.1,v.2,rfl⟩⟩,⟨[],by simp⟩,by lia,by lia⟩
 |false=>
  rw[v]at q;have C:=(Zi (a:=Zbn) (b:=.nil) q).I rfl;cases z:cm p.2 c with
  |true=>
   rw[z]at w;obtain⟨x,S,F⟩:∃x,c=.name x/\x∈p.2:=by cases c<;>simp only[cm,OG]at z;exact⟨_,rfl,of_decide_eq_true z⟩
   subst S;obtain⟨a,val,L,_,_⟩:=mt.v x<|gd.s x F;exact⟨a,h,K,N,W,congrArg Zn<|(Za k).I<|(Za C).I<|Zc<|(Zq w).I<|Zc<|Zm<|(Zf (ZAm s.o rfl) (y:=.str x) rfl).I<|(Zrq s.m).I (by rw[L];rfl),s,u,⟨t,_,gd.r,e,.inr<|.inl ⟨x,rfl,F,L⟩⟩,⟨[],by simp⟩,by lia,by lia⟩
  |false=>
   rw[z]at w;have Q:=(Zi (a:=Zbm) (b:=.nil) w).I rfl;have B:tst (P.tbl<|n+1) Zbr (v4 A p<|J c.d) h=.ok (!Wu (p∈K)) h:=ZI ((Zr7 (Zph h) (ZsA s.o rfl) s.n).I<|by rw[ZzT]);by_cases g:p∈K
   . rw[decide_eq_true g]at B;obtain⟨j,T,D⟩:=ZiC K G.length g;exact⟨_,h,K,N,W,congrArg Zn<|(Za k).I<|(Za C).I<|(Za Q).I<|(Za<|(Zi (a:=Zak) (b:=.nil) B).I rfl).I<|Zc<|Zm<|ZiZ (ZsA s.o rfl) (Zph h) s.n D,s,u,⟨t,c,gd.r,e,.inr<|.inr ⟨z,j,T,rfl⟩⟩,⟨[],by simp⟩,by lia,by lia⟩
   . rw[decide_eq_false g]at B;obtain⟨R,y,E⟩:=ZvX (P:=P) n (c:=c) (t:=t) s u.l.symm g lz wz;obtain⟨j,U,D⟩:=ZiC (K++[p]) G.length (p:=p) (by simp);refine⟨_,R,_,_,_,congrArg Zn<|(Za k).I<|(Za C).I<|(Za Q).I<|(Za<|(Zq B).I y).I<|Zc<|Zm<|ZiZ (ZsA E.o rfl) (Zph R) E.n D,E,u.new gd e (λi=>by rw[i,Bool.true_and]at v;simpa using v) z g,⟨t,c,gd.r,e,.inr<|.inr ⟨z,j,U,rfl⟩⟩,⟨[p],rfl⟩,?_,by rw[Zn7];exact Oq _⟩;have Y:=Zvs (λi=>(λi=>by rw[i,Bool.true_and]at v;simpa using v)<|((ZcL f).2.2.1).I i)<|(Zi5 f p.2).symm.I z;rw[Zsd];simp
     lia
end
end
section
variable {P:Pg}
def mst:Ex:=.m "Copier" "stand_in" V2 (.w V0 V1)
def Sc.re(s:Sc A G kv md h0 h K N W):Sc A G kv md h h K N W:={s with fm:=.refl}
inductive Csn(A:Adr)(G:List Gc)(kv:List (NK×D))(md:List (Key×D))(nm:List Str)(h0:Hd)(K X:List Pr)(W qs:List (Pr×T))(ai:List D)(r:qd (List D)):Prop
 |mk (ah:List Nat) (h':Hd) (K':List Pr) (N':List Gc) (W':List (Pr×T)) (e:r=.ok (ai++ah.map nI) h') (s:Sc A G kv md h0 h' K' N' W') (u:Pu G kv md nm K' N' W' X) (d:Paired (Std G md K') (qs.map (·.1)) ah) (l:∃L,K'=K++L) (b:K'.length+dz W'<=K.length+dz W+ccs qs) (c:smz W'<=smz W+smz qs)
theorem Zo6(H:Gs P)(n){A}{G:List _}{kv:List _}{md:List _}{nm:List _}{qb:List _}{h0:Hd}{X:List _}(mt:Mt G md qb nm)(ok:Zjv G kv){bl:Nat}{L:List D}(hb:h0[bl]?=J (.lst L))(nb:bl ∉ [A.k,A.n,A.w]):∀(qs:List _) (ai:List D) (h) (K:List _) (N:List _) (W:List _),Sc A G kv md h0 h K N W->Pu G kv md nm K N W X->(∀x∈qs,Gd G kv nm x.1 x.2)->ai.length+qs.length<=1000->G.length+(K.length+dz W+ccs qs)<=90000->smz W+smz qs<=30000->Csn A G kv md nm h0 K X W qs ai (ZF [(bl,L)] (.two 0 1) (tsto (P.tbl<|n+2) M) (ev (P.tbl<|n+2) mst) (qs.map λx=>pD x.1) [M,M,J<|.ref A.o] ai h)
 |[],ai,h,K,N,W,s,u,_,_,_,_=>⟨[],h,K,N,W,by simp[ZF,Zc8<|s.fm.at hb nb],s,u,.nil,⟨[],by simp⟩,by lia,by lia⟩
 |x::qs,ai,h,K,N,W,s,u,hq,hz,hg,hw=>by rw[Zmk]at hg;rw[ZcR]at hw;rw[Os]at hz;have lw:=Zkr W;have lN:=u.l;obtain⟨num,R,K1,N1,W1,e1,s1,u1,d1,⟨L1,z1⟩,b1,c1⟩:=Zod H n s u (hq x<|.head _) mt ok (by lia) (by lia);obtain⟨ah,h2,K2,N2,W2,e2,s2,u2,d2,⟨L2,z2⟩,b2,c2⟩:=Zo6 H n mt ok hb nb qs (ai++[nI num]) R K1 N1 W1 s1 u1 (λy hy=>hq y<|.tail _ hy) (by simp;lia) (by lia) (by lia);refine⟨num::ah,h2,K2,N2,W2,?_,s2,u2,.cons (z2▸d1.mono L2) d2,⟨L1++L2,by rw[z2,z1,Oz]⟩,by rw[Zmk];lia,by rw[ZcR];lia⟩;have q:ev (P.tbl<|n+2) mst [J<|nI x.1.1,J<|nD x.1.2,J<|.ref A.o] h=.ok (nI num) R:=Zj5 (i:=A.o) rfl s.o rfl rfl e1;rw[Op,ZF,if_pos ⟨Zc8<|s.fm.at hb nb,by rw[YC];lia⟩];show((ev (P.tbl<|n+2) mst [J<|nI x.1.1,J<|nD x.1.2,J<|.ref A.o] h).plain.bind λy h2=>ZF [(bl,L)] (.two 0 1) (tsto (P.tbl<|n+2) M) (ev (P.tbl<|n+2) mst) (qs.map λx=>pD x.1) [M,M,J<|.ref A.o] (ai++[y]) h2)=_;rw[q];exact e2.I (by simp)
theorem Paired.len{F}:∀{l₁:List α}{l₂:List β},Paired F l₁ l₂->l₁.length=l₂.length
 |_,_,.nil=>rfl
 |_,_,.cons _ q=>by rw[Os,Os,Paired.len q]
def Zq1{h}{G}{c}{i}(e:h[k]?=J (cl G))(hi:i<G.length):Z1 (.ref k) (nI i) c.d h=.ok () (h.set k<|cl<|G.set i c):=by
 have:ixN (G.map Gc.d).length i=J i:=by
  unfold ixN
  simp_all
 unfold Z1;simp only[e,cl,nI]
 simp_all
def ZlD{U}{S}{h R h2 h3 h4}{o i e}(p:ev U e S h=.ok x R)(q:ev U o S R=.ok y h2)(r:ev U i S h2=.ok z h3)(s:Z1 y z x h3=.ok () h4):xs1 U (.put o i e) S h=.ok (.nx,S) h4:=by simp_all
def Zxe{c:Gc}(h:c.isV=Ws):c.bd=[]:=by cases c<;>first|rfl|cases h
def Zxp(c:Gc):c.fr.length<=3:=by cases c<;>simp[Gc.fr]
def Sc.ap(s:Sc A G kv md h0 h K N W):Sc A G kv md h0 (h++g) K N W:=⟨keep s.o,keep s.c,keep s.m,keep s.f,keep s.n,keep s.w,s.fm.I .app,s.kw,s.fn⟩
def Pu.wr{c:Gc}(u:Pu G kv md nm K N W [p])(ej:K[j]?=J p)(e:G[p.1]?=J c)(d:Paired (Std G md K) (bn c p.2) ah):Pu G kv md nm K (N.set j<|c.wp ah) W []:=by
 refine⟨List.length_set.I u.l,u.nd,u.g,u.w,λa q dG b _=>?_⟩;by_cases z:q=p
 . subst z;cases (List.getElem?_inj (Ob.mp dG).1 u.nd).mp (dG.I ej.symm);exact⟨c,_,e,Ol<|u.l▸(Ob.mp ej).1,d⟩
 . obtain⟨k,m,f,h,i⟩:=u.d _ q dG b (by simpa using z);exact⟨_,_,f,(Oc λ(zz:j=a)=>z<|YF<|dG.symm.I<|zz▸ej).I h,i⟩
def ZAF(H:Gs P)(n){c:Gc}{o:Nat}(s:Sc A G kv md h0 h K N W)(k4:h[o]?=J (.lst<|ah.map nI))(ln:ah.length=c.ps.length)(e:G[p.1]?=J c)(lN:N.length=K.length)(ej:K[j]?=J p)(bp:valN (knF G.length K) (pk p)=J (nI<|G.length+j)):xs1 (P.tbl<|n+2) ZaT [J<|.ref A.o,J<|pD p,J<|.ref o] h=.ok (.nx,[J<|.ref A.o,J<|pD p,J<|.ref o]) (h.set A.k<|cl<|G++N.set j (c.wp ah)):=by obtain⟨w1,w2⟩:=Zqn (c:=c) ln;have lj:=(Ob.mp ej).1;have fl:=Zxp c;have lc:=Zda c;rw[show G++N.set j _=(G++N).set (G.length+j) _ by rw[List.set_append_right _ _<|by lia];congr 2;lia];exact ZlD ((Zr (Zl (Zo7 H.b _ c)<|Zb (Zy (Zqe s.o rfl) (ZtD (p:=p) rfl) s.c<|Zaq e) rfl)<|Zb1 (Zb rfl rfl)<|ZuX k4).I<|(ZkB (by rw[YC];simp;lia)).I (by unfold Gc.d;rw[w1,w2])) (Zqe s.o rfl) (ZiZ (p:=p) (ZsA s.o rfl) rfl s.n bp) (Zq1 s.c<|by simp_all)
inductive Wtn(A:Adr)(G:List Gc)(kv:List (NK×D))(md:List (Key×D))(nm:List Str)(h0:Hd)(K:List Pr)(z m:Nat)(r:qd D):Prop
 |mk (h':Hd) (K':List Pr) (N':List Gc) (W':List (Pr×T)) (e:r=.ok .non h') (s:Sc A G kv md h0 h' K' N' W') (u:Pu G kv md nm K' N' W' []) (l:∃L,K'=K++L) (b:K'.length+dz W'<=z) (c:smz W'+1<=m)
def Zs1(H:Gs P)(n){A}{G}{kv}{md}{nm}{qb}{h0 h}{K}{N}{W}{p}{t}(s:Sc A G kv md h0 h K N (W++[(p,t)]))(u:Pu G kv md nm K N (W++[(p,t)]) [])(mt:Mt G md qb nm)(ok:Zjv G kv)(cd:Zqi G kv)(hg:G.length+(K.length+dz (W++[(p,t)]))<=90000)(hw:smz (W++[(p,t)])<=30000):Wtn A G kv md nm h0 K (K.length+dz (W++[(p,t)])) (smz<|W++[(p,t)]) (run P (n+3) (mnm (O "Copier")<|O "write_next") [.ref A.o] h):=by
 rw[ZfG H.n_Copier_write_next H.Copier_write_next rfl];obtain⟨jy,kz⟩:=u.w (p,t) (by simp);obtain⟨t',c,gd,e,hv,hc⟩:=u.g p jy;have tt:=kz.one gd.r;simp only at tt;subst tt;obtain⟨c',e',f,pp,_⟩:=gd.r.at;rw[e]at e';cases e';have ws:h[A.w]?=J (.lst<|(W.map λx=>pD x.1)++[pD p]):=by rw[s.w];simp
 have x1:xs1 (P.tbl<|n+2) ZaV [J<|.ref A.o,M,M] h=.ok (.nx,[J<|.ref A.o,J<|pD p,M]) (h.set A.w<|.lst<|W.map λx=>pD x.1):=Zg (i:=1)<|ZjA (ZxY s.o rfl) ws rfl<|Zf4 ws;have s1:Sc A G kv md h0 (h.set A.w<|.lst<|W.map λx=>pD x.1) K N W:=s.sw;have u1:Pu G kv md nm K N W [p]:=⟨u.l,u.nd,u.g,λx hx=>u.w x<|Ys _ hx,λj q hj hq hX=>u.d j q hj (by rw[List.map_append,OD,not_or];exact⟨hq,by simpa using hX⟩)<|by simp⟩
 generalize h.set A.w (.lst<|W.map λx=>pD x.1)=R at *;have rb:=ZjT H n s1.c (Zaq e) p.2 gd.l;have q1:ev (P.tbl<|n+2) (.call (O "beneath")<|.cons (.att [O "Copier"] (.var 0)<|O "cells")<|.cons (.ix (.var 1)<|.Ci_ 0)<|.cons (.ix (.var 1)<|.Ci_ 1) .nil) [J<|.ref A.o,J<|pD p,M] R=_:=Zl rb<|Zb (Zqe s1.o rfl)<|Zb (ZtD (p:=p) rfl)<|Zb (ZtC (p:=p) rfl) rfl;have b2:(R++[DO.lst<|(rs p.2 c.bd).map .str,.lst<|(bn c p.2).map pD])[R.length+1]?=J (.lst<|(bn c p.2).map pD):=ZsB;have f2:Fm [A.k,A.n,A.w] R (R++[DO.lst<|(rs p.2 c.bd).map .str,.lst<|(bn c p.2).map pD]):=.app;have s2:=s1.ap (g:=[DO.lst<|(rs p.2 c.bd).map .str,.lst<|(bn c p.2).map pD]);have nb:R.length+1 ∉ [A.k,A.n,A.w]:=by
  have:=Zv s1.c;have:=Zv s1.n;have:=Zv s1.w;simp
  lia
 generalize R++[DO.lst<|(rs p.2 c.bd).map .str,.lst<|(bn c p.2).map pD]=h2 at *;have ei:=ZiY q1 b2;obtain⟨VS,eV,hV,zV,yV⟩:=ZmH (g:=gl G) (rs p.2 c.bd) (λ_=>Wq) pp;have fU:VS.map (·.1)=bn c p.2:=eV.I<|List.filter_eq_self.mpr λ_ _=>rfl;have ku:∀x∈VS,rs p.2 c.bd≠[]:=λx hx=>by
  cases v:c.isV with
  |false=>rw[Zxe v,Zbg];exact gd.e
  |true=>have:=hv v;rw[ZiO,<-Zi5 f,hc,Bool.false_or,<-(ZcL f).2.1]at this;intro z;rw[z]at this;obtain⟨y,_,hy⟩:=List.any_eq_true.mp this;rw[ZaJ]at hy;cases hy
 have rl:=ZmS p.2 c.bd;have nR:=gd.l;have gV:∀x∈VS,Gd G kv nm x.1 x.2:=λx hx=>by
  obtain⟨a,b⟩:=hV x hx;have mem:x.1∈bn c p.2:=by rw[<-fU];exact List.mem_map_of_mem hx
  have ne:x.1.2≠[]:=by rw[b];exact ku x hx
  exact⟨a,cd p gd.i c e x.1 mem ne,ne,by rw[b];lia,λy hy=>gd.s y (by rw[b]at hy;exact(List.mem_filter.mp hy).1)⟩
 have sz:=Zt t;have cz:=Zvs (ns:=p.2) (t:=t) (λcq=>hv (by rw[(ZcL f).2.2.1];exact cq))<|(Zi5 f p.2).symm.I hc;rw[<-(ZcL f).2.1]at cz;have lc:=Zda c;have lV:VS.length<=3:=by rw[<-Yu (f:=(·.1)),fU];unfold bn;rw[Yu];exact lc
 rw[Zsd]at hg ⊢;rw[Zn7]at hw ⊢;simp only at hg hw ⊢;obtain⟨ah,h3,K3,N3,W3,e3,s3,u3,d3,⟨L3,z3⟩,b3,c3⟩:=Zo6 H n mt ok b2 nb VS [] h2 K N W s2.re u1 gV (by simp;lia) (by lia) (by lia);rw[show VS.map (λx=>pD x.1)=(bn c p.2).map pD by rw[<-fU,List.map_map];rfl]at e3;have x2:xs1 (P.tbl<|n+2) ZaU [J<|.ref A.o,J<|pD p,M] R=.ok (.nx,[J<|.ref A.o,J<|pD p,J<|.ref h3.length]) (h3++[.lst<|ah.map nI]):=Zg (i:=2)<|Zei ei e3;have gP:=s3.ap (g:=[DO.lst<|ah.map nI]);obtain⟨j,ej,bp⟩:=ZiC K3 G.length<|z3▸Ys _ jy;have w:xs2 (P.tbl<|n+2) Zbw [J<|.ref A.o,M,M] h=.ok (.nx,_) _:=(Za x1).I ((Za x2).I<|(Za<|ZAF H n (c:=c) gP ZL (by rw[<-Paired.len d3,fU];unfold bn;rw[Yu]) e u3.l ej bp).I rfl);exact⟨_,K3,_,W3,congrArg Zn w,{gP.sc with fm:=s2.fm.I gP.sc.fm},u3.wr ej e (by rw[<-fU];exact d3),⟨L3,z3⟩,by lia,by lia⟩
theorem ZlV(H:Gs P)(n){A}{G}{kv}{md}{nm}{qb}{h0}{S}(mt:Mt G md qb nm)(ok:Zjv G kv)(cd:Zqi G kv)(hρ:ev (P.tbl<|n+3) (.var 0) S=λh=>.ok (.ref A.o) h):∀(F) (h) (K) (N) (W),Sc A G kv md h0 h K N W->Pu G kv md nm K N W []->G.length+(K.length+dz W)<=90000->smz W<=30000->smz W<F->∃h' K' N',ZU (tst (P.tbl<|n+3) Zcr) (xs2 (P.tbl<|n+3) Zcc) F S h=.ok (.nx,S) h'/\Sc A G kv md h0 h' K' N' []/\Pu G kv md nm K' N' [] []/\(∃L,K'=K++L)/\K'.length<=K.length+dz W
 |0,h,K,N,W,_,_,_,_,b=>by lia
 |F+1,h,K,N,W,s,u,c,d,b=>by
  have a:=Zlo (ZxY s.o<|congrFun hρ h) s.w;rcases List.eq_nil_or_concat W with rfl|⟨W,x,rfl⟩
  . exact⟨h,K,N,ZhY a,s,u,⟨[],by simp⟩,by lia⟩
  . obtain⟨p,t⟩:=x;rw[List.concat_eq_append]at *;obtain⟨R,K1,N1,W1,e,f,g,⟨L1,j⟩,v,y⟩:=Zs1 H n s u mt ok cd c d;obtain⟨k,K2,N2,l,m,q,⟨L2,r⟩,z⟩:=ZlV H n mt ok cd hρ F _ _ _ _ f g (by lia) (by lia) (by lia);exact⟨k,K2,N2,(Zb5 (Zh a<|by simp)<|(Za<|Zgv<|Zj5 (i:=A.o) (congrFun hρ h) s.o rfl rfl e).I rfl).I l,m,q,⟨L1++L2,by rw[r,j,Oz]⟩,by lia⟩
theorem Zyb{qd}{S_}{Q}{fp:Nat->Pr}:∀{ps}{ts:List T}{ah:List Nat},Paired qd ps ts->Paired S_ (ps.map fp) ah->(∀m t num,m∈ps->t∈ts->qd m t->S_ (fp m) num->Q num t)->Paired Q ah ts
 |_,_,_,.nil,.nil,_=>.nil
 |_,_,_,.cons r q,.cons s p,k=>.cons (k _ _ _ (.head _) (.head _) r s) (Zyb q p λm t num hm a=>k m t _ (.tail _ hm)<|.tail _ a)
theorem Ziq{Q}{f:T->T}:∀{ns:List Nat}{ts},Paired (λn t=>Q n<|f t) ns ts->Paired Q ns (ts.map f)
 |_,_,.nil=>.nil
 |_,_,.cons r q=>.cons r (Ziq q)
def ZbL(e:nI a=nI b):a=b:=by
 simp[nI]at e
 lia
theorem ZqN{G}{kv}{md}{nm}{qb}{K}{N}{y}(hy:y<G.length)(mt:Mt G md qb nm)(mw:∀x∈nm,∀a v,Zw md (.inr x)=J (nI a)->get (qb.map λp=>(p.1,J p.2)) x=J v->Rd (wo (gl G) y) a v)(u:Pu G kv md nm K N [] []):∀(z) (t) (p) (num),t.size<=z->Rd (wo (gl G) y) p.1 t->Std G md K p num->(∀x∈p.2,x∈nm)->Rd (wo (gl<|G++N) y) num (sub (arN qb p.2) t)
 |0,t,p,num,hz,_,_,_=>by have:=ZC t;lia
 |z+1,t,p,num,hz,rd,st,hs=>by
  obtain⟨t',c,de,e,q⟩:=st;have:=(rd.mono ZJ).one de;subst this;have mono:∀i c,wo (gl G) y i=J c->wo (gl<|G++N) y i=J c:=λi c h=>by
   unfold wo at h ⊢;split at h
   . lia
   . rename_i ne;rw[if_neg ne];exact Zaq h
  obtain⟨c',e',f,pp⟩:=rd.inv;have cc:c=c':=YF<|e.symm.I<|ZJ _ _ e';subst cc;rcases q with⟨_,q,rfl⟩|⟨x,rfl,hx,bp⟩|⟨hc,j,ej,rfl⟩
  . rw[Zc6 qb t _ q];exact rd.mono mono
  . obtain⟨a,v,e1,e2,e3⟩:=mt.v x<|hs x hx;have e4:=mw x (hs x hx) a v e1 e2;rw[bp]at e1;have:=ZbL<|YF e1;subst this;cases t<;>simp only[Fit]at f;subst f;rw[show sub (arN qb p.2) (.name x)=v by simp only[sub];rw[Zcf,if_pos hx,e2];rfl];exact e4.mono mono
  . obtain⟨c',ah,a1,a2,a3⟩:=u.d j p ej (by simp) (by simp);rw[e]at a1;cases a1;have ln:ah.length=c.ps.length:=by rw[<-Paired.len a3];unfold bn;rw[Yu]
    have hm:ZwP (arN qb p.2) t=M:=by
     cases t with
     |name x=>show get (arN qb p.2) x=M;rw[Zcf,if_neg];intro hx;rw[Zi5 f]at hc;simp only[mnt,decide_eq_false_iff_not]at hc;exact hc hx
     |_=>rfl
    obtain⟨w1,w2⟩:=Zqn (c:=c) ln;refine Rd.mk (c:=c.wp ah) ?_ (Zul f hm ln) ?_
    . rw[Zlj<|by lia];show(G++N)[G.length+j]?=_;rw[Om<|by lia,show G.length+j-G.length=j by lia];exact a2
    . rw[w2,(Zpn t _ hm).1];refine Ziq<|Zyb pp a3 λm s n' nL b7 r q=>?_;have lt:=Zn4 b7;rw[ZbD,<-(ZcL f).2.1];exact ZqN hy mt mw u z s (m,rs p.2 c.bd) n' (by lia) r q (λx hx=>hs x (List.mem_filter.mp hx).1)
end
inductive Q where
 |num (i:Nat) (n:Int)|name (i:Nat) (x:Str)|fn (i:Nat) (x:Str) (e:Q)|rcc (i:Nat) (f x:Str) (e:Q)|call (i:Nat) (a b:Q)|iff (i:Nat) (a b c:Q)|op (i:Nat) (w:Wd) (a b:Q)
namespace Q
noncomputable def no:Q->Nat
 |.num i _|.name i _|.fn i _ _|.rcc i _ _ _|.call i _ _|.iff i _ _ _|.op i _ _ _=>i
noncomputable def er:Q->T
 |.num _ n=>.num n
 |.name _ x=>.name x
 |.fn _ x e=>.fn x e.er
 |.rcc _ f x e=>.rcc f x e.er
 |.call _ a b=>.call a.er b.er
 |.iff _ a b c=>.iff a.er b.er c.er
 |.op _ w a b=>.op w a.er b.er
def ok(g:Nat->Option Gc):Q->Prop
 |.num i n=>g i=J (.num n)
 |.name i x=>g i=J (.name x)
 |.fn i x e=>g i=J (.fn x e.no)/\e.ok g
 |.rcc i f x e=>g i=J (.rcc f x e.no)/\e.ok g
 |.call i a b=>g i=J (.call a.no b.no)/\a.ok g/\b.ok g
 |.iff i a b c=>g i=J (.iff a.no b.no c.no)/\a.ok g/\b.ok g/\c.ok g
 |.op i w a b=>g i=J (.op w a.no b.no)/\a.ok g/\b.ok g
noncomputable def isV:Q->Bool
 |.num _ _|.fn _ _ _|.rcc _ _ _ _=>Wq
 |_=>Ws
def ZbO(q:Q):Tm.isV q.er=q.isV:=by cases q<;>rfl
noncomputable def opn:Q->List Nat
 |.num _ _|.fn _ _ _|.rcc _ _ _ _=>[]
 |.name i _=>[i]
 |.call i a b|.op i _ a b=>i::(a.opn++b.opn)
 |.iff i a b c=>i::(a.opn++(b.opn++c.opn))
noncomputable def all:Q->List Nat
 |.num i _|.name i _=>[i]
 |.fn i _ e|.rcc i _ _ e=>i::e.all
 |.call i a b|.op i _ a b=>i::(a.all++b.all)
 |.iff i a b c=>i::(a.all++(b.all++c.all))
def deep:Q->List Nat
 |.num _ _|.name _ _=>[]
 |.fn _ _ e|.rcc _ _ _ e=>e.all
 |.call _ a b|.op _ _ a b=>a.deep++b.deep
 |.iff _ a b c=>a.deep++(b.deep++c.deep)
def One(q:Q):Prop:=q.opn.Nodup/\∀n∈q.opn,n ∉ q.deep
def Uns:Q->Prop
 |.num _ _|.name _ _=>True
 |.fn _ _ e|.rcc _ _ _ e=>e.One/\e.Uns
 |.call _ a b|.op _ _ a b=>a.Uns/\b.Uns
 |.iff _ a b c=>a.Uns/\b.Uns/\c.Uns
theorem rd{g}:∀{q:Q},q.ok g->Rd g q.no q.er
 |.num i n,h=>.num h
 |.name i x,h=>.name h
 |.fn i x e,h=>.fn h.1 (rd h.2)
 |.rcc i f x e,h=>.rcc h.1 (rd h.2)
 |.call i a b,h=>.call h.1 (rd h.2.1) (rd h.2.2)
 |.iff i a b c,h=>.iff h.1 (rd h.2.1) (rd h.2.2.1) (rd h.2.2.2)
 |.op i w a b,h=>.op h.1 (rd h.2.1) (rd h.2.2)
theorem mono{g g'}:∀{q:Q},(∀i∈q.all,∀c,g i=J c->g' i=J c)->q.ok g->q.ok g'
 |.num i n,m,h|.name i x,m,h=>m i (by simp[all]) _ h
 |.fn i x e,m,h|.rcc i f x e,m,h=>⟨m i (by simp[all]) _ h.1,mono (λj d=>m j<|by simp[all,d]) h.2⟩
 |.call i a b,m,h|.op i w a b,m,h=>⟨m i (by simp[all]) _ h.1,mono (λj d=>m j<|by simp[all,d]) h.2.1,mono (λj d=>m j<|by simp[all,d]) h.2.2⟩
 |.iff i a b c,m,h=>⟨m i (by simp[all]) _ h.1,mono (λj d=>m j<|by simp[all,d]) h.2.1,mono (λj d=>m j<|by simp[all,d]) h.2.2.1,mono (λj d=>m j<|by simp[all,d]) h.2.2.2⟩
theorem three{g}:∀{q:Q},q.ok g->∀n∈q.all,n∈q.opn\/n∈q.deep\/∃c,g n=J c/\c.isV=Wq
 |.num i z,h,n,hn=>by have e:=Ox.mp hn;subst e;exact .inr (.inr ⟨_,h,rfl⟩)
 |.name i x,h,n,hn=>.inl hn
 |.fn i x e,h,n,hn|.rcc i f x e,h,n,hn=>by
  rcases O2.mp hn with rfl|hn
  . exact .inr (.inr ⟨_,h.1,rfl⟩)
  . exact .inr (.inl hn)
 |.call i a b,h,n,hn|.op i w a b,h,n,hn=>by
  simp[all,OD]at hn;simp[opn,deep,OD];rcases hn with rfl|hn|hn
  . exact .inl (.inl rfl)
  . rcases three h.2.1 n hn with q|q|q
    . exact .inl (.inr<|.inl q)
    . exact .inr (.inl<|.inl q)
    . exact .inr (.inr q)
  . rcases three h.2.2 n hn with q|q|q
    . exact .inl (.inr<|.inr q)
    . exact .inr (.inl<|.inr q)
    . exact .inr (.inr q)
 |.iff i a b c,h,n,hn=>by
  simp only[all,O2,OD]at hn;simp only[opn,deep,O2,OD];rcases hn with rfl|hn|hn|hn
  . exact .inl (.inl rfl)
  . rcases three h.2.1 n hn with q|q|q
    . exact .inl (.inr<|.inl q)
    . exact .inr (.inl<|.inl q)
    . exact .inr (.inr q)
  . rcases three h.2.2.1 n hn with q|q|q
    . exact .inl (.inr<|.inr<|.inl q)
    . exact .inr (.inl<|.inr<|.inl q)
    . exact .inr (.inr q)
  . rcases three h.2.2.2 n hn with q|q|q
    . exact .inl (.inr<|.inr<|.inr q)
    . exact .inr (.inl<|.inr<|.inr q)
    . exact .inr (.inr q)
theorem Zdc{g}:∀{q:Q},q.ok g->∀n∈q.opn,∃c,g n=J c/\c.isV=Ws
 |.num i z,h,n,hn=>by trivial
 |.name i x,h,n,hn=>by have e:=Ox.mp hn;subst e;exact⟨_,h,rfl⟩
 |.fn i x e,h,n,hn=>by trivial
 |.rcc i f x e,h,n,hn=>by trivial
 |.call i a b,h,n,hn|.op i w a b,h,n,hn=>by
  simp[opn,OD]at hn;rcases hn with rfl|hn|hn
  . exact⟨_,h.1,rfl⟩
  . exact Zdc h.2.1 n hn
  . exact Zdc h.2.2 n hn
 |.iff i a b c,h,n,hn=>by
  simp[opn,OD]at hn;rcases hn with rfl|hn|hn|hn
  . exact⟨_,h.1,rfl⟩
  . exact Zdc h.2.1 n hn
  . exact Zdc h.2.2.1 n hn
  . exact Zdc h.2.2.2 n hn
def ZB:∀{q:Q},∀n∈q.opn,n∈q.all:=by intro q;induction q<;>simp_all [opn,all]<;>grind
def ZD:∀{q:Q},∀n∈q.deep,n∈q.all:=by intro q;induction q<;>simp_all [deep,all]<;>grind
end Q
namespace Q
def bt:Q->Q
 |.call i a b=>if a.isV then(if b.isV then .call i a b else bt b)else bt a
 |.op i w a b=>if a.isV then(if b.isV then .op i w a b else bt b)else bt a
 |.iff i a b c=>if a.isV then .iff i a b c else bt a
 |q=>q
def rp(u:Q):Q->Q
 |.call i a b=>if a.isV then(if b.isV then u else .call i a (rp u b))else .call i (rp u a) b
 |.op i w a b=>if a.isV then(if b.isV then u else .op i w a (rp u b))else .op i w (rp u a) b
 |.iff i a b c=>if a.isV then u else .iff i (rp u a) b c
 |_=>u
theorem Zj6:∀q:Q,q.bt.er=bot q.er
 |.num _ _=>rfl
 |.name _ _=>rfl
 |.fn _ _ _=>rfl
 |.rcc _ _ _ _=>rfl
 |.call i a b|.op i w a b=>by
  simp[bt,er,bot,ZbO];split
  . split
    . rfl
    . exact Zj6 b
  . exact Zj6 a
 |.iff i a b c=>by
  simp[bt,er,bot,ZbO];split
  . rfl
  . exact Zj6 a
theorem Zmb(u):∀q ,(rp u q).er=ZfH (pth q.er) u.er
 |.num _ _=>rfl
 |.name _ _=>rfl
 |.fn _ _ _=>rfl
 |.rcc _ _ _ _=>rfl
 |.call i a b|.op i w a b=>by
  simp[rp,er,pth,ZbO];cases a.isV
  . simp[er,Zmb u a];rfl
  . cases b.isV
    . simp[er,Zmb u b];rfl
    trivial
 |.iff i a b c=>by
  simp[rp,er,pth,ZbO];cases a.isV
  . simp only[OG,if_false,er,ZfH,Zmb u a];rfl
  trivial
def cto:Q->List Nat
 |.call i a b|.op i _ a b=>if a.isV then(if b.isV then []else i::(a.opn++cto b))else i::(cto a++b.opn)
 |.iff i a b c=>if a.isV then []else i::(cto a++(b.opn++c.opn))
 |_=>[]
def ctd:Q->List Nat
 |.call _ a b|.op _ _ a b=>if a.isV then(if b.isV then []else a.deep++ctd b)else ctd a++b.deep
 |.iff _ a b c=>if a.isV then []else ctd a++(b.deep++c.deep)
 |_=>[]
def swp(a b c:List Nat):((a++b)++c).Perm ((a++c)++b):=by rw[Oz,Oz];exact List.Perm.append_left a List.perm_append_comm
theorem Zf3:∀q:Q,q.opn.Perm (q.cto++q.bt.opn)
 |.num _ _=>.refl _
 |.name _ _=>.refl _
 |.fn _ _ _=>.refl _
 |.rcc _ _ _ _=>.refl _
 |.call i a b|.op i w a b=>by
  simp[cto,bt];split
  . split
    . simp
    . rw[List.cons_append,Oz];exact((Zf3 b).append_left _).cons _
  . exact(((Zf3 a).append_right _).trans<|swp _ _ _).cons _
 |.iff i a b c=>by
  simp[cto,bt];split
  . simp
  . exact(((Zf3 a).append_right _).trans<|swp _ _ _).cons _
theorem Zhg:∀q:Q,q.deep.Perm (q.ctd++q.bt.deep)
 |.num _ _=>.refl _
 |.name _ _=>.refl _
 |.fn _ _ _=>.refl _
 |.rcc _ _ _ _=>.refl _
 |.call i a b|.op i w a b=>by
  simp[ctd,bt];split
  . split
    . simp
    . rw[Oz];exact(Zhg b).append_left _
  . exact((Zhg a).append_right _).trans (swp _ _ _)
 |.iff i a b c=>by
  simp[ctd,bt];split
  . exact .refl _
  . exact((Zhg a).append_right _).trans (swp _ _ _)
theorem ZlI(u):∀q ,(rp u q).opn.Perm (q.cto++u.opn)
 |.num _ _=>.refl _
 |.name _ _=>.refl _
 |.fn _ _ _=>.refl _
 |.rcc _ _ _ _=>.refl _
 |.call i a b|.op i w a b=>by
  simp[cto,rp];cases a.isV
  . exact(((ZlI u a).append_right _).trans<|swp _ _ _).cons _
  . cases b.isV
    . simp only[if_true,OG,if_false];rw[List.cons_append,Oz];exact((ZlI u b).append_left _).cons _
    trivial
 |.iff i a b c=>by
  simp[cto,rp];cases a.isV
  . exact(((ZlI u a).append_right _).trans<|swp _ _ _).cons _
  trivial
theorem ZkW(u):∀q ,(rp u q).deep.Perm (q.ctd++u.deep)
 |.num _ _=>.refl _
 |.name _ _=>.refl _
 |.fn _ _ _=>.refl _
 |.rcc _ _ _ _=>.refl _
 |.call i a b|.op i w a b=>by
  simp[ctd,rp];cases a.isV
  . exact((ZkW u a).append_right _).trans (swp _ _ _)
  . cases b.isV
    . simp only[if_true,OG,if_false];rw[Oz];exact(ZkW u b).append_left _
    trivial
 |.iff i a b c=>by
  simp[ctd,rp];cases a.isV
  . exact((ZkW u a).append_right _).trans (swp _ _ _)
  trivial
theorem ZnW{u}(hu:u.Uns):∀q ,q.Uns->(rp u q).Uns
 |.num _ _,_=>hu
 |.name _ _,_=>hu
 |.fn _ _ _,_=>hu
 |.rcc _ _ _ _,_=>hu
 |.call i a b,h|.op i w a b,h=>by
  simp[rp];split
  . split
    . trivial
    . exact⟨h.1,ZnW hu b h.2⟩
  . exact⟨ZnW hu a h.1,h.2⟩
 |.iff i a b c,h=>by
  simp[rp];split
  . trivial
  . exact⟨ZnW hu a h.1,h.2⟩
theorem ZnX:∀q:Q,q.Uns->q.bt.Uns
 |.num _ _,h=>h
 |.name _ _,h=>h
 |.fn _ _ _,h=>h
 |.rcc _ _ _ _,h=>h
 |.call i a b,h|.op i w a b,h=>by
  simp[bt];split
  . split
    . exact h
    . exact ZnX b h.2
  . exact ZnX a h.1
 |.iff i a b c,h=>by
  simp[bt];split
  . exact h
  . exact ZnX a h.1
theorem Zh{g}:∀q:Q,q.ok g->q.bt.ok g
 |.num _ _,h=>h
 |.name _ _,h=>h
 |.fn _ _ _,h=>h
 |.rcc _ _ _ _,h=>h
 |.call i a b,h|.op i w a b,h=>by
  simp[bt];split
  . split
    . exact h
    . exact Zh b h.2.2
  . exact Zh a h.2.1
 |.iff i a b c,h=>by
  simp[bt];split
  . exact h
  . exact Zh a h.2.1
theorem Zk3:∀q:Q,q.isV=Ws->q.bt.no∈q.bt.opn
 |.num _ _,h=>by cases h
 |.name i x,h=>.head _
 |.fn _ _ _,h=>by cases h
 |.rcc _ _ _ _,h=>by cases h
 |.call i a b,h|.op i w a b,h=>by
  simp[bt];cases d:a.isV
  . exact Zk3 a d
  . cases e:b.isV
    . exact Zk3 b e
    . exact .head _
 |.iff i a b c,h=>by
  simp[bt];cases d:a.isV
  . exact Zk3 a d
  . exact .head _
def Zkc(q:Q)(h:q.isV=Ws):q.bt.no∈q.opn:=(Zf3 q).mem_iff.mpr (Ov _<|Zk3 q h)
def Ziu{g g'}{y}(ne:∀i,i≠y->g' i=g i)(nv:∃c,g y=J c/\c.isV=Ws){q:Q}(h:q.ok g)(ho:y ∉ q.opn)(hd:y ∉ q.deep):q.ok g':=by
 refine mono (λi hi c e=>?_) h;rw[ne i _]
 . exact e
 . rintro rfl;rcases three h i hi with z|z|⟨c',e',v'⟩
   . trivial
   . trivial
   simp_all
theorem Zot{g g'}{u}{y}(ne:∀i,i≠y->g' i=g i)(nv:∃c,g y=J c/\c.isV=Ws)(hu:u.ok g')(uy:u.no=y):∀q ,q.ok g->q.isV=Ws->q.bt.no=y->q.opn.Nodup->y ∉ q.deep->(rp u q).ok g'/\(rp u q).no=q.no
 |.num _ _,_,v,_,_,_=>by cases v
 |.name i x,h,v,e,_,_=>⟨hu,uy.I e.symm⟩
 |.fn _ _ _,_,v,_,_,_=>by cases v
 |.rcc _ _ _ _,_,v,_,_,_=>by cases v
 |.call i a b,h,v,e,nd,hd|.op i w a b,h,v,e,nd,hd=>by
  simp only[opn,List.nodup_cons,List.nodup_append,OD,not_or]at nd;simp only[deep,OD,not_or]at hd;simp only[bt]at e;simp only[rp];cases ea:a.isV
  . rw[ea]at e;simp only[OG,if_false]at e ⊢;obtain⟨k1,k2⟩:=Zot ne nv hu uy a h.2.1 ea e nd.2.1 hd.1;exact⟨⟨by rw[k2,ne i λz=>nd.1.1<|z▸(e▸Zkc a ea)];exact h.1,k1,Ziu ne nv h.2.2 (λz=>nd.2.2.2 y (e▸Zkc a ea) y z rfl) hd.2⟩,rfl⟩
  . cases eb:b.isV
    . rw[ea,eb]at e;simp only at e ⊢;have yb:y∈b.opn:=e▸Zkc b eb;obtain⟨k1,k2⟩:=Zot ne nv hu uy b h.2.2 eb e nd.2.2.1 hd.2;exact⟨⟨by rw[k2,ne i λz=>nd.1.2<|z▸yb];exact h.1,Ziu ne nv h.2.1 (λz=>nd.2.2.2 y z y yb rfl) hd.1,k1⟩,rfl⟩
    . rw[ea,eb]at e;exact⟨hu,uy.I e.symm⟩
 |.iff i a b c,h,v,e,nd,hd=>by
  simp only[opn,List.nodup_cons,List.nodup_append,OD,not_or]at nd;simp only[deep,OD,not_or]at hd;simp only[bt]at e;simp only[rp];cases ea:a.isV
  . rw[ea]at e;simp only[OG,if_false]at e ⊢;have ya:y∈a.opn:=e▸Zkc a ea;obtain⟨k1,k2⟩:=Zot ne nv hu uy a h.2.1 ea e nd.2.1 hd.1;exact⟨⟨by rw[k2,ne i λz=>nd.1.1<|z▸ya];exact h.1,k1,Ziu ne nv h.2.2.1 (λz=>nd.2.2.2 y ya y (.inl z) rfl) hd.2.1,Ziu ne nv h.2.2.2 (λz=>nd.2.2.2 y ya y (.inr z) rfl) hd.2.2⟩,rfl⟩
  . rw[ea]at e;exact⟨hu,uy.I e.symm⟩
structure Fits(g:Nat->Option Gc)(L:Nat)(r u:Q):Prop where
 one:u.One
 uns:u.Uns
 o:∀n∈u.opn,n∈r.opn\/L<=n
 d:∀n∈u.deep,n∈r.deep\/L<=n\/∃c,g n=J c/\c.isV=Wq
def ZwG{g}{L}{q u}(hg:∀n c,g n=J c->n<L)(h:q.ok g)(one:q.One)(f:Fits g L q.bt u):(rp u q).One:=by
 obtain⟨n1,n2,n3⟩:=List.nodup_append.mp<|(Zf3 q).nodup_iff.mp one.1;have fi:∀n∈q.cto,n∈q.opn:=λn hn=>(Zf3 q).mem_iff.mpr<|Ys _ hn;have ind:∀n∈q.ctd,n∈q.deep:=λn hn=>(Zhg q).mem_iff.mpr<|Ys _ hn;have bG:=λn hn=>let⟨c,e,_⟩:=Zdc h n hn;hg n c e;have mS:∀(q:Q),q.ok g->∀n∈q.all,n<L:=by
  intro q;induction q with
  |num i z|name i z=>intro h n hn;rw[Ox.mp hn];exact hg _ _ h
  |fn i x e ih|rcc i f x e ih=>
   intro h n hn;rcases O2.mp hn with rfl|hn
   . exact hg _ _ h.1
   . exact ih h.2 n hn
  |call i a b ia ib|op i w a b ia ib=>
   intro h n hn;simp only[all,O2,OD]at hn;rcases hn with rfl|hn|hn
   . exact hg _ _ h.1
   . exact ia h.2.1 n hn
   . exact ib h.2.2 n hn
  |iff i a b c ia ib ic=>
   intro h n hn;simp only[all,O2,OD]at hn;rcases hn with rfl|hn|hn|hn
   . exact hg _ _ h.1
   . exact ia h.2.1 n hn
   . exact ib h.2.2.1 n hn
   . exact ic h.2.2.2 n hn
 refine⟨(ZlI u q).nodup_iff.mpr<|List.nodup_append.mpr ⟨n1,f.one.1,λa ha b hb=>?_⟩,λn hn hd=>?_⟩
 . rintro rfl;rcases f.o a hb with z|z
   . exact n3 a ha a z rfl
   . have:=bG a<|fi a ha;lia
 . have hn:=OD.mp<|(ZlI u q).mem_iff.mp hn;have hd:=OD.mp<|(ZkW u q).mem_iff.mp hd;rcases hn with hn|hn
   . rcases hd with hd|hd
     . exact one.2 n (fi n hn) (ind n hd)
     . rcases f.d n hd with z|z|⟨c,e,v⟩
       . exact one.2 n (fi n hn) ((λn hn=>(Zhg q).mem_iff.mpr<|Ov _ hn) n z)
       . have:=bG n<|fi n hn;lia
       . obtain⟨c',e',v'⟩:=Zdc h n<|fi n hn;rw[e]at e';cases e';rw[v]at v';cases v'
   . rcases hd with hd|hd
     . rcases f.o n hn with z|z
       . exact one.2 n ((λn hn=>(Zf3 q).mem_iff.mpr<|Ov _ hn) n z) (ind n hd)
       . have:=(λn hn=>mS q h n<|ZD n hn) n<|ind n hd;lia
     . exact f.one.2 n hn hd
end Q
theorem Paired.app{F}:∀{l₁:List α}{l₂}{m₁}{m₂:List β},Paired F l₁ l₂->Paired F m₁ m₂->Paired F (l₁++m₁) (l₂++m₂)
 |_,_,_,_,.nil,q=>q
 |_,_,_,_,.cons r p,q=>.cons r (Paired.app p q)
theorem Paired.mem_r{F}:∀{l₁:List α}{l₂:List β},Paired F l₁ l₂->∀b∈l₂,∃a∈l₁,F a b
 |_,_,.nil,b,h=>by cases h
 |_,_,.cons r p,b,h=>by
  rcases O2.mp h with rfl|h
  . exact⟨_,.head _,r⟩
  . obtain⟨a,c,q⟩:=Paired.mem_r p b h;exact⟨a,.tail _ c,q⟩
theorem Paired.nodup{F}(inj:∀a a' b,F a b->F a' b->a=a'):∀{l₁:List α}{l₂:List β},Paired F l₁ l₂->l₁.Nodup->l₂.Nodup
 |_,_,.nil,_=>.nil
 |_,_,.cons r p,h=>by rw[List.nodup_cons]at h ⊢;refine⟨λz=>?_,Paired.nodup inj p h.2⟩;obtain⟨a',c,q⟩:=Paired.mem_r p _ z;exact h.1 (inj _ _ _ r q▸c)
def pq2{qd:α->β->Prop}(p:Paired qd [a,b] [s,t]):qd a s/\qd b t:=by cases p with|cons x p=>cases p with|cons y p=>trivial
def pq3{qd:α->β->Prop}(p:Paired qd [a,b,c] [s,t,u]):qd a s/\qd b t/\qd c u:=by cases p with|cons x p=>cases p with|cons y p=>cases p with|cons z p=>trivial
def Kn(K:List Pr)(L:Nat)(p:Pr)(n:Nat):Prop:=∃j,K[j]?=J p/\n=L+j
def Kn.inj(a:Kn K L p n)(b:Kn K L p' n):p=p':=by
 obtain⟨j,e,z⟩:=a;obtain⟨c,d,f⟩:=b
 simp_all
structure Cp(g':Nat->Option Gc)(K:List Pr)(L:Nat)(S_:Nat->Prop)(ns:List Str)(t':T)(num:Nat)(b q':Q):Prop where
 ok:q'.ok g'
 no:q'.no=num
 er:q'.er=t'
 o:∃l,l.Sublist b.opn/\Paired (λi n=>Kn K L (i,ns) n) l q'.opn
 d:∀n∈q'.deep,(∃i al,Kn K L (i,al) n/\i∈b.deep)\/n∈b.all\/S_ n
 a:∀n∈q'.all,(∃i al,Kn K L (i,al) n/\i∈b.all)\/n∈b.all\/S_ n
 u:q'.Uns
def Cp.one(c:Cp g' K L S_ ns t' num b q')(h:b.One)(bG:∀n,n∈b.all\/S_ n->n<L):q'.One:=by
 obtain⟨l,hl,p⟩:=c.o;refine⟨Paired.nodup (λa s n x y=>congrArg Prod.fst<|x.inj y) p<|hl.nodup h.1,λn f g=>?_⟩;obtain⟨i,m,k⟩:=Paired.mem_r p n f;rcases c.d n g with⟨t,u,q,r⟩|z
 . have:=congrArg Prod.fst<|k.inj q;subst this;exact h.2 i (hl.subset m) r
 . have:=bG n z;obtain⟨j,_,e⟩:=k
   lia
def MQ(g:Nat->Option Gc)(S_:Nat->Prop)(md:List (Key×D))(qb:List (Str×T))(nm:List Str):Prop:=∀x∈nm,∃v:Q,v.ok g/\v.isV=Wq/\Zw md (.inr x)=J (nI v.no)/\get (qb.map λp=>(p.1,J p.2)) x=J v.er/\(∀n∈v.all,S_ n)/\v.Uns
def Cp.ma(c:Cp g' K L S_ ns t' num b q'){A:List _}(f:∀n∈b.all,n∈A)(n)(hn:n∈q'.all):(∃i al,Kn K L (i,al) n/\i∈A)\/n∈A\/S_ n:=(c.a n hn).imp (by rintro⟨i,_,k,z⟩;exact⟨i,_,k,f i z⟩) (Or.imp (f n) id)
def Cp.md(c:Cp g' K L S_ ns t' num b q'){A B_:List _}(f:∀n∈b.deep,n∈B_)(g:∀n∈b.all,n∈A)(n)(hn:n∈q'.deep):(∃i al,Kn K L (i,al) n/\i∈B_)\/n∈A\/S_ n:=(c.d n hn).imp (by rintro⟨i,_,k,z⟩;exact⟨i,_,k,f i z⟩) (Or.imp (g n) id)
def inl{a b}{i:Nat}:∀n∈a,n∈i::(a++b):=λ_ h=>.tail _ (Ys _ h)
def inr{a b}{i:Nat}:∀n∈b,n∈i::(a++b):=λ_ h=>.tail _ (Ov _ h)
section
variable {G:List Gc}{kv:List (NK×D)}{md:List (Key×D)}{nm ns:List Str}{qb:List (Str×T)}{K:List Pr}{N:List Gc}{y num:Nat}{S_:Nat->Prop}{b:Q}
inductive Ez(G:List Gc)(md:List (Key×D))(qb:List (Str×T))(K:List Pr)(N:List Gc)(y:Nat)(S_:Nat->Prop)(b:Q)(ns:List Str)(num:Nat):Prop
 |ez (q':Q) (c:Cp (wo (gl (G++N)) y) K G.length S_ ns (sub (arN qb ns) b.er) num b q')
 |own (c:Gc) (ah:List Nat) (e:gl G b.no=J c) (e':wo (gl (G++N)) y num=J (c.wp ah)) (k:Kn K G.length (b.no,ns) num) (p:Paired (Std G md K) (bn c ns) ah) (hc:cm ns c=Ws) (hv:c.isV=Wq->fin ns b.er=Wq)
def ZmG(i)(c)(h:wo (gl G) y i=J c):wo (gl<|G++N) y i=J c:=by
 unfold wo at h ⊢;split at h
 . lia
 . rename_i ne;rw[if_neg ne];exact Zaq h
def Zny(hy:y<G.length)(mq:MQ (wo (gl G) y) S_ md qb nm)(u:Pu G kv md nm K N [] [])(ok:b.ok (wo (gl G) y))(un:b.Uns)(st:Std G md K (b.no,ns) num)(hs:∀x∈ns,x∈nm):Ez G md qb K N y S_ b ns num:=by
 obtain⟨t,c,rd,e,q⟩:=st;have rb:=(Q.rd ok).mono ZJ;have tt:=rb.one rd;simp at e q tt;obtain⟨c',e',f',_⟩:=rb.at;cases e.symm.I e';rcases q with⟨hv,q,rfl⟩|⟨x,rfl,hx,bp⟩|⟨hc,j,ej,rfl⟩
 . rw[<-tt]at q;refine .ez b ⟨Q.mono (λi _ c e=>ZmG i c e) ok,rfl,(Zc6 qb _ _ q).symm,⟨_,List.nil_sublist _,?_⟩,λn hn=>.inr<|.inl<|Q.ZD n hn,λn hn=>.inr<|.inl hn,un⟩;have v:=(ZcL f').2.2.1;rw[hv]at v;rw[show b.opn=[] by cases b<;>first|rfl|cases v];exact .nil
 . obtain⟨v,vo,vv,ve,vg,vs,vu⟩:=mq x<|hs x hx;have eb:b.er=.name x:=by generalize b.er=z at f';cases z<;>simp only[Fit]at f';rw[f']
   refine .ez v ⟨Q.mono (λi _ c e=>ZmG i c e) vo,(ZbL<|YF<|bp.symm.I ve).symm,?_,⟨[],List.nil_sublist _,?_⟩,λn hn=>.inr<|.inr<|vs n<|Q.ZD n hn,λn hn=>.inr<|.inr<|vs n hn,vu⟩
   . rw[eb];simp only[sub];rw[Zcf,if_pos hx,vg];rfl
   . rw[show v.opn=[] by cases v<;>first|rfl|cases vv];exact .nil
 . obtain⟨c',ah,a1,a2,a3⟩:=u.d j (b.no,ns) ej (by simp) (by simp);cases e.symm.I a1;obtain⟨t',c',gd,e',hv,_⟩:=u.g (b.no,ns)<|O1 ej;cases e.symm.I e';refine .own c ah e ?_ ⟨j,ej,rfl⟩ a3 hc λz=>rb.one gd.r▸hv z;rw[Zlj<|by lia];show(G++N)[G.length+j]?=_;rw[Om<|by lia,show G.length+j-G.length=j by lia];exact a2
def Zar{c}{ah}(p:Paired (Std G md K) (bn c ns) ah):ah.length=c.ps.length:=by rw[<-Paired.len p];unfold bn;simp
end
def cpy{G}{kv}{md}{nm}{qb}{K}{N}{y}{S_}(hy:y<G.length)(mq:MQ (wo (gl G) y) S_ md qb nm)(u:Pu G kv md nm K N [] []):∀(b) (ns) (num),b.ok (wo (gl G) y)->b.Uns->(∀n,n∈b.all\/S_ n->n<G.length)->Std G md K (b.no,ns) num->(∀x∈ns,x∈nm)->∃q',Cp (wo (gl<|G++N) y) K G.length S_ ns (sub (arN qb ns) b.er) num b q':=by
 intro b;induction b with
 |num i z=>
  intro ns num ok un _ st hs;cases Zny hy mq u ok un st hs with
  |ez q c=>exact⟨q,c⟩
  |own c ah e e' k p _ hv=>cases e.symm.I (ZJ _ _ ok);exact absurd (hv rfl) (by simp[Q.er,fin])
 |name i x=>
  intro ns num ok un _ st hs;cases Zny hy mq u ok un st hs with
  |ez q c=>exact⟨q,c⟩
  |own c ah e e' k p hc hv=>cases e.symm.I (ZJ _ _ ok);cases List.length_eq_zero_iff.mp (Zar p);exact⟨.name num x,e',rfl,by simp only[Q.er,sub];rw[Zcf,if_neg<|by simpa[cm]using hc];rfl,⟨[i],List.Sublist.refl _,.cons k .nil⟩,λn hn=>(by cases hn),λn hn=>.inl ⟨i,ns,Ox.mp hn▸k,.head _⟩,trivial⟩
 |fn i x e ih=>
  intro ns num ok un sm st hs;cases Zny hy mq u ok un st hs with
  |ez q c=>exact⟨q,c⟩
  |own c ah e0 e' k p hc hv=>
   cases e0.symm.I (ZJ _ _ ok.1);obtain⟨n1,rfl⟩:=List.length_eq_one_iff.mp<|Zar p;cases p with|cons s1 _=>?_
   obtain⟨q1,c1⟩:=ih (rs ns [x]) n1 ok.2 un.2 (λn hn=>sm n<|hn.imp (λz=>.tail _ z) id) s1<|λy hy=>hs y (List.mem_filter.mp hy).1;exact⟨.fn num x q1,⟨c1.no▸e',c1.ok⟩,rfl,by show T.fn x q1.er=T.fn x (sub (inn (.fn x e.er)<|arN qb ns) e.er);rw[c1.er,ZbD];rfl,⟨[],List.nil_sublist _,.nil⟩,λn hn=>(c1.a n hn).imp id<|Or.imp (λz=>.tail _ z) id,λn hn=>(O2.mp hn).elim (λz=>.inl ⟨i,ns,z▸k,.head _⟩)<|c1.ma (λ_ z=>.tail _ z) n,⟨c1.one un.1<|λn hn=>sm n<|hn.imp (λz=>.tail _ z) id,c1.u⟩⟩
 |rcc i f x e ih=>
  intro ns num ok un sm st hs;cases Zny hy mq u ok un st hs with
  |ez q c=>exact⟨q,c⟩
  |own c ah e0 e' k p hc hv=>
   cases e0.symm.I (ZJ _ _ ok.1);obtain⟨n1,rfl⟩:=List.length_eq_one_iff.mp<|Zar p;cases p with|cons s1 _=>?_
   obtain⟨q1,c1⟩:=ih (rs ns [f,x]) n1 ok.2 un.2 (λn hn=>sm n<|hn.imp (λz=>.tail _ z) id) s1<|λy hy=>hs y (List.mem_filter.mp hy).1;exact⟨.rcc num f x q1,⟨c1.no▸e',c1.ok⟩,rfl,by show T.rcc f x q1.er=T.rcc f x (sub (inn (.rcc f x e.er)<|arN qb ns) e.er);rw[c1.er,ZbD];rfl,⟨[],List.nil_sublist _,.nil⟩,λn hn=>(c1.a n hn).imp id<|Or.imp (λz=>.tail _ z) id,λn hn=>(O2.mp hn).elim (λz=>.inl ⟨i,ns,z▸k,.head _⟩)<|c1.ma (λ_ z=>.tail _ z) n,⟨c1.one un.1<|λn hn=>sm n<|hn.imp (λz=>.tail _ z) id,c1.u⟩⟩
 |call i a b ia ib=>
  intro ns num ok un sm st hs;cases Zny hy mq u ok un st hs with
  |ez q c=>exact⟨q,c⟩
  |own c ah e0 e' k p hc hv=>
   cases e0.symm.I (ZJ _ _ ok.1);obtain⟨n1,n2,rfl⟩:∃a b,ah=[a,b]:=match ah,Zar p with|[a,b],_=>⟨a,b,rfl⟩
   simp only[bn,Gc.ps,Gc.bd,Zbg,Op,Oy]at p;obtain⟨s1,s2⟩:=pq2 p;obtain⟨q1,c1⟩:=ia ns n1 ok.2.1 un.1 (λn hn=>sm n<|hn.imp (inl n) id) s1 hs;obtain⟨q2,c2⟩:=ib ns n2 ok.2.2 un.2 (λn hn=>sm n<|hn.imp (inr n) id) s2 hs;obtain⟨l1,o1,p1⟩:=c1.o;obtain⟨l2,o2,p2⟩:=c2.o;exact⟨.call num q1 q2,⟨by rw[c1.no,c2.no];exact e',c1.ok,c2.ok⟩,rfl,by simp only[Q.er,sub];rw[c1.er,c2.er],⟨i::(l1++l2),(o1.append o2).cons_cons _,.cons k<|Paired.app p1 p2⟩,λn hn=>(OD.mp hn).elim (c1.md (λ_=>Ys _) inl n)<|c2.md (λ_=>Ov _) inr n,λn hn=>(O2.mp hn).elim (λz=>.inl ⟨i,ns,z▸k,.head _⟩) λhn=>(OD.mp hn).elim (c1.ma inl n)<|c2.ma inr n,⟨c1.u,c2.u⟩⟩
 |op i w a b ia ib=>
  intro ns num ok un sm st hs;cases Zny hy mq u ok un st hs with
  |ez q c=>exact⟨q,c⟩
  |own c ah e0 e' k p hc hv=>
   cases e0.symm.I (ZJ _ _ ok.1);obtain⟨n1,n2,rfl⟩:∃a b,ah=[a,b]:=match ah,Zar p with|[a,b],_=>⟨a,b,rfl⟩
   simp only[bn,Gc.ps,Gc.bd,Zbg,Op,Oy]at p;obtain⟨s1,s2⟩:=pq2 p;obtain⟨q1,c1⟩:=ia ns n1 ok.2.1 un.1 (λn hn=>sm n<|hn.imp (inl n) id) s1 hs;obtain⟨q2,c2⟩:=ib ns n2 ok.2.2 un.2 (λn hn=>sm n<|hn.imp (inr n) id) s2 hs;obtain⟨l1,o1,p1⟩:=c1.o;obtain⟨l2,o2,p2⟩:=c2.o;exact⟨.op num w q1 q2,⟨by rw[c1.no,c2.no];exact e',c1.ok,c2.ok⟩,rfl,by simp only[Q.er,sub];rw[c1.er,c2.er],⟨i::(l1++l2),(o1.append o2).cons_cons _,.cons k<|Paired.app p1 p2⟩,λn hn=>(OD.mp hn).elim (c1.md (λ_=>Ys _) inl n)<|c2.md (λ_=>Ov _) inr n,λn hn=>(O2.mp hn).elim (λz=>.inl ⟨i,ns,z▸k,.head _⟩) λhn=>(OD.mp hn).elim (c1.ma inl n)<|c2.ma inr n,⟨c1.u,c2.u⟩⟩
 |iff i a b d ia ib id'=>
  intro ns num ok un sm st hs;cases Zny hy mq u ok un st hs with
  |ez q c=>exact⟨q,c⟩
  |own c ah e0 e' k p hc hv=>
   cases e0.symm.I (ZJ _ _ ok.1);obtain⟨n1,n2,n3,rfl⟩:∃a b c,ah=[a,b,c]:=match ah,Zar p with|[a,b,c],_=>⟨a,b,c,rfl⟩
   simp only[bn,Gc.ps,Gc.bd,Zbg,Op,Oy]at p;obtain⟨s1,s2,s3⟩:=pq3 p;have i2:∀n∈b.all,n∈(Q.iff i a b d).all:=λn z=>inr n<|Ys _ z;have i3:∀n∈d.all,n∈(Q.iff i a b d).all:=λn z=>inr n<|Ov _ z;obtain⟨q1,c1⟩:=ia ns n1 ok.2.1 un.1 (λn hn=>sm n<|hn.imp (inl n) id) s1 hs;obtain⟨q2,c2⟩:=ib ns n2 ok.2.2.1 un.2.1 (λn hn=>sm n<|hn.imp (i2 n) id) s2 hs;obtain⟨q3,c3⟩:=id' ns n3 ok.2.2.2 un.2.2 (λn hn=>sm n<|hn.imp (i3 n) id) s3 hs;obtain⟨l1,o1,p1⟩:=c1.o;obtain⟨l2,o2,p2⟩:=c2.o;obtain⟨l3,o3,p3⟩:=c3.o;exact⟨.iff num q1 q2 q3,⟨by rw[c1.no,c2.no,c3.no];exact e',c1.ok,c2.ok,c3.ok⟩,rfl,by simp only[Q.er,sub];rw[c1.er,c2.er,c3.er],⟨i::(l1++(l2++l3)),(o1.append<|o2.append o3).cons_cons _,.cons k<|Paired.app p1<|Paired.app p2 p3⟩,λn hn=>(OD.mp hn).elim (c1.md (λ_=>Ys _) inl n) λhn=>(OD.mp hn).elim (c2.md (λ_ z=>Ov _<|Ys _ z) i2 n)<|c3.md (λ_ z=>Ov _<|Ov _ z) i3 n,λn hn=>(O2.mp hn).elim (λz=>.inl ⟨i,ns,z▸k,.head _⟩) λhn=>(OD.mp hn).elim (c1.ma inl n) λhn=>(OD.mp hn).elim (c2.ma i2 n)<|c3.ma i3 n,⟨c1.u,c2.u,c3.u⟩⟩
section
variable {P:Pg}
def ZuZ{h}(e:h[i]?=J (.dic md))(k:Z0 md=J nm)(o:nm.all Yp=Wq):Zan GD .tdk [.ref i] h=.ok (nD nm) h:=by show Zsw _ [.ref i] h=_;unfold Zsw dicOf;simp only[e,Yz,k,if_pos o];rfl
def Zay(fs:List (Str×D)):DO:=.ins (O "Copier") fs
def Zij{U}{S}{h R}{a e}{o}{fs}{f}{d}(p:ev U e S h=.ok d R)(q:ev U a S R=.ok (.ref o) R)(k:R[o]?=J (Zay fs))(l:fs.length<1000):xs1 U (.seta [O "Copier"] a f e) S h=.ok (.nx,S) (R.set o<|Zay<|Zin f d fs):=by rw[Zql,p,Zz,q];simp[Zjy,k,Zay,l]
def Zc9{h:Hd}{o}{x y}(e:h[o]?=J x):(h.set o y)[o]?=J y:=by rw[Ol<|Zv e]
def ZO{h:Hd}{o i}{x y}(e:h[i]?=J x)(ne:i≠o):(h.set o y)[i]?=J x:=(Oc ne.symm).I e
def ZyW(H:Gs P)(n){G}{h}{k mk m}{md}{nm}{t}(hk:h[k]?=J (cl G))(hm:h[mk]?=J (.dic md))(ks:Z0 md=J nm)(so:nm.all Yp=Wq)(hn:nm.length<=2)(rd:Rd (gl G) m t)(hz:t.size<=20000):∃A h' kv,Zm9 (run P<|n+5) (O "Copier") [.ref k,nI m,.ref mk] h=.ok (.ref A.o) h'/\A.k=k/\A.m=mk/\h.length<=A.n/\h.length<=A.w/\Sc A G kv md h' h' [] [] []/\Zjv G kv/\Zqi G kv/\inN kv (m,nm)=Wq/\Fm [] h h':=by
 have lk:=Zv hk;unfold Zm9;rw[ZfG H.n_Copier___init__ H.Copier___init__ rfl];have nk:∀{i o},h[i]?=J o->i≠h.length:=λe z=>by have:=Zv e;lia
 have q:(h++[Zay []])[h.length]?=J (Zay []):=ZL;have F:xs1 (P.tbl<|n+4) ZbC [J<|.ref h.length,J<|.ref k,J<|nI m,J<|.ref mk] (h++[Zay []])=.ok (.nx,[J<|.ref h.length,J<|.ref k,J<|nI m,J<|.ref mk]) ((h++[Zay []]).set h.length<|Zay [(O "cells",.ref k)]):=Zij rfl rfl q (by simp);have K:Fm [h.length] h ((h++[Zay []]).set h.length<|Zay [(O "cells",.ref k)]):=Fm.app.I (.set<|by simp);have s:=Zc9 (y:=Zay [(O "cells",.ref k)]) q;generalize (h++[Zay []]).set h.length (Zay [(O "cells",.ref k)])=R at *;have L:xs1 (P.tbl<|n+4) ZbB [J<|.ref h.length,J<|.ref k,J<|nI m,J<|.ref mk] R=.ok (.nx,[J<|.ref h.length,J<|.ref k,J<|nI m,J<|.ref mk]) (R.set h.length<|Zay [(O "cells",.ref k),(O "meant",.ref mk)]):=(Zij rfl rfl s<|by simp).I (by simp[Zin]);have j:Fm [h.length] h (R.set h.length<|Zay [(O "cells",.ref k),(O "meant",.ref mk)]):=K.I (.set<|by simp);have u:=Zc9 (y:=Zay [(O "cells",.ref k),(O "meant",.ref mk)]) s;generalize R.set h.length (Zay [(O "cells",.ref k),(O "meant",.ref mk)])=f at *;obtain⟨g,b,kv,N,Q,lf,gD,ok,S,inn⟩:=Zv5 H n (j.at hk<|by simpa using nk hk) rd hz hn;have T:ev (P.tbl<|n+4) (.call (O "free_beneath")<|.cons (.var 1)<|.cons (.var 2)<|.cons (.blt .tdk<|.cons (.var 3) .nil) .nil) [J<|.ref h.length,J<|.ref k,J<|nI m,J<|.ref mk] f=.ok (.ref b) g:=Zl N (Zb rfl<|Zb rfl<|Zb (Zb1 (Zb rfl rfl)<|ZuZ (j.at hm<|by simpa using nk hm) ks so) rfl);have v:=gD.at u (by simp);have U:xs1 (P.tbl<|n+4) ZbA [J<|.ref h.length,J<|.ref k,J<|nI m,J<|.ref mk] f=.ok (.nx,[J<|.ref h.length,J<|.ref k,J<|nI m,J<|.ref mk]) (g.set h.length<|Zay [(O "cells",.ref k),(O "meant",.ref mk),(O "free",.ref b)]):=(Zij T rfl v<|by simp).I (by simp[Zin]);have V:Fm [h.length] h (g.set h.length<|Zay [(O "cells",.ref k),(O "meant",.ref mk),(O "free",.ref b)]):=(j.I<|gD.sub<|by simp).I (.set<|by simp);have l:b≠h.length:=by have:=Zv u;lia
 have x:=ZO (y:=Zay [(O "cells",.ref k),(O "meant",.ref mk),(O "free",.ref b)]) Q l;have B:=Zc9 (y:=Zay [(O "cells",.ref k),(O "meant",.ref mk),(O "free",.ref b)]) v;generalize g.set h.length (Zay [(O "cells",.ref k),(O "meant",.ref mk),(O "free",.ref b)])=a at *;have C:(a++[DO.dnk []])[h.length]?=J _:=keep B;have W:(a++[DO.dnk []])[a.length]?=J (.dnk []):=ZL;have X:(a++[DO.dnk []])[b]?=J (.dnk kv):=keep x;have Y:xs1 (P.tbl<|n+4) Zbz [J<|.ref h.length,J<|.ref k,J<|nI m,J<|.ref mk] a=.ok (.nx,[J<|.ref h.length,J<|.ref k,J<|nI m,J<|.ref mk]) ((a++[DO.dnk []]).set h.length<|Zay [(O "cells",.ref k),(O "meant",.ref mk),(O "free",.ref b),(O "known",.ref a.length)]):=(Zij rfl rfl C<|by simp).I (by simp[Zin]);have l4:=Zv B;have ny:=Zv x;have Z:Fm [h.length] h ((a++[DO.dnk []]).set h.length<|Zay [(O "cells",.ref k),(O "meant",.ref mk),(O "free",.ref b),(O "known",.ref a.length)]):=(V.I .app).I (.set<|by simp);have kS:=ZO (y:=Zay [(O "cells",.ref k),(O "meant",.ref mk),(O "free",.ref b),(O "known",.ref a.length)]) W (show a.length≠h.length by lia);have kU:=ZO (y:=Zay [(O "cells",.ref k),(O "meant",.ref mk),(O "free",.ref b),(O "known",.ref a.length)]) X l;have E:=Zc9 (y:=Zay [(O "cells",.ref k),(O "meant",.ref mk),(O "free",.ref b),(O "known",.ref a.length)]) C;have l5:((a++[DO.dnk []]).set h.length<|Zay [(O "cells",.ref k),(O "meant",.ref mk),(O "free",.ref b),(O "known",.ref a.length)]).length=a.length+1:=by simp
 generalize (a++[DO.dnk []]).set h.length (Zay [(O "cells",.ref k),(O "meant",.ref mk),(O "free",.ref b),(O "known",.ref a.length)])=c at *;have q5:ev (P.tbl<|n+4) (.lstl .nil) [J<|.ref h.length,J<|.ref k,J<|nI m,J<|.ref mk] c=.ok (.ref c.length) (c++[.lst []]):=ZkS rfl (by simp);have x5:xs1 (P.tbl<|n+4) Zby [J<|.ref h.length,J<|.ref k,J<|nI m,J<|.ref mk] c=.ok (.nx,[J<|.ref h.length,J<|.ref k,J<|nI m,J<|.ref mk]) ((c++[DO.lst []]).set h.length<|cpD ⟨h.length,k,mk,b,a.length,c.length⟩):=(Zij q5 rfl (keep E)<|by simp).I (by simp[Zin,cpD,Zay]);have kN:(c++[DO.lst []])[c.length]?=J (.lst []):=ZL;have w:xs2 (P.tbl<|n+4) ZcG [J<|.ref h.length,J<|.ref k,J<|nI m,J<|.ref mk] (h++[Zay []])=.ok (.nx,_) _:=(Za F).I<|(Za L).I<|(Za U).I<|(Za Y).I<|(Za x5).I rfl;have p:Fm [h.length] h ((c++[DO.lst []]).set h.length<|cpD ⟨h.length,k,mk,b,a.length,c.length⟩):=(Z.I .app).I (.set<|by simp);refine⟨⟨h.length,k,mk,b,a.length,c.length⟩,(c++[DO.lst []]).set h.length<|cpD ⟨h.length,k,mk,b,a.length,c.length⟩,kv,?_,rfl,rfl,by show h.length<=a.length;lia,by show h.length<=c.length;lia,⟨Zc9<|keep E,by rw[Yt];exact p.at hk<|by simpa using nk hk,p.at hm<|by simpa using nk hm,ZO (keep kU) l,ZO (keep kS) (by show a.length≠h.length;lia),ZO kN (by show c.length≠h.length;lia),.refl,by show k≠c.length;lia,by show b≠a.length;lia⟩,ok,S,inn,p.cut λi hi=>.inr (by simp at hi;lia)⟩;have:=congrArg (λr=>(Zn r).bind λd f=>match d with|.non=>qd.ok (D.ref h.length) f|_=>qd.bad) w;exact this
def Pu.none:Pu G kv md nm [] [] [] []:=⟨rfl,.nil,λ_ h=>(by cases h),λ_ h=>(by cases h),λj p h=>(by cases h)⟩
def Zy0(H:Gs P)(n){A}{G}{kv}{md}{nm}{qb}{h}{m y}{t}(s:Sc A G kv md h h [] [] [])(ks:Z0 md=J nm)(so:nm.all Yp=Wq)(hn:nm.length<=2)(ne:nm≠[])(hy:y<G.length)(rd:Rd (wo (gl G) y) m t)(hz:t.size<=20000)(mt:Mt G md qb nm)(mw:∀x∈nm,∀a v,Zw md (.inr x)=J (nI a)->get (qb.map λp=>(p.1,J p.2)) x=J v->Rd (wo (gl G) y) a v)(ok:Zjv G kv)(cd:Zqi G kv)(i:inN kv (m,nm)=Wq)(lG:G.length<=60000):∃N num h',run P (n+4) (mnm (O "Copier")<|O "copied") [.ref A.o,nI m] h=.ok (nI num) h'/\h'[A.k]?=J (cl<|G++N)/\Rd (wo (gl<|G++N) y) num (sub (arN qb nm) t)/\N.length<=cc nm t/\Fm [A.k,A.n,A.w] h h'/\∃K,Pu G kv md nm K N [] []/\Std G md K (m,nm) num:=by have big:=H.b.big;have D:=ZcX nm t;obtain⟨num,R,K1,N1,W1,q,r,u,e,_,z,B⟩:=Zod H (n+1) (p:=(m,nm)) (X:=[]) s Pu.none ⟨rd.mono ZJ,i,ne,hn,λ_ h=>h⟩ mt ok (by simp;lia) (by simp);simp only[List.length_nil,Nat.zero_add,show dz []=0 from rfl,show smz []=0 from rfl]at z B;obtain⟨f,K2,N2,C,g,d,⟨L,j⟩,E⟩:=ZlV H n (S:=[J<|.ref A.o,J<|nI m,J<|nI num]) mt ok cd rfl P.L R K1 N1 W1 r u (by lia) (by lia) (by lia);refine⟨N2,num,f,?_,g.c,ZqN hy mt mw d t.size t (m,nm) num (Oq _) rd (j▸e.mono L) λ_ h=>h,by rw[d.l];lia,g.fm,K2,d,j▸e.mono L⟩;rw[ZfG H.n_Copier_copied H.Copier_copied rfl];have w:xs2 (P.tbl<|n+3) ZdX [J<|.ref A.o,J<|nI m,M] h=.ok (.rt<|nI num,_) f:=(Za<|Zg (i:=2)<|Zj5 (i:=A.o) rfl s.o rfl (Zb rfl<|Zb (Zb1 (Zb (ZAm s.o rfl) rfl)<|ZuZ s.m ks so) rfl) q).I<|(Za (s:=ZcF)<|ZeQ.I C).I<|Zc<|Zm rfl;exact congrArg Zn w
def Zv7(H:Gs P)(n){S}{es}{e}{G}{h}{k mk m y}{md}{nm}{qb}{t}(l9:evs (P.tbl<|n+5) es S h=.ok [.ref k,nI m,.ref mk] h)(he:∀h,ev (P.tbl<|n+5) e S h=.ok (nI m) h)(hk:h[k]?=J (cl G))(hm:h[mk]?=J (.dic md))(ks:Z0 md=J nm)(so:nm.all Yp=Wq)(hn:nm.length<=2)(ne:nm≠[])(hy:y<G.length)(rd:Rd (wo (gl G) y) m t)(hz:t.size<=20000)(mt:Mt G md qb nm)(mw:∀x∈nm,∀a v,Zw md (.inr x)=J (nI a)->get (qb.map λp=>(p.1,J p.2)) x=J v->Rd (wo (gl G) y) a v)(lG:G.length<=60000):∃N num h',ev (P.tbl<|n+5) (.mcl (O "Copier") (O "copied") (.mk (O "Copier") es)<|.cons e .nil) S h=.ok (nI num) h'/\h'[k]?=J (cl<|G++N)/\Rd (wo (gl<|G++N) y) num (sub (arN qb nm) t)/\N.length<=cc nm t/\Fm [k] h h'/\∃kv K,Pu G kv md nm K N [] []/\Std G md K (m,nm) num:=by
 obtain⟨A,R,kv,w,rfl,rfl,l1,l2,b,ok,d,i,f⟩:=ZyW H n hk hm ks so hn (rd.mono ZJ) hz;obtain⟨N,num,z,g,l,q,r,s,u⟩:=Zy0 H _ b ks so hn ne hy rd hz mt mw ok d i lG;refine⟨N,_,_,?_,l,q,r,((f.sub<|by simp).I s).cut λj c=>?_,_,u⟩
 . refine Zj5 ?_ b.o rfl (Zb (he _) rfl) g;rw[Zvj,l9];trivial
 . simp at c ⊢;rcases c with rfl|rfl|rfl
   . simp
   . exact .inr l1
   . exact .inr l2
def Zlg(qb:List (Str×T)):arN qb (qb.map (·.1))=Fil.ar qb:=by unfold arN Fil.ar;rw[List.filter_eq_self.mpr];intro p a;exact decide_eq_true (List.mem_map_of_mem a)
def ccF:T->Nat
 |.fn x e=>cc [x] e
 |.rcc f x e=>cc [f,x] e
 |_=>0
def ZxH(t):ccF t<=t.size:=by
 cases t with
 |fn x e=>have:=ZcX [x] e;have:=zf x e;simp only[ccF];lia
 |rcc f x e=>have:=ZcX [f,x] e;have:=zr f x e;simp only[ccF];lia
 |_=>exact Yy _
inductive MdX:Gc->Nat->Nat->List (Key×D)->List Str->Prop
 |fn {iF iA b x}:MdX (.fn x b) iF iA [(.inr x,nI iA)] [x]
 |rc {iF iA b g x}:g≠x->MdX (.rcc g x b) iF iA [(.inr g,nI iF),(.inr x,nI iA)] [g,x]
inductive How(G:List Gc)(y iF iA:Nat)(tF tA:T)(N:List Gc)(num:Nat)(s':T):Prop
 |mk (md:List (Key×D)) (nm:List Str) (qb:List (Str×T)) (kv:List (NK×D)) (K:List Pr) (b:Nat) (t:T) (c:Gc) (e:gl G iF=J c) (eb:c.ps=[b]) (v:c.isV=Wq) (rb:Rd (wo (gl G) y) b t) (es:s'=sub (arN qb nm) t) (pu:Pu G kv md nm K N [] []) (sd:Std G md K (b,nm) num) (cond:∀x∈nm,(Zw md (.inr x)=J (nI iF)/\get (qb.map λp=>(p.1,J p.2)) x=J tF)\/(Zw md (.inr x)=J (nI iA)/\get (qb.map λp=>(p.1,J p.2)) x=J tA)) (mx:MdX c iF iA md nm)
def v6(k iF iA:Nat)(a b c:Option D):Ev:=[J<|.ref k,J<|nI iF,J<|nI iA,a,b,c]
inductive Cld(P:Pg)(n:Nat)(G:List Gc)(h:Hd)(k iF iA y:Nat)(tF tA:T):Prop
 |no (b:bec (.call tF tA)=M) (q:run P (n+6) (O "called") [.ref k,nI iF,nI iA] h=.ok .non h)
 |yes (s':T) (N:List Gc) (num:Nat) (c':Gc) (h':Hd) (b:bec (.call tF tA)=J s') (q:run P (n+6) (O "called") [.ref k,nI iF,nI iA] h=.ok c'.d h') (k':h'[k]?=J (cl (G++N))) (m:Fm [k] h h') (e:(G++N)[num]?=J c') (r:Rd (wo (gl (G++N)) y) num s') (n':N.length<=ccF tF) (hw:How G y iF iA tF tA N num s')
section
variable {G:List Gc}{h:Hd}{k iF iA y b:Nat}{md:List (Key×D)}{nm:List Str}{qb:List (Str×T)}{t tA:T}{c:Gc}
inductive Cop(G:List Gc)(h:Hd)(k y b:Nat)(md:List (Key×D))(nm:List Str)(qb:List (Str×T))(t:T)(r:qd D):Prop
 |mk (N:List Gc) (num:Nat) (c':Gc) (h':Hd) (q:r=.ok c'.d h') (k':h'[k]?=J (cl (G++N))) (m:Fm [k] h h') (e:(G++N)[num]?=J c') (r:Rd (wo (gl (G++N)) y) num (sub (Fil.ar qb) t)) (n:N.length<=cc nm t) (kv:List (NK×D)) (K:List Pr) (pu:Pu G kv md nm K N [] []) (sd:Std G md K (b,nm) num)
def Zo5(H:Gs P)(n)(hk:h[k]?=J (cl G))(hy:y<G.length)(lG:G.length<=60000)(hb:c.ps=[b])(hM:qb.map (·.1)=nm)(ks:Z0 md=J nm)(so:nm.all Yp=Wq)(hn:nm.length<=2)(ne:nm≠[])(rd:Rd (wo (gl G) y) b t)(hz:t.size<=20000)(mt:Mt G md qb nm)(mw:∀x∈nm,∀a v,Zw md (.inr x)=J (nI a)->get (qb.map λp=>(p.1,J p.2)) x=J v->Rd (wo (gl G) y) a v):
 Cop G h k y b md nm qb t (Zn<|xs2 (P.tbl<|n+5) (.cons Zjt<|.cons Zjs .nil) (v6 k iF iA (J c.d) (J<|.ref h.length) M)<|h++[.dic md]):=by
 have m:(h++[DO.dic md])[k]?=J (cl G):=keep hk;have o:(h++[DO.dic md])[h.length]?=J (.dic md):=ZL;have q:Fm [k] h (h++[DO.dic md]):=.app;obtain⟨N,f,r,s,j,g,u,w,z,K,A,B⟩:=Zv7 H n (S:=v6 k iF iA (J c.d) (J<|.ref h.length)<|J<|nI b) (es:=.cons (.var 0)<|.cons (.var 5)<|.cons (.var 4) .nil) (e:=.var 5) rfl (λ_=>rfl) m o ks so hn ne hy rd hz mt mw lG;obtain⟨C,l,_,_⟩:=g.inv;rw[<-hM,Zlg]at g;exact⟨N,f,C,r,congrArg Zn<|(Za<|Zg (i:=5)<|(Zf (Zl (Zh7 H.b.toTre (n+4) c) rfl) rfl).I (by rw[hb];rfl)).I<|Zc<|Zm<|(Zf (x:=.ref k) rfl s).I<|(ZE j).I (by rw[ZxZ<|ZJ _ _ l];rfl),j,q.I w,ZJ _ _ l,g,u,z,K,A,B⟩
def Zso(hk:h[k]?=J (cl G))(e:G[iF]?=J c):xs1 (P.tbl<|n+5) Zju (v6 k iF iA M M M) h=.ok (.nx,v6 k iF iA (J c.d) M M) h:=Zg (Zy rfl rfl hk e)
theorem ZxM(H:Gs P)(n){x}(hk:h[k]?=J (cl G))(hy:y<G.length)(lG:G.length<=60000)(e:G[iF]?=J (.fn x b))(rb:Rd (wo (gl G) y) b t)(rA:Rd (wo (gl G) y) iA tA)(wx:Yp x=Wq)(hz:t.size<=20000):Cld P n G h k iF iA y (.fn x t) tA:=by
 have vx:Zw [(.inr x,nI iA)] (.inr x)=J (nI iA):=by simp [Zw]
 have d:Tm.get (([(x,tA)]).map λp=>(p.1,J p.2)) x=J tA:=by simp [Tm.get]
 obtain⟨N,g,A,f,q,j,l,m,o,r,s,K,u,w⟩:=Zo5 H n (nm:=[x]) hk hy lG (c:=.fn x b) rfl rfl rfl (by simp_all) (by simp) (by simp) rb hz ⟨λz hz=>by
   rw [Ox.mp hz];exact⟨_,_,vx,d,rA.mono ZJ⟩⟩ (λz hz a v R f=>by
   rw [Ox.mp hz] at R f;rw [<-ZbL (YF<|vx.symm.I R),<-YF (d.symm.I f)];exact rA)
 exact .yes _ N _ _ _ rfl ((Ze H.called rfl).I ((congrArg _ ((Za<|Zso hk e).I ((Za<|(Zi<|Zh (ZcO (x:=Str.ofString _) rfl rfl)<|by simp).I rfl).I (Za ((Zq<|Zh (ZcO (x:=Str.ofString _) rfl rfl)<|decide_eq_true rfl).I ((Za (Zg (i:=4) (by
   rw [Zeh,show evs (P.tbl<|n+5) _ _ h=.ok [.str x,nI iA] h from Zb rfl (Zb rfl rfl),Zz];simp [ZaX,keyOf,Zbi,putD]))).I rfl)))))).I q)) j l m o r ⟨_,[x],[(x,tA)],s,K,b,t,_,e,rfl,rfl,rb,by rw [show [x]=[(x,tA)].map (·.1) from rfl,Zlg],u,w,λz hz=>.inr (by rw [Ox.mp hz];exact⟨vx,d⟩),.fn⟩
theorem ZxL(H:Gs P)(n){g x}(hk:h[k]?=J (cl G))(hy:y<G.length)(lG:G.length<=60000)(e:G[iF]?=J (.rcc g x b))(rb:Rd (wo (gl G) y) b t)(rF:Rd (wo (gl G) y) iF (.rcc g x t))(rA:Rd (wo (gl G) y) iA tA)(wg:Yp g=Wq)(wx:Yp x=Wq)(bZ:g≠x)(hz:t.size<=20000):Cld P n G h k iF iA y (.rcc g x t) tA:=by
 have vg:Zw [(.inr g,nI iF),(.inr x,nI iA)] (.inr g)=J (nI iF):=by simp [Zw]
 have vx:Zw [(.inr g,nI iF),(.inr x,nI iA)] (.inr x)=J (nI iA):=by simp [Zw,bZ]
 have gg:Tm.get (([(g,T.rcc g x t),(x,tA)]).map λp=>(p.1,J p.2)) g=J (T.rcc g x t):=by simp [Tm.get]
 have gx:Tm.get (([(g,T.rcc g x t),(x,tA)]).map λp=>(p.1,J p.2)) x=J tA:=by simp [Tm.get,bZ]
 obtain⟨N,num,c',h2,q,e2,e3,e4,e5,e6,kv,K,pu,sd⟩:=Zo5 H n (iF:=iF) (iA:=iA) (md:=[(.inr g,nI _),(.inr x,nI _)]) (nm:=[g,x]) (qb:=[(g,.rcc g x t),(x,tA)]) hk hy lG (c:=.rcc g x b) rfl rfl rfl (by simp_all) (by simp) (by simp) rb hz ⟨λz hz=>by
   rcases O2.mp hz with rfl|hz
   . exact⟨iF,_,vg,gg,rF.mono ZJ⟩
   . rw [Ox.mp hz];exact⟨iA,tA,vx,gx,rA.mono ZJ⟩⟩ (λz hz a v R h2=>by
   rcases O2.mp hz with rfl|hz
   . rw [<-ZbL (YF<|vg.symm.I R),<-YF (gg.symm.I h2)];exact rF
   . rw [Ox.mp hz] at R h2;rw [<-ZbL (YF<|vx.symm.I R),<-YF (gx.symm.I h2)];exact rA)
 exact .yes _ N num c' h2 (by simp only [bec,Zr2,if_neg bZ]) ((Ze H.called rfl).I ((congrArg Zn ((Za<|Zso hk e).I ((Za<|(Zi<|Zh (ZcO (x:=O "rec") rfl rfl)<|by simp).I rfl).I (Za ((Zi<|Zh (ZcO (x:=O "rec") rfl rfl)<|by simp).I ((Za (Zg (i:=4) (by
   rw [Zeh,show evs (P.tbl<|n+5) _ _ h=.ok [.str g,nI iF,.str x,nI iA] h from Zb rfl (Zb rfl<|Zb rfl<|Zb rfl rfl),Zz];simp [ZaX,keyOf,Zbi,putD,bZ]))).I rfl)))))).I q)) e2 e3 e4 e5 e6 ⟨_,[g,x],[(g,.rcc g x t),(x,tA)],kv,K,b,t,_,e,rfl,rfl,rb,by rw [show [g,x]=[(g,T.rcc g x t),(x,tA)].map (·.1) from rfl,Zlg],pu,sd,λz hz=>by
   rcases O2.mp hz with rfl|hz
   . exact .inl ⟨vg,gg⟩
   . rw [Ox.mp hz];exact .inr ⟨vx,gx⟩,.rc bZ⟩
end
def ZqV(H:Gs P)(n){G}{h}{k iF iA y}{tF tA}(hk:h[k]?=J (cl G))(hy:y<G.length)(rF:Rd (wo (gl G) y) iF tF)(rA:Rd (wo (gl G) y) iA tA)(vF:Tm.isV tF=Wq)(cF:Gn.Cl [] tF)(zF:tF.size<=20000)(lG:G.length<=60000):Cld P n G h k iF iA y tF tA:=by
 have r:=rF;cases r with
 |num e=>exact .no rfl ((Ze H.called rfl).I<|congrArg _<|(Za<|Zso hk<|ZJ _ _ e).I<|Zc<|(Zq<|Zh (ZcO rfl rfl)<|decide_eq_true rfl).I<|Zc<|Zm rfl)
 |fn e rb=>exact ZxM H n hk hy lG (ZJ _ _ e) rb rA cF.2.1 (by rw[zf]at zF;lia)
 |rcc e rb=>exact ZxL H n hk hy lG (ZJ _ _ e) rb rF rA cF.2.2.1.1 cF.2.2.2.1 cF.2.1 (by rw[zr]at zF;lia)
 |_=>trivial
end
section
variable {P:Pg}{h:Hd}
def ZqU(H:Gs P)(n)(c:Gc)(hv:c.isV=Wq)(a b):run P (n+1) (O "chosen") [c.d,a,b] h=.ok (match c with|.num z=>if z=0 then b else a|_=>.non) h:=by
 rw[Ze H.chosen<|rfl];cases c with
 |num z=>by_cases e:z=0<;>simp[ZiV,Zmx,ZG,Gc.d,Gc.fr,e]
 |fn x e=>trivial
 |rcc f x e=>trivial
 |_=>trivial
def ZlA(H:Gs P)(n)(w:Wd)(a b:Gc)(va:a.isV=Wq)(vb:b.isV=Wq)(no:¬ ∃x y,a=.num x/\b=.num y):run P (n+1) (O "worked") [.str w.s,a.d,b.d] h=.ok .non h:=by
 have k:xs1 (P.tbl n) Zjb [J<|.str w.s,J a.d,J b.d] h=.ok (.rt .non,[J<|.str w.s,J a.d,J b.d]) h:=by
  cases a with
  |num x=>
   cases b with
   |num y=>exact absurd ⟨x,y,rfl,rfl⟩ no
   |fn _ _=>trivial
   |rcc _ _ _=>trivial
   |_=>trivial
  |fn _ _=>trivial
  |rcc _ _ _=>trivial
  |_=>trivial
 rw[Ze H.worked<|rfl];exact rt1 k rfl
def ccR:T->Nat
 |.call f _=>ccF f
 |_=>0
def ZxG(t):ccR t<=t.size:=by
 cases t with
 |call f a=>have:=ZxH f;have:=zc f a;simp only[ccR];lia
 |_=>exact Yy _
def ZnD(t u)(r:Red t)(c:Gn.Cl [] t)(e:bec t=J u):Gn.Cl [] u:=by
 cases t with
 |call F A=>
  cases F with
  |fn x b=>cases e;exact Zdp b (Zr1 (by simp;exact c.2) _<|by simp) c.1.1
  |rcc f x b=>cases e;simp[Zr2,if_neg c.1.2.1];exact Zdp b (Zr1 (by simp;trivial) _<|by simp) c.1.1
  |_=>cases e
 |iff a b d=>
  cases a with
  |num m=>
   simp[bec]at e;subst e;split
   . exact c.2.2
   . exact c.2.1
  |_=>cases e
 |op w a b=>
  cases a with
  |num x=>
   cases b with
   |num y=>cases e;exact _root_.Rw.wk_ok w x y
   |_=>cases e
  |_=>cases e
 |_=>cases r
inductive Src(G:List Gc)(y:Nat)(N:List Gc)(c':Gc):Gc->T->T->Prop
 |call {iF iA num:Nat}{tF tA s':T}:(G++N)[num]?=J c'->How G y iF iA tF tA N num s'->Src G y N c' (.call iF iA) (.call tF tA) s'
 |thn {iC iT iE:Nat}{z:Int}{tT tE:T}:N=[]->G[iT]?=J c'->z≠0->Src G y N c' (.iff iC iT iE) (.iff (.num z) tT tE) tT
 |els {iC iT iE:Nat}{tT tE:T}:N=[]->G[iE]?=J c'->Src G y N c' (.iff iC iT iE) (.iff (.num 0) tT tE) tE
 |num {iA iB:Nat}{w:Wd}{x z:Int}:N=[]->c'=.num (_root_.Rw.wk w x z)->Src G y N c' (.op w iA iB) (.op w (.num x) (.num z)) (.num (_root_.Rw.wk w x z))
structure Wr(c0:Gc)(s:T)(G:List Gc)(k y:Nat)(h:Hd)(s':T)(N:List Gc)(c':Gc)(h':Hd):Prop where
 c:h'[k]?=J (cl<|G++N)
 m:Fm [k] h h'
 f:Fit c' s'
 p:Paired (Rd<|wo (gl<|G++N) y) c'.ps s'.parts
 n:N.length<=ccR s
 x:Src G y N c' c0 s s'
def Zpf{G}{k:Nat}(hk:h[k]?=J (cl G)):h[k]?=J (cl<|G++[]):=by simp_all
def Zh6{G}{i}{c}{t}(e:G[i]?=J c)(v:c.isV=Wq)(r:Rd (gl G) i t):Tm.isV t=Wq/\Fit c t:=by obtain⟨b,a,f,_⟩:=r.at;rw[e]at a;cases a;exact⟨((ZcL f).2.2.1).symm.I v,f⟩
inductive Wrn(P:Pg)(n:Nat)(G:List Gc)(h:Hd)(k y:Nat)(c:Gc)(s:T):Prop
 |no (q:run P (n+7) (O "written") [.ref k,c.d] h=.ok .non h) (b:bec s=M)
 |yes (s':T) (N:List Gc) (c':Gc) (h':Hd) (q:run P (n+7) (O "written") [.ref k,c.d] h=.ok c'.d h') (b:bec s=J s') (cs:Gn.Cl [] s') (w:Wr c s G k y h s' N c' h')
section
variable {G:List Gc}{k y:Nat}
def ZsJ(H:Gs P)(n){iF iA}{tF tA}(hk:h[k]?=J (cl G))(hy:y<G.length)(rF:Rd (wo (gl G) y) iF tF)(rA:Rd (wo (gl G) y) iA tA)(vF:Tm.isV tF=Wq)(vA:Tm.isV tA=Wq)(cs:Gn.Cl [] (.call tF tA))(hz:(T.call tF tA).size<=20000)(lG:G.length<=60000):Wrn P n G h k y (.call iF iA) (.call tF tA):=by
 have up:∀{d}{h'},run P _ _ _ h=.ok d _->run P (n+7) _ [.ref k,(Gc.call iF iA).d] h=.ok d h':=λ{d h'} q=>(Ze H.written rfl).I<|congrArg _<|Zc<|(Zq<|Zh (ZcO rfl rfl)<|decide_eq_true rfl).I<|Zc<|Zm<|Zl q rfl;rw[zc]at hz;rcases ZqV H n hk hy rF rA vF cs.1 (by lia) lG with⟨b,q⟩|⟨p,N,c,r,h',b,q,e,f,a,g,i,j⟩
 . exact .no (up q) b
 . obtain⟨s,l,m,o⟩:=g.inv;cases (ZJ _ _ l).symm.I a;exact .yes _ N _ _ (up q) b (ZnD (.call _ _) _ ⟨vF,vA⟩ cs b) ⟨e,f,m,o,i,.call a j⟩
def Zyg(H:Gs P)(n){iC iT iE}{c1}{tC tT tE}(hk:h[k]?=J (cl G))(e1:G[iC]?=J c1)(v1:c1.isV=Wq)(rC:Rd (gl G) iC tC)(rT:Rd (wo (gl G) y) iT tT)(rE:Rd (wo (gl G) y) iE tE)(cs:Gn.Cl [] (.iff tC tT tE)):Wrn P n G h k y (.iff iC iT iE) (.iff tC tT tE):=by
 have up:∀{d},run P _ _ _ h=.ok d h->run P (n+7) _ [.ref k,(Gc.iff iC iT iE).d] h=.ok d h:=λ{d} q=>(Ze H.written rfl).I<|congrArg _<|(Za<|(Zi<|Zh (ZcO rfl rfl)<|rfl).I rfl).I<|Zc<|(Zq<|Zh (ZcO rfl rfl)<|decide_eq_true rfl).I<|Zc<|Zm<|Zl q rfl;have f:=ZqU H (n+4) _ v1 (nI iT) (nI iE) (h:=h);have no:run P _ _ _ h=.ok _ h->run P (n+6) _ [.ref k,(Gc.iff _ iT iE).d] h=.ok _ h:=λq=>(Ze H.gone_on rfl).I<|congrArg _<|(Za<|(λq=>Zg<|Zl q<|Zb (Zy rfl rfl hk e1) rfl) q).I<|Zc<|(Zq<|ZzQ rfl).I<|Zc<|Zm rfl;have yes:∀{i}{c':Gc},run P _ _ _ h=.ok (nI i) h->G[i]?=J _->run P (n+6) _ [.ref k,(Gc.iff _ iT iE).d] h=.ok c'.d h:=λ{i c'} q a=>(Ze H.gone_on rfl).I (congrArg Zn<|(Za<|(λq=>Zg (i:=2)<|Zl q<|Zb (Zy (k:=k) (n:=iC) rfl rfl hk e1) rfl) q).I<|(Za<|(Zi<|ZzR (x:=nI i) rfl<|by simp[nI]).I rfl).I<|Zc<|Zm<|Zy rfl rfl hk a);cases rC with
 |num e=>
  cases (e1.symm.I e);rename_i z;have go:∀{i:Nat}{t:T},run P (n+5) (O "chosen") [(Gc.num z).d,nI iT,nI iE] h=.ok (nI i) h->Rd (wo (gl G) y) i t->bec (.iff (.num z) tT tE)=J t->(∀c',G[i]?=J c'->Src G y [] c' (.iff iC iT iE) (.iff (.num z) tT tE) t)->Wrn P n G h k y (.iff iC iT iE) (.iff (.num z) tT tE):=λ{i t} q g b j=>by obtain⟨c',a,l,m⟩:=g.inv;exact .yes t [] c' h (up<|yes q<|ZJ _ _ a) b (ZnD (.iff (.num z) tT tE) t rfl cs b) ⟨Zpf hk,.refl,l,by rw[Yt];exact m,Yy _,j c'<|ZJ _ _ a⟩
  by_cases c:z=0
  . subst c;exact go (i:=iE) (t:=tE) (f.I<|by simp) rE (by simp[bec]) (λ_ e=>.els rfl e)
  . exact go (i:=iT) (t:=tT) (f.I<|by simp[c]) rT (by simp[bec,c]) (λ_ e=>.thn rfl e c)
 |fn e _|rcc e _=>cases (e1.symm.I e);exact .no (up<|no f) rfl
 |name e|call e _ _|op e _ _|iff e _ _ _=>cases (e1.symm.I e);cases v1
def Zry{c}{t}(e:G[i]?=J c)(r:Rd (gl G) i t):(∃z,c=.num z/\t=.num z)\/((∀z,c≠.num z)/\∀z,t≠.num z):=by
 cases r with
 |num q=>cases (e.symm.I q);exact .inl ⟨_,rfl,rfl⟩
 |name q|fn q _|rcc q _|call q _ _|op q _ _|iff q _ _ _=>cases (e.symm.I q);simp
def ZxS{w}{a b}(h:(∀z,a≠.num z)\/∀z,b≠.num z):bec (.op w a b)=M:=by
 cases a with
 |num x=>
  cases b with
  |num z=>simp_all
  |_=>rfl
 |_=>rfl
def Zyf(H:Gs P)(n){w}{iA iB}{c1 c2}{tA tB}(hk:h[k]?=J (cl G))(e1:G[iA]?=J c1)(v1:c1.isV=Wq)(e2:G[iB]?=J c2)(v2:c2.isV=Wq)(rA:Rd (gl G) iA tA)(rB:Rd (gl G) iB tB)(cs:Gn.Cl [] (.op w tA tB)):Wrn P n G h k y (.op w iA iB) (.op w tA tB):=by
 have up:∀{d:D},run P (n+6) (O "worked") [.str w.s,c1.d,c2.d] h=.ok d h->run P (n+7) (O "written") [.ref k,(Gc.op w iA iB).d] h=.ok d h:=λ{d} q=>by exact(Ze H.written rfl).I (congrArg Zn<|(Za<|(Zi<|Zh (ZcO ((Zf rfl rfl).I rfl) rfl) (by cases w<;>simp[Wd.s])).I rfl).I<|(Za<|(Zi<|Zh (ZcO ((Zf rfl rfl).I rfl) rfl) (by cases w<;>simp[Wd.s])).I rfl).I<|Zc<|Zm<|Zl q<|Zb ((Zf rfl rfl).I rfl)<|Zb (Zy (k:=k) (n:=iA) rfl rfl hk e1)<|Zb (Zy (k:=k) (n:=iB) rfl rfl hk e2) rfl)
 have no:¬ (∃x y,c1=.num x/\c2=.num y)->((∀z,tA≠.num z)\/∀z,tB≠.num z)->Wrn P n G h k y (.op w iA iB) (.op w tA tB):=λc bn=>.no (up<|ZlA H (n+5) w c1 c2 v1 v2 c)<|ZxS bn;rcases Zry e1 rA with⟨x,rfl,rfl⟩|⟨a,b⟩
 . rcases Zry e2 rB with⟨z,rfl,rfl⟩|⟨a,b⟩
   . exact .yes (.num<|_root_.Rw.wk w x z) [] (.num<|_root_.Rw.wk w x z) h (up<|_root_.Rw.worked_nn H.worked H.gb (n+5) w cs.1 cs.2) rfl (ZnD (.op w (.num x)<|.num z) _ ⟨rfl,rfl⟩ cs rfl) ⟨Zpf hk,.refl,rfl,.nil,Yy _,.num rfl rfl⟩
   . exact no (λ⟨_,z,_,q⟩=>a z q) (.inr b)
 simp_all
end
def Zpu(H:Gs P)(n){G}{k y}{c}{s}(hk:h[k]?=J (cl G))(rd:Rd (gl G) y s)(e:G[y]?=J c)(nv:Tm.isV s=Ws)(cs:Gn.Cl [] s)(hz:s.size<=20000)(wv:∀m∈c.pf,∃c,G[m]?=J c/\c.isV=Wq)(lG:G.length<=60000):Wrn P n G h k y c s:=by
 have r:=rd;cases r with
 |num _|fn _ _|rcc _ _=>trivial
 |name _=>trivial
 |call q rF d=>cases (e.symm.I q);obtain⟨i,a,b⟩:=wv _<|.head _;obtain⟨j,f,g⟩:=wv _<|.tail _<|.head _;exact ZsJ H n hk (Ob.mp e).1 (Rd.wo rd rF (by rw[zc];lia)) (Rd.wo rd d (by rw[zc];lia)) (Zh6 a b rF).1 (Zh6 f g d).1 cs hz lG
 |iff q l o p=>cases (e.symm.I q);obtain⟨i,a,b⟩:=wv _<|.head _;exact Zyg H n hk a b l (Rd.wo rd o (by rw[zi];lia)) (Rd.wo rd p (by rw[zi];lia)) cs
 |op q d rB=>cases (e.symm.I q);obtain⟨i,a,b⟩:=wv _<|.head _;obtain⟨j,f,g⟩:=wv _<|.tail _<|.head _;exact Zyf H n hk a b f g d rB cs
end
section
variable {h:Hd}
def st(k r:Nat):D:=.tup [.ref k,nI r]
def Zvd{h}(e:h[i]?=J (.lst xs)):Zan GD .lst [.ref i] h=.ok (.ref h.length) (h++[.lst xs]):=by show Zsy [.ref i] h=_;unfold Zsy seqOf lstOf;simp[e]
noncomputable def loud:D->D:=λs=>.tup [.str<|O "loud",s]
def ZwH{v w}:IV.ZbE Ws (.tup [.str v]) (.tup [.str w]) h=.ok (.bl<|Wu<|v=w) h:=by show(if min (PyData.tuple [.str v]).depth (PyData.tuple [.str w]).depth<=1100 then qd.ok _ h else .bad)=_;simp[YQ,PyData.eqvAll];trivial
end
namespace Q
noncomputable def tp(y:Nat):Q->Q
 |.num _ n=>.num y n
 |.name _ x=>.name y x
 |.fn _ x e=>.fn y x e
 |.rcc _ f x e=>.rcc y f x e
 |.call _ a b=>.call y a b
 |.iff _ a b c=>.iff y a b c
 |.op _ w a b=>.op y w a b
def Zyx(q:Q):(q.tp y).no=y:=by cases q<;>rfl
def Zyy(q:Q):(q.tp y).er=q.er:=by cases q<;>rfl
def Zn0(q:Q):(q.tp y).deep=q.deep:=by cases q<;>rfl
def ZvP{q:Q}(h:q.Uns):(q.tp y).Uns:=by cases q<;>exact h
def Zqx(q:Q):∀n∈(q.tp y).opn,n=y\/n∈q.opn:=by
 intro n d;cases q with
 |num i z=>trivial
 |fn i x e=>trivial
 |rcc i f x e=>trivial
 |name i x=>exact .inl (Ox.mp d)
 |call i a b|iff i a b c|op i w a b=>exact(O2.mp d).imp id λz=>.tail _ z
def ZvQ{q:Q}(h:q.One)(ho:y ∉ q.opn)(hd:y ∉ q.deep):(q.tp y).One:=by
 refine⟨?_,λn d=>?_⟩
 . cases q with
   |num i z=>exact .nil
   |fn i x e=>exact .nil
   |rcc i f x e=>exact .nil
   |name i x=>exact List.nodup_cons.mpr ⟨λz=>(by cases z),.nil⟩
   |call i a b|iff i a b c|op i w a b=>exact List.nodup_cons.mpr ⟨λz=>ho<|.tail _ z,(List.nodup_cons.mp h.1).2⟩
 . rw[Zn0];rcases Zqx q n d with rfl|z
   . trivial
   . exact h.2 n z
def Zxh{g}:∀{q:Q},q.ok g->∀n∈q.all,∃c,g n=J c:=by
 intro q;induction q with
 |num i z|name i z=>intro h n d;rw[Ox.mp d];exact⟨_,h⟩
 |fn i x e l|rcc i f x e l=>intro h n d;exact(O2.mp d).elim (λz=>⟨_,z▸h.1⟩) (l h.2 n)
 |call i a b j k|op i w a b j k=>intro h n d;exact(O2.mp d).elim (λz=>⟨_,z▸h.1⟩) λz=>(OD.mp z).elim (j h.2.1 n) (k h.2.2 n)
 |iff i a b c j k m=>intro h n d;exact(O2.mp d).elim (λz=>⟨_,z▸h.1⟩) λz=>(OD.mp z).elim (j h.2.1 n) λz=>(OD.mp z).elim (k h.2.2.1 n) (m h.2.2.2 n)
def Zvc{g}{q:Q}(h:q.ok (wo g y)):y ∉ q.all:=λz=>by obtain⟨c,e⟩:=Zxh h y z;simp[wo]at e
theorem Zyw{g g'}{c}(ne:∀ i,i≠y->g' i=g i){q:Q}(h:q.ok (wo g y))(e:g q.no=J c)(ey:g' y=J c):(q.tp y).ok g':=by
 have k:∀ {r:Q},r.ok (wo g y)->r.ok g':=λ{r} d=>mono (λi _ c e=>by
   unfold wo at e
   simp_all) d
 have t:∀ {c1},wo g y _=J _->g' y=J c1:=λ{c1} z=>by rw [ey,<-e,ZJ _ _ z]
 cases q with
 |num i z=>exact t h
 |name i x=>exact t h
 |fn i x e|rcc i f x e=>exact⟨t h.1,k h.2⟩
 |call i a b|op i w a b=>exact⟨t h.1,k h.2.1,k h.2.2⟩
 |iff i a b c=>exact⟨t h.1,k h.2.1,k h.2.2.1,k h.2.2.2⟩
def Zzh{q:Q}(h:q.isV=Wq):q.opn=[]:=by cases q<;>first|rfl|cases h
end Q
theorem ZzX{G N}{y num}{s'}{qF qA:Q}(hy:y<G.length)(oF:qF.ok (wo (gl G) y))(oA:qA.ok (wo (gl G) y))(vF:qF.isV=Wq)(vA:qA.isV=Wq)(uF:qF.Uns)(uA:qA.Uns)(hw:How G y qF.no qA.no qF.er qA.er N num s'):∃ q':Q,q'.ok (wo (gl<|G++N) y)/\q'.no=num/\q'.er=s'/\q'.One/\q'.Uns/\(∀ n∈q'.opn,G.length<=n)/\∀ n∈q'.deep,G.length<=n\/n∈qF.all\/n∈qA.all:=by
 obtain⟨md,nm,E,F,K,b,t,c,e,s,H,rb,w,A,B,g,_⟩:=hw;have k:∀ {q:Q},q.ok (wo _ y)->∀ n∈q.all,n<G.length:=λ{q} h n hn=>by
   obtain⟨c,e⟩:=Q.Zxh h n hn;exact(Ob.mp<|ZJ _ _ e).1
 have body:∀ (q:Q),q.ok _->q.no=b->q.One->q.Uns->(∀ n∈q.all,n∈qF.all)->∃ q':Q,q'.ok _/\q'.no=num/\q'.er=s'/\q'.One/\q'.Uns/\(∀ n∈q'.opn,G.length<=n)/\∀ n∈q'.deep,G.length<=n\/n∈qF.all\/n∈qA.all:=λq ok no one un sub'=>by
   have v:∀ n,n∈q.all\/(n∈qF.all\/n∈qA.all)->n<G.length:=λn hn=>by
     rcases hn with hn|hn|hn
     . exact k ok n hn
     . exact k oF n hn
     . exact k oA n hn
   have C:t=q.er:=by
     have:=Q.rd ok;rw [no] at this;exact rb.one this
   obtain⟨q',a⟩:=cpy hy (λx D=>by
   rcases g x D with⟨m,r⟩|⟨m,r⟩
   . exact⟨_,oF,vF,m,r,λn hn=>.inl hn,uF⟩
   . exact⟨_,oA,vA,m,r,λn hn=>.inr hn,uA⟩) A q _ _ ok un v (no▸B) (λ_ h=>h)
   obtain⟨l,_,p⟩:=a.o;refine⟨_,a.ok,a.no,by rw [a.er,w,C],a.one one v,a.u,λn hn=>?_,λn hn=>?_⟩
   . obtain⟨i,_,j,_,z⟩:=Paired.mem_r p n hn
     lia
   . rcases a.d n hn with⟨i,J,⟨j,_,z⟩,_⟩|z|z
     . exact .inl (by lia)
     . exact .inr (.inl<|sub' n z)
     . exact .inr z
 cases qF with
 |num i z =>
   have:=YF<|e.symm.I<|ZJ _ _ oF;subst this;cases s
 |fn i x q|rcc i f x q =>
   have:=YF<|e.symm.I<|ZJ _ _ oF.1;subst this;exact body q oF.2 (List.cons.inj s).1 uF.1 uF.2 λn hn=>.tail _ hn
 |_=>cases vF
def ZoW{r:Q}(h:r.er=.call s t):∃i a b,r=.call i a b/\a.er=s/\b.er=t:=by cases r<;>cases h;exact⟨_,_,_,rfl,rfl,rfl⟩
def Znw{r:Q}(h:r.er=.iff s t u):∃i a b c,r=.iff i a b c/\a.er=s/\b.er=t/\c.er=u:=by cases r<;>cases h;exact⟨_,_,_,_,rfl,rfl,rfl,rfl⟩
def Zrt{a b}(h:(Q.call i a b).One):(i ∉ a.opn/\i ∉ a.deep)/\i ∉ b.opn/\i ∉ b.deep:=by simp_all [Q.One,Q.opn,Q.deep]
def ZtT{a b c}(h:(Q.iff i a b c).One):(i ∉ b.opn/\i ∉ b.deep/\b.One)/\i ∉ c.opn/\i ∉ c.deep/\c.One:=by simp_all [Q.One,Q.opn,Q.deep,List.nodup_append]
section
variable {P:Pg}{h:Hd}
def Zhj{G}{q:Q}(o:q.ok (gl G)):∃c,G[q.no]?=J c/\c.isV=q.isV:=by obtain⟨c,e,f,_⟩:=(Q.rd o).at;exact⟨c,e,by rw[(ZcL f).2.2.1,Q.ZbO]⟩
def Zvg{G}{q:Q}{c}(o:q.ok (gl G))(v:q.isV=Ws)(ct:Gn.Cl [] q.er)(e:G[q.no]?=J c):(fop G c.pf=M/\q.bt=q)\/∃p:Q,fop G c.pf=J p.no/\q.bt=p.bt/\p.isV=Ws/\p.ok (gl G)/\Gn.Cl [] p.er/\p.er.size<q.er.size:=by
 cases q with
 |num i z=>cases v
 |fn i x b=>cases v
 |rcc i f x b=>cases v
 |name i x=>trivial
 |call i a b=>
  cases YF (e.symm.I o.1);obtain⟨m,h,j⟩:=Zhj o.2.1;obtain⟨r,k,l⟩:=Zhj o.2.2;have n:=zc a.er b.er;cases g:a.isV with
  |false=>exact .inr ⟨a,by simp[Gc.pf,Gc.ps,fop,h,j,g],by simp[Q.bt,g],g,o.2.1,ct.1,by show a.er.size<(T.call _ _).size;lia⟩
  |true=>
   cases wb:b.isV with
   |false=>exact .inr ⟨b,by simp[Gc.pf,Gc.ps,fop,h,j,g,k,l,wb],by simp[Q.bt,g,wb],wb,o.2.2,ct.2,by show b.er.size<(T.call _ _).size;lia⟩
   |true=>exact .inl ⟨by simp[Gc.pf,Gc.ps,fop,h,j,g,k,l,wb],by simp[Q.bt,g,wb]⟩
 |op i w a b=>
  cases YF (e.symm.I o.1);obtain⟨m,h,j⟩:=Zhj o.2.1;obtain⟨r,k,l⟩:=Zhj o.2.2;have n:=zo w a.er b.er;cases g:a.isV with
  |false=>exact .inr ⟨a,by simp[Gc.pf,Gc.ps,fop,h,j,g],by simp[Q.bt,g],g,o.2.1,ct.1,by show a.er.size<(T.op w a.er b.er).size;lia⟩
  |true=>
   cases wb:b.isV with
   |false=>exact .inr ⟨b,by simp[Gc.pf,Gc.ps,fop,h,j,g,k,l,wb],by simp[Q.bt,g,wb],wb,o.2.2,ct.2,by show b.er.size<(T.op w a.er b.er).size;lia⟩
   |true=>exact .inl ⟨by simp[Gc.pf,Gc.ps,fop,h,j,g,k,l,wb],by simp[Q.bt,g,wb]⟩
 |iff i a b d=>
  cases YF (e.symm.I o.1);obtain⟨m,h,j⟩:=Zhj o.2.1;have n:=zi a.er b.er d.er;cases g:a.isV with
  |false=>exact .inr ⟨a,by simp[Gc.pf,fop,h,j,g],by simp[Q.bt,g],g,o.2.1,ct.1,by show a.er.size<(T.iff a.er b.er d.er).size;lia⟩
  |true=>exact .inl ⟨by simp[Gc.pf,fop,h,j,g],by simp[Q.bt,g]⟩
theorem ZoE(H:Gs P)(n){G}{h}(hk:h[k]?=J (cl G)):∀(z) (q:Q) (c) (F),q.er.size<=z->z<F->q.ok (gl G)->q.isV=Ws->Gn.Cl [] q.er->G[q.no]?=J c->ZU (tst (P.tbl<|n+3) ZcP) (xs2 (P.tbl<|n+3) Zfq) F (vn k r q.no<|fop G c.pf) h=.ok (.nx,vn k r q.bt.no M) h/\q.bt.isV=Ws/\Gn.Cl [] q.bt.er/\q.bt.er.size<=q.er.size/\∃d,G[q.bt.no]?=J d/\fop G d.pf=M
 |z,q,c,0,_,m,_,_,_,_=>by lia
 |z,q,c,F+1,C,m,o,v,g,e=>by
  have a:tst (P.tbl<|n+3) ZcP (vn k r q.no _) h=.ok (!Wu (oI (fop G c.pf)=.non)) h:=Zxf rfl;rcases Zvg o v g e with⟨b,f⟩|⟨p,b,f,s,j,t,pz⟩
  . rw[b]at a ⊢;rw[f];exact⟨ZhY<|Zh a<|by simp[oI],v,g,Oq _,c,e,b⟩
  . rw[b]at a ⊢;obtain⟨u,l,D,E,w⟩:=(Q.rd j).at;obtain⟨x,y,A,K,B⟩:=ZoE H n (r:=r) hk (z-1) p _ F (by lia) (by lia) j s t l;rw[f];refine⟨(Zb5 (Zh a<|by simp[oI,nI])<|(Za<|Zg (i:=2) rfl).I<|(Za<|Zg (i:=3)<|Zl (ZyY H n u hk w)<|Zb rfl<|Zb (Zy (k:=k) (n:=p.no) rfl rfl hk l) rfl).I rfl).I x,y,A,by lia,B⟩
def Zs5(H:Gs P)(n){G}{h}{q:Q}(hk:h[k]?=J (cl G))(o:q.ok (gl G))(v:q.isV=Ws)(ct:Gn.Cl [] q.er)(hz:q.er.size<=20000):run P (n+4) (O "next_cell") [.ref k,nI q.no] h=.ok (nI q.bt.no) h/\q.bt.isV=Ws/\Gn.Cl [] q.bt.er/\q.bt.er.size<=q.er.size/\∃d,G[q.bt.no]?=J d/\fop G d.pf=M:=by obtain⟨c,e,f,p,g⟩:=(Q.rd o).at;have big:=H.b.big;obtain⟨x,a⟩:=ZoE H n hk _ q c P.L (Oq _) (by lia) o v ct e;refine⟨?_,a⟩;rw[Ze H.next_cell rfl];have w:xs2 _ ZhD [J _,J _,M,M] h=.ok _ h:=(Za<|Zg rfl).I<|(Za<|Zg<|Zl (ZyY H n c hk g)<|Zb rfl<|Zb (Zy rfl rfl hk e) rfl).I<|(Za (s:=ZfC)<|ZeQ.I x).I<|Zc<|Zm rfl;exact congrArg _ w
structure Gq(G:List Gc)(q:Q):Prop where
 ok:q.ok (gl G)
 one:q.One
 uns:q.Uns
 cl:Gn.Cl [] q.er
structure Sg(G:List Gc)(sk pe fk wk:Nat)(h0 h:Hd)(u:Int)(F:List T)(W:List (Nat×T)):Prop where
 s:h[sk]?=J (cl G)
 p:h[pe]?=J (Ze1 (.int 120) u)
 f:h[fk]?=J (.lst<|F.map tf)
 w:h[wk]?=J (.lst (W.map λp=>nI p.1).reverse)
 m:Fm [pe,fk,wk] h0 h
 sf:sk≠fk
 sw:sk≠wk
 fw:fk≠wk
def Sg.ne(q:Sg G sk pe fk wk h0 h u F W):pe≠sk/\pe≠fk/\pe≠wk:=by have k:∀{i j:Nat}{x y},h[i]?=J x->h[j]?=J y->x≠y->i≠j:=λa b c z=>c (by simp_all);exact⟨k q.p q.s<|by simp[Ze1,cl],k q.p q.f<|by simp[Ze1],k q.p q.w<|by simp[Ze1]⟩
def eg(sk r pe fk wk:Nat)(o:Option D):Ev:=[J<|st sk r,J<|.ref pe,J<|.ref fk,J<|.ref wk,o]
noncomputable def tot(W:List (Nat×T)):Nat:=(W.map λp=>p.2.size).sum
def ZfX(p)(W):tot (p::W)=p.2.size+tot W:=rfl
noncomputable def zp:List Nat->List T->List (Nat×T)
 |n::a,t::b=>(n,t)::zp a b
 |_,_=>[]
theorem ZuT{qd:Nat->T->Prop}:∀{ns:List _}{ts:List T},Paired qd ns ts->(∀p∈zp ns ts,qd p.1 p.2)/\(zp ns ts).map (·.1)=ns/\tot (zp ns ts)=(ts.map T.size).sum/\(zp ns ts).map (·.2)=ts
 |_,_,.nil=>⟨λ_ h=>(by cases h),rfl,rfl,rfl⟩
 |_,_,.cons r q=>by
  obtain⟨a,b,c,d⟩:=ZuT q;refine⟨λp hp=>?_,by simp[zp,b],by rw[zp,ZfX,c];simp,by simp[zp,d]⟩;rcases O2.mp hp with rfl|hp
  . exact r
  . exact a p hp
def Zu8(H:Grr P)(n){G}{h0}{i}{t}{F}{W}{c}(q:Sg G sk pe fk wk h0 h u F ((i,t)::W))(e:G[i]?=J c)(o):xs1 (P.tbl<|n+1) Zc4 (eg sk r pe fk wk o) h=.ok (.nx,eg sk r pe fk wk<|J c.d) (h.set wk<|.lst (W.map λp=>nI p.1).reverse)/\Sg G sk pe fk wk h0 (h.set wk<|.lst (W.map λp=>nI p.1).reverse) u F W:=by
 have a:h[wk]?=J (.lst<|(W.map λp=>nI p.1).reverse++[nI i]):=by rw[q.w];simp
 have b:Sg G _ _ _ _ _ _ u F W:=⟨ZO q.s q.sw,ZO q.p q.ne.2.2,ZO q.f q.fw,Zc9 q.w,q.m.I<|.set<|by simp,q.sf,q.sw,q.fw⟩
 exact⟨Zg<|(Zf rfl<|ZjA rfl a rfl<|Zf4 a).I<|(ZE b.s).I (by rw[ZxZ e];rfl),b⟩
theorem ZyA(H:Grr P)(n){G:List _}{h0}{i}{t}{F:List T}{W:List (Nat×T)}{u}(q:Sg G sk pe fk wk h0 h u F ((i,t)::W))(hu:u+1<=120)(rd:Rd (gl G) i t)(hF:F.length<=1000)(hW:W.length<=1000)(o:Option D):∃ h' o' V,xs2 (P.tbl<|n+1) Z7 (eg sk r pe fk wk o) h=.ok (.nx,eg sk r pe fk wk o') h'/\Sg G sk pe fk wk h0 h' (u+1) (F++[t]) (V++W)/\(∀ p∈V,Rd (gl G) p.1 p.2)/\tot V+1=t.size/\V.map (·.2)=t.parts:=by
 obtain⟨c,e,f,v,_⟩:=rd.at;obtain⟨x,j⟩:=Zu8 H n (r:=r) q e o;generalize h.set _ (.lst (W.map λp=>nI p.1).reverse)=R at *;have y:xs1 (P.tbl<|n+1) Zc3 (eg sk r pe fk wk<|J c.d) R=.ok (.nx,eg sk r pe fk wk<|J c.d) (R.set pe<|Ze1 (.int 120)<|u+1):=Zgv<|Zj5 (i:=pe) rfl j.p rfl rfl<|Zv3 H.b n (.inr ⟨120,rfl,hu⟩) j.p;have k:Sg G sk pe fk wk h0 (R.set pe<|Ze1 (.int 120)<|u+1) (u+1) F W:=⟨ZO j.s q.ne.1.symm,Zc9 j.p,ZO j.f q.ne.2.1.symm,ZO j.w q.ne.2.2.symm,j.m.I<|.set<|by simp,q.sf,q.sw,q.fw⟩
 generalize R.set pe (Ze1 (.int 120)<|u+1)=l at *;have z:D.tup c.fr=tf t:=by rw [(ZcL f).1];rfl
 have A:xs1 (P.tbl<|n+1) Zc2 (eg sk r pe fk wk<|J c.d) l=.ok (.nx,eg sk r pe fk wk<|J c.d) (l.set fk<|.lst<|(F++[t]).map tf):=by
   rw [List.map_append,List.map_singleton,<-z];exact Zgv (ZjA (i:=fk) rfl k.f (Zb (Zl (Zo7 H.s.b n c) rfl) rfl)<|Za7 k.f (by rw [YC];simp;lia))
 have g:Sg G sk pe fk wk h0 (l.set fk<|.lst<|(F++[t]).map tf) (u+1) (F++[t]) W:=⟨ZO k.s q.sf,ZO k.p q.ne.2.1,Zc9 k.f,ZO k.w q.fw.symm,k.m.I<|.set<|by simp,q.sf,q.sw,q.fw⟩
 generalize l.set fk (.lst<|(F++[t]).map tf)=B at *;obtain⟨a,b,cc,d⟩:=ZuT v;have E:=Zda c;have lw:=Zv g.w;refine⟨_,J c.d,zp c.ps t.parts,(Za x).I ((Za y).I ((Za A).I ((Za (Zgv (ZjA (i:=wk) rfl g.w (Zb (by
     rw [Zxy,show ev (P.tbl<|n+1) (.call (O "parts_of")<|.cons (.var 4) .nil) (eg sk r pe fk wk<|J c.d) B=_ from Zl (Zh7 H.b.toTre n c) rfl,Zz];rfl) rfl) (ZlQ (keep g.w) ZL (by lia) (by simp;lia))))).I rfl))),⟨ZO (keep g.s) q.sw,ZO (keep g.p) q.ne.2.2,ZO (keep g.f) q.fw,?_,(g.m.I .app).I<|.set<|by simp,q.sf,q.sw,q.fw⟩,a,by rw [cc,Zt t];lia,d⟩
 have C:c.ps.map nI=(zp c.ps t.parts).map λp=>nI p.1:=(congrArg (List.map nI) b).symm.I<|List.map_map;rw [Zc9<|keep g.w,List.map_append,List.reverse_append,C]
def ZAE(H:Grr P)(n){G}{h0}{i}{t}{F}{W}(q:Sg G sk pe fk wk h0 h 120 F ((i,t)::W))(rd:Rd (gl G) i t)(o):∃h',xs2 (P.tbl<|n+1) Z7 (eg sk r pe fk wk o) h=.exc (O "Wide") h'/\Fm [pe,fk,wk] h0 h':=by obtain⟨c,e,f,g,_⟩:=rd.at;obtain⟨d,a⟩:=Zu8 H n q e o;refine⟨_,(Za d).I<|ZnT<|Zz8<|Zj5 rfl a.p rfl rfl<|ZqR H.b H.w n a.p,a.m⟩
def ZoN(n){G}{h0}{F}{W}(q:Sg G sk pe fk wk h0 h u F W)(o):tst (P.tbl<|n+1) ZaM (eg sk r pe fk wk o) h=.ok (!W.isEmpty) h:=Zh (Zlo rfl q.w) (by simp)
theorem ZoA:∀W ,W.length<=tot W
 |[]=>Oq _
 |p::W=>by have:=ZoA W;have:=ZC p.2;rw[ZfX,Os];lia
def Zn1(V W):tot (V++W)=tot V+tot W:=by simp[tot]
theorem ZzK(H:Grr P)(n){G}{h0}:∀(fuel) (W) (F) (u:Int) (h) (o),tot W<fuel->(∀p∈W,Rd (gl G) p.1 p.2)->u+tot W<=120->F.length+tot W<=1000->tot W<=1000->Sg G sk pe fk wk h0 h u F W->∃h' o' u',ZU (tst (P.tbl<|n+1) ZaM) (xs2 (P.tbl<|n+1) Z7) fuel (eg sk r pe fk wk o) h=.ok (.nx,eg sk r pe fk wk o') h'/\Sg G sk pe fk wk h0 h' u' (F++W.flatMap λp=>p.2.places) []
 |0,W,F,u,h,o,a,_,_,_,_,_=>by lia
 |fuel+1,[],F,u,h,o,a,_,_,_,_,q=>⟨h,o,u,ZhY<|ZoN n q o,by simp_all⟩
 |fuel+1,(i,t)::W,F,u,h,o,a,b,c,d,f,q=>by
  rw[ZfX]at a c d f;simp only at a c d f;have lw:=ZoA W;have st:=ZC t;obtain⟨R,g,V,x,j,k,B,l⟩:=ZyA H n (r:=r) q (by lia) (b (i,t)<|.head _) (by lia) (by lia) o;have C:=Zn1 V W;obtain⟨m,s,v,y,w⟩:=ZzK H n (r:=r) fuel (V++W) (F++[t]) (u+1) R g (by lia) (λp A=>(OD.mp A).elim (k p) λz=>b p<|.tail _ z) (by lia) (by simp;lia) (by lia) j;refine⟨m,s,v,(Zb5 (Zh (ZoN n q o) rfl) x).I y,?_⟩;have e:F++((i,t)::W).flatMap (λp=>p.2.places)=F++[t]++(V++W).flatMap λp=>p.2.places:=by rw[List.flatMap_cons,List.flatMap_append,T.places_parts,<-l];simp[List.flatMap_map]
  rw[e];exact w
theorem ZzJ(H:Grr P)(n){G}{h0}:∀(fuel z:Nat) (W) (F) (u) (h) (o),z<fuel->u+(z:Int)=120->(∀p∈W,Rd (gl G) p.1 p.2)->z<tot W->F.length+z<=1000->W.length+3*z<=1000->Sg G sk pe fk wk h0 h u F W->∃h',ZU (tst (P.tbl<|n+1) ZaM) (xs2 (P.tbl<|n+1) Z7) fuel (eg sk r pe fk wk o) h=.exc (O "Wide") h'/\Fm [pe,fk,wk] h0 h'
 |0,z,W,F,u,h,o,c,_,_,_,_,_,_=>by lia
 |fuel+1,z,[],F,u,h,o,c,_,_,a,_,_,q=>by simp[tot]at a
 |fuel+1,0,(i,t)::W,F,u,h,o,c,e,b,a,g,d,q=>by
  have:u=120:=by lia
  subst this;obtain⟨R,x,m⟩:=ZAE H n (r:=r) q (b (i,t)<|.head _) o;exact⟨R,ZsL (Zh (ZoN n q o) rfl) x,m⟩
 |fuel+1,z+1,(i,t)::W,F,u,h,o,c,e,b,a,g,d,q=>by
  rw[ZfX]at a;simp only[Os]at a d;obtain⟨R,j,V,x,k,l,A,s⟩:=ZyA H n (r:=r) q (by lia) (b (i,t)<|.head _) (by lia) (by lia) o;have B:=Zn1 V W;have C:V.length<=3:=by rw[<-Yu (f:=(·.2)),s];cases t<;>simp[T.parts]
  obtain⟨v,y,m⟩:=ZzJ H n (r:=r) fuel z (V++W) (F++[t]) (u+1) R j (by lia) (by lia) (λp w=>(OD.mp w).elim (l p) λz=>b p<|.tail _ z) (by lia) (by simp;lia) (by simp;lia) k;exact⟨v,(Zb5 (Zh (ZoN n q o) rfl) x).I y,m⟩
theorem Zv4 (H:Grr P) (n) {G}{sk r}{t} (hk:h[sk]?=J (cl G)) (rd:Rd (gl G) r t):∃ h',Fm [] h h'/\run P (n+3) (O "graph_read") [st sk r] h=if t.size<=120 then .ok t.d h' else .exc (O "Wide") h':=by
 rw [Ze H.graph_read rfl];have lk:=Zv hk;have big:=H.b.big;have x1:=Zg (i:=1) (by
     rw [Zvj,show evs (P.tbl<|n+2) (.cons (.glo _) .nil) [J<|st sk r,M,M,M,M] h=.ok [.int 120] h from Zb (congrArg (λo=>qd.ofO o h) H.gw) rfl,Zz];exact ZyV H.b (n+1) (.int 120) h)
 have x3:xs1 (P.tbl<|n+2) ZeM [J<|st sk r,J<|.ref h.length,J<|.ref<|h.length+1,M,M] (h++[Ze1 (.int 120) 0,.lst []])=.ok (.nx,eg sk r h.length (h.length+1) (h.length+2) M) (h++[Ze1 (.int 120) 0,.lst [],.lst [nI r]]):=Zg (i:=3) (by
     rw [ZkS (xs:=[nI r]) (Zb rfl rfl)<|by simp];simp)
 have cut:∀ {h'},Fm [h.length,h.length+1,h.length+2] h h'->Fm [] h h':=λf=>f.cut λi hi=>.inr (by simp at hi;lia);have tt:tot [(r,t)]=t.size:=by simp [tot]
 by_cases hz:t.size<=120
 . obtain⟨R,o1,u1,e1,q1⟩:=ZzK H (n+1) (r:=r) P.L [(r,t)] [] 0 _ M (by lia) (λp hp=>by rw [Ox.mp hp];exact rd) (by lia) (by simp;lia) (by lia) ⟨keep hk,ZL,ZsB,ZAn,.app,by lia,by lia,by lia⟩;obtain⟨g,eb⟩:=Ztb H.b n t (h:=R) (fk:=h.length+1) (by rw [q1.f];simp) (by lia);refine⟨R++g,(cut q1.m).I .app,?_⟩;rw [if_pos hz];have w:xs2 (P.tbl<|n+2) ZdD [J<|st sk r,M,M,M,M] h=.ok (.rt t.d,_) (R++g):=(Za x1).I ((Za<|by simp [ZbV,YC]).I<|(Za x3).I<|(Za (s:=ZbU)<|ZeQ.I e1).I<|Zc<|Zm<|Zl eb rfl);exact congrArg Zn w
 . obtain⟨R,e1,m1⟩:=ZzJ H (n+1) (r:=r) P.L 120 [(r,t)] [] 0 _ M (by lia) (by lia) (λp hp=>by rw [Ox.mp hp];exact rd) (by lia) (by simp) (by simp) ⟨keep hk,ZL,ZsB,ZAn,.app,by lia,by lia,by lia⟩;refine⟨R,cut m1,?_⟩;rw [if_neg hz];have w:xs2 (P.tbl<|n+2) ZdD [J<|st sk r,M,M,M,M] h=.exc (O "Wide") R:=(Za x1).I ((Za<|by simp [ZbV,YC]).I<|(Za x3).I<|ZnT (s:=ZbU)<|ZeQ.I e1);exact congrArg Zn w
end
section
variable {P:Pg}
def Zbh:Nat->List T->List (Nat×T)
 |_,[]=>[]
 |i,t::a=>(i,t)::Zbh (i+t.size) a
noncomputable def nJ(p:Nat×T):D:=.int (p.1:Int)
def cell(i:Nat)(t:T):D:=.tup (fr t++(Zbh (i+1) t.parts).map nJ)
def cells:Nat->T->List D
 |i,.num n=>[cell i<|.num n]
 |i,.name x=>[cell i<|.name x]
 |i,.fn x e=>cell i (.fn x e)::cells (i+1) e
 |i,.rcc f x e=>cell i (.rcc f x e)::cells (i+1) e
 |i,.call f a=>cell i (.call f a)::(cells (i+1) f++cells (i+1+f.size) a)
 |i,.iff c t e=>cell i (.iff c t e)::(cells (i+1) c++(cells (i+1+c.size) t++cells (i+1+c.size+t.size) e))
 |i,.op w a b=>cell i (.op w a b)::(cells (i+1) a++cells (i+1+a.size) b)
def Za0:Nat->List T->List D
 |_,[]=>[]
 |i,t::a=>cells i t++Za0 (i+t.size) a
def szs(ts:List T):Nat:=(ts.map T.size).sum
def ZfY(t)(ts):szs (t::ts)=t.size+szs ts:=rfl
def Zlv(t:T):t.size=1+szs t.parts:=Zt t
def ZhC(i)(t):cells i t=cell i t::Za0 (i+1) t.parts:=by cases t<;>simp[cells,Za0,T.parts]
theorem Ziv:∀(ts) (i),(Zbh i ts).length=ts.length
 |[],_=>rfl
 |t::ts,i=>by simp[Zbh,Ziv _]
theorem Zhi:∀(m) (t) (i),t.size<=m->(cells i t).length=t.size
 |0,t,i,h=>by have:=ZC t;lia
 |m+1,t,i,h=>by
  have L:∀(a) (i),szs a<=m->(Za0 i a).length=szs a:=by
   intro a;induction a with
   |nil=>intro i _;rfl
   |cons t a b=>intro i q;rw[ZfY]at q ⊢;rw[Za0,OA,Zhi m t i<|by lia,b _<|by lia]
  have:=Zlv t;rw[ZhC,Os,L _ _<|by lia]
  lia
theorem ZfQ:∀(ts) (i),(Za0 i ts).length=szs ts
 |[],i=>rfl
 |t::ts,i=>by rw[Za0,OA,Zhi _ t i<|Oq _,ZfQ _,ZfY]
theorem ZoB:∀ts ,ts.length<=szs ts
 |[]=>Oq _
 |t::ts=>by have:=ZoB ts;have:=ZC t;rw[ZfY,Os];lia
def ZsH{h0 h}{fk dk}{fs ds}(b:B_ h0 h fk dk fs ds)(hf:h0.length<=fk)(es):B_ h0 (h.set fk<|.lst es) fk dk es ds:=⟨by rw[Ol<|Zv b.f],(Oc b.ne.symm).I b.d,b.ne,b.o1,by simpa using b.ol,λi a=>(Oc<|by lia).I<|b.old i a⟩
def gb1:Sx:=.s 5 (.comp [O "part",O "numbers"] [M,J 3] (.pl<|.f "parts_of"<|.o V4) (.nm 0) M<|.meth .pop V1 .n)
def gb2:Sx:=.drp (.meth .app V2<|.o<|.bin .Add (.f "front_of"<|.o V4)<|.blt .tup<|.o V5)
def gb3:Sx:=.drp (.meth .app V3<|.o<|.bin .Sub (.blt .len<|.o V1)<|.blt .len<|.o V2)
def Zoz:Sxs:=.u gb1 gb2 gb3
def ZzZ:Zav=.forr (.nm 4) (.rev<|.var 1) Zoz:=rfl
def ZAL(H:Trs P)(n){h0 h}{tk ck nk i}{tl C N}(t)(ht:h0[tk]?=J (.lst tl))(hc:h0.length<=ck)(b:B_ h0 h ck nk C (N++((Zbh (i+1) t.parts).map nJ).reverse))(hi:C.length+1+i=tl.length)(hz:tl.length<=1000)(hN:N.length<=1000)(o0 o5:Option D):∃h' eZ,
 xs2 (P.tbl<|n+1) Zoz [o0,J<|.ref tk,J<|.ref ck,J<|.ref nk,J t.d,o5] h=.ok (.nx,[o0,J<|.ref tk,J<|.ref ck,J<|.ref nk,J t.d,eZ]) h'/\B_ h0 h' ck nk (C++[cell i t]) (N++[.int<|i]):=by
 have hp:t.parts.length<=3:=by cases t<;>simp[T.parts]
 have hf:(fr t).length<=3:=by cases t<;>simp[fr]
 have hl:=Ziv t.parts<|i+1;obtain⟨R,q1,b1⟩:=Zsp (U:=P.tbl<|n+1) (t.parts.map T.d) ((Zbh (i+1) t.parts).map nJ) N [] h (by simp[hl]) (by simp[hl];omega) b;have b2:=b1.app (g:=[.lst<|(Zbh (i+1) t.parts).map nJ]);have b3:=ZsH b2 hc<|C++[cell i t];refine⟨_,J<|.ref R.length,?_,b3.set<|N++[.int (i:Int)]⟩;have x1:xs1 (P.tbl<|n+1) gb1 [o0,J<|.ref tk,J<|.ref ck,J<|.ref nk,J t.d,o5] h=.ok (.nx,[o0,J<|.ref tk,J<|.ref ck,J<|.ref nk,J t.d,J<|.ref R.length]) (R++[.lst<|(Zbh (i+1) t.parts).map nJ]):=by
  have ei:evi (P.tbl<|n+1) (.pl<|.call (O "parts_of")<|.cons (.var 4) .nil) [o0,J<|.ref tk,J<|.ref ck,J<|.ref nk,J t.d,o5] h=.ok ⟨[],t.parts.map T.d⟩ h:=by have e1:ev (P.tbl<|n+1) (.call (O "parts_of")<|.cons (.var 4) .nil) [o0,J<|.ref tk,J<|.ref ck,J<|.ref nk,J t.d,o5] h=.ok (.tup<|t.parts.map T.d) h:=Gn.Zoe H.toTre n t h;rw[Znv,e1,Zz];rfl
  rw[gb1,Zkn,ZoU,ei,Zz];simp only[ZbQ,Op,Oy,Option.bind_none,Yz];rw[show([o0,J<|.ref tk,J<|.ref ck,J<|D.ref nk,J t.d,o5][3]?).join=J (.ref nk)from rfl,q1];rfl
 have x2:xs1 (P.tbl<|n+1) gb2 [o0,J<|.ref tk,J<|.ref ck,J<|.ref nk,J t.d,J<|.ref R.length] (R++[.lst<|(Zbh (i+1) t.parts).map nJ])=.ok (.nx,[o0,J<|.ref tk,J<|.ref ck,J<|.ref nk,J t.d,J<|.ref R.length]) (List.set (R++[.lst<|(Zbh (i+1) t.parts).map nJ]) ck<|.lst<|C++[cell i t]):=by
  have ap:=Za7 (d:=cell i t) b2.f (by rw[YC];omega);have il:=ZbI b2.f;have ef:=Zs9 H n t<|R++[.lst<|(Zbh (i+1) t.parts).map nJ];have ad:∀h',opB .Add (.tup<|fr t) (.tup<|(Zbh (i+1) t.parts).map nJ) h'=.ok (cell i t) h':=λh'=>ZkB (by rw[YC];simp[hl];omega);have kk:(R++[DO.lst<|(Zbh (i+1) t.parts).map nJ])[R.length]?=J (.lst<|(Zbh (i+1) t.parts).map nJ):=ZL;generalize R++[DO.lst<|(Zbh (i+1) t.parts).map nJ]=h2 at *;have tu:Zan P.GD .tup [.ref R.length] h2=.ok (.tup<|(Zbh (i+1) t.parts).map nJ) h2:=by simp only[Zan,Zqd,lstOf,kk];rfl
  generalize (Zbh (i+1) t.parts).map nJ=ns at *;simp[gb2,Pg.tbl,il,ef,tu,ad,ap]
 have x3:xs1 (P.tbl<|n+1) gb3 [o0,J<|.ref tk,J<|.ref ck,J<|.ref nk,J t.d,J<|.ref R.length] (List.set (R++[.lst<|(Zbh (i+1) t.parts).map nJ]) ck<|.lst<|C++[cell i t])=.ok (.nx,[o0,J<|.ref tk,J<|.ref ck,J<|.ref nk,J t.d,J<|.ref R.length]) (List.set (List.set (R++[.lst<|(Zbh (i+1) t.parts).map nJ]) ck<|.lst<|C++[cell i t]) nk<|.lst<|N++[.int (i:Int)]):=by
  have ap:=Za7 (d:=.int (i:Int)) b3.d (by rw[YC];omega);have il:=ZbI b3.d;have kt:=(b3.old tk<|Zv ht).I ht;have kc:=b3.f;generalize List.set (R++[DO.lst<|(Zbh (i+1) t.parts).map nJ]) ck (.lst<|C++[cell i t])=h3 at *;have l1:Zan P.GD .len [.ref tk] h3=.ok (.int (tl.length:Int)) h3:=by simp[Zan,ZmC,seqOf,lstOf,kt]
  have l2:Zan P.GD .len [.ref ck] h3=.ok (.int<|(C.length:Int)+1) h3:=by simp[Zan,ZmC,seqOf,lstOf,kc]
  have hs:(tl.length:Int)-((C.length:Int)+1)=(i:Int):=by omega
  simp[gb3,Pg.tbl,il,l1,l2,hs,ap]
 rw[Zoz,Za x1,Za x2,Za x3];rfl
def wg(P:Pg)(n tk ck nk:Nat)(tl:List D)(o0:Option D)(ac:List D)(o4 o5:Option D)(h:Hd):qd (Fl×Ev):=ZY [(tk,tl)] (.nm 4) (xs2 (P.tbl<|n+1) Zoz) ac [o0,J<|.ref tk,J<|.ref ck,J<|.ref nk,o4,o5] h
def Gt(P:Pg)(n:Nat)(h0:Hd)(tk ck nk:Nat)(tl:List D)(o0:Option D)(xs C0 N0 C1 N1:List D):Prop:=∀(a:List D) (h:Hd) (c d:Option D),B_ h0 h ck nk C0 N0->∃b e f,wg P n tk ck nk tl o0 (xs++a) c d h=wg P n tk ck nk tl o0 a e f b/\B_ h0 b ck nk C1 N1
section
variable {n:Nat}{h0:Hd}{tk ck nk:Nat}{tl:List D}{o0:Option D}{xs ys C0 C1 C2 N0 N1 N2:List D}
def Gt.nil:Gt P n h0 tk ck nk tl o0 [] C0 N0 C0 N0:=λa h c d b=>⟨h,_,_,rfl,b⟩
def Gt.I(a:Gt P n h0 tk ck nk tl o0 xs C0 N0 C1 N1)(b:Gt P n h0 tk ck nk tl o0 ys C1 N1 C2 N2):Gt P n h0 tk ck nk tl o0 (xs++ys) C0 N0 C2 N2:=λc h d e q=>by obtain⟨R,f,g,m,i⟩:=a (ys++c) h d e q;obtain⟨o,j,k,p,l⟩:=b c _ f g i;exact⟨_,j,k,by simp_all,l⟩
end
theorem ZrV(H:Trs P){n}{h0}{tk ck nk}{tl}{o0}(ht:h0[tk]?=J (.lst tl))(hc:h0.length<=ck)(hz:tl.length<=1000):∀(m) (t) (i) (C N),t.size<=m->C.length+t.size+i=tl.length->N.length+t.size<=1000 ->
 Gt P n h0 tk ck nk tl o0 (t.places.map T.d).reverse C N (C++(cells i t).reverse) (N++[.int i])
 |0,t,i,C,N,h,_,_=>by have:=ZC t;omega
 |m+1,t,i,C,N,h,hi,hN=>by
  have L:∀(ts:List T) (i:Nat) (C N:List D),szs ts<=m->C.length+szs ts+i<=tl.length->C.length+szs ts+i=tl.length->N.length+szs ts<=1000 ->
   Gt P n h0 tk ck nk tl o0 ((ts.flatMap T.places).map T.d).reverse C N (C++(Za0 i ts).reverse) (N++((Zbh i ts).map nJ).reverse):=by
   intro ts;induction ts with
   |nil=>intro i C N _ _ _ _;simpa[Za0,Zbh]using Gt.nil
   |cons t ts ih=>intro i C N q1 _ q2 q3;rw[ZfY]at q1 q2 q3;have lt:=ZoB ts;simpa[Za0,Zbh,nJ]using (ih (i+t.size) C N (by omega) (by omega) (by omega)<|by omega).I (ZrV H (n:=n) (nk:=nk) (o0:=o0) ht hc hz m t i (C++(Za0 (i+t.size) ts).reverse) (N++((Zbh (i+t.size) ts).map nJ).reverse) (by omega) (by simp[ZfQ];omega) (by simp[Ziv];omega))
  have e:=Zlv t;have hb:Gt P n h0 tk ck nk tl o0 [t.d] (C++(Za0 (i+1) t.parts).reverse) (N++((Zbh (i+1) t.parts).map nJ).reverse) (C++(Za0 (i+1) t.parts).reverse++[cell i t]) (N++[.int<|i]):=λac h o4 o5 b=>by obtain⟨h',eZ,q,b'⟩:=ZAL H n t ht hc b (by simp[ZfQ];omega) hz (by omega) o0 o5;exact⟨h',J t.d,eZ,Zl2 ((b.old tk<|Zv ht).I ht) rfl q,b'⟩
  rw[T.places_parts,ZhC];simpa using (L t.parts (i+1) C N (by omega) (by omega) (by omega)<|by omega).I hb
theorem Zxv{h R:Hd}(hl:h.length<=R.length)(q:∀ i,i<h.length->R[i]?=h[i]?):∃ g,R=h++g:=⟨R.drop h.length,by
 apply List.ext_getElem?;intro i;rcases Nat.lt_or_ge i _ with c|c
 . rw [q i c,Oe c]
 . rw [Om c]
   simp_all⟩
def Ztc(H:Gs P)(n)(t)(hz:t.size<=120)(h):∃g k,run P (n+3) (O "graph_begun") [t.d] h=.ok (.tup [.ref k,.int 0]) (h++g)/\h.length<=k/\(h++g)[k]?=J (.lst<|cells 0 t):=by
 rw[Ze H.graph_begun<|by rfl];have ep:=Gn.ZqS H.b.toTre H.pl n t h (by omega);have hl:(t.places.map T.d).length=t.size:=by simp[T.size]
 have ht:(h++[DO.lst<|t.places.map T.d,.lst []])[h.length]?=J (.lst<|t.places.map T.d):=by simp
 have ol:h.length<=(h++[DO.lst<|t.places.map T.d,.lst []]).length:=by simp
 have old:∀i,i<h.length->(h++[DO.lst<|t.places.map T.d,.lst []])[i]?=h[i]? := λi hi=>Oe hi;generalize htl:t.places.map T.d=tl at *;generalize h++[DO.lst tl,.lst []]=h0 at *;have b0:B_ h0 (h0++[.lst [],.lst []]) h0.length (h0.length+1) [] []:=⟨by simp,by simp,by omega,by omega,by simp,λi hi=>Oe hi⟩
 obtain⟨R,o4,o5,e1,b1⟩:=ZrV H.b (n:=n+1) (nk:=h0.length+1) (o0:=J t.d) ht (Oq h0.length) (by omega) t.size t 0 [] [] (Oq _) (by simp;omega) (by simp;omega) [] _ M M b0;have kt:=(b1.old h.length<|Zv ht).I ht;have e2:wg P (n+1) h.length h0.length (h0.length+1) tl (J t.d) [] o4 o5 R=.ok (.nx,[J t.d,J<|.ref h.length,J<|.ref h0.length,J<|.ref<|h0.length+1,o4,o5]) R:=Zl3 kt;rw[e2,Yt,htl]at e1;have x1:xs1 (P.tbl<|n+2) Zbk [J t.d,M,M,M,M,M] h=.ok (.nx,[J t.d,J<|.ref h.length,M,M,M,M]) h0:=Zg<|Zl ep rfl;have x2:xs1 (P.tbl<|n+2) Zax [J t.d,J<|.ref h.length,M,M,M,M] h0=.ok (.nx,[J t.d,J<|.ref h.length,J<|.ref h0.length,M,M,M]) (h0++[.lst []]):=by simp[Zax,YC]
 have x3:xs1 (P.tbl<|n+2) Zaw [J t.d,J<|.ref h.length,J<|.ref h0.length,M,M,M] (h0++[.lst []])=.ok (.nx,[J t.d,J<|.ref h.length,J<|.ref h0.length,J<|.ref<|h0.length+1,M,M]) (h0++[.lst [],.lst []]):=by simp[Zaw,YC]
 have x4:xs1 (P.tbl<|n+2) Zav [J t.d,J<|.ref h.length,J<|.ref h0.length,J<|.ref<|h0.length+1,M,M] (h0++[.lst [],.lst []])=.ok (.nx,[J t.d,J<|.ref h.length,J<|.ref h0.length,J<|.ref<|h0.length+1,o4,o5]) R:=by
  have ei:evi (P.tbl<|n+2) (.rev<|.var 1) [J t.d,J<|.ref h.length,J<|.ref h0.length,J<|.ref<|h0.length+1,M,M] (h0++[.lst [],.lst []])=.ok ⟨[(h.length,tl)],tl.reverse⟩ (h0++[.lst [],.lst []]):=by have:=(b0.old h.length<|Zv ht).I ht;generalize h0++[DO.lst [],.lst []]=hh at *;simp[ZjM,this]
  rw[ZzZ,Zed ei];exact e1
 have b2:=ZsH b1 (Oq _)<|cells 0 t;have x5:xs1 (P.tbl<|n+2) Zau [J t.d,J<|.ref h.length,J<|.ref h0.length,J<|.ref<|h0.length+1,o4,o5] R=.ok (.nx,[J t.d,J<|.ref h.length,J<|.ref h0.length,J<|.ref<|h0.length+1,o4,o5]) (R.set h0.length<|.lst<|cells 0 t):=by
  have k:=b1.f;have il:=ZbI k;simp only[OB]at k;have rv:ZbM .rev (.ref h0.length) [] R=.ok .non (R.set h0.length<|.lst<|cells 0 t):=by simp[ZbM,k,ZhL,ZwR]
  simp[Zau,il,rv]
 obtain⟨g,hg⟩:=Zxv (h:=h) (R:=R.set h0.length<|.lst<|cells 0 t) (by have:=b2.ol;omega) (λi hi=>by rw[b2.old i<|by omega,old i hi]);refine⟨g,h0.length,?_,ol,by rw[<-hg];exact b2.f⟩;show Zn (xs2 (P.tbl<|n+2) (.cons Zbk<|.cons Zax<|.cons Zaw<|.cons Zav<|.cons Zau<|.cons ZdW .nil) [J t.d,M,M,M,M,M] h)=_;rw[Za x1,Za x2,Za x3,Za x4,Za x5,<-hg];rfl
def Zbo(i:Nat):T->Gc
 |.num n=>.num n
 |.name x=>.name x
 |.fn x _=>.fn x (i+1)
 |.rcc f x _=>.rcc f x (i+1)
 |.call f _=>.call (i+1) (i+1+f.size)
 |.iff c t _=>.iff (i+1) (i+1+c.size) (i+1+c.size+t.size)
 |.op w a _=>.op w (i+1) (i+1+a.size)
def gcs:Nat->T->List Gc
 |i,.num n=>[Zbo i<|.num n]
 |i,.name x=>[Zbo i<|.name x]
 |i,.fn x e=>Zbo i (.fn x e)::gcs (i+1) e
 |i,.rcc f x e=>Zbo i (.rcc f x e)::gcs (i+1) e
 |i,.call f a=>Zbo i (.call f a)::(gcs (i+1) f++gcs (i+1+f.size) a)
 |i,.iff c t e=>Zbo i (.iff c t e)::(gcs (i+1) c++(gcs (i+1+c.size) t++gcs (i+1+c.size+t.size) e))
 |i,.op w a b=>Zbo i (.op w a b)::(gcs (i+1) a++gcs (i+1+a.size) b)
theorem Zfs:∀(t) (i),(gcs i t).map Gc.d=cells i t
 |.num _,_=>rfl
 |.name _,_=>rfl
 |.fn x e,i|.rcc f x e,i=>by rw[gcs,Op,Zfs e];rfl
 |.call f a,i=>by rw[gcs,Op,List.map_append,Zfs f,Zfs a];rfl
 |.iff c t e,i=>by rw[gcs,Op,List.map_append,List.map_append,Zfs c,Zfs t,Zfs e];rfl
 |.op w a b,i=>by rw[gcs,Op,List.map_append,Zfs a,Zfs b];rfl
def Zgh(t)(i):(gcs i t).length=t.size:=by rw[<-Yu ,Zfs,Zhi _ t i<|Oq _]
def seg_at{A pre post}{c}{l}(e:A=pre++(c::l)++post)(hl:pre.length=i):gl A i=J c:=by
 show A[i]?=_
 simp_all
end
section
variable {h:Hd}
namespace Q
def Zzp{i}{a b:Q}(h:(i::(a.all++b.all)).Nodup):a.all.Nodup/\b.all.Nodup/\i ∉ a.all/\i ∉ b.all/\∀n,n∈a.all->n ∉ b.all:=by rw[List.nodup_cons,OD,not_or,List.nodup_append]at h;exact⟨h.2.1,h.2.2.1,h.1.1,h.1.2,λn x y=>h.2.2.2 n x n y rfl⟩
def ZwI{i}{a b:Q}(h:(i::(a.all++b.all)).Nodup)(oa:a.One)(ob:b.One):(i::(a.opn++b.opn)).Nodup/\∀n∈i::(a.opn++b.opn),n ∉ a.deep++b.deep:=by
 obtain⟨_,_,d,f,c⟩:=Zzp h;refine⟨List.nodup_cons.mpr ⟨λz=>?_,List.nodup_append.mpr ⟨oa.1,ob.1,λx g y j e=>c x (ZB x g)<|e▸ZB y j⟩⟩,λn hn hd=>?_⟩
 . rcases OD.mp z with z|z
   . exact d (ZB _ z)
   . exact f (ZB _ z)
 . rcases OD.mp hd with hd|hd
   . rcases O2.mp hn with rfl|hn
     . exact d (ZD _ hd)
     . rcases OD.mp hn with hn|hn
       . exact oa.2 n hn hd
       . exact c n (ZD _ hd) (ZB _ hn)
   . rcases O2.mp hn with rfl|hn
     . exact f (ZD _ hd)
     . rcases OD.mp hn with hn|hn
       . exact c n (ZB _ hn) (ZD _ hd)
       . exact ob.2 n hn hd
theorem nod:∀{q:Q},q.all.Nodup->q.One/\q.Uns
 |.num i z,_=>⟨⟨.nil,λn hn=>by trivial⟩,trivial⟩
 |.name i x,_=>⟨⟨List.nodup_cons.mpr ⟨λz=>(by cases z),.nil⟩,λn hn hd=>by cases hd⟩,trivial⟩
 |.fn i x e,h|.rcc i f x e,h=>⟨⟨.nil,λn hn=>by trivial⟩,nod (List.nodup_cons.mp h).2⟩
 |.call i a b,h|.op i w a b,h=>by obtain⟨na,nb,_⟩:=Zzp h;obtain⟨oa,ua⟩:=nod na;obtain⟨ob,ub⟩:=nod nb;exact⟨ZwI h oa ob,ua,ub⟩
 |.iff i a b c,h=>by
  simp only[all,List.nodup_cons,OD,not_or,List.nodup_append]at h;obtain⟨⟨ia,ib,ic⟩,na,⟨nb,nc,i8⟩,da⟩:=h;obtain⟨oa,ua⟩:=nod na;obtain⟨ob,ub⟩:=nod nb;obtain⟨oc,uc⟩:=nod nc;refine⟨⟨?_,λn hn hd=>?_⟩,ua,ub,uc⟩
  . simp only[opn,List.nodup_cons,OD,not_or,List.nodup_append];exact⟨⟨λz=>ia<|ZB _ z,λz=>ib<|ZB _ z,λz=>ic<|ZB _ z⟩,oa.1,⟨ob.1,oc.1,λx hx y hy=>i8 x (ZB x hx) y<|ZB y hy⟩,λx hx y hy=>da x (ZB x hx) y<|hy.imp (ZB y)<|ZB y⟩
  . simp only[opn,deep,O2,OD]at hn hd;rcases hn with rfl|hn|hn|hn<;>rcases hd with hd|hd|hd
    . exact ia (ZD _ hd)
    . exact ib (ZD _ hd)
    . exact ic (ZD _ hd)
    . exact oa.2 n hn hd
    . exact da n (ZB _ hn) n (.inl<|ZD _ hd) rfl
    . exact da n (ZB _ hn) n (.inr<|ZD _ hd) rfl
    . exact da n (ZD _ hd) n (.inl<|ZB _ hn) rfl
    . exact ob.2 n hn hd
    . exact i8 n (ZB _ hn) n (ZD _ hd) rfl
    . exact da n (ZD _ hd) n (.inr<|ZB _ hn) rfl
    . exact i8 n (ZD _ hd) n (ZB _ hn) rfl
    . exact oc.2 n hn hd
end Q
def qs:Nat->T->Q
 |i,.num n=>.num i n
 |i,.name x=>.name i x
 |i,.fn x e=>.fn i x (qs (i+1) e)
 |i,.rcc f x e=>.rcc i f x (qs (i+1) e)
 |i,.call f a=>.call i (qs (i+1) f) (qs (i+1+f.size) a)
 |i,.iff c t e=>.iff i (qs (i+1) c) (qs (i+1+c.size) t) (qs (i+1+c.size+t.size) e)
 |i,.op w a b=>.op i w (qs (i+1) a) (qs (i+1+a.size) b)
def Zfl(i)(t):(qs i t).no=i:=by cases t<;>rfl
theorem Zfm:∀(t) (i),(qs i t).er=t
 |.num _,_=>rfl
 |.name _,_=>rfl
 |.fn x e,i|.rcc f x e,i=>by simp[qs,Q.er,Zfm e]
 |.call f a,i=>by simp[qs,Q.er,Zfm f,Zfm a]
 |.iff c t e,i=>by simp[qs,Q.er,Zfm c,Zfm t,Zfm e]
 |.op w a b,i=>by simp[qs,Q.er,Zfm a,Zfm b]
theorem Zah:∀(t) (i n),n∈(qs i t).all->i<=n/\n<i+t.size
 |.num z,i,n,h=>by have:=ZC<|.num z;rw[Ox.mp h];lia
 |.name z,i,n,h=>by have:=ZC<|.name z;rw[Ox.mp h];lia
 |.fn x e,i,n,h=>by
  have:=zf x e;rcases O2.mp h with rfl|h
  . lia
  . have:=Zah e _ n h;lia
 |.rcc f x e,i,n,h=>by
  have:=zr f x e;rcases O2.mp h with rfl|h
  . lia
  . have:=Zah e _ n h;lia
 |.call f a,i,n,h=>by
  have:=zc f a;simp only[qs,Q.all,O2,OD]at h;rcases h with rfl|h|h
  . lia
  . have:=Zah f _ n h;lia
  . have:=Zah a _ n h;lia
 |.iff c t e,i,n,h=>by
  have:=zi c t e;simp only[qs,Q.all,O2,OD]at h;rcases h with rfl|h|h|h
  . lia
  . have:=Zah c _ n h;lia
  . have:=Zah t _ n h;lia
  . have:=Zah e _ n h;lia
 |.op w f a,i,n,h=>by
  have:=zo w f a;simp only[qs,Q.all,O2,OD]at h;rcases h with rfl|h|h
  . lia
  . have:=Zah f _ n h;lia
  . have:=Zah a _ n h;lia
theorem Zhs:∀ (t) (i),(qs i t).all.Nodup
 |.num z,i|.name z,i=>List.nodup_cons.mpr ⟨λz=>(by cases z),.nil⟩
 |.fn x e,i|.rcc f x e,i=>List.nodup_cons.mpr ⟨λz=>by have:=Zah e _ _ z;lia,Zhs e _⟩
 |.call f a,i|.op w f a,i=>List.nodup_cons.mpr ⟨λz=>by
     rcases OD.mp z with z|z
     . have:=Zah f _ _ z;lia
     . have:=Zah a _ _ z;lia,List.nodup_append.mpr ⟨Zhs f _,Zhs a _,λx b y hy=>by have:=Zah f _ _ b;have:=Zah a _ _ hy;lia⟩⟩
 |.iff c t e,i=>List.nodup_cons.mpr ⟨λz=>by
     rcases OD.mp z with z|z
     . have:=Zah c _ _ z;lia
     . rcases OD.mp z with z|z
       . have:=Zah t _ _ z;lia
       . have:=Zah e _ _ z;lia,List.nodup_append.mpr ⟨Zhs c _,List.nodup_append.mpr ⟨Zhs t _,Zhs e _,λx b y hy=>by have:=Zah t _ _ b;have:=Zah e _ _ hy;lia⟩,λx b y hy=>by
       have:=Zah c _ _ b;rcases OD.mp hy with hy|hy
       . have:=Zah t _ _ hy;lia
       . have:=Zah e _ _ hy;lia⟩⟩
theorem Zfk{A}:∀(t) (i) (pre post),A=pre++gcs i t++post->pre.length=i->(qs i t).ok (gl A)
 |.num _,i,pre,post,e,g=>seg_at e g
 |.name _,i,pre,post,e,g=>seg_at e g
 |.fn x b,i,pre,post,e,g=>⟨by rw[Zfl];exact seg_at e g,Zfk b _ (pre++[Zbo i<|.fn x b]) post (by rw[e,gcs];simp)<|by simp_all⟩
 |.rcc f x b,i,pre,post,e,g=>⟨by rw[Zfl];exact seg_at e g,Zfk b _ (pre++[Zbo i<|.rcc f x b]) post (by rw[e,gcs];simp)<|by simp_all⟩
 |.call f a,i,pre,post,e,g=>⟨by rw[Zfl,Zfl];exact seg_at e g,Zfk f _ (pre++[Zbo i<|.call f a]) (gcs (i+1+f.size) a++post) (by rw[e,gcs];simp)<|by simp_all,Zfk a _ (pre++[Zbo i<|.call f a]++gcs (i+1) f) post (by rw[e,gcs];simp) (by simp[g,Zgh];lia)⟩
 |.iff c t d,i,pre,post,e,g=>⟨by rw[Zfl,Zfl,Zfl];exact seg_at e g,Zfk c (i+1) (pre++[Zbo i<|.iff c t d]) (gcs (i+1+c.size) t++gcs (i+1+c.size+t.size) d++post) (by rw[e,gcs];simp)<|by simp[g],Zfk t (i+1+c.size) (pre++[Zbo i<|.iff c t d]++gcs (i+1) c) (gcs (i+1+c.size+t.size) d++post) (by rw[e,gcs];simp) (by simp[g,Zgh];lia),Zfk d (i+1+c.size+t.size) (pre++[Zbo i<|.iff c t d]++gcs (i+1) c++gcs (i+1+c.size) t) post (by rw[e,gcs];simp) (by simp[g,Zgh];lia)⟩
 |.op w f a,i,pre,post,e,g=>⟨by rw[Zfl,Zfl];exact seg_at e g,Zfk f (i+1) (pre++[Zbo i<|.op w f a]) (gcs (i+1+f.size) a++post) (by rw[e,gcs];simp)<|by simp[g],Zfk a (i+1+f.size) (pre++[Zbo i<|.op w f a]++gcs (i+1) f) post (by rw[e,gcs];simp) (by simp[g,Zgh];lia)⟩
end
theorem Zdl:∀(t) (ns al),fin ns t=Ws->fin (rs al ns) t=fin al t
 |.num _,_,_,_=>rfl
 |.name x,ns,al,h=>by simp_all [fin,rs]
 |.fn x e,ns,al,h=>by rw[fin,fin,<-Zdl e _ (rs al _) h];congr 1;simp[rs];congr 1;grind
 |.rcc f x e,ns,al,h=>by rw[fin,fin,<-Zdl e _ (rs al _) h];congr 1;simp[rs];congr 1;grind
 |.call a b,ns,al,h|.op _ a b,ns,al,h=>by simp[fin]at h ⊢;rw[Zdl a _ _ h.1,Zdl b _ _ h.2]
 |.iff a b c,ns,al,h=>by simp[fin]at h ⊢;rw[Zdl a _ _ h.1,Zdl b _ _ h.2.1,Zdl c _ _ h.2.2]
def Zhr(ns al b):rs (rs al b) (rs ns b)=rs (rs al ns) b:=by simp only[rs,List.filter_filter];congr 1;funext x;grind
namespace Q
def cpl:List Str->Q->List Nat
 |_,.num _ _=>[]
 |ns,.name i x=>if x∈ns then []else [i]
 |ns,.fn i x e=>if fin (rs ns [x]) e.er then i::cpl (rs ns [x]) e else []
 |ns,.rcc i f x e=>if fin (rs ns [f,x]) e.er then i::cpl (rs ns [f,x]) e else []
 |ns,.call i a b|ns,.op i _ a b=>i::(cpl ns a++cpl ns b)
 |ns,.iff i a b c=>i::(cpl ns a++(cpl ns b++cpl ns c))
def Cps:Q->Prop
 |.num _ _|.name _ _=>True
 |.fn _ _ e|.rcc _ _ _ e=>(∀d,(e.cpl d).Nodup)/\e.Cps
 |.call _ a b|.op _ _ a b=>a.Cps/\b.Cps
 |.iff _ a b c=>a.Cps/\b.Cps/\c.Cps
theorem Zcl:∀(q:Q) (ns),(q.cpl ns).Sublist q.all
 |.num _ _,_=>List.nil_sublist _
 |.name i x,ns=>by simp[cpl];split;exact List.nil_sublist _;exact .refl _
 |.fn i x e,ns|.rcc i f x e,ns=>by simp[cpl];split;exact(Zcl e _).cons_cons _;simp
 |.call i a b,ns|.op i _ a b,ns=>((Zcl a _).append<|Zcl b _).cons_cons _
 |.iff i a b c,ns=>((Zcl a _).append<|(Zcl b _).append<|Zcl c _).cons_cons _
theorem ZfP:∀{q:Q},q.all.Nodup->q.Cps
 |.num i z,_|.name i z,_=>trivial
 |.fn i x e,h|.rcc i f x e,h=>have h:=(List.nodup_cons.mp h).2;⟨λd=>(Zcl e _).nodup h,ZfP h⟩
 |.call i a b,h|.op i w a b,h=>have h:=List.nodup_append.mp (List.nodup_cons.mp h).2;⟨ZfP h.1,ZfP h.2.1⟩
 |.iff i a b c,h=>have h:=List.nodup_append.mp (List.nodup_cons.mp h).2;have k:=List.nodup_append.mp h.2.1;⟨ZfP h.1,ZfP k.1,ZfP k.2.1⟩
theorem ZoZ{u}(hu:u.Cps):∀q ,q.Cps->(rp u q).Cps
 |.num _ _,_|.name _ _,_|.fn _ _ _,_|.rcc _ _ _ _,_=>hu
 |.call i a b,h|.op i w a b,h=>by
  simp[rp];split
  . split
    . trivial
    . exact⟨h.1,ZoZ hu b h.2⟩
  . exact⟨ZoZ hu a h.1,h.2⟩
 |.iff i a b c,h=>by
  simp[rp];split
  . trivial
  . exact⟨ZoZ hu a h.1,h.2⟩
theorem Zmd:∀q:Q,q.Cps->q.bt.Cps
 |.num _ _,h|.name _ _,h|.fn _ _ _,h|.rcc _ _ _ _,h=>h
 |.call i a b,h|.op i w a b,h=>by
  simp[bt];split
  . split
    . exact h
    . exact Zmd b h.2
  . exact Zmd a h.1
 |.iff i a b c,h=>by
  simp[bt];split
  . exact h
  . exact Zmd a h.1
def ZxF{q:Q}(h:q.Cps):(q.tp y).Cps:=by cases q<;>exact h
theorem Zek:∀(q:Q) (ns al),fin ns q.er=Ws->q.cpl (rs al ns)=q.cpl al
 |.num _ _,_,_,_=>rfl
 |.name i x,ns,al,h=>by simp_all [cpl,er,fin,rs]
 |.fn i x e,ns,al,h=>by have h:fin _ e.er=Ws:=h;simp[cpl];rw[<-Zhr,Zdl _ _ _ h,Zek e _ _ h]
 |.rcc i f x e,ns,al,h=>by have h:fin _ e.er=Ws:=h;simp[cpl];rw[<-Zhr,Zdl _ _ _ h,Zek e _ _ h]
 |.call i a b,ns,al,h|.op i w a b,ns,al,h=>by simp[er,fin]at h;simp only[cpl];rw[Zek a _ _ h.1,Zek b _ _ h.2]
 |.iff i a b c,ns,al,h=>by simp[er,fin]at h;simp only[cpl];rw[Zek a _ _ h.1,Zek b _ _ h.2.1,Zek c _ _ h.2.2]
def Zvp{q:Q}(v:q.isV=Wq)(h:fin ns q.er=Ws):q.cpl ns=[]:=by cases q<;>simp_all [cpl,isV,er,fin]
end Q
theorem Zdq:∀(t) (sc ns),Gn.Cl sc t->(∀x∈ns,x ∉ sc)->fin ns t=Ws
 |.num _,_,_,_,_=>rfl
 |.name x,sc,ns,c,h=>by simp[fin];exact λz=>h x z c
 |.fn x e,sc,ns,c,h=>Zdq e _ _ c.1 (by simp[rs];grind)
 |.rcc f x e,sc,ns,c,h=>Zdq e _ _ c.1 (by simp[rs];grind)
 |.call a b,sc,ns,c,h|.op _ a b,sc,ns,c,h=>by simp[fin,Zdq a _ _ c.1 h,Zdq b _ _ c.2 h]
 |.iff a b d,sc,ns,c,h=>by simp[fin,Zdq a _ _ c.1 h,Zdq b _ _ c.2.1 h,Zdq d _ _ c.2.2 h]
theorem ZbF{qb}{nm:List _}(hm:∀x∈nm,∃v,get (qb.map λp=>(p.1,J p.2)) x=J v/\∀ns,fin ns v=Ws):∀(t) (ns al),(∀x∈ns,x∈nm)->fin al (sub (arN qb ns) t)=fin (rs al ns) t
 |.num _,_,_,_=>rfl
 |.name x,ns,al,h=>by
  simp[sub];rw[Zcf];by_cases hx:x∈ns
  . obtain⟨v,e,k⟩:=hm x<|h x hx;rw[if_pos hx,e];simp[fin,rs,hx,k]
  . simp[fin,rs,hx]
 |.fn x e,ns,al,h=>by show fin _ (.fn x<|sub (inn (.fn x e)<|arN qb _) e)=_;rw[ZbD,fin,fin,<-Zhr];exact ZbF hm e _ _ λy hy=>h y (List.mem_filter.mp hy).1
 |.rcc f x e,ns,al,h=>by show fin _ (.rcc f x<|sub (inn (.rcc f x e)<|arN qb _) e)=_;rw[ZbD,fin,fin,<-Zhr];exact ZbF hm e _ _ λy hy=>h y (List.mem_filter.mp hy).1
 |.call a b,ns,al,h|.op _ a b,ns,al,h=>by simp[sub,fin];rw[ZbF hm a _ _ h,ZbF hm b _ _ h]
 |.iff a b c,ns,al,h=>by simp[sub,fin];rw[ZbF hm a _ _ h,ZbF hm b _ _ h,ZbF hm c _ _ h]
namespace Q
def Top(g:Nat->Option Gc)(q:Q):Gc->Prop
 |.num z=>q=.num q.no z
 |.name x=>q=.name q.no x
 |.fn x m=>∃e,q=.fn q.no x e/\e.no=m/\e.ok g
 |.rcc f x m=>∃e,q=.rcc q.no f x e/\e.no=m/\e.ok g
 |.call m k=>∃a b,q=.call q.no a b/\(a.no=m/\a.ok g)/\b.no=k/\b.ok g
 |.op w m k=>∃a b,q=.op q.no w a b/\(a.no=m/\a.ok g)/\b.no=k/\b.ok g
 |.iff m k j=>∃a b c,q=.iff q.no a b c/\(a.no=m/\a.ok g)/\(b.no=k/\b.ok g)/\c.no=j/\c.ok g
def top{q:Q}(h:q.ok g)(e:g q.no=J c):q.Top g c:=by
 cases q with
 |num i z=>cases e.symm.I h;rfl
 |name i z=>cases e.symm.I h;rfl
 |fn i x b=>cases e.symm.I h.1;exact⟨b,rfl,rfl,h.2⟩
 |rcc i f x b=>cases e.symm.I h.1;exact⟨b,rfl,rfl,h.2⟩
 |call i a b=>cases e.symm.I h.1;exact⟨a,b,rfl,⟨rfl,h.2.1⟩,rfl,h.2.2⟩
 |op i w a b=>cases e.symm.I h.1;exact⟨a,b,rfl,⟨rfl,h.2.1⟩,rfl,h.2.2⟩
 |iff i a b c=>cases e.symm.I h.1;exact⟨a,b,c,rfl,⟨rfl,h.2.1⟩,⟨rfl,h.2.2.1⟩,rfl,h.2.2.2⟩
def ZAJ{g}:∀{q r:Q},q.ok g->r.ok g->r.no=q.no->r=q:=by
 intro q;induction q with
 |num i z|name i z=>intro r h d e;rw[top d<|(congrArg g e).I h,e];rfl
 |fn i x b p|rcc i f x b p=>intro r h d e;obtain⟨s,t,n,o⟩:=top d<|(congrArg g e).I h.1;rw[t,e,p h.2 o n];rfl
 |call i a b j k|op i w a b j k=>intro r h d e;obtain⟨u,s,t,⟨n,o⟩,l,m⟩:=top d<|(congrArg g e).I h.1;rw[t,e,j h.2.1 o n,k h.2.2 m l];rfl
 |iff i a b c j k v=>intro r h d e;obtain⟨u,s,B,t,⟨n,o⟩,⟨l,m⟩,y,A⟩:=top d<|(congrArg g e).I h.1;rw[t,e,j h.2.1 o n,k h.2.2.1 m l,v h.2.2.2 A y];rfl
end Q
def Fr(K:List Pr)(L:Nat)(i n:Nat):Prop:=(n=i/\i<L)\/∃a,Kn K L (i,a) n
theorem Fr.inj(a:Fr K L i n)(b:Fr K L j n):i=j:=by
 rcases a with⟨rfl,a⟩|⟨c,a⟩<;>rcases b with⟨e,b⟩|⟨d,b⟩
 . exact e
 . obtain⟨j,_,e⟩:=b;lia
 . obtain⟨j,_,e⟩:=a;lia
 . exact congrArg Prod.fst (a.inj b)
theorem Paired.fr:∀{l},(∀n∈l,n<L)->Paired (Fr K L) l l
 |[],_=>.nil
 |n::l,h=>.cons (.inl ⟨rfl,h n<|.head _⟩) (Paired.fr λm hm=>h m<|.tail _ hm)
structure Cq(K:List Pr)(L:Nat)(ns:List Str)(b q':Q):Prop where
 c:∀al,∃l,l.Sublist (b.cpl<|rs al ns)/\Paired (Fr K L) l (q'.cpl al)
 u:q'.Cps
def Cq.nd(c:Cq K L ns b q')(h:∀ns,(b.cpl ns).Nodup)(al):(q'.cpl al).Nodup:=by obtain⟨l,s,p⟩:=c.c _;exact Paired.nodup (λ_ _ _ x y=>x.inj y) p (s.nodup<|h _)
section
variable {G:List Gc}{kv:List (NK×D)}{md:List (Key×D)}{nm ns:List Str}{qb:List (Str×T)}{K:List Pr}{N:List Gc}{y num:Nat}{b q':Q}
def Mq(g:Nat->Option Gc)(md:List (Key×D))(qb:List (Str×T))(nm:List Str):Prop:=∀x∈nm,∃v:Q,v.ok g/\v.isV=Wq/\Zw md (.inr x)=J (nI v.no)/\get (qb.map λp=>(p.1,J p.2)) x=J v.er/\(∀a,fin a v.er=Ws)/\v.Cps
inductive E2(G:List Gc)(md:List (Key×D))(K:List Pr)(N:List Gc)(y:Nat)(b q':Q)(ns:List Str)(num:Nat):Prop
 |ez (c:Cq K G.length ns b q')
 |own (c:Gc) (ah:List Nat) (e:wo (gl G) y b.no=J c) (e':wo (gl (G++N)) y num=J (c.wp ah)) (k:Kn K G.length (b.no,ns) num) (p:Paired (Std G md K) (bn c ns) ah) (hc:cm ns c=Ws) (hv:c.isV=Wq->fin ns b.er=Wq)
def Zj7(hy:y<G.length)(mq:Mq (wo (gl G) y) md qb nm)(u:Pu G kv md nm K N [] [])(ok:b.ok (wo (gl G) y))(un:b.Cps)(sm:∀n∈b.all,n<G.length)(st:Std G md K (b.no,ns) num)(hs:∀x∈ns,x∈nm)(bi:q'.ok (wo (gl<|G++N) y))(aP:q'.no=num):E2 G md K N y b q' ns num:=by
 obtain⟨t,c,rd,e,q⟩:=st;obtain⟨J,f,L,_⟩:=(Q.rd ok).inv;have rb:=(Q.rd ok).mono ZJ;cases rb.one rd;simp at e q;cases e.symm.I (ZJ _ _ f);have up:∀{r},r.ok (wo (gl G) y)->r.no=num->q'=r:=λo n=>Q.ZAJ (Q.mono (λi _ c e=>ZmG i c e) o) bi<|aP.I n.symm;rcases q with⟨h,q,rfl⟩|⟨x,rfl,k,bp⟩|⟨l,j,a,rfl⟩
 . cases up ok rfl;exact .ez ⟨λm=>⟨_,.refl _,by rw[Q.Zek b _ _ q];exact Paired.fr λn p=>sm n<|(Q.Zcl b _).subset p⟩,un⟩
 . obtain⟨v,s,w,ve,O,vc,A⟩:=mq x<|hs x k;cases up s (ZbL<|YF<|bp.symm.I ve).symm;exact .ez ⟨λm=>⟨_,List.nil_sublist _,by rw[Q.Zvp w<|vc _];exact .nil⟩,A⟩
 . obtain⟨B,P,C,D,E⟩:=u.d j _ a (by simp) (by simp);cases e.symm.I C;obtain⟨R,B,F,H,h,_⟩:=u.g _<|O1 a;cases e.symm.I H;refine .own c _ f ?_ ⟨j,a,rfl⟩ E l λz=>rb.one F.r▸h z;rw[Zlj<|by lia];show(G++N)[G.length+j]?=_;rw[Om<|by lia,show G.length+j-G.length=j by lia];exact D
def Zzy{g}(mq:Mq g md qb nm):∀x∈nm,∃v,get (qb.map λp=>(p.1,J p.2)) x=J v/\∀ns,fin ns v=Ws:=λx a=>by obtain⟨v,_,_,_,e,c,_⟩:=mq x a;exact⟨_,e,c⟩
def ZBK(hy:y<G.length)(mq:Mq (wo (gl G) y) md qb nm)(u:Pu G kv md nm K N [] []):∀(b) (ns) (num) (q'),b.ok (wo (gl G) y)->b.Cps->(∀n∈b.all,n<G.length)->Std G md K (b.no,ns) num->(∀x∈ns,x∈nm)->q'.ok (wo (gl<|G++N) y)->q'.no=num->q'.er=sub (arN qb ns) b.er->Cq K G.length ns b q':=by
 intro b;induction b with
 |num i z=>
  intro ns num q' ok un sm st hs bi aP er;cases Zj7 hy mq u ok un sm st hs bi aP with
  |ez c=>exact c
  |own c ah e e' k p _ hv=>cases e.symm.I ok;exact absurd (hv rfl) (by simp[Q.er,fin])
 |name i x=>
  intro ns num q' ok un sm st hs bi aP er;cases Zj7 hy mq u ok un sm st hs bi aP with
  |ez c=>exact c
  |own c ah e e' k p hc hv=>
   cases e.symm.I ok;have hx:x ∉ ns:=by simpa[cm]using hc
   subst aP;have t:q'=.name q'.no x:=Q.top bi (c:=.name x) e';rw[t];refine⟨λal=>?_,trivial⟩;simp only[Q.cpl];by_cases h:x∈al
   . rw[if_pos h];exact⟨[],List.nil_sublist _,.nil⟩
   . rw[if_neg h,if_neg<|show ¬ x∈rs al ns from λz=>h (List.mem_filter.mp z).1];exact⟨[i],.refl _,.cons (.inr ⟨ns,k⟩) .nil⟩
 |fn i x e ih=>
  intro ns num q' ok un sm st hs bi aP er;cases Zj7 hy mq u ok un sm st hs bi aP with
  |ez c=>exact c
  |own c ah e0 e' k p hc hv=>
   cases e0.symm.I ok.1;obtain⟨n1,rfl⟩:=List.length_eq_one_iff.mp<|Zar p;cases p with|cons s1 _=>?_
   subst aP;obtain⟨q1,t,n',o'⟩:=Q.top bi e';have bS:q1.er=sub (arN qb<|rs ns [x]) e.er:=by rw[t]at er;exact(T.fn.inj er).2.I (ZbD qb ns (.fn x e.er) e.er)
   have c1:=ih (rs ns [x]) n1 q1 ok.2 un.2 (λn hn=>sm n<|.tail _ hn) s1 (λy hy=>hs y (List.mem_filter.mp hy).1) o' n' bS;rw[t];refine⟨λal=>?_,λal=>c1.nd un.1 al,c1.u⟩;obtain⟨l,s,pp⟩:=c1.c<|rs al [x];simp only[Q.cpl];rw[bS,ZbF (Zzy mq) e.er (rs ns [x]) (rs al [x])<|λy hy=>hs y (List.mem_filter.mp hy).1,Zhr];rw[Zhr]at s;split
   . exact⟨i::l,s.cons_cons _,.cons (.inr ⟨ns,k⟩) pp⟩
   . exact⟨[],.refl _,.nil⟩
 |rcc i f x e ih=>
  intro ns num q' ok un sm st hs bi aP er;cases Zj7 hy mq u ok un sm st hs bi aP with
  |ez c=>exact c
  |own c ah e0 e' k p hc hv=>
   cases e0.symm.I ok.1;obtain⟨n1,rfl⟩:=List.length_eq_one_iff.mp<|Zar p;cases p with|cons s1 _=>?_
   subst aP;obtain⟨q1,t,n',o'⟩:=Q.top bi e';have bS:q1.er=sub (arN qb<|rs ns [f,x]) e.er:=by rw[t]at er;exact(T.rcc.inj er).2.2.I (ZbD qb ns (.rcc f x e.er) e.er)
   have c1:=ih (rs ns [f,x]) n1 q1 ok.2 un.2 (λn hn=>sm n<|.tail _ hn) s1 (λy hy=>hs y (List.mem_filter.mp hy).1) o' n' bS;rw[t];refine⟨λal=>?_,λal=>c1.nd un.1 al,c1.u⟩;obtain⟨l,s,pp⟩:=c1.c<|rs al [f,x];simp only[Q.cpl];rw[bS,ZbF (Zzy mq) e.er (rs ns [f,x]) (rs al [f,x])<|λy hy=>hs y (List.mem_filter.mp hy).1,Zhr];rw[Zhr]at s;split
   . exact⟨i::l,s.cons_cons _,.cons (.inr ⟨ns,k⟩) pp⟩
   . exact⟨[],.refl _,.nil⟩
 |call i a b ia ib|op i w a b ia ib=>
  intro ns num q' ok un sm st hs bi aP er;cases Zj7 hy mq u ok un sm st hs bi aP with
  |ez c=>exact c
  |own c ah e0 e' k p hc hv=>
   cases e0.symm.I ok.1;obtain⟨n1,n2,rfl⟩:∃a b,ah=[a,b]:=match ah,Zar p with|[a,b],_=>⟨a,b,rfl⟩
   simp only[bn,Gc.ps,Gc.bd,Zbg,Op,Oy]at p;obtain⟨s1,s2⟩:=pq2 p;subst aP;obtain⟨q1,q2,t,⟨m1,o1⟩,m2,o2⟩:=Q.top bi e';have bS:q1.er=sub (arN qb ns) a.er/\q2.er=sub (arN qb ns) b.er:=by
    rw[t]at er
    first|exact T.call.inj er|exact(T.op.inj er).2
   have c1:=ia ns n1 q1 ok.2.1 un.1 (λn hn=>sm n<|inl n hn) s1 hs o1 m1 bS.1;have c2:=ib ns n2 q2 ok.2.2 un.2 (λn hn=>sm n<|inr n hn) s2 hs o2 m2 bS.2;rw[t];refine⟨λal=>?_,c1.u,c2.u⟩;obtain⟨l1,a1,p1⟩:=c1.c al;obtain⟨l2,a2,p2⟩:=c2.c al;exact⟨i::(l1++l2),(a1.append a2).cons_cons _,.cons (.inr ⟨ns,k⟩)<|Paired.app p1 p2⟩
 |iff i a b d ia ib id'=>
  intro ns num q' ok un sm st hs bi aP er;cases Zj7 hy mq u ok un sm st hs bi aP with
  |ez c=>exact c
  |own c ah e0 e' k p hc hv=>
   cases e0.symm.I ok.1;obtain⟨n1,n2,n3,rfl⟩:∃a b c,ah=[a,b,c]:=match ah,Zar p with|[a,b,c],_=>⟨a,b,c,rfl⟩
   simp only[bn,Gc.ps,Gc.bd,Zbg,Op,Oy]at p;obtain⟨s1,s2,s3⟩:=pq3 p;subst aP;obtain⟨q1,q2,q3,t,⟨m1,o1⟩,⟨m2,o2⟩,m3,o3⟩:=Q.top bi e';have bS:q1.er=sub (arN qb ns) a.er/\q2.er=sub (arN qb ns) b.er/\q3.er=sub (arN qb ns) d.er:=by rw[t]at er;exact T.iff.inj er
   have c1:=ia ns n1 q1 ok.2.1 un.1 (λn hn=>sm n<|inl n hn) s1 hs o1 m1 bS.1;have c2:=ib ns n2 q2 ok.2.2.1 un.2.1 (λn hn=>sm n<|inr n<|Ys _ hn) s2 hs o2 m2 bS.2.1;have c3:=id' ns n3 q3 ok.2.2.2 un.2.2 (λn hn=>sm n<|inr n<|Ov _ hn) s3 hs o3 m3 bS.2.2;rw[t];refine⟨λal=>?_,c1.u,c2.u,c3.u⟩;obtain⟨l1,a1,p1⟩:=c1.c al;obtain⟨l2,a2,p2⟩:=c2.c al;obtain⟨l3,a3,p3⟩:=c3.c al;exact⟨i::(l1++(l2++l3)),(a1.append<|a2.append a3).cons_cons _,.cons (.inr ⟨ns,k⟩)<|Paired.app p1<|Paired.app p2 p3⟩
end
section
variable {P:Pg}{h:Hd}
def ZzY{G N}{y num}{s'}{qF qA q':Q}(hy:y<G.length)(oF:qF.ok (wo (gl G) y))(oA:qA.ok (wo (gl G) y))(vF:qF.isV=Wq)(vA:qA.isV=Wq)(cF:∀ns,fin ns qF.er=Ws)(cA:∀ns,fin ns qA.er=Ws)(pF:qF.Cps)(pA:qA.Cps)(hw:How G y qF.no qA.no qF.er qA.er N num s')(o':q'.ok (wo (gl<|G++N) y))(n':q'.no=num)(e':q'.er=s'):q'.Cps:=by
 obtain⟨md,nm,s,v,K,b,t,c,e,j,w,rb,k,l,m,a,_⟩:=hw;have body:∀(q:Q),q.ok _->q.no=b->q.Cps->q'.Cps:=λq ok no o=>by exact(ZBK hy (λx p=>(a x p).elim (λ⟨d,g⟩=>⟨_,oF,vF,d,g,cF,pF⟩) λ⟨d,g⟩=>⟨_,oA,vA,d,g,cA,pA⟩) l q _ _ _ ok o (λn r=>by obtain⟨c,e⟩:=Q.Zxh ok n r;exact(Ob.mp<|ZJ _ _ e).1) (no.symm▸m) (λ_ h=>h) o' n'<|by rw[e',k,rb.one<|no▸Q.rd ok]).u
 cases qF with
 |num i z=>cases e.symm.I (ZJ _ _ oF);trivial
 |fn i x q|rcc i f x q=>cases e.symm.I (ZJ _ _ oF.1);exact body q oF.2 (List.cons.inj j).1 pF.2
 |_=>trivial
def Zm2{G N}{c'}{y}{r q:Q}(cp:q.Cps)(hy:y<G.length)(yo:y∈r.opn)(o:q.ok (wo (gl<|G++N) y))(e':(G++N)[q.no]?=J c')(one:q.One)(un:q.Uns)(ho:∀n∈q.opn,n∈r.opn\/G.length<=n)(hd:∀n∈q.deep,n∈r.deep\/G.length<=n\/∃c,gl G n=J c/\c.isV=Wq):∃u:Q,u.ok (gl<|(G++N).set y c')/\u.no=y/\u.er=q.er/\Q.Fits (gl G) G.length r u/\u.Cps:=⟨_,Q.Zyw (λi a=>Oc a.symm) o e'<|Ol (by simp;lia),Q.Zyx q,Q.Zyy q,⟨Q.ZvQ one (λz=>Q.Zvc o<|Q.ZB _ z)<|λz=>Q.Zvc o<|Q.ZD _ z,Q.ZvP un,λn h=>(Q.Zqx q n h).elim (λz=>.inl<|z▸yo)<|ho n,λn h=>hd n<|Q.Zn0 q▸h⟩,Q.ZxF cp⟩
def ZyO{G N}{c c'}{y}{s'}{r}(hr:r.ok (gl G))(no:r.no=y)(nv:r.isV=Ws)(one:r.One)(un:r.Uns)(ct:Gn.Cl [] r.er)(cp:r.Cps)(e:G[y]?=J c)(wv:∀m∈c.pf,∃c,G[m]?=J c/\c.isV=Wq)(sr:Src G y N c' c r.er s'):∃u:Q,u.ok (gl<|(G++N).set y c')/\u.no=y/\u.er=s'/\Q.Fits (gl G) G.length r u/\u.Cps:=by
 have g:=(Ob.mp e).1;have o:y∈r.opn:=by subst no;cases r<;>first|exact .head _|trivial
 have f:∀{q:Q},q.ok (gl G)->y ∉ q.opn->y ∉ q.deep->q.ok _:=λh a b=>Q.Ziu (λi H=>Zlj H) (Q.Zdc hr y o) h a b;generalize j:r.er=s at sr;cases sr with
 |num hN K=>subst K;exact⟨.num y _,Ol<|by simp_all,rfl,rfl,⟨⟨.nil,λn p=>by trivial⟩,trivial,λn p=>(by trivial),λn p=>(by trivial)⟩,trivial⟩
 |call k B=>
  obtain⟨i,a,b,rfl,rfl,rfl⟩:=ZoW j;cases no;cases YF (e.symm.I hr.1);obtain⟨⟨t,v⟩,w,x⟩:=Zrt one;have l:∀{q:Q},q.ok _->q.no∈[a.no,b.no]->q.isV=Wq/\∀n∈q.all,n∈q.deep\/∃c,gl G n=J c/\c.isV=Wq:=λ{q} h m=>by obtain⟨W,L,O⟩:=wv _ m;have:=(Zh6 L O<|Q.rd h).1;rw[Q.ZbO]at this;exact⟨this,λn p=>(Q.three h n p).elim (λz=>by rw[Q.Zzh this]at z;cases z) id⟩
  obtain⟨C,P⟩:=l hr.2.1<|.head _;obtain⟨D,tb⟩:=l hr.2.2<|.tail _<|.head _;obtain⟨X,E,F,rfl,R,S,bK,T⟩:=ZzX g (f hr.2.1 t v) (f hr.2.2 w x) C D un.1 un.2 B;exact Zm2 (ZzY g (f hr.2.1 t v) (f hr.2.2 w x) C D (λA=>Zdq _ [] A ct.1<|by simp) (λA=>Zdq _ [] A ct.2<|by simp) cp.1 cp.2 B E F rfl) g o E (F.symm▸k) R S (λn z=>.inr<|bK n z) λn z=>(T n z).elim (λz=>.inr<|.inl z) λz=>z.elim (λz=>(P n z).elim (λz=>.inl<|Ys _ z) λz=>.inr<|.inr z) λz=>(tb n z).elim (λz=>.inl<|Ov _ z) λz=>.inr (.inr z)
 |thn hN k _|els hN k=>
  subst hN;obtain⟨i,a,b,d,rfl,_,rfl,rfl⟩:=Znw j;cases no;cases YF (e.symm.I hr.1);obtain⟨⟨t,v,w⟩,x,U,V⟩:=ZtT one
  first|exact Zm2 cp.2.1 g o (by rw[Yt];exact f hr.2.2.1 t v) (by rw[Yt];exact k) w un.2.1 (λn z=>.inl<|by simp[Q.opn,z]) λn z=>.inl (by simp[Q.deep,z])|exact Zm2 cp.2.2 g o (by rw[Yt];exact f hr.2.2.2 x U) (by rw[Yt];exact k) V un.2.2 (λn z=>.inl<|by simp[Q.opn,z]) λn z=>.inl (by simp[Q.deep,z])
inductive Ld(G:List Gc)(q:Q)(h:Hd)(r:qd D):Prop
 |mk (k:Nat) (h':Hd) (N:List Gc) (c c':Gc) (q':Q) (s':T) (e:r=.ok (loud (st k q.no)) h') (m:Fm [] h h') (hk:h'[k]?=J (cl ((G++N).set q.bt.no c'))) (nx:next q.er=J q'.er) (no:q'.no=q.no) (gq:Gq ((G++N).set q.bt.no c') q') (cp:q'.Cps) (ln:N.length<=ccR (bot q.er)) (ec:G[q.bt.no]?=J c) (wv:∀m∈c.pf,∃c,G[m]?=J c/\c.isV=Wq) (sr:Src G q.bt.no N c' c q.bt.er s')
inductive Sd(G:List Gc)(q:Q)(h:Hd)(r:qd D):Prop
 |value (e:r=.ok (.tup [.str (O "value")]) h)
 |stuck (h':Hd) (e:r=.ok (.tup [.str (O "stuck")]) h') (m:Fm [] h h')
 |loud (nv:Tm.isV q.er=Ws) (l:Ld G q h r)
def Zs4(H:Gs P)(n){G}{sk}{q}(hk:h[sk]?=J (cl G))(gq:Gq G q)(cp:q.Cps)(hz:q.er.size<=20000)(lG:G.length<=60000):Sd G q h (run P (n+8) (O "graph_step") [st sk q.no] h):=by
 rw[Ze H.graph_step rfl];obtain⟨c0,U,V⟩:=Zhj gq.ok;have l:tst (P.tbl<|n+7) Zes [J<|st _ _,M,M,M] h=.ok _ h:=ZI<|Zl (Zsq H _ _)<|Zb (Zy rfl rfl hk U) rfl;rw[V]at l;cases v:q.isV with
 |true=>rw[v]at l;exact .value (congrArg _<|Zc<|(Zq l).I<|Zc<|Zm<|ZaF rfl<|by simp)
 |false=>
  rw[v]at l;have y:xs1 (P.tbl<|n+7) ZeL [J<|st sk q.no,M,M,M] h=.ok (.nx,[J<|st sk q.no,J<|.ref h.length,M,M]) (h++[cl G]):=Zg (i:=1)<|Zb1 (Zb (x:=.ref sk) rfl rfl)<|Zvd hk;have p:(h++[cl G])[h.length]?=J (cl G):=ZL;have A:Fm [] h (h++[cl G]):=.app;generalize h++[cl G]=R at *;obtain⟨B,C,D,W,c,j,r⟩:=Zs5 H (n+3) p gq.ok v gq.cl hz;have rb:=Q.rd<|Q.Zh q gq.ok;obtain⟨a,E,f,pp,s⟩:=rb.at;rw[j]at E;cases E;have nd:=(Q.Zf3 q).nodup_iff.mp gq.one.1;have X:q.bt.One:=⟨(List.nodup_append.mp nd).2.1,λm hm Y=>gq.one.2 m ((Q.Zf3 q).mem_iff.mpr<|Ov _ hm)<|(Q.Zhg q).mem_iff.mpr<|Ov _ Y⟩
  have Z:next q.er=(bec q.bt.er).map (ZfH<|pth q.er):=by rw[Q.Zj6];rfl
  rcases Zpu H n p rb j (by rw[Q.ZbO];exact C) D (OE W hz) (Zgk r λm hm=>s m<|ZlH m hm) lG with⟨z,F⟩|⟨K,N,a,o,z,F,cs,w⟩
  . refine .stuck R ?_ A;have w:xs2 (P.tbl<|n+7) ZdC [J<|st sk q.no,M,M,M] h=.ok (.rt<|.tup [.str<|O "stuck"],_) R:=(Za<|(Zi l).I rfl).I ((Za y).I<|(Za<|Zg (i:=2)<|Zl B rfl).I<|(Za<|(λz=>Zg (i:=3)<|Zl z<|Zb rfl<|Zb (Zy (k:=h.length) (n:=q.bt.no) rfl rfl p j) rfl) z).I<|Zc<|(Zq<|ZzQ rfl).I<|Zc<|Zm<|ZaF rfl<|by simp);exact congrArg Zn w
  . obtain⟨u,uo,un,S,b,j8⟩:=ZyO (Q.Zh q gq.ok) rfl C X (Q.ZnX q gq.uns) D (Q.Zmd q cp) j (Zgk r λm hm=>s m<|ZlH m hm) w.x;have lm:q.bt.no<G.length:=(Ob.mp j).1;have kM:q.bt.no<(G++N).length:=by simp;lia
    have ne:∀i,i≠q.bt.no->gl ((G++N).set q.bt.no a) i=gl (G++N) i:=λi t=>Oc t.symm;have T:q.ok (gl<|G++N):=Q.mono (λi _ c h=>Zaq h) gq.ok;obtain⟨r1,r2⟩:=Q.Zot ne (Q.Zdc T _<|Q.Zkc q v) uo un q T v rfl gq.one.1<|gq.one.2 _<|Q.Zkc q v;have ZwI:=Q.ZwG (g:=gl G) (L:=G.length) (λm c e=>(Ob.mp e).1) gq.ok gq.one b;have ez:next q.er=J (Q.rp u q).er:=by rw[Z,F,Q.Zmb,S];rfl
    have mZ:Gn.Cl [] (Q.rp u q).er:=by rw[Q.Zmb,S];exact(Zrc q.er K gq.cl cs).1
    have wn:=w.n;rw[Q.Zj6]at wn;refine .loud (by rw[Q.ZbO];exact v) ⟨h.length,o.set h.length<|cl<|(G++N).set q.bt.no a,N,c,a,Q.rp u q,K,?_,Fm.cut (S_:=[h.length]) ((A.sub<|by simp).I<|w.m.I<|.set<|by simp) λi t=>.inr (by simp at t;lia),by rw[Ol<|Zv w.c],ez,r2,⟨r1,ZwI,Q.ZnW b.uns q gq.uns,mZ⟩,Q.ZoZ j8 q cp,wn,j,(Zgk r λm hm=>s m<|ZlH m hm),w.x⟩;have x5:xs1 (P.tbl<|n+7) ZeK [J<|st sk q.no,J<|.ref h.length,J<|nI q.bt.no,J a.d] o=.ok (.nx,[J<|st sk q.no,J<|.ref h.length,J<|nI q.bt.no,J a.d]) o:=(Zi<|ZzR (x:=a.d) rfl<|by simp[Gc.d]).I rfl;have x6:xs1 (P.tbl<|n+7) ZeJ [J<|st sk q.no,J<|.ref h.length,J<|nI q.bt.no,J a.d] o=.ok (.nx,[J<|st sk q.no,J<|.ref h.length,J<|nI q.bt.no,J a.d]) (o.set h.length<|cl<|(G++N).set q.bt.no a):=ZlD rfl rfl rfl<|Zq1 w.c kM;have ww:xs2 (P.tbl<|n+7) ZdC [J<|st sk q.no,M,M,M] h=.ok (.rt<|loud<|st h.length q.no,_) (o.set h.length<|cl<|(G++N).set q.bt.no a):=(Za<|(Zi l).I rfl).I ((Za y).I<|(Za<|Zg (i:=2)<|Zl B rfl).I<|(Za<|(λz=>Zg (i:=3)<|Zl z<|Zb rfl<|Zb (Zy (k:=h.length) (n:=q.bt.no) rfl rfl p j) rfl) z).I<|(Za x5).I<|(Za x6).I<|Zc<|Zm<|ZaF (xs:=[.str<|O "loud",st h.length q.no]) (Zb rfl<|Zb (ZaF (xs:=[.ref h.length,nI q.no]) rfl<|by simp) rfl)<|by simp);exact congrArg Zn ww
end
end Grf
namespace K45L
open PySem L2 IV
def ZfD:Sx:=.ret (.ands<|.w (.blt .isi<|.w V0<|.cst<|.ty "int")<|.nt<|.blt .isi<|.w V0<|.cst<|.ty "bool")
def ZhE:Sxs:=.o ZfD
def Zee:Fd:=fd_ 1 ["_law_found"] ZhE
def ZjH:Sx:=.ret (.comp [O "_law_part",O "_law_cell"] [M,J 0] (.pl<|.sl V0 (J F1) M) (.nm 0) (J<|.ands<|.c (.ex<|.f "_law_whole"<|.o V0)<|.one<|.nq (.ix V1 F0)<|.Cs_ "num") V0)
def ZhI:Sxs:=.o ZjH
def ZhA:Fd:=fd_ 1 ["_law_cell"] ZhI
def Zcn:Tx:=.ex (.cst<|.bl Wq)
def Zam:Sx:=.s 2 (.f "_law_inner"<|.o<|.ix V0 V1)
def Ze7:Tx:=.q (.ix (.ix V0 V1) F0) (.Cs_ "if")
def Zdy:Sx:=.s 2 (.sl V2 M<|J F1)
def Ze3:Sxs:=.o Zdy
def Zal:Sx:=.iff Ze7 Ze3 .n
def Zbv:Sx:=.s 2 (.comp [O "_law_number_here",O "_law_cells"] [M,J 0] (.pl V2) (.nm 0) (J<|.x .NotIn (.ix (.ix V1 V0) F0)<|.tupl<|.u (.Cs_ "num") (.Cs_ "fn")<|.Cs_ "rec") V0)
def Zbq:Tx:=.q V2 (.lstl .n)
def Zdx:Sx:=.ret V1
def Ze2:Sxs:=.o Zdx
def Zfa:Sx:=.iff Zbq Ze2 .n
def Ze9:Sx:=.s 1 (.ix V2 F0)
def Zca:Sxs:=.y Zam Zal Zbv Zfa Ze9
def ZgK:Sx:=.whl Zcn Zca
def ZhS:Sxs:=.o ZgK
def ZdK:Fd:=fd_ 2 ["_law_cells","_law_at","_law_wanted"] ZhS
def ZgM:Sx:=.s 3 (.ix V0 V1)
def Zdr:Tx:=.ors (.c (.q V2<|.lstl .n)<|.one<|.q (.ix V3 F0)<|.Cs_ "num")
def ZhX:Sx:=.ret (.cst<|.bl Ws)
def Zga:Sxs:=.o ZhX
def Zk7:Sx:=.iff Zdr Zga .n
def ZgA:Tx:=.q (.ix V3 F0) (.Cs_ "name")
def ZhW:Sx:=.ret (.cmp .In (.ix V3 F1) V2)
def Zf9:Sxs:=.o ZhW
def Zk6:Sx:=.iff ZgA Zf9 .n
def Zk2:Tx:=.ors (.c (.q (.ix V3 F0)<|.Cs_ "fn")<|.one<|.q (.ix V3 F0)<|.Cs_ "rec")
def ZhV:Sx:=.s 2 (.comp [O "_law_name",O "_law_cell"] [M,J 3] (.pl V2) (.nm 0) (J<|.x .NotIn V0<|.sl V1 (J F1)<|J<|.neg F1) V0)
def ZkH:Sxs:=.o ZhV
def ZgL:Sx:=.iff Zk2 ZkH .n
def Zk5:Sx:=.ret (.blt .anb<|.o<|.comp [O "_law_number_here",O "_law_cells",O "_law_names_here"] [M,J 0,J 2] (.pl<|.f "_law_inner"<|.o V3) (.nm 0) M<|.f "_law_free"<|.u V1 V0 V2)
def Zji:Sxs:=.y ZgM Zk7 Zk6 ZgL Zk5
def ZiS:Fd:=fd_ 3 ["_law_cells","_law_at","_law_names_here","_law_cell"] Zji
def ZgQ:Sx:=.s 6 (.ix V0 V2)
def ZgB:Tx:=.ors (.c (.q (.ix V6 F0)<|.Cs_ "fn")<|.one<|.q (.ix V6 F0)<|.Cs_ "rec")
def ZeF:Sx:=.s 7 (.dictl .n)
def Zba:Ix:=.dk V4
def Zdu:Tx:=.x .NotIn V8 (.sl V6 (J F1)<|J<|.neg F1)
def Zb4:Sx:=.put V7 V8 (.ix V4 V8)
def Zdj:Sxs:=.o Zb4
def ZdB:Sx:=.iff Zdu Zdj .n
def Za8:Sxs:=.o ZdB
def ZeE:Sx:=.forr (.nm 8) Zba Za8
def ZeD:Sx:=.s 4 V7
def Zgc:Sxs:=.u ZeF ZeE ZeD
def Zcx:Sx:=.iff ZgB Zgc .n
def Zco:Tx:=.ors (.c (.nq (.blt .len<|.o V3)<|.blt .len<|.o V6)<|.one<|.nq (.ix V3 F0)<|.ix V6 F0)
def ZeC:Sx:=.ret (.cst<|.bl Ws)
def Zgb:Sxs:=.o ZeC
def ZgP:Sx:=.iff Zco Zgb .n
def Zce:Ix:=.zp (.sl V6 (J F1) M) (.sl V3 (J F1) M)
def Ze8:Tx:=.ands (.c (.ex<|.f "_law_whole"<|.o V9)<|.one<|.nq (.ix V6 F0)<|.Cs_ "num")
def Zds:Tx:=.ors (.c (.nt<|.ex<|.f "_law_whole"<|.o V10)<|.one<|.nt<|.ex<|.f "_law_stands"<|.c V0<|.y V1 V9 V10 V4 V5)
def Zb2:Sx:=.ret (.cst<|.bl Ws)
def Zdh:Sxs:=.o Zb2
def Zdz:Sx:=.iff Zds Zdh .n
def Zdt:Tx:=.nq V9 V10
def Zb3:Sx:=.ret (.cst<|.bl Ws)
def Zdi:Sxs:=.o Zb3
def ZdA:Sx:=.iff Zdt Zdi .n
def Ze4:Sxs:=.o Zdz
def Ze6:Sxs:=.o ZdA
def Zfb:Sx:=.iff Ze8 Ze4 Ze6
def ZT:Sxs:=.o Zfb
def ZgO:Sx:=.forr (.two 9 10) Zce ZT
def ZgN:Sx:=.ret (.cst<|.bl Wq)
def ZdV:Sxs:=.y ZgQ Zcx ZgP ZgO ZgN
def ZdL:Fd:=fd_ 6 ["_law_old","_law_new","_law_at","_law_cell","_law_held","_law_used","_law_mine","_law_left","_law_name","_law_part","_law_fresh"] ZdV
def Zjh:Sx:=.s 6 (.ix V0 V2)
def Zer:Tx:=.ands (.c (.q (.ix V6 F0)<|.Cs_ "name")<|.one<|.x .In (.ix V6 F1) V4)
def ZgJ:Sx:=.ret (.cmp .Eq V3<|.ix V4<|.ix V6 F1)
def ZbN:Sxs:=.o ZgJ
def Zjg:Sx:=.iff Zer ZbN .n
def Zeq:Tx:=.ands (.c (.x .In (.ix V6 F0)<|.tupl<|.u (.Cs_ "num") (.Cs_ "fn")<|.Cs_ "rec")<|.one<|.nt<|.ex<|.f "_law_free"<|.u V0 V2<|.blt .ldk<|.o V4)
def ZgI:Sx:=.ret (.cmp .Eq V3 V2)
def Zeb:Sxs:=.o ZgI
def Zjf:Sx:=.iff Zeq Zeb .n
def Zep:Tx:=.ands (.c (.q (.ix V6 F0)<|.Cs_ "name")<|.one<|.q V3 V2)
def ZgH:Sx:=.ret (.cst<|.bl Wq)
def Zea:Sxs:=.o ZgH
def Zje:Sx:=.iff Zep Zea .n
def Zeo:Tx:=.ors (.c (.nt<|.ex<|.cmp2 .LtE .Lt (.blt .len<|.o V0) V3<|.blt .len<|.o V1)<|.one<|.x .In V3 V5)
def ZgG:Sx:=.ret (.cst<|.bl Ws)
def Zd9:Sxs:=.o ZgG
def Zjd:Sx:=.iff Zeo Zd9 .n
def Zew:Sx:=.drp (.meth .app V5<|.o V3)
def Zjc:Sx:=.ret (.f "_law_cell_fits"<|.c V0<|.y V1 V2 (.ix V1 V3) V4 V5)
def ZbG:Sxs:=.c Zjh (.c Zjg<|.y Zjf Zje Zjd Zew Zjc)
def Zgn:Fd:=fd_ 6 ["_law_old","_law_new","_law_at","_law_number_here","_law_held","_law_used","_law_cell"] ZbG
def ZcB:Sx:=.s 4 (.ix V0<|.ix (.ix V0 V2) F1)
def ZcA:Sx:=.s 5 (.dictl<|.w (.ix V4<|.neg F2)<|.ix (.ix V0 V2) F2)
def ZgC:Tx:=.q (.ix V4 F0) (.Cs_ "rec")
def ZeI:Sx:=.put V5 (.ix V4 F1) (.ix (.ix V0 V2) F1)
def Zge:Sxs:=.o ZeI
def Zcz:Sx:=.iff ZgC Zge .n
def Zcy:Sx:=.s 6 (.ix V0<|.ix V4<|.neg F1)
def Zcq:Tx:=.q (.ix V6 F0) (.Cs_ "name")
def ZeH:Sx:=.ret (.cmp .Eq (.ix V1 V2)<|.ix V0<|.ix V5<|.ix V6 F1)
def Zcb:Sxs:=.o ZeH
def ZgT:Sx:=.iff Zcq Zcb .n
def Zcp:Tx:=.ands (.c (.x .In (.ix V6 F0)<|.tupl<|.u (.Cs_ "num") (.Cs_ "fn")<|.Cs_ "rec")<|.one<|.nt<|.ex<|.f "_law_free"<|.u V0 (.ix V4<|.neg F1)<|.blt .ldk<|.o V5)
def ZeG:Sx:=.ret (.cmp .Eq (.ix V1 V2) V6)
def Zgd:Sxs:=.o ZeG
def ZgS:Sx:=.iff Zcp Zgd .n
def ZgR:Sx:=.ret (.f "_law_cell_fits"<|.c V0<|.y V1 (.ix V4<|.neg F1) (.ix V1 V2) V5 V3)
def Zat:Sxs:=.c ZcB (.c ZcA<|.y Zcz Zcy ZgT ZgS ZgR)
def ZdM:Fd:=fd_ 4 ["_law_old","_law_new","_law_at","_law_used","_law_fun","_law_held","_law_body"] Zat
def ZgF:Sx:=.s 3 (.f "_law_next_cell"<|.w V0 V2)
def ZgE:Sx:=.s 4 (.ix V0 V3)
def Zcv:Sx:=.s 5 (.lstl .n)
def Zcu:Sx:=.s 6 (.ix V0<|.ix V4 F1)
def Zgz:Tx:=.q (.ix V4 F0) (.Cs_ "call")
def Zev:Sx:=.s 7 (.f "_law_call_fits"<|.z V0 V1 V3 V5)
def Zen:Tx:=.q (.ix V4 F0) (.Cs_ "if")
def ZcZ:Sx:=.s 7 (.cmp .Eq (.ix V1 V3)<|.ix V0<|.ix V4<|.bin .Add F2<|.blt .int<|.o<|.cmp .Eq (.ix V6 F1) F0)
def Zc1:Sx:=.s 8 (.dictl<|.c (.Cs_ "+")<|.y (.bin .Add (.ix V6 F1)<|.ix (.ix V0<|.ix V4 F2) F1) (.Cs_ "-") (.bin .Sub (.ix V6 F1)<|.ix (.ix V0<|.ix V4 F2) F1) (.Cs_ "*")<|.bin .Mult (.ix V6 F1)<|.ix (.ix V0<|.ix V4 F2) F1)
def ZaD:Sx:=.put V8 (.Cs_ "<") (.blt .int<|.o<|.cmp .Lt (.ix V6 F1)<|.ix (.ix V0<|.ix V4 F2) F1)
def Zc0:Sx:=.s 7 (.cmp .Eq (.ix V1 V3)<|.tupl<|.w (.Cs_ "num")<|.bin .Mod (.ix V8<|.ix V4 F0)<|.Ci_ 1000000)
def Zd8:Sxs:=.o ZcZ
def Zej:Sxs:=.u Zc1 ZaD Zc0
def Z9:Sx:=.iff Zen Zd8 Zej
def Zf8:Sxs:=.o Zev
def Zgu:Sxs:=.o Z9
def Zct:Sx:=.iff Zgz Zf8 Zgu
def Zcm:Tx:=.ors (.c (.nt<|.ex V7)<|.one<|.nt<|.ex<|.cmp2 .LtE .LtE (.bin .Add (.blt .len<|.o V0)<|.blt .len<|.o V5) (.blt .len<|.o V1)<|.bin .Add (.blt .len<|.o V0)<|.Ci_ 120)
def Zeu:Sx:=.ret (.cst<|.bl Ws)
def Zf7:Sxs:=.o Zeu
def ZgD:Sx:=.iff Zcm Zf7 .n
def Zcs:Sx:=.ret (.ands<|.w (.cmp .Eq (.sl V1 M<|J V3)<|.sl V0 M<|J V3)<|.cmp .Eq (.sl V1 (J<|.bin .Add V3 F1)<|J<|.blt .len<|.o V0)<|.sl V0 (J<|.bin .Add V3 F1) M)
def ZdP:Sxs:=.c ZgF (.c ZgE<|.y Zcv Zcu Zct ZgD Zcs)
def ZdJ:Fd:=fd_ 3 ["_law_old","_law_new","_law_root","_law_at","_law_cell","_law_used","_law_first","_law_good","_law_sums"] ZdP
def ZhU:Sx:=.trr (O "graph_read") (.o V0) (O "Wide") Wq
def ZhT:Sx:=.ret (.cst<|.bl Ws)
def ZjG:Sxs:=.w ZhU ZhT
def Zfw:Fd:=fd_ 1 ["_law_state"] ZjG
def ZuL:Sx:=.s 1 (.f "graph_begun"<|.o<|.f "_law_program"<|.w V0 F1)
def ZkM:Ix:=.rng (.bin .Mod (.f "_law_mixed"<|.w (.f "_law_cell_at"<|.w V0 F0) F1) F31)
def Zkl:Sx:=.s 3 (.blt .lst<|.o<|.ix V1 F0)
def Zkk:Sx:=.s 4 (.f "graph_step"<|.o V1)
def Zhk:Tx:=.nq (.ix V4 F0) (.Cs_ "loud")
def Zla:Sx:=.ret (.ors<|.w (.cmp .Eq V4<|.tupl<|.o<|.Cs_ "value")<|.cmp .Eq V4<|.tupl<|.o<|.Cs_ "stuck")
def ZpS:Sxs:=.o Zla
def Zqb:Sx:=.iff Zhk ZpS .n
def Zkb:Tx:=.ors (.c (.nq (.ix (.ix V4 F1) F1)<|.ix V1 F1)<|.one<|.nt<|.ex<|.f "_law_step_fits"<|.u V3 (.ix (.ix V4 F1) F0)<|.ix V1 F1)
def Zk9:Sx:=.ret (.cst<|.bl Ws)
def ZpR:Sxs:=.o Zk9
def Zqa:Sx:=.iff Zkb ZpR .n
def Zkj:Sx:=.s 1 (.ix V4 F1)
def Zka:Tx:=.ex (.f "_law_is_wide"<|.o V1)
def Zk8:Sx:=.ret (.cst<|.bl Wq)
def ZpQ:Sxs:=.o Zk8
def Zp9:Sx:=.iff Zka ZpQ .n
def ZkI:Sxs:=.c Zkl (.y Zkk Zqb Zqa Zkj Zp9)
def ZuK:Sx:=.forr (.nm 2) ZkM ZkI
def ZuJ:Sx:=.ret (.cst<|.bl Wq)
def Zvv:Sxs:=.u ZuL ZuK ZuJ
def Zl6:Fd:=fd_ 1 ["_law_script","_law_state","_law_k","_law_old","_law_answer"] Zvv
structure Lw(P:Pg):Prop where
 s:Grf.Gs P
 r:Grf.Grr P
 m:Gn.Mkr P
 cell:P.tb.lookup (O "_law_cell_at")=J Gn.ZcM
 law_whole:P.tb.lookup (O "_law_whole")=J Zee
 law_inner:P.tb.lookup (O "_law_inner")=J ZhA
 law_next_cell:P.tb.lookup (O "_law_next_cell")=J ZdK
 law_free:P.tb.lookup (O "_law_free")=J ZiS
 law_cell_fits:P.tb.lookup (O "_law_cell_fits")=J ZdL
 law_stands:P.tb.lookup (O "_law_stands")=J Zgn
 law_call_fits:P.tb.lookup (O "_law_call_fits")=J ZdM
 law_step_fits:P.tb.lookup (O "_law_step_fits")=J ZdJ
 law_is_wide:P.tb.lookup (O "_law_is_wide")=J Zfw
 law:P.tb.lookup (O "law")=J Zl6
end K45L
namespace K45L
open PySem L2 IV Grf
section
variable {P:Pg}{h:Hd}
noncomputable def whD:D->Bool
 |.int _=>Wq
 |_=>Ws
def Zh2(H:Lw P)(n)(d)(hd:(∃z,d=.int z)\/∃s,d=.str s):run P (n+1) (O "_law_whole") [d] h=.ok (.bl<|whD d) h:=by rw[Ze H.law_whole<|rfl];rcases hd with⟨z,rfl⟩|⟨s,rfl⟩<;>simp[Zee,ZhE,ZfD,ZG,Zan,ZuO,ZvI,ZkJ,whD]
theorem Zog (H:Lw P) (n) (c:Gc):run P (n+2) (O "_law_inner") [c.d] h=.ok (.ref h.length) (h++[.lst<|c.ps.map nI]):=by
 rw [Ze H.law_inner rfl];obtain⟨w,ds,ed,lz,hd,ef⟩:∃ w ds,c.d=.tup (.str w::ds)/\ds.length<=3/\(∀ d∈ds,(∃ z,d=.int z)\/∃ s,d=.str s)/\ds.filter (λd=>whD d&&!Wu (w=O "num"))=c.ps.map nI:=by
   cases c with
   |op w a b=>exact⟨w.s,_,rfl,by simp [Gc.ps],by simp [nI,Gc.ps],by cases w<;>simp [whD,nI,Gc.ps,Wd.s]⟩
   |_=>exact⟨_,_,rfl,by simp [Gc.ps],by simp [nI,Gc.ps],by simp [whD,nI,Gc.ps]⟩
 rw [ed,<-ef];have q:=Z5 (α:=D) id (λd=>whD d&&!Wu (w=O "num")) id (src:=[]) (g:=.nm 0) (tt:=tsto (P.tbl<|n+1)<|J<|.ands<|.cons (.ex<|.call (O "_law_whole")<|.cons (.var 0) .nil)<|.one<|.ex<|.cmp .NotEq (.ix (.var 1)<|.Ci_ 0)<|.Cs_ "num") (ee:=ev (P.tbl<|n+1)<|.var 0) (S:=[M,J<|.tup (.str w::ds)]) (h:=h) rfl ds [] (λd hm=>⟨[J d,J<|.tup (.str w::ds)],rfl,by
   have t1:tst (P.tbl<|n+1) (.ex<|.call (O "_law_whole")<|.cons (.var 0) .nil) [J d,J<|.tup (.str w::ds)] h=.ok (whD d) h:=ZI<|Zl (Zh2 H n d<|hd d hm) rfl;have t2:tst (P.tbl<|n+1) (.ex<|.cmp .NotEq (.ix (.var 1)<|.Ci_ 0)<|.Cs_ "num") [J d,J<|.tup (.str w::ds)] h=.ok (!Wu (w=O "num")) h:=ZI ((Zd ((Zf rfl rfl).I ZhN) rfl).I (by rw [Zkz,Zd3];rfl));cases e:whD d with
   |true=>rw [e] at t1;exact(Zg4 t1 t2).I (by simp)
   |false=>rw [e] at t1;exact(ZhJ t1).I<|by simp,λ_=>rfl⟩) (by simp;lia)
 simp only [List.map_id_fun,id_eq,OB] at q;have w':xs2 (P.tbl<|n+1) ZhI [J<|.tup (.str w::ds)] h=.ok (.rt<|.ref h.length,_) _:=Zc (Zm<|Zei (ZiX (xs:=ds) (by rw [Zj4];simp [cutD,HT.sIx])) q);exact congrArg Zn w'
noncomputable def wd:Gc->Str
 |.num _=>O "num"
 |.name _=>O "name"
 |.fn _ _=>O "fn"
 |.rcc _ _ _=>O "rec"
 |.call _ _=>O "call"
 |.iff _ _ _=>O "if"
 |.op w _ _=>w.s
def c_d(c:Gc):∃ds,c.d=.tup (.str (wd c)::ds):=by cases c<;>exact⟨_,rfl⟩
def ZvD(c:Gc):Wu (wd c∈[O "num",O "fn",O "rec"])=c.isV:=by
 cases c with
 |op w a b=>cases w<;>simp[wd,Gc.isV,Wd.s]
 |_=>simp[wd,Gc.isV]
def ZhZ(c:Gc):(wd c=O "name")↔∃x,c=.name x:=by
 cases c with
 |op w a b=>cases w<;>simp[wd,Wd.s]
 |_=>simp[wd]
def Zqr(c:Gc):(wd c=O "if")↔∃x y z,c=.iff x y z:=by
 cases c with
 |op w a b=>cases w<;>simp[wd,Wd.s]
 |_=>simp[wd]
def ZmI(c:Gc):(wd c=O "num")↔∃x,c=.num x:=by
 cases c with
 |op w a b=>cases w<;>simp[wd,Wd.s]
 |_=>simp[wd]
def ZuW(c:Gc):(wd c=O "fn" \/ wd c=O "rec")↔c.bd≠[]:=by
 cases c with
 |op w a b=>cases w<;>simp[wd,Wd.s,Gc.bd]
 |_=>simp[wd,Gc.bd]
section
variable {U:Tb}{S:Ev}{a:Ex}{c:Gc}
def w_eq(w)(p:ev U a S h=.ok c.d R):tst U (.ex<|.cmp .Eq (.ix a<|.Ci_ 0)<|.cst<|.str w) S h=.ok (Wu<|wd c=w) R:=ZcO (by obtain⟨b,e⟩:=c_d c;rw[e]at p;exact(Zf p rfl).I ZhN) rfl
end
end
section
variable {P:Pg}{h:Hd}
def Zsa{h:Hd}(e:h[p]?=J (.lst xs))(pu:D.pures xs=Wq):IV.ZbE Ws (.ref p) (.ref h.length) (h++[.lst []])=.ok (.bl xs.isEmpty) (h++[.lst []]):=by
 obtain⟨ps,e1,_,_⟩:=pys_same (rd:=Zd1 (h++[.lst []]) 3) xs pu;have p1:Zku (h++[.lst []]) (.ref p)=J (.list ps):=by show Zd1 (h++[.lst []]) 4 p=_;rw[Zd1,Tm.keep e];simp only[e1,Yv]
 have p2:Zku (h++[DO.lst []]) (.ref h.length)=J (.list []):=by show Zd1 (h++[.lst []]) 4 h.length=_;rw[Zd1,ZL];rfl
 unfold IV.ZbE;rw[p1,p2];simp only;have d0:min (PyData.list ps).depth (PyData.list []).depth<=1100:=by
  have:(PyData.list []).depth<=1:=by decide +kernel
  lia
 rw[if_pos d0];cases xs with
 |nil=>cases e1;rfl
 |cons x r=>rw[D.pys]at e1;obtain⟨y,_,e1⟩:=Option.bind_eq_some_iff.mp e1;obtain⟨ys,_,e1⟩:=Oo.mp e1;cases e1;rfl
def nv(G:List Gc)(i:Nat):Bool:=match G[i]? with
 |some c=>!c.isV
 |none=>Ws
theorem ZrZ{G}:∀{ns},(∀i∈ns,∃c,G[i]?=J c)->fop G ns=(ns.filter<|nv G).head?
 |[],_=>rfl
 |i::ns,h=>by obtain⟨c,e⟩:=h i<|.head _;have b:=ZrZ λj a=>h j<|.tail _ a;rw[fop];cases v:c.isV<;>simp_all [nv]
def Zrg(c:Gc):(c.pf=c.ps/\∀x y z,c≠.iff x y z)\/∃x y z,c=.iff x y z/\c.pf=[x]/\c.ps=[x,y,z]:=by cases c<;>simp[Gc.pf,Gc.ps]
inductive Wt(P:Pg)(n:Nat)(G:List Gc)(k m:Nat)(c:Gc)(o:Option D)(h:Hd):Prop
 |mk (a:Nat) (h':Hd) (f:Fm [] h h') (l:h'[a]?=J (.lst ((c.pf.filter (nv G)).map nI))) (e:∀s,xs2 (P.tbl (n+2)) (.cons Zam (.cons Zal (.cons Zbv s))) [J (.ref k),J (nI m),o] h=xs2 (P.tbl (n+2)) s [J (.ref k),J (nI m),J (.ref a)] h')
theorem ZBu(H:Lw P)(n){G}{k m}{c}{o}(hk:h[k]?=J (cl G))(e:G[m]?=J c)(hn:∀ i∈c.ps,∃ c,G[i]?=J c):Wt P n G k m c o h:=by
 have u:xs1 (P.tbl<|n+2) Zam [J _,J _,o] h=.ok _ _:=Zg (i:=2)<|Zl (Zog H n c)<|Zb (Zy (k:=k) (n:=m) rfl rfl hk e) rfl;have j:(h++[DO.lst<|c.ps.map nI])[k]?=J _:=Tm.keep hk;have l:(h++[DO.lst _])[h.length]?=J (.lst<|c.ps.map nI):=ZL;have v:Fm [] h (h++[DO.lst<|c.ps.map nI]):=.app;generalize h++[DO.lst _]=R at *;obtain⟨b,a,p,l2,w⟩:∃ b a,Fm _ _ a/\a[b]?=J (.lst<|c.pf.map nI)/\xs1 (P.tbl<|n+2) Zal _ _=.ok (.nx,[J _,J _,J<|.ref b]) a:=by
   rcases Zrg c with⟨d,f⟩|⟨x,y,z,d,f,A⟩
   . exact⟨h.length,R,.refl,by rw [d];exact l,(Zi<|Zh (w_eq _<|Zy (k:=k) (n:=m) rfl rfl j e) (decide_eq_false λq=>by obtain⟨x,y,z,q⟩:=(Zqr c).mp q;exact f x y z q)).I rfl⟩
   . refine⟨R.length,R++[.lst<|c.pf.map nI],.app,ZL,(Zq<|Zh (w_eq _<|Zy (k:=k) (n:=m) rfl rfl j e)<|decide_eq_true<|(Zqr c).mpr ⟨x,y,z,d⟩).I<|(Za<|Zg (i:=2) ?_).I rfl⟩;rw [A] at l;rw [f,Zj4];simp [Zis,lstOf,l,cutD,HT.sIx]
 exact⟨a.length,a++[.lst<|(c.pf.filter<|nv G).map nI],(v.I p).I .app,ZL,λs=>(Za u).I ((Za w).I (Za (Zg (i:=2) (Zei (ZiY (i:=b) rfl l2) (Z5 nI (nv G) nI (src:=[(b,c.pf.map nI)]) (g:=.nm 0) (tt:=tsto (P.tbl<|n+2)<|J<|.ex<|.cmp .NotIn (.ix (.ix (.var 1)<|.var 0)<|.Ci_ 0)<|.tupl<|.cons (.Cs_ "num")<|.cons (.Cs_ "fn")<|.cons (.Cs_ "rec") .nil) (ee:=ev (P.tbl<|n+2)<|.var 0) (S:=[M,J<|.ref k]) (h:=a) (Zc8 l2) c.pf [] (λi B=>⟨[J<|nI i,J<|.ref k],rfl,by
   obtain⟨r,t⟩:=hn i<|ZlH i B;obtain⟨C,D⟩:=c_d r;have q:ev (P.tbl<|n+2) (.ix (.var 1)<|.var 0) [J<|nI i,J<|.ref k] a=.ok (.tup (.str (wd r)::C)) a:=(Zy (k:=k) (n:=i) rfl rfl (p.at j<|by simp) t).I (by rw [D]);exact ZI<|(Zd ((Zf q rfl).I ZhN)<|ZaF (xs:=[O "num",O "fn",O "rec"].map .str) rfl<|by simp).I<|Z2.I (by rw [ZvD];simp [nv,t]),λ_=>rfl⟩) (by have:=Zda c;rcases Zrg c with⟨d,_⟩|⟨x,y,z,_,f,_⟩<;>simp_all<;>lia))))))⟩
theorem Zow:∀l:List _,D.pures (l.map nI)=Wq
 |[]=>rfl
 |_::l=>Zow l
theorem ZoF(H:Lw P)(n){G}{k}:∀(z) (q:Q) (F) (o) (h),h[k]?=J (cl G)->q.er.size<=z->z<F->q.ok (gl G)->q.isV=Ws->Gn.Cl [] q.er->∃h' S,ZU (tst (P.tbl<|n+2) Zcn) (xs2 (P.tbl<|n+2) Zca) F [J<|.ref k,J<|nI q.no,o] h=.ok (.rt<|nI q.bt.no,S) h'/\Fm [] h h'
 |z,q,0,o,h,_,_,u,_,_,_=>by lia
 |z,q,F+1,o,h,l,N,u,ok,v,y=>by
  obtain⟨c,e,f,p,m⟩:=(Q.rd ok).at;obtain⟨a,R,f1,l1,s⟩:=ZBu H n l e m;have g:tst (P.tbl<|n+2) Zbq [J<|.ref k,J<|nI q.no,J _] _=.ok _ _:=ZI ((Zd rfl<|ZkS rfl<|by simp).I<|Zsa l1<|Zow _);have t:=ZrZ (G:=G) (ns:=c.pf) λi A=>m i<|ZlH i A;have l2:(R++[DO.lst []])[a]?=J _:=Tm.keep l1;rcases Zvg ok v y e with⟨b,j⟩|⟨B,b,j,C,D,E,pz⟩
  . rw[t]at b;rw[List.head?_eq_none_iff.mp b]at g;rw[j];exact⟨_,_,Zqq (R:=h) rfl<|(s _).I<|Zc<|(Zq g).I<|Zc<|Zm rfl,f1.I .app⟩
  . rw[t]at b;obtain⟨r,K⟩:=List.head?_eq_some_iff.mp b;rw[K]at g l2;obtain⟨h',S,w,L⟩:=ZoF H n (z-1) _ F _ (R++[.lst []]) (Tm.keep<|f1.at l<|by simp) (by lia) (by lia) D C E;rw[j];exact⟨h',S,(Zb5 (R:=h) rfl<|(s _).I<|(Za<|(Zi g).I rfl).I<|(Za<|Zg (i:=1) (d:=nI B.no)<|(Zf (x:=.ref a) rfl rfl).I<|(ZE l2).I<|by simp[atI,ixN]).I rfl).I w,(f1.I .app).I L⟩
def Zs6(H:Lw P)(n){G}{k}{q:Q}(hk:h[k]?=J (cl G))(ok:q.ok (gl G))(v:q.isV=Ws)(ct:Gn.Cl [] q.er)(hz:q.er.size<=20000):∃h',run P (n+3) (O "_law_next_cell") [.ref k,nI q.no] h=.ok (nI q.bt.no) h'/\Fm [] h h':=by have big:=H.s.b.big;obtain⟨h',S,w,f⟩:=ZoF H n _ q P.L _ h hk (Oq _) (by lia) ok v ct;refine⟨_,?_,f⟩;rw[Ze H.law_next_cell rfl];exact congrArg _ (Zc<|ZeQ.I w)
end
end K45L
namespace Grf
open PySem L2 IV Tm
noncomputable def Q.prt:Q->List Q
 |.num _ _|.name _ _=>[]
 |.fn _ _ e|.rcc _ _ _ e=>[e]
 |.call _ a b|.op _ _ a b=>[a,b]
 |.iff _ a b c=>[a,b,c]
structure Tp(g:Nat->Option Gc)(q:Q)(c:Gc):Prop where
 ps:c.ps=q.prt.map Q.no
 er:q.er.parts=q.prt.map Q.er
 bd:bnd q.er=c.bd
 ok:∀p∈q.prt,p.ok g
 sz:∀p∈q.prt,p.er.size<q.er.size
 m:∀ns,mnt ns q.er=cm ns c
 v:c.isV=q.isV
def Q.tpc{g}{q}(h:q.ok g):∃c,g q.no=J c/\Tp g q c:=by
 cases q with
 |num i z=>exact⟨_,h,rfl,rfl,rfl,by simp[Q.prt],by simp[Q.prt],λ_=>rfl,rfl⟩
 |name i z=>exact⟨_,h,rfl,rfl,rfl,by simp[Q.prt],by simp[Q.prt],λ_=>rfl,rfl⟩
 |fn i x b=>exact⟨_,h.1,rfl,rfl,rfl,by simpa[Q.prt]using h.2,by have:=zf x b.er;simp[Q.prt,Q.er];lia,λ_=>rfl,rfl⟩
 |rcc i f x b=>exact⟨_,h.1,rfl,rfl,rfl,by simpa[Q.prt]using h.2,by have:=zr f x b.er;simp[Q.prt,Q.er];lia,λ_=>rfl,rfl⟩
 |call i a b=>exact⟨_,h.1,rfl,rfl,rfl,by simpa[Q.prt]using h.2,by have:=zc a.er b.er;simp[Q.prt,Q.er];lia,λ_=>rfl,rfl⟩
 |op i w a b=>exact⟨_,h.1,rfl,rfl,rfl,by simpa[Q.prt]using h.2,by have:=zo w a.er b.er;simp[Q.prt,Q.er];lia,λ_=>rfl,rfl⟩
 |iff i a b c=>exact⟨_,h.1,rfl,rfl,rfl,by simpa[Q.prt]using h.2,by have:=zi a.er b.er c.er;simp[Q.prt,Q.er];lia,λ_=>rfl,rfl⟩
end Grf
namespace K45L
open PySem L2 IV Grf
section
variable {P:Pg}{h:Hd}
theorem Zo2{α:Type}(dd)(f){bl}{L}{g}{U}{e}{S}{h0}(hb:h0[bl]?=J (.lst L)):∀(xs:List α) (ai) (h),Fm [] h0 h->(∀x∈xs,∀h,Fm [] h0 h->∃ρ1 h',Zbu g (dd x) S=J ρ1/\ev U e ρ1 h=.ok (f x) h'/\Fm [] h h')->ai.length+xs.length<=1000->∃h',ZF [(bl,L)] g (tsto U M) (ev U e) (xs.map dd) S ai h=.ok (ai++xs.map f) h'/\Fm [] h h'
 |[],ai,h,m,_,_=>⟨h,by simp[ZF,Zc8<|m.at hb _],.refl⟩
 |x::xs,ai,h,m,hx,hz=>by
  rw[Os]at hz;obtain⟨ρ1,R,b,q,m1⟩:=hx x (.head _) h m;obtain⟨h2,r,m2⟩:=Zo2 _ f hb _ (ai++[f x]) _ (m.I m1) (λy hy=>hx y<|.tail _ hy) (by simp;lia);refine⟨_,?_,m1.I m2⟩;rw[Op,ZF,if_pos ⟨Zc8<|m.at hb<|by simp,by rw[YC];lia⟩]
  simp_all
theorem ZqL:∀ss:List _,D.pures (ss.map .str)=Wq
 |[]=>rfl
 |_::l=>ZqL l
def ZBw{a}{ss:List _}{x}{GD}(e:h[a]?=J (.lst<|ss.map .str)):opC GD .In (.str x) (.ref a) h=.ok (.bl<|Wu<|x∈ss) h:=by
 have b:(ss.map D.str).all D.flat=Wq:=by simp[D.flat]
 show ZaC _ _ _ _ h=_;unfold ZaC;simp[seqOf,lstOf,e,b];simp[D.flat,eqF]
 grind
def vf(k m a:Nat)(c:Option D):Ev:=[J<|.ref k,J<|nI m,J<|.ref a,c]
def ZAK{U}{S}{x y}{b c}(p:tst U x S h=.ok b h)(q:tst U y S h=.ok c h):tst U (.ors<|.cons x<|.one y) S h=.ok (b||c) h:=by
 cases b
 . exact Zir p q
 . exact ZtE p
def ZyB{U}{S}{a}{c:Gc}(p:ev U a S h=.ok c.d h):tst U (.ors<|.cons (.ex<|.cmp .Eq (.ix a<|.Ci_ 0)<|.Cs_ "fn")<|.one<|.ex<|.cmp .Eq (.ix a<|.Ci_ 0)<|.Cs_ "rec") S h=.ok (Wu<|c.bd≠[]) h:=(ZAK (w_eq _ p)<|w_eq _ p).I (by rw[<-Bool.decide_or];simp only[ZuW])
def ZqH{U}{S}{a}{c:Gc}(b:c.bd≠[])(p:ev U a S h=.ok c.d h):ev U (.sl a (J<|.Ci_ 1)<|J<|.neg<|.Ci_ 1) S h=.ok (.tup<|c.bd.map .str) h:=by rw[Zj4,p];cases c<;>simp[Gc.bd]at b ⊢<;>rfl
def ZBD(n){k m a}{c:Gc}{ns}(ha:h[a]?=J (.lst<|ns.map .str))(hz:ns.length<=2):∃a' h',Fm [] h h'/\h'[a']?=J (.lst<|(rs ns c.bd).map .str)/\xs1 (P.tbl n) ZgL (vf k m a<|J c.d) h=.ok (.nx,vf k m a'<|J c.d) h':=by
 have t:=ZyB (U:=P.tbl n) (S:=vf k m a<|J c.d) (a:=.var 3) (h:=h) rfl;by_cases b:c.bd=[]
 . refine⟨a,h,.refl,by rw[b,Zbg];trivial,(Zi<|Zh t<|by simp[b]).I rfl⟩
 . exact⟨_,_,.app,ZL,(Zq<|Zh t<|by simp[b]).I<|(Za<|Zg<|Zei (ZiY rfl ha)<|Z5 _ _ _ (src:=[(a,ns.map _)]) (g:=.nm 0) (tt:=tsto _<|J<|.ex _) (ee:=ev _ _) (S:=[M,J _]) (h:=h) (Zc8 ha) _ _ (λx _=>⟨_,rfl,ZI<|(Zd (x:=.str x) rfl<|ZqH b rfl).I Z2,λ_=>rfl⟩) (by simp;lia)).I rfl⟩
def ZrC{c}(h:¬ ∃x,c=.name x)(ns):cm ns c=Ws:=by cases c<;>simp_all [cm]
theorem Zoh (H:Lw P) {G}{k}:∀ (z) (q:Q) (n) (ns) (a) (h),h[k]?=J (cl G)->h[a]?=J (.lst<|ns.map .str)->ns.length<=2->q.ok (gl G)->q.er.size<=z->∃ h',run P (n+z+3) (O "_law_free") [.ref k,nI q.no,.ref a] h=.ok (.bl<|fin ns q.er) h'/\Fm [] h h'
 |0,q,n,ns,a,h,l,o,s,ok,hz=>by have:=Tm.ZC q.er;lia
 |z+1,q,n,ns,a,h,l,o,s,ok,hz=>by
   obtain⟨c,e,tp⟩:=Q.tpc ok;rw [show n+(z+1)+3=n+z+3+1 by lia,Ze H.law_free rfl];have u:xs1 (P.tbl<|n+z+3) ZgM [J<|.ref k,J<|nI q.no,J<|.ref a,M] h=.ok (.nx,vf k q.no a<|J c.d) h:=Zg (i:=3)<|Zy (k:=k) (n:=q.no) rfl rfl l e;have B:tst (P.tbl<|n+z+3) (.ex<|.cmp .Eq (.var 2)<|.lstl .nil) (vf k q.no a<|J c.d) h=.ok (ns.map D.str).isEmpty (h++[.lst []]):=ZI ((Zd (x:=.ref a) (R:=h) rfl<|ZkS rfl<|by simp).I<|Zsa o<|ZqL ns);have C:(h++[DO.lst []])[a]?=J (.lst<|ns.map .str):=Tm.keep o;have lS:(h++[DO.lst []])[k]?=J (cl G):=Tm.keep l;have v:Fm [] h (h++[DO.lst []]):=.app;generalize h++[DO.lst []]=R at *;have stop:tst (P.tbl<|n+z+3) Zdr (vf k q.no a<|J c.d) h=.ok Wq R->fin ns q.er=Ws->∃ h',Zn (xs2 (P.tbl<|n+z+3) Zji [J<|.ref k,J<|nI q.no,J<|.ref a,M] h)=.ok (.bl<|fin ns q.er) h'/\Fm [] h h':=λt f=>⟨R,by rw [f];exact congrArg Zn<|(Za u).I<|Zc<|(Zq t).I<|Zc<|Zm rfl,v⟩
   by_cases E:ns=[]
   . subst E;exact stop (ZtE B) (ZaJ _)
   have F:tst (P.tbl<|n+z+3) Zdr (vf k q.no a<|J c.d) h=.ok (Wu<|wd c=O "num") R:=Zir (Zh B<|by simpa using E)<|w_eq _ rfl;by_cases K:∃ x,c=.num x
   . obtain⟨x,rfl⟩:=K;refine stop (Zh F<|by simp [wd]) ?_;rw [ZiO,tp.m,tp.er,show q.prt=[] from List.map_eq_nil_iff.mp tp.ps.symm];rfl
   have N:=(Zi (a:=Zga) (b:=.nil)<|Zh F<|decide_eq_false λz=>K<|(ZmI c).mp z).I rfl;have T:tst (P.tbl<|n+z+3) ZgA (vf k q.no a<|J c.d) R=.ok (Wu<|wd c=O "name") R:=w_eq _ rfl;by_cases w:∃ x,c=.name x
   . obtain⟨x,rfl⟩:=w;have fe:fin ns q.er=Wu (x∈ns):=by rw [ZiO,tp.m,tp.er,show q.prt=[] from List.map_eq_nil_iff.mp tp.ps.symm];simp [cm]
     rw [fe];exact⟨R,congrArg Zn<|(Za u).I<|(Za N).I<|Zc<|(Zq<|Zh T<|by simp [wd]).I<|Zc<|Zm<|(Zd (x:=.str x) (y:=.ref a) (R:=R) (h2:=R) rfl rfl).I<|ZBw C,v⟩
   have x3:=(Zi (a:=Zf9) (b:=.nil)<|Zh T<|decide_eq_false λz=>w<|(ZhZ c).mp z).I rfl;obtain⟨j,h2,V,mv,x4⟩:=ZBD (P:=P) (n+z+3) (k:=k) (m:=q.no) (c:=c) C s;have dE:=V.at lS (by simp);have ei:evi (P.tbl<|n+z+3) (.pl<|.call (O "_law_inner")<|.cons (.var 3) .nil) (vf k q.no j<|J c.d) h2=.ok ⟨[(h2.length,c.ps.map nI)],c.ps.map nI⟩ (h2++[.lst<|c.ps.map nI]):=ZiY (Zl (Zog H (n+z+1) c) rfl) ZL;have rl:=OE (ZmS ns c.bd) s;obtain⟨W,X,f3⟩:=Zo2 (λp:Q=>nI p.no) (λp=>D.bl<|fin (rs ns c.bd) p.er) (bl:=h2.length) (L:=c.ps.map nI) (g:=.nm 0) (U:=P.tbl<|n+z+3) (e:=.call (O "_law_free")<|.cons (.var 1)<|.cons (.var 0)<|.cons (.var 2) .nil) (S:=[M,J<|.ref k,J<|.ref j]) (h0:=h2++[.lst<|c.ps.map nI]) ZL q.prt [] _ .refl (λp Y h' Z=>by
     obtain⟨A,r,mH⟩:=Zoh H z p n (rs ns c.bd) j h' (Z.at (Tm.keep dE)<|by simp) (Z.at (Tm.keep mv)<|by simp) rl (tp.ok p Y) (by have:=tp.sz p Y;lia);exact⟨[J<|nI p.no,J<|.ref k,J<|.ref j],A,rfl,Zl r rfl,mH⟩) (by have:=congrArg List.length tp.ps;have:=Zda c;simp at *;lia)
   rw [show q.prt.map (λp=>nI p.no)=c.ps.map nI by rw [tp.ps,List.map_map];rfl] at X;have fe:fin ns q.er=(q.prt.map λp=>fin (rs ns c.bd) p.er).any id:=by rw [ZiO,tp.m,ZrC w,tp.er,tp.bd];simp [List.any_map,Function.comp_def]
   rw [fe];have e5:ev (P.tbl<|n+z+3) (.comp [O "_law_number_here",O "_law_cells",O "_law_names_here"] [M,J 0,J 2] (.pl<|.call (O "_law_inner")<|.cons (.var 3) .nil) (.nm 0) M<|.call (O "_law_free")<|.cons (.var 1)<|.cons (.var 0)<|.cons (.var 2) .nil) (vf k q.no j<|J c.d) h2=.ok (.ref W.length) (W++[.lst<|(q.prt.map λp=>fin (rs ns c.bd) p.er).map .bl]):=(Zei ei X).I (by rw [List.map_map];rfl);exact⟨_,congrArg Zn<|(Za u).I<|(Za N).I<|(Za x3).I<|(Za x4).I<|Zc<|Zm<|Zb1 (Zb e5 rfl)<|Zvw ZL,((v.I V).I .app).I<|f3.I .app⟩
def hm(hl:List (Str×Nat)):List (Key×D):=hl.map λp=>(.inr p.1,nI p.2)
def Hl(h:Hd)(a:Nat)(hl:List (Str×Nat)):Prop:=h[a]?=J (.dic<|hm hl)\/h[a]?=J (.fdic<|hm hl)
def Hl.dic{a}{hl}{GD}(x:Hl h a hl):dicOf GD (.ref a) h=J (hm hl):=by rcases x with e|e<;>simp[dicOf,e]
def Hl.fm{S_ a hl h'}(x:Hl h a hl)(f:Fm S_ h h')(hs:a ∉ S_):Hl h' a hl:=x.imp (f.at · hs) (f.at · hs)
def ZmJ(hl)(x):Zw (hm hl) (.inr x)=(hl.lookup x).map nI:=by
 induction hl with
 |nil=>rfl
 |cons p l a=>
  have c:Zw (hm ((p.1,p.2)::l)) (.inr x)=if p.1=x then J (nI p.2)else Zw (hm l) (.inr x):=by simp only[Zw,hm];by_cases e:p.1=x<;>simp[e]
  rw[c,a,OF];by_cases e:p.1=x
  . simp[e]
  . have b:(x==p.1)=Ws:=by simpa using λz=>e z.symm
    simp[e,b]
def Zw9(hl:List (Str×Nat)):Z0 (hm hl)=J (hl.map (·.1)):=by
 induction hl with
 |nil=>rfl
 |cons p l a=>simp[hm,Z0]at a ⊢;trivial
structure Hr(md:List (Key×D))(ns:List Str)(hl:List (Str×Nat)):Prop where
 m:∀x,x∈ns↔x∈hl.map (·.1)
 v:∀x∈ns,∀a,Zw md (.inr x)=J (nI a)->hl.lookup x=J a
 w:∀p∈hl,Yp p.1=Wq
 l:hl.length<=2
 nd:(hl.map (·.1)).Nodup
theorem Zdm:∀(t) {ns al},(∀x,x∈ns↔x∈al)->fin ns t=fin al t
 |.num _,_,_,_=>rfl
 |.name x,ns,al,h=>by simp[fin,h]
 |.fn x e,ns,al,h|.rcc f x e,ns,al,h=>Zdm e (by simp[rs,h])
 |.call a b,ns,al,h|.op _ a b,ns,al,h=>by simp[fin,Zdm a h,Zdm b h]
 |.iff a b c,ns,al,h=>by simp[fin,Zdm a h,Zdm b h,Zdm c h]
noncomputable def ZbP(hl:List (Str×Nat))(b:List Str):List (Str×Nat):=hl.filter λp=>!Wu (p.1∈b)
theorem Ziz{b}{x}(hb:x ∉ b):∀hl ,(ZbP hl b).lookup x=hl.lookup x
 |[]=>rfl
 |(y,a)::l=>by
  have c:ZbP ((y,a)::l) b=if y∈b then ZbP l b else(y,a)::ZbP l b:=by simp only[ZbP,List.filter_cons];simp
  rw[c,OF];by_cases e:y∈b
  . have e':(x==y)=Ws:=by simpa using λ(z:x=y)=>hb (z▸e)
    rw[if_pos e,e',Ziz hb l]
  . rw[if_neg e,OF,Ziz hb l]
def Hr.cut{md ns hl}(r:Hr md ns hl)(b):Hr md (rs ns b) (ZbP hl b):=by
 refine⟨λx=>?_,λx c a e=>?_,λp d=>r.w p (List.mem_filter.mp d).1,OE (List.length_filter_le _ _) r.l,(List.filter_sublist.map _).nodup r.nd⟩
 . simp only[rs,ZbP,List.mem_filter];rw[r.m x];simp
 . have c:=List.mem_filter.mp c;rw[Ziz<|by simpa using c.2];exact r.v x c.1 a e
def ZpL{U}{S}{a}{R}(p:tst U a S h=.ok Wq R):tst U (.nt a) S h=.ok Ws R:=by rw[Zko,p];rfl
def ZAH{U}{S}{a}{c}(w)(p:ev U a S h=.ok c.d R):tst U (.ex<|.cmp .NotEq (.ix a<|.Ci_ 0)<|.cst<|.str w) S h=.ok (!Wu (wd c=w)) R:=ZI ((Zd (by obtain⟨b,e⟩:=c_d c;rw[e]at p;exact(Zf p rfl).I ZhN) rfl).I<|rfl)
theorem Zdo:∀(q:Q) (ns),(q.cpl ns).length=cc ns q.er
 |.num _ _,_=>rfl
 |.name i x,ns=>by simp[Q.cpl,Q.er,cc];split<;>rfl
 |.fn i x e,ns|.rcc i f x e,ns=>by simp[Q.cpl,Q.er,cc];split<;>simp[Zdo e];lia
 |.call i a b,ns|.op i w a b,ns=>by simp[Q.cpl,Q.er,cc,Zdo a,Zdo b];lia
 |.iff i a b c,ns=>by simp[Q.cpl,Q.er,cc,Zdo a,Zdo b,Zdo c];lia
def Kx(K:List Pr)(L:Nat)(i n:Nat):Prop:=∃a,Kn K L (i,a) n
inductive Sr(hd u:Nat)(h:Hd)(K:List Pr)(L:Nat)(hl:List (Str×Nat))(uj:List Nat)(r:qd D):Prop
 |mk (h':Hd) (us':List Nat) (e:r=.ok (.bl Wq) h') (f:Fm [u,hd] h h') (l:h'[u]?=J (.lst (us'.map nI))) (p:Paired (Kx K L) uj us') (hh:Hl h' hd hl)
structure Wh(ko kn u hd:Nat)(G G':List Gc)(us:List Nat)(hl:List (Str×Nat))(h:Hd):Prop where
 o:h[ko]?=J (cl G)
 n:h[kn]?=J (cl G')
 t:h[u]?=J (.lst<|us.map nI)
 d:Hl h hd hl
 ou:ko≠u
 nu:kn≠u
def Wh.ne{ko kn u hd G G' us hl}(w:Wh ko kn u hd G G' us hl h):ko≠hd/\kn≠hd/\u≠hd:=by obtain⟨o,n,t,d,_,_⟩:=w;refine⟨λz=>?_,λz=>?_,λz=>?_⟩<;>subst z<;>rcases d with d|d<;>simp_all [cl]
def Wh.on{ko kn u hd G G' us hl h' us'}(w:Wh ko kn u hd G G' us hl h)(f:Fm [u,hd] h h')(l:h'[u]?=J (.lst<|us'.map nI))(hh:Hl h' hd hl):Wh ko kn u hd G G' us' hl h':=⟨f.at w.o<|by simp[w.ou,w.ne.1],f.at w.n<|by simp[w.nu,w.ne.2.1],l,hh,w.ou,w.nu⟩
def StS(P:Pg)(G G':List Gc)(md:List (Key×D))(K:List Pr)(z:Nat):Prop:=∀(p:Q) (n:Nat) (b:List Str) (d:List (Str×Nat)) (a f g u e:Nat) (c i:List Nat) (h:Hd),Wh f g u e G G' i d h->Hr md b d->p.ok (gl G)->p.er.size<=z->Std G md K (p.no,b) a->Paired (Kx K G.length) c i->(c++p.cpl b).Nodup->c.length+p.er.size<=900->Sr e u h K G.length d (c++p.cpl b) (run P (n+2*z+5) (O "_law_stands") [.ref f,.ref g,nI p.no,nI a,.ref e,.ref u] h)
def vc(ko kn at':Nat)(cd:D)(hd u:Nat)(c:Gc)(x7 x8 x9 x10:Option D):Ev:=[J<|.ref ko,J<|.ref kn,J<|nI at',J cd,J<|.ref hd,J<|.ref u,J c.d,x7,x8,x9,x10]
section
variable {ko kn at' u hd:Nat}{cd:D}{c:Gc}{x7 x8 x9 x10:Option D}{G G':List Gc}{md:List (Key×D)}{K:List Pr}{ns:List Str}{hl:List (Str×Nat)}
def Zw2(H:Lw P)(m)(s):xs2 (P.tbl<|m+1) ZT (vc ko kn at' cd hd u c x7 x8 (J<|.str s)<|J<|.str s) h=.ok (.nx,vc ko kn at' cd hd u c x7 x8 (J<|.str s)<|J<|.str s) h:=(Za<|(Zi<|ZhJ<|ZI<|Zl (Zh2 H m (.str s)<|.inr ⟨s,rfl⟩) rfl).I<|(Za<|(Zi<|ZI<|(Zd rfl rfl).I<|by simp).I rfl).I rfl).I rfl
theorem Zf6(H:Lw P)(m):∀(ss:List _) (ds) (x9 x10),∃y9 cE,ZY [] (.two 9 10) (xs2 (P.tbl<|m+1) ZT) ((ss.map λs=>D.tup [.str s,.str s])++ds) (vc ko kn at' cd hd u c x7 x8 x9 x10) h=ZY [] (.two 9 10) (xs2 (P.tbl<|m+1) ZT) ds (vc ko kn at' cd hd u c x7 x8 y9 cE) h
 |[],ds,x9,x10=>⟨_,_,rfl⟩
 |s::ss,ds,x9,x10=>by obtain⟨y9,cE,e⟩:=Zf6 H m _ _ _ _;exact⟨_,_,(Zdk rfl<|Zw2 H m s).I e⟩
inductive Lr(hd u:Nat)(h:Hd)(K:List Pr)(L:Nat)(hl:List (Str×Nat))(uj:List Nat)(f:Option D->Option D->Ev)(r:qd (Fl×Ev)):Prop
 |mk (h':Hd) (us':List Nat) (y9 cE:Option D) (e:r=.ok (.nx,f y9 cE) h') (f:Fm [u,hd] h h') (l:h'[u]?=J (.lst (us'.map nI))) (p:Paired (Kx K L) uj us') (hh:Hl h' hd hl)
theorem ZoD(H:Lw P){z}(S_:StS P G G' md K z)(n)(nn:¬ ∃x,c=.num x)(r:Hr md ns hl):∀(ps) (ah ui us) (h) (x9 x10),Wh ko kn u hd G G' us hl h->(∀p∈ps,p.ok (gl G)/\p.er.size<=z)->Paired (λp num=>Std G md K (Q.no p,ns) num) ps ah->Paired (Kx K G.length) ui us->(ui++ps.flatMap (Q.cpl ns)).Nodup->ui.length+(ps.map λp=>p.er.size).sum<=900->Lr hd u h K G.length hl (ui++ps.flatMap (Q.cpl ns)) (vc ko kn at' cd hd u c x7 x8) (ZY [] (.two 9 10) (xs2 (P.tbl<|n+2*z+5) ZT) (Zjw (ps.map λp=>nI p.no)<|ah.map nI) (vc ko kn at' cd hd u c x7 x8 x9 x10) h)
 |[],_,ui,us,h,x9,x10,w,_,.nil,pk,_,_=>⟨h,us,x9,x10,rfl,.refl,w.t,by simp_all,w.d⟩
 |p::ps,_,ui,us,h,x9,x10,w,e,.cons (b:=num) (l₂:=ah) s q,pk,nd,g=>by
  simp only[List.flatMap_cons,<-Oz]at nd ⊢;simp at g;obtain⟨R,i,j,f,l1,k,l⟩:=S_ p n ns hl num ko kn u hd ui us h w r (e p<|.head _).1 (e p<|.head _).2 s pk (List.nodup_append.mp nd).1 (by lia);have F:(p.cpl ns).length<=p.er.size:=by rw[Zdo];exact ZcX _ _
  obtain⟨m,o,v,y,A,B,l2,C,D⟩:=ZoD H S_ n nn r ps ah _ i R (J<|nI p.no) (J<|nI num) (w.on f l1 l) (λq E=>e q<|.tail _ E) q k nd (by simp;lia);exact⟨m,o,v,y,(Zdk (ρ1:=vc ko kn at' cd hd u c x7 x8 (J<|nI p.no)<|J<|nI num) rfl<|(Za<|(Zq<|Zg4 (ZI<|Zl (Zh2 H (n+2*z+4) (nI p.no)<|.inl ⟨_,rfl⟩) rfl)<|Zh (ZAH (a:=.var 6) (c:=c) _ rfl)<|by simpa using λq=>nn<|(ZmI c).mp q).I<|(Za<|(Zi<|Zir (ZpL<|ZI<|Zl (Zh2 H (n+2*z+4) (nI num)<|.inl ⟨_,rfl⟩) rfl)<|ZpL<|ZI<|Zl j rfl).I rfl).I rfl).I rfl).I A,f.I B,l2,C,D⟩
end
end
section
variable {P:Pg}{h:Hd}
section
variable {ko kn at' u hd e:Nat}{cd:D}{c:Gc}{x9 x10:Option D}{hl:List (Str×Nat)}
def Zxj(a b):hm (a++b)=hm a++hm b:=List.map_append
def Zok{x}{a}:∀{l:List (Str×Nat)},x ∉ l.map (·.1)->putD (hm l) (.inr x) (nI a)=hm (l++[(x,a)]):=λ{l} b=>by
 have:((hm l).any λkv=>Wu<|kv.1=.inr x)=Ws:=by simp[hm];grind
 rw[putD,this,Zxj];rfl
theorem Ziy:∀{l:List (Str×Nat)}{x}{a},(l.map (·.1)).Nodup->(x,a)∈l->l.lookup x=J a
 |(y,b)::l,x,a,nd,hm=>by
  rw[OF];rcases O2.mp hm with e|e
  . simp_all
  . have:x≠y:=λz=>(List.nodup_cons.mp nd).1 (z▸List.mem_map_of_mem (f:=(·.1)) e);have c:(x==y)=Ws:=by simpa using this
    rw[c];exact Ziy (List.nodup_cons.mp nd).2 e
theorem Zni(b:c.bd≠[])(nd:(hl.map (·.1)).Nodup)(lz:hl.length<=2)(ne:e≠hd)(m):∀ (l l0) (h) (o),hl=l0++l->h[e]?=J (.dic<|hm<|ZbP l0 c.bd)->h[hd]?=J (.fdic<|hm hl)->∃ y8,ZY [] (.nm 8) (xs2 (P.tbl m) Za8) (l.map λp=>.str p.1) (vc ko kn at' cd hd u c (J<|.ref e) o x9 x10) h=.ok (.nx,vc ko kn at' cd hd u c (J<|.ref e) y8 x9 x10) (h.set e<|.dic<|hm<|ZbP hl c.bd)
 |[],l0,h,o,hs,he,hh=>⟨o,by rw [hs,Yt,show h.set e _=h by rw [<-(Ob.mp he).2];simp];rfl⟩
 | (x,a)::l,l0,h,o,hs,he,hh=>by
   by_cases hx:x∈c.bd
   . obtain⟨y8,r⟩:=Zni b nd lz ne m l (l0++[(x,a)]) h _ (by simp_all) (by rw [he];simp [ZbP,hx]) hh;exact⟨_,(Zdk (ρ1:=vc _ _ _ _ _ u c _ _ _ _) rfl<|(Za<|(Zi<|Zh (ZI<|(Zd (x:=.str x) (R:=h) rfl<|ZqH (a:=.var 6) (c:=c) b rfl).I Z2)<|by simp_all).I rfl).I rfl).I r⟩
   . have lk:hl.lookup x=J a:=Ziy nd (by rw [hs];simp);have ec:ZbP (l0++[(x,a)]) c.bd=ZbP l0 c.bd++[(x,a)]:=by simp [ZbP,hx]
     obtain⟨y8,r⟩:=Zni b nd lz ne m l (l0++[(x,a)]) (h.set e<|.dic<|hm<|ZbP l0 c.bd++[(x,a)]) (J<|.str x) (by rw [hs];simp) (by rw [ec,Ol<|Tm.Zv he]) (by rw [Oc ne];exact hh);have ll:(ZbP l0 c.bd).length<=2:=OE (List.length_filter_le _ _) (by rw [hs] at lz;simp at lz;lia);have p:Z1 (.ref e) (.str x) (nI a) h=.ok () (h.set e<|.dic<|hm<|ZbP l0 c.bd++[(x,a)]):=by
       rw [<-Zok λz=>by
       rw [hs,List.map_append] at nd;obtain⟨p,hp,e⟩:=List.mem_map.mp z;exact(List.nodup_append.mp nd).2.2 p.1 (List.mem_map_of_mem (List.mem_filter.mp hp).1) x (by simp) e]
       unfold Z1;simp only [he,keyOf];rw [if_pos (by rw [YC];simp [hm];lia)]
     have v:ev (P.tbl m) (.ix (.var 4)<|.var 8) (vc ko kn at' cd hd u c (J<|.ref e) (J<|.str x) x9 x10) h=.ok (nI a) h:=(Zf (x:=.ref hd) (y:=.str x) (R:=h) rfl rfl).I (by simp [ZaR,dicOf,hh,ZmJ,lk]);refine⟨y8,(Zdk (ρ1:=vc ko kn at' cd hd u c (J<|.ref e) (J<|.str x) x9 x10) rfl<|(Za<|(Zq<|Zh (ZI<|(Zd (x:=.str x) (R:=h) rfl<|ZqH (a:=.var 6) (c:=c) b rfl).I Z2)<|by simp [hx]).I<|(Za<|ZlD (R:=h) (h2:=h) (h3:=h) v rfl rfl p).I rfl).I rfl).I<|r.I ?_⟩;rw [List.set_set]
end
end
section
variable {P:Pg}{h:Hd}
def nmz:Gc->List Str
 |.name x=>[x]
 |c=>c.bd
def ZBC{c}(nn:¬ ∃x,c=.num x):c.fr=.str (wd c)::(nmz c).map .str:=by cases c<;>simp_all [Gc.fr,wd,nmz,Gc.bd]
def Zyh{c:Gc}{ah}(nn:¬ ∃x,c=.num x)(ln:ah.length=c.ps.length):c.d=.tup (.str (wd c)::((nmz c).map .str++c.ps.map nI))/\(c.wp ah).d=.tup (.str (wd c)::((nmz c).map .str++ah.map nI)):=by obtain⟨a,b⟩:=Zqn ln;unfold Gc.d;rw[a,b,ZBC nn];simp
def Zya(ss:List _)(as bs):Zjw (ss.map .str++as) (ss.map .str++bs)=(ss.map λs=>D.tup [.str s,.str s])++Zjw as bs:=by
 induction ss with
 |nil=>rfl
 |cons s ss a=>have a:List.zipWith _ _ _=_:=a;simp[Zjw,a]
section
variable {ko kn u hd:Nat}{c:Gc}{G G':List Gc}{md:List (Key×D)}{ns:List Str}{hl:List (Str×Nat)}{us:List Nat}{at':Nat}{cd:D}
inductive Bh(P:Pg)(m ko kn u hd at':Nat)(G G':List Gc)(us:List Nat)(hl:List (Str×Nat))(c:Gc)(cd:D)(h:Hd):Prop
 |mk (bj:Nat) (h':Hd) (x7 x8:Option D) (e:xs1 (P.tbl m) Zcx (vc ko kn at' cd hd u c M M M M) h=.ok (.nx,vc ko kn at' cd bj u c x7 x8 M M) h') (w:Wh ko kn u bj G G' us (ZbP hl c.bd) h') (f:Fm [hd] h h') (o:bj=hd/\c.bd=[]\/h.length<=bj) (hh:Hl h' hd hl)
def Zxr(m)(w:Wh ko kn u hd G G' us hl h)(r:Hr md ns hl):Bh P m ko kn u hd at' G G' us hl c cd h:=by
 have t:=ZyB (U:=P.tbl m) (S:=vc ko kn at' cd hd u c M M M M) (a:=.var 6) (h:=h) rfl;by_cases b:c.bd=[]
 . refine⟨_,h,_,_,(Zi<|Zh t<|by simp[b]).I rfl,?_,.refl,.inl ⟨rfl,b⟩,w.d⟩;rw[b,show ZbP _ _=hl by simp[ZbP]];exact w
 . obtain⟨v,x,y⟩:=w.ne;have z:Hl (h++[DO.dic []]) _ _:=w.d.imp Tm.keep Tm.keep;have lt:hd<h.length:=by rcases w.d with d|d<;>exact Tm.Zv d
   obtain⟨f,A,g,k⟩:∃f,evi _ Zba (vc _ _ _ _ hd u c _ _ _ _) (h++[DO.dic []])=.ok _ f/\Fm [hd] _ f/\f[hd]?=J _:=by
    have q:(hm hl).map (λp=>ZrQ p.1)=hl.map λp=>.str p.1:=by simp[hm,ZrQ]
    rcases z with d|d
    . exact⟨_,by show Zno (.ref hd) _=_;simp only[Zno,d];rw[q],.set<|by simp,Ol (by simp;lia)⟩
    . exact⟨_,by show Zno (.ref hd) _=_;simp only[Zno,d];rw[q],.refl,d⟩
   have s:=g.at ZL (by simp;lia);obtain⟨B,C⟩:=Zni (P:=P) (ko:=ko) (kn:=kn) (at':=at') (cd:=cd) (u:=u) (hd:=hd) (e:=h.length) (x9:=M) (x10:=M) b r.nd r.l (by lia) m hl [] f M rfl s k;refine⟨h.length,f.set h.length<|.dic<|hm<|ZbP hl c.bd,J<|.ref h.length,B,(Zq<|Zh t<|by simp[b]).I<|(Za<|Zg (i:=7) rfl).I<|(Za<|(Zed A).I C).I<|(Za<|Zg (i:=4) rfl).I rfl,?_,?_,.inr<|Oq _,?_⟩
   . have j:Fm [hd,h.length] h (f.set h.length<|.dic<|hm<|ZbP hl c.bd):=((Fm.app.I g).sub<|by simp).I (.set<|by simp);have D:=Tm.Zv w.o;have E:=Tm.Zv w.n;have F:=Tm.Zv w.t;exact⟨j.at w.o (by simp[v];lia),j.at w.n (by simp[x];lia),j.at w.t (by simp[y];lia),.inl<|Ol<|Tm.Zv s,w.ou,w.nu⟩
   . exact Fm.cut (S_:=[hd,h.length]) (((Fm.app.I g).sub<|by simp).I<|.set<|by simp) (by simp)
   . exact .inr (by rw[Oc<|by lia];exact k)
end
end
section
variable {P:Pg}{h:Hd}
theorem Paired.of_map{F:α->β->Prop}{g}:∀{l:List γ}{m},Paired F (l.map g) m->Paired (λa b=>F (g a) b) l m
 |[],_,.nil=>.nil
 |_::_,_,.cons r p=>.cons r (Paired.of_map p)
section
variable {ko kn u hd:Nat}{c:Gc}{G G':List Gc}{md:List (Key×D)}{K:List Pr}{ns:List Str}{hl:List (Str×Nat)}{us ui ah:List Nat}
def Zvo{a}{l}:cutD (a::l) (J 1) M=l:=by simp
theorem Tp.sum{g}{q}(tp:Tp g q c):q.er.size=1+(q.prt.map λp=>p.er.size).sum:=by rw[Tm.Zt,tp.er,List.map_map];rfl
def f_3{U:Tb}{S:Ev}(nn:¬ ∃x,c=.num x)(ln:ah.length=c.ps.length)(e3:ev U (.var 3) S h=.ok (c.wp ah).d h)(e6:ev U (.var 6) S h=.ok c.d h):tst U Zco S h=.ok Ws h:=by obtain⟨a,b⟩:=Zyh nn ln;rw[b]at e3;rw[a]at e6;exact Zir (ZI<|(Zd (Zb1 (Zb e3 rfl) rfl)<|Zb1 (Zb e6 rfl) rfl).I<|by simp_all) (ZI<|(Zd ((Zf e3 rfl).I ZhN)<|(Zf e6 rfl).I ZhN).I<|by simp_all)
def f_4{U:Tb}{S:Ev}(nn:¬ ∃x,c=.num x)(ln:ah.length=c.ps.length)(e3:ev U (.var 3) S h=.ok (c.wp ah).d h)(e6:ev U (.var 6) S h=.ok c.d h):evi U Zce S h=.ok ⟨[],(nmz c).map (λs=>D.tup [.str s,.str s])++Zjw (c.ps.map nI) (ah.map nI)⟩ h:=by obtain⟨d1,d2⟩:=Zyh nn ln;show((ev U _ _ h).bind _)=_;rw[(Gn.ZjR (e6.I<|by rw[d1]) (l:=J 1) (u:=M) rfl rfl).I<|ZlJ.I<|by rw[Zvo]];show((ev U _ _ h).bind _)=_;rw[(Gn.ZjR (e3.I<|by rw[d2]) (l:=J 1) (u:=M) rfl rfl).I<|ZlJ.I<|by rw[Zvo]];show(if _ then _ else _)=_;rw[if_pos<|by simp_all,Zya]
theorem ZqT (H:Lw P) {z} (S_:StS P G G' md K z) (n) {p} (w:Wh ko kn u hd G G' us hl h) (r:Hr md ns hl) (e:G[p.no]?=J c) (tp:Tp (gl G) p c) (nn:¬ ∃ x,c=.num x) (hz:∀ q∈p.prt,q.er.size<=z) (s:Paired (Std G md K) (bn c ns) ah) (pk:Paired (Kx K G.length) ui us) (nd:(ui++p.prt.flatMap (Q.cpl<|rs ns c.bd)).Nodup) (hs:ui.length+p.er.size<=901):Sr hd u h K G.length hl (ui++p.prt.flatMap (Q.cpl<|rs ns c.bd)) (run P (n+2*z+6) (O "_law_cell_fits") [.ref ko,.ref kn,nI p.no,(c.wp ah).d,.ref hd,.ref u] h):=by
 rw [Ze H.law_cell_fits rfl];obtain⟨a,R,x7,x8,v,y,g,o1,A⟩:=Zxr (P:=P) _ (at':=p.no) (c:=c) (cd:=(c.wp _).d) w r;have N:=Tp.sum tp;obtain⟨B,C,el⟩:=Zf6 H _ (h:=R) (ko:=ko) (kn:=kn) (at':=p.no) (cd:=(c.wp _).d) (hd:=a) (u:=u) (c:=c) (x7:=x7) (x8:=x8) _ _ M M;obtain⟨j,D,T,V,E,f2,l2,F,l⟩:=ZoD H S_ n (ko:=ko) (kn:=kn) (at':=p.no) (cd:=(c.wp ah).d) (hd:=a) (u:=u) (c:=c) (x7:=x7) (x8:=x8) nn (r.cut c.bd) p.prt ah ui us R B C y (λq m=>⟨tp.ok q m,hz q m⟩) (by
   unfold bn at s;rw [tp.ps,List.map_map] at s;exact Paired.of_map s) pk nd (by lia)
 have L:=f_3 (U:=P.tbl<|n+2*z+5) (S:=vc ko kn p.no (c.wp ah).d a u c x7 x8 M M) (h:=R) nn (Zar s) rfl rfl;have t:=f_4 (U:=P.tbl<|n+2*z+5) (S:=vc ko kn p.no (c.wp ah).d a u c x7 x8 M M) (h:=R) nn (Zar s) rfl rfl;rw [tp.ps,List.map_map] at t;have f:xs2 (P.tbl<|n+2*z+5) ZdV [J<|.ref ko,J<|.ref kn,J<|nI p.no,J (c.wp ah).d,J<|.ref hd,J<|.ref u,M,M,M,M,M] h=.ok (.rt<|.bl Wq,_) j:=(Za<|Zg (i:=6)<|Zy (k:=ko) (n:=p.no) rfl rfl w.o e).I<|(Za v).I<|(Za<|(Zi L).I rfl).I<|(Za<|(Zed t).I<|el.I E).I<|Zc<|Zm rfl;have lt:hd<h.length:=by rcases w.d with d|d<;>exact Tm.Zv d
 refine⟨j,D,congrArg Zn f,?_,l2,F,?_⟩
 . rcases o1 with⟨rfl,_⟩|o1
   . exact(g.sub<|by simp).I f2
   . exact Fm.cut (S_:=[u,hd,a]) ((g.sub<|by simp).I<|f2.sub<|by simp) (by simp;lia)
 . rcases o1 with⟨rfl,b⟩|o1
   . rw [b,show ZbP hl []=hl by simp [ZbP]] at l;exact l
   . exact A.fm f2 (by simp [w.ne.2.2.symm];lia)
end
end
section
variable {P:Pg}{h:Hd}
def ZAp(us:List _)(x):((us.map nI).any λz=>eqF z<|nI x)=Wu (x∈us):=by
 induction us with
 |nil=>rfl
 |cons y us a=>
  show(y==(x:Int)||_)=_;by_cases e:y=x
  . simp[e]
  . have b:¬ x=y:=λz=>e z.symm;have c:=λz=>e (Int.ofNat_inj.mp z)
    simp_all
def ZBx{a}{us:List _}{x}{GD}(e:h[a]?=J (.lst<|us.map nI)):opC GD .In (nI x) (.ref a) h=.ok (.bl<|Wu<|x∈us) h:=by
 have b:(us.map nI).all D.flat=Wq:=by simp[D.flat,nI]
 show ZaC _ _ _ _ h=_;unfold ZaC;simp only[seqOf,lstOf,e,b,ZAp];rfl
def ZBy{a}{hl}{x}{GD}(d:Hl h a hl):opC GD .In (.str x) (.ref a) h=.ok (.bl (hl.lookup x).isSome) h:=by
 have b:seqOf (.ref a) h=M:=by rcases d with d|d<;>simp[seqOf,lstOf,d]
 show ZaC _ _ _ _ h=_;unfold ZaC;simp only[b,d.dic,keyOf,ZmJ];simp
def ZzP{a}{hl}{x}{m}{GD}(d:Hl h a hl)(e:hl.lookup x=J m):ZaR GD (.ref a) (.str x) h=.ok (nI m) h:=by simp[ZaR,d.dic,ZmJ,e]
def ZzH{a}{hl:List (Str×Nat)}{GD}(d:Hl h a hl)(w:∀p∈hl,Yp p.1=Wq):Zan GD .ldk [.ref a] h=.ok (.ref h.length) (h++[.lst ((hl.map (·.1)).map .str)]):=by show Zsz _ [.ref a] h=_;unfold Zsz;simp only[d.dic,Yz,Zw9];rw[if_pos<|by simpa using λa b hp=>w _ hp];rfl
def Zo0{g}{p:Q}{c}{ns}(e:g p.no=J c)(ok:p.ok g)(hv:c.isV=Wq->fin ns p.er=Wq)(hc:cm ns c=Ws):p.cpl ns=p.no::p.prt.flatMap (Q.cpl<|rs ns c.bd):=by
 cases p with
 |num i z=>cases e.symm.I ok;cases hv rfl
 |name i x=>cases e.symm.I ok;simp[Q.cpl,by simpa[cm]using hc,Q.no,Q.prt]
 |fn i x b=>cases e.symm.I ok.1;have:fin _ b.er=Wq:=hv rfl;simp[Q.cpl];rw[if_pos this];simp[Q.no,Q.prt,Gc.bd]
 |rcc i f x b=>cases e.symm.I ok.1;have:fin _ b.er=Wq:=hv rfl;simp[Q.cpl];rw[if_pos this];simp[Q.no,Q.prt,Gc.bd]
 |call i a b=>cases e.symm.I ok.1;simp[Q.cpl,Q.no,Q.prt,Gc.bd,Zbg]
 |op i w a b=>cases e.symm.I ok.1;simp[Q.cpl,Q.no,Q.prt,Gc.bd,Zbg]
 |iff i a b c=>cases e.symm.I ok.1;simp[Q.cpl,Q.no,Q.prt,Gc.bd,Zbg]
def vs(ko kn m num hd u:Nat)(c:Option D):Ev:=[J<|.ref ko,J<|.ref kn,J<|nI m,J<|nI num,J<|.ref hd,J<|.ref u,c]
section
variable {ko kn u hd:Nat}{c:Gc}{G:List Gc}{md:List (Key×D)}{ns:List Str}{hl:List (Str×Nat)}
def Zqz(H:Lw P)(m){z}{a k hh}{q:Q}{S}(hk:h[ko]?=J (cl G))(d:Hl h hd hl)(r:Hr md ns hl)(ok:q.ok (gl G))(hz:q.er.size<=z)(e1:∀h,ev (P.tbl<|m+z+3) k S h=.ok (.ref ko) h)(e2:ev (P.tbl<|m+z+3) a S h=.ok (nI q.no) h)(e3:ev (P.tbl<|m+z+3) hh S h=.ok (.ref hd) h):∃h',tst (P.tbl<|m+z+3) (.nt<|.ex<|.call (O "_law_free")<|.cons k<|.cons a<|.cons (.blt .ldk<|.cons hh .nil) .nil) S h=.ok (!fin ns q.er) h'/\Fm [] h h':=by obtain⟨h',e,f⟩:=Zoh H z q m (hl.map _) _ _ (Tm.keep hk) ZL (by simpa using r.l) ok hz;refine⟨_,?_,Fm.app.I f⟩;rw[Zdm _ r.m,Zko,ZI<|Zl e<|Zb (e1 h)<|Zb e2<|Zb (Zb1 (Zb e3 rfl)<|ZzH d r.w) rfl];rfl
def Zsj{U}{S}{a b d}{op bK}{x z w}(p:ev U a S h=.ok x h)(q:ev U b S h=.ok z h)(r:ev U d S h=.ok w h)(e1:opC U.GD op x z h=.ok (.bl Wq) h)(e2:opC U.GD bK z w h=.ok (.bl Wq) h):ev U (.cmp2 op bK a b d) S h=.ok (.bl Wq) h:=by show((ev U a _ h).bind _)=_;rw[p];show((ev U b _ h).bind _)=_;rw[q];show((opC _ _ x z h).bind _)=_;rw[e1];show((ev U d _ h).bind _)=_;rw[r];trivial
def ZyC{U}{S}{x y}{b c}(p:tst U x S h=.ok b h)(q:tst U y S h=.ok c h):tst U (.ands<|.cons x<|.one y) S h=.ok (b&&c) h:=by
 cases b
 . exact ZhJ p
 . exact Zg4 p q
def ZA5(m){at' num}(d:Hl h hd hl)(r:Hr md ns hl):tst (P.tbl m) Zer (vs ko kn at' num hd u<|J c.d) h=.ok (cm ns c) h:=by
 by_cases b:∃x,c=.name x
 . obtain⟨x,rfl⟩:=b;refine(Zg4 (Zh (w_eq _ rfl)<|rfl)<|ZI<|(Zd rfl rfl).I<|ZBy d).I ?_;have:(hl.lookup x).isSome=cm ns (.name x):=by
    by_cases a:x∈ns
    . obtain⟨p,f,e⟩:=List.mem_map.mp<|(r.m x).mp a;rw[Ziy r.nd (by rw[<-e];trivial)];simp[cm,a]
    . have:hl.lookup x=M:=by rw[List.lookup_eq_none_iff];exact λp f=>by simpa using λz:x=p.1=>a ((r.m x).mpr<|z▸List.mem_map_of_mem f)
      simp[cm,a,this]
   rw[this]
 . rw[ZrC b];exact ZhJ (Zh (w_eq _ rfl)<|decide_eq_false λz=>b<|(ZhZ c).mp z)
def ZA4(H:Lw P)(m){z num}{q:Q}(hk:h[ko]?=J (cl G))(d:Hl h hd hl)(r:Hr md ns hl)(ok:q.ok (gl G))(hz:q.er.size<=z):∃h',tst (P.tbl<|m+z+3) Zeq (vs ko kn q.no num hd u<|J c.d) h=.ok (c.isV&&!fin ns q.er) h'/\Fm [] h h':=by
 obtain⟨i,e⟩:=c_d c;have b:tst (P.tbl<|m+z+3) (.ex<|.cmp .In (.ix (.var 6)<|.Ci_ 0)<|.tupl<|.cons (.Cs_ "num")<|.cons (.Cs_ "fn")<|.cons (.Cs_ "rec") .nil) (vs ko kn q.no num hd u<|J c.d) h=.ok c.isV h:=e▸ZI ((Zd ((Zf rfl rfl).I ZhN)<|ZaF (xs:=[Str.ofString _,Str.ofString _,Str.ofString _].map _) rfl<|by simp).I<|ZaH.I<|by rw[ZvD]);cases v:c.isV with
 |false=>rw[v]at b;exact⟨h,ZhJ b,.refl⟩
 |true=>rw[v]at b;obtain⟨h',g,f⟩:=Zqz H m (a:=.var 2) (k:=.var 0) (hh:=.var 4) (S:=vs _ _ _ _ _ u _) hk d r ok hz (λ_=>rfl) rfl rfl;exact⟨_,(Zg4 b g).I<|rfl,f⟩
end
end
section
variable {P:Pg}{h:Hd}
section
variable {ko kn u hd:Nat}{c:Gc}{G G':List Gc}{hl:List (Str×Nat)}{us:List Nat}
def ZA3(m){at' num}(ne:num≠at'):tst (P.tbl m) Zep (vs ko kn at' num hd u<|J c.d) h=.ok Ws h:=(ZyC (w_eq _ rfl)<|Zgt rfl rfl).I (by rw[decide_eq_false λz=>ne<|Int.ofNat_inj.mp z,Bool.and_false])
def ZA2(m){at' num}(w:Wh ko kn u hd G G' us hl h)(l1:G.length<=num)(l2:num<G'.length)(nu:num ∉ us):tst (P.tbl m) Zeo (vs ko kn at' num hd u<|J c.d) h=.ok Ws h:=by have a:ev (P.tbl m) (.blt _<|.cons (.var 0) .nil) (vs _ kn at' num hd u<|J c.d) h=.ok (.int G.length) h:=(Zb1 rfl<|Zhv w.o).I (by simp);have b:ev (P.tbl m) (.blt _<|.cons (.var 1) .nil) (vs ko _ at' num hd u<|J c.d) h=.ok (.int G'.length) h:=(Zb1 rfl<|Zhv w.n).I (by simp);exact Zir (ZpL<|ZI<|Zsj a (z:=nI _) rfl b (by show qd.ok (D.bl<|decide _) h=_;rw[decide_eq_true<|by simp_all]) (by show qd.ok (D.bl<|decide _) h=_;rw[decide_eq_true<|by simp_all])) (ZI<|(Zd (x:=nI _) (y:=.ref u) (R:=h) (h2:=h) rfl rfl).I<|(ZBx w.t).I<|by simp_all)
end
theorem ZlB(H:Lw P){G N}{y}{c'}{kv}{md}{nm}{K}(hy:y<G.length)(pu:Pu G kv md nm K N [] []):∀z,StS P G ((G++N).set y c') md K z
 |0=>λp n C T num ko kn u hd ui s h w r ok U=>by have:=Tm.ZC p.er;lia
 |z+1=>λp n C T num ko kn u hd ui s h w r ok U st pk nd hs=>by
  have S_:=ZlB H (c':=c') hy pu z;obtain⟨c,e,tp⟩:=Q.tpc ok;obtain⟨t,c0,rd,Z,q⟩:=st;cases (Q.rd ok).one rd;cases e.symm.I Z;simp only at q;rw[show n+2*(z+1)+5=n+2*z+6+1 by lia,Ze H.law_stands rfl];have F:=ZA5 (P:=P) (n+2*z+6) (ko:=ko) (kn:=kn) (u:=u) (c:=c) (at':=p.no) (num:=num) w.d r;obtain⟨f,L,D⟩:=ZA4 H _ (kn:=kn) (u:=u) (num:=num) (c:=c) (z:=z+1) w.o w.d r ok U;rw[show n+z+2+(z+1)+3=n+2*z+6 by lia]at L;rcases q with⟨A,q,rfl⟩|⟨x,rfl,O,bp⟩|⟨V,j,E,rfl⟩
  . have S:=(Zi (a:=ZbN) (b:=.nil)<|Zh F (by cases c<;>first|rfl|cases A)).I rfl;have m:xs2 (P.tbl<|n+2*z+6) ZbG (vs ko kn p.no p.no hd u M) h=.ok (.rt<|.bl Wq,_) f:=(Za<|Zg (i:=6)<|Zy (k:=ko) (n:=p.no) rfl rfl w.o e).I ((Za S).I<|Zc<|(Zq<|Zh L<|by simp[A,q]).I<|Zc<|Zm<|(Zd (x:=nI p.no) (y:=nI p.no) (R:=f) (h2:=f) rfl rfl).I (by rw[ZkA,nI,Zit];simp));refine⟨f,s,congrArg Zn m,D.sub<|by simp,D.at w.t<|by simp,?_,w.d.fm D<|by simp⟩;rw[Q.Zvp (tp.v▸A) q,Yt];exact pk
  . have lk:=r.v x O num bp;have m:xs2 (P.tbl<|n+2*z+6) ZbG (vs ko kn p.no num hd u M) h=.ok (.rt<|.bl Wq,_) h:=(Za<|Zg (i:=6)<|Zy (k:=ko) (n:=p.no) rfl rfl w.o e).I (Zc<|(Zq<|Zh F<|by simpa[cm]using O).I<|Zc<|Zm<|(Zd (x:=nI num) (y:=nI num) (R:=h) (h2:=h) rfl<|(Zf (x:=.ref hd) (y:=.str x) (R:=h) rfl rfl).I<|ZzP w.d lk).I (by rw[ZkA,nI,Zit];simp));refine⟨h,s,congrArg Zn m,.refl,w.t,?_,w.d⟩;have t:p=.name p.no x:=Q.top ok e;rw[show p.cpl C=[] by rw[t];simp[Q.cpl,O],Yt];exact pk
  . obtain⟨t',c1,gd,e1,A,_⟩:=pu.g (p.no,C)<|O1 E;cases e.symm.I e1;have A:c.isV=Wq->fin C p.er=Wq:=λz=>by rw[(Q.rd ok).one gd.r];exact A z
    obtain⟨c2,ah,a1,a2,a3⟩:=pu.d j (p.no,C) E (by simp) (by simp);cases e.symm.I a1;have lj:=(Ob.mp E).1;have lp:=(Ob.mp e).1;have lN:=pu.l;have en:((G++N).set y c')[G.length+j]?=J (c.wp ah):=by rw[Oc<|by lia,Om<|by lia,show G.length+j-G.length=j by lia];exact a2
    have own:=Zo0 e ok A V;rw[own]at nd ⊢;have nu:G.length+j ∉ s:=λz=>by obtain⟨i,hi,al,k⟩:=Paired.mem_r pk _ z;have:=k.inj (p:=(i,al)) (p':=(p.no,C)) ⟨j,E,rfl⟩;cases this;exact(List.nodup_append.mp nd).2.2 _ hi _ (.head _) rfl
    have S:=(Zi (a:=ZbN) (b:=.nil)<|Zh F V).I rfl;have x3:=(Zi (a:=Zeb) (b:=.nil)<|Zh L (by cases v:c.isV<;>simp_all)).I rfl;have B:Wh ko kn u hd G ((G++N).set y c') s T f:=w.on (D.sub<|by simp) (D.at w.t<|by simp) (w.d.fm D<|by simp);have x4:=(Zi (a:=Zea) (b:=.nil)<|ZA3 (P:=P) (n+2*z+6) (h:=f) (ko:=ko) (kn:=kn) (hd:=hd) (u:=u) (c:=c) (at':=p.no) (num:=G.length+j)<|by lia).I rfl;have x5:=(Zi (a:=Zd9) (b:=.nil)<|ZA2 (P:=P) (n+2*z+6) (c:=c) (at':=p.no) (num:=G.length+j) B (by lia) (by simp;lia) nu).I rfl;have lu:s.length=ui.length:=(Paired.len pk).symm;have x6:xs1 (P.tbl<|n+2*z+6) Zew (vs ko kn p.no (G.length+j) hd u<|J c.d) f=.ok (.nx,vs ko kn p.no (G.length+j) hd u<|J c.d) (f.set u<|.lst<|(s++[G.length+j]).map nI):=Zgv (d:=.non) (ZjA (i:=u) (R:=f) rfl B.t (xs:=[nI<|G.length+j]) rfl<|(Za7 B.t (by rw[YC];simp;lia)).I (by rw[List.map_append];rfl));have W:Fm [u,hd] f (f.set u<|.lst<|(s++[G.length+j]).map nI):=.set (by simp);have X:=B.on (us':=s++[G.length+j]) W (Ol<|Tm.Zv B.t) (by rcases B.d with d|d;exact .inl (by rw[Oc B.ne.2.2];exact d);exact .inr (by rw[Oc B.ne.2.2];exact d));have nn:¬ ∃x,c=.num x:=λ⟨x,z⟩=>by subst z;have t:p=.num p.no x:=Q.top ok e;have:=A rfl;rw[t]at this;cases this
    obtain⟨Y,j3,e5,f5,l5,p5,lX⟩:=ZqT H S_ n (ui:=ui++[p.no]) X r e tp nn (λq hq=>by have:=tp.sz q hq;lia) a3 (Paired.app pk<|.cons ⟨C,j,E,rfl⟩ .nil) (by simpa using nd) (by simp;lia);have m:xs2 (P.tbl<|n+2*z+6) ZbG (vs ko kn p.no (G.length+j) hd u M) h=.ok (.rt<|.bl Wq,_) Y:=(Za<|Zg (i:=6)<|Zy (k:=ko) (n:=p.no) rfl rfl w.o e).I<|(Za S).I<|(Za x3).I<|(Za x4).I<|(Za x5).I<|(Za x6).I<|Zc<|Zm<|Zl e5<|Zb rfl<|Zb rfl<|Zb rfl<|Zb (Zy (k:=kn) (n:=G.length+j) rfl rfl X.n en) rfl;exact⟨Y,j3,congrArg Zn m,((D.sub<|by simp).I W).I f5,l5,by simpa using p5,lX⟩
end
section
variable {P:Pg}{h:Hd}
theorem pig:∀(m) (l:List _),l.Nodup->(∀x∈l,x<m)->l.length<=m
 |0,[],_,_=>Oq _
 |0,x::_,_,h=>by have:=h x<|.head _;lia
 |m+1,l,nd,h=>by
  by_cases e:m∈l
  . have:=pig m _ (nd.erase m) λx a=>by
     have a:=(nd.mem_erase_iff).mp a;have:=h x a.2
     lia
    simp_all
  . have:=pig m l nd λx a=>by
     have:=h x a;have:x≠m:=λz=>e (z▸a)
     lia
    lia
theorem ZvE{K}{L}{uj us}(p:Paired (Kx K L) uj us)(nd:uj.Nodup):us.length<=K.length:=by
 have:=pig K.length (us.map (· - L)) (by
   rw [List.nodup_iff_pairwise_ne,List.pairwise_map];refine(List.nodup_iff_pairwise_ne.mp<|Paired.nodup (λa b n x y=>by obtain⟨_,x⟩:=x;obtain⟨_,y⟩:=y;exact congrArg Prod.fst<|x.inj y) p nd).imp_of_mem λ{a b} c d ne=>?_;obtain⟨_,_,_,j,_,e⟩:=Paired.mem_r p a c;obtain⟨_,_,_,i,_,f⟩:=Paired.mem_r p b d
   lia) (λx g=>by
   obtain⟨a,c,e⟩:=List.mem_map.mp g;obtain⟨_,_,_,j,h,f⟩:=Paired.mem_r p a c;have:=(Ob.mp h).1
   lia)
 simp_all
def ZkN(c:Gc):c.d.pure=Wq/\c.d.dp<=1:=by cases c<;>simp[Gc.d,Gc.fr,Gc.ps,nI,D.pure,D.pures,D.dp,D.dps]
def Zuq{c:Gc}:IV.ZbE Ws c.d c.d h=.ok (.bl Wq) h:=IV.ZpJ (ZkN c).1 (OE (ZkN c).2<|by simp)
def vk(ko kn y u:Nat)(x4 x5 x6:Option D):Ev:=[J<|.ref ko,J<|.ref kn,J<|nI y,J<|.ref u,x4,x5,x6]
section
variable {ko kn u y iF iA b:Nat}{c:Gc}{G:List Gc}{md:List (Key×D)}{nm:List Str}
inductive H0(P:Pg)(m ko kn y u:Nat)(c:Gc)(b:Nat)(md:List (Key×D))(nm:List Str)(h:Hd):Prop
 |mk (hl:List (Str×Nat)) (h':Hd) (hh:h'[h.length]?=J (.dic (hm hl))) (f:Fm [] h h') (r:Hr md nm hl) (e:∀s,xs2 (P.tbl m) (.cons ZcA (.cons Zcz s)) (vk ko kn y u (J c.d) M M) h=xs2 (P.tbl m) s (vk ko kn y u (J c.d) (J (.ref h.length)) M) h') (l:∀(m:Nat) (S:Ev) (x:Ex) (h:Hd),ev (P.tbl m) x S h=.ok c.d h->ev (P.tbl m) (.ix x (.neg (.Ci_ 1))) S h=.ok (nI b) h)
def ZxK(m)(hk:h[ko]?=J (cl G))(ey:G[y]?=J (.call iF iA))(mx:MdX c iF iA md nm)(eb:c.ps=[b])(wx:∀x∈c.bd,Yp x=Wq):H0 P m ko kn y u c b md nm h:=by
 cases mx with
 |@fn iF iA b' x=>
  cases eb;refine⟨_,_,ZL,.app,⟨by simp,λz hz a e=>?_,by simpa using wx x (.head _),by simp,by simp⟩,λs=>(Za<|Zg (i:=5) (d:=.ref h.length) (R:=h++[.dic<|hm [(x,iA)]]) ?_).I<|Za<|(Zi<|Zh (w_eq (c:=.fn x b) _ rfl)<|by simp[wd]).I rfl,λ_ S x h e=>(Zf e rfl).I rfl⟩
  . cases Ox.mp hz;have:=YF ((by simp[Zw]:Zw [((.inr x:Key),nI iA)] (.inr x)=J (nI iA)).symm.I e);simp[ZbL this]
  . rw[Zeh,show evs (P.tbl m) _ (vk ko kn y u (J (Gc.fn x b).d) M M) h=.ok [.str x,nI iA] h from Zb ((Zf rfl rfl).I rfl) (Zb ((Zf ((λhk=>Zy (k:=ko) (n:=y) rfl rfl hk ey) hk) rfl).I rfl) rfl),Zz];simp[ZaX,keyOf,Zbi,putD,hm]
 |@rc iF iA b' g x bZ=>
  cases eb;have k1:(h++[DO.dic<|hm [(x,iA)]])[ko]?=J (cl G):=Tm.keep hk;have a1:(h++[DO.dic<|hm [(x,iA)]])[h.length]?=J (.dic<|hm [(x,iA)]):=ZL;have p:Z1 (.ref h.length) (.str g) (nI iF) (h++[DO.dic<|hm [(x,iA)]])=.ok () ((h++[DO.dic<|hm [(x,iA)]]).set h.length<|.dic<|hm<|[(x,iA)]++[(g,iF)]):=by rw[<-Zok (by simpa using bZ)];unfold Z1;simp only[a1,keyOf];rw[if_pos (by rw[YC];simp[hm])]
  refine⟨[(x,iA),(g,iF)],_,Ol<|Tm.Zv a1,Fm.cut (S_:=[h.length]) (Fm.app.I<|.set<|by simp)<|by simp,⟨by simp;grind,λz hz a e=>?_,by simpa using ⟨wx x<|by simp[Gc.bd],wx g<|by simp[Gc.bd]⟩,by simp,by simp;exact λz=>bZ z.symm⟩,λs=>(Za<|Zg (i:=5) (d:=.ref h.length) (R:=h++[.dic<|hm [(x,iA)]]) ?_).I<|Za<|(Zq<|Zh (w_eq (c:=.rcc g x b) _ rfl)<|by simp[wd]).I<|(Za<|ZlD (x:=nI iF) (y:=.ref h.length) (z:=.str g) ((Zf ((λhk=>Zy (k:=ko) (n:=y) rfl rfl hk ey) k1) rfl).I rfl) rfl ((Zf rfl rfl).I rfl) p).I rfl,λ_ S x h e=>(Zf e rfl).I rfl⟩
  . rcases O2.mp hz with rfl|hz
    . have:=YF ((by simp[Zw]:Zw [((.inr z:Key),nI iF),(.inr x,nI iA)] (.inr z)=J (nI iF)).symm.I e);have e':(z==x)=Ws:=by simpa using bZ
      simp[OF,e',ZbL this]
    . cases Ox.mp hz;have:=YF ((by simp[Zw,bZ]:Zw [((.inr g:Key),nI iF),(.inr x,nI iA)] (.inr x)=J (nI iA)).symm.I e);simp[ZbL this]
  . rw[Zeh,show evs (P.tbl m) _ (vk ko kn y u (J (Gc.rcc g x b).d) M M) h=.ok [.str x,nI iA] h from Zb ((Zf rfl rfl).I rfl) (Zb ((Zf ((λhk=>Zy (k:=ko) (n:=y) rfl rfl hk ey) hk) rfl).I rfl) rfl),Zz];simp[ZaX,keyOf,Zbi,putD,hm]
end
end
section
variable {P:Pg}{h:Hd}
def ZxN{G}{qF:Q}{c}{b}(oF:qF.ok (gl G))(vF:qF.isV=Wq)(ct:Gn.Cl [] qF.er)(pF:qF.Cps)(e:gl G qF.no=J c)(eb:c.ps=[b]):∃q:Q,q.ok (gl G)/\q.no=b/\(∀ns,(q.cpl ns).Nodup)/\q.er.size<qF.er.size/\(∀x∈c.bd,Yp x=Wq)/\∀x,q.er=.name x->x∈c.bd:=by
 cases qF with
 |num i z=>cases e.symm.I oF;trivial
 |fn i x q=>cases e.symm.I oF.1;cases eb;exact⟨q,oF.2,rfl,pF.1,by have:=Tm.zf x q.er;simp[Q.er];lia,by simpa[Gc.bd]using ct.2.1,λz a=>by have:=ct.1;rw[a]at this;trivial⟩
 |rcc i f x q=>cases e.symm.I oF.1;cases eb;exact⟨q,oF.2,rfl,pF.1,by have:=Tm.zr f x q.er;simp[Q.er];lia,by simpa[Gc.bd]using ⟨ct.2.2.1.1,ct.2.2.2.1⟩,λz a=>by have:=ct.1;rw[a]at this;simp[Gn.Cl]at this;simp[Gc.bd];exact this.symm⟩
 |_=>cases vF
def Zzu{c}{iF iA}{md}{nm}(mx:MdX c iF iA md nm):nm=c.bd:=by cases mx<;>rfl
def ZxJ(H:Lw P)(m){z ko kn y u hd}{G}{c cb:Gc}{md}{ns}{hl}{q:Q}(hk:h[ko]?=J (cl G))(d:Hl h hd hl)(r:Hr md ns hl)(ok:q.ok (gl G))(hz:q.er.size<=z)(l:ev (P.tbl<|m+z+3) (.ix (.var 4)<|.neg<|.Ci_ 1) (vk ko kn y u (J c.d) (J<|.ref hd)<|J cb.d) h=.ok (nI q.no) h):∃h',tst (P.tbl<|m+z+3) Zcp (vk ko kn y u (J c.d) (J<|.ref hd)<|J cb.d) h=.ok (cb.isV&&!fin ns q.er) h'/\Fm [] h h':=by
 obtain⟨g,b⟩:=c_d cb;have a:tst (P.tbl<|m+z+3) (.ex<|.cmp .In (.ix (.var 6)<|.Ci_ 0)<|.tupl<|.cons (.Cs_ "num")<|.cons (.Cs_ "fn")<|.cons (.Cs_ "rec") .nil) (vk ko kn y u (J c.d) (J<|.ref hd)<|J cb.d) h=.ok cb.isV h:=b▸ZI ((Zd ((Zf rfl rfl).I ZhN)<|ZaF (xs:=[Str.ofString _,Str.ofString _,Str.ofString _].map _) rfl<|by simp).I<|ZaH.I<|by rw[ZvD]);cases v:cb.isV with
 |false=>rw[v]at a;exact⟨h,ZhJ a,.refl⟩
 |true=>rw[v]at a;obtain⟨h',e,f⟩:=Zqz H m (k:=.var 0) (hh:=.var 5) hk d r ok hz (λ_=>rfl) l rfl;exact⟨_,(Zg4 a e).I<|rfl,f⟩
def ZmV(H:Lw P)(n z){G N}{ko kn u y num iA}{c'}{qF:Q}{tA s'}(hy:y<G.length)(o:h[ko]?=J (cl G))(k:h[kn]?=J (cl<|(G++N).set y c'))(t:h[u]?=J (.lst []))(ou:ko≠u)(nu:kn≠u)(ey:G[y]?=J (.call qF.no iA))(oF:qF.ok (gl G))(vF:qF.isV=Wq)(cF:Gn.Cl [] qF.er)(pF:qF.Cps)(hz:qF.er.size<=z)(nB:z<=800)(hA:∃cv,G[iA]?=J cv)(hw:How G y qF.no iA qF.er tA N num s')(en:(G++N)[num]?=J c'):∃h':Hd,∃us':List Nat,run P (n+2*z+7) (O "_law_call_fits") [.ref ko,.ref kn,nI y,.ref u] h=.ok (.bl Wq) h'/\Fm [u] h h'/\h'[u]?=J (.lst<|us'.map nI)/\us'.length<=N.length:=by
 rw[Ze H.law_call_fits rfl];obtain⟨md,nm,qb,kv,K,b,t',c,e,eb,bp,rb,es,pu,sd,cond,mx⟩:=hw;obtain⟨q,oq,rfl,nd,zq,wx,cn⟩:=ZxN oF vF cF pF e eb;have mL:=Zzu mx;have x1:xs1 (P.tbl<|n+2*z+6) ZcB (vk ko kn y u M M M) h=.ok (.nx,vk ko kn y u (J c.d) M M) h:=Zg (i:=4)<|Zy (k:=ko) (n:=qF.no) rfl ((Zf (Zy (k:=ko) (n:=y) rfl rfl o ey) rfl).I rfl) o e;obtain⟨hl,R,hh,f1,r,e1,l1⟩:=ZxK (P:=P) (n+2*z+6) (kn:=kn) (u:=u) (b:=q.no) o ey mx eb wx;have o1:=f1.at o (by simp);have k1:=f1.at k (by simp);have t1:=f1.at t (by simp);obtain⟨cb,eq,tp⟩:=Q.tpc oq;have x4:xs1 (P.tbl<|n+2*z+6) Zcy (vk ko kn y u (J c.d) (J<|.ref h.length) M) R=.ok (.nx,vk ko kn y u (J c.d) (J<|.ref h.length)<|J cb.d) R:=Zg (i:=6)<|Zy (k:=ko) (n:=q.no) rfl (l1 _ _ _ _ rfl) o1 eq;have lnew:ev (P.tbl<|n+2*z+6) (.ix (.var 1)<|.var 2) (vk ko kn y u (J c.d) (J<|.ref h.length)<|J cb.d) R=.ok c'.d R:=Zy (k:=kn) (n:=y) rfl rfl k1 (by rw[Ol (by simp;lia)]);have t5:tst (P.tbl<|n+2*z+6) Zcq (vk ko kn y u (J c.d) (J<|.ref h.length)<|J cb.d) R=.ok (Wu<|wd cb=O "name") R:=w_eq _ rfl;have w1:Wh ko kn u h.length G ((G++N).set y c') [] hl R:=⟨o1,k1,t1,.inl hh,ou,nu⟩
 obtain⟨tt,cc,rd,e0,sq⟩:=sd;cases (Q.rd oq).one rd;cases eq.symm.I e0;simp only at sq;by_cases na:∃x,cb=.name x
 . obtain⟨x,rfl⟩:=na;have tq:q=.name q.no x:=Q.top oq eq;have hx:x∈nm:=by rw[mL];exact cn x (by rw[tq];rfl)
   have i6:Zw md (.inr x)=J (nI num):=by
    rcases sq with⟨hv,_⟩|⟨x',e',_,v⟩|⟨hc,_⟩
    . cases hv
    . cases e';exact v
    . simp[cm,hx]at hc
   have lk:=r.v x hx num i6;obtain⟨cv,jS⟩:∃cv,G[num]?=J cv:=by
    rcases cond x hx with⟨a,_⟩|⟨a,_⟩
    . exact⟨c,by rw[ZbL<|YF<|i6.symm.I a];exact e⟩
    . rw[ZbL<|YF<|i6.symm.I a];exact hA
   cases (Zaq jS).symm.I en;have res:xs2 (P.tbl<|n+2*z+6) Zat (vk ko kn y u M M M) h=.ok (.rt<|.bl Wq,_) R:=(Za x1).I ((e1 _).I<|(Za x4).I<|Zc<|(Zq<|Zh t5<|by simp[wd]).I<|Zc<|Zm<|(Zd lnew<|Zy (k:=ko) (n:=num) rfl ((Zf (x:=.ref h.length) (y:=.str x) (R:=R) rfl rfl).I<|ZzP w1.d lk) o1 jS).I Zuq);exact⟨R,[],congrArg Zn res,f1.sub<|by simp,t1,by simp⟩
 have x5:=(Zi (a:=Zcb) (b:=.nil)<|Zh t5<|decide_eq_false λz=>na<|(ZhZ cb).mp z).I rfl;have zz:q.er.size<=z:=by lia
 obtain⟨h2,t6,f2⟩:=ZxJ H (n+z+3) (z:=z) (kn:=kn) (y:=y) (u:=u) (c:=c) (cb:=cb) o1 w1.d r oq zz<|l1 _ _ _ _ rfl;rw[show n+z+3+z+3=n+2*z+6 by lia]at t6;have w2:Wh ko kn u h.length G ((G++N).set y c') [] hl h2:=w1.on (f2.sub<|by simp) (f2.at t1<|by simp) (w1.d.fm f2<|by simp);have cK:ev (P.tbl<|n+2*z+6) (.ix (.var 1)<|.var 2) (vk ko kn y u (J c.d) (J<|.ref h.length)<|J cb.d) h2=.ok c'.d h2:=Zy (k:=kn) (n:=y) rfl rfl w2.n (by rw[Ol (by simp;lia)]);rcases sq with⟨hv,sq,rfl⟩|⟨x',e',_,v⟩|⟨hc,j,ej,rfl⟩
 . cases (Zaq eq).symm.I en;have res:xs2 (P.tbl<|n+2*z+6) Zat (vk ko kn y u M M M) h=.ok (.rt<|.bl Wq,_) h2:=(Za x1).I ((e1 _).I<|(Za x4).I<|(Za x5).I<|Zc<|(Zq<|Zh t6<|by simp[hv,sq]).I<|Zc<|Zm<|(Zd cK rfl).I Zuq);exact⟨h2,[],congrArg Zn res,(f1.I f2).sub<|by simp,w2.t,by simp⟩
 . exact absurd ⟨x',e'⟩ na
 . obtain⟨t',c1,gd,mR,hv,_⟩:=pu.g (q.no,nm)<|O1 ej;cases eq.symm.I mR;have hv:cb.isV=Wq->fin nm q.er=Wq:=λz=>by rw[(Q.rd oq).one gd.r];exact hv z
   obtain⟨c2,ah,a1,a2,a3⟩:=pu.d j (q.no,nm) ej (by simp) (by simp);cases eq.symm.I a1;rw[Om<|by lia,show G.length+j-G.length=j by lia]at en;cases a2.symm.I en;have nn:¬ ∃x,cb=.num x:=λ⟨x,z⟩=>by subst z;have t:q=.num q.no x:=Q.top oq eq;have:=hv rfl;rw[t]at this;cases this
   have own:=Zo0 eq oq hv hc;have jk:=(List.nodup_cons.mp<|own▸nd nm).2;obtain⟨h3,j4,e3,f3,l3,p3,jE⟩:=ZqT H (ZlB H (c':=cb.wp ah) hy pu z) n (ui:=[]) w2 r eq tp nn (λp hp=>by have:=tp.sz p hp;lia) a3 .nil (by simpa using jk) (by simp;lia);have res:xs2 (P.tbl<|n+2*z+6) Zat (vk ko kn y u M M M) h=.ok (.rt<|.bl Wq,_) h3:=(Za x1).I ((e1 _).I<|(Za x4).I<|(Za x5).I<|(Za<|(Zi<|Zh t6 (by cases v:cb.isV<;>simp_all)).I rfl).I<|Zc<|Zm<|Zl e3<|Zb rfl<|Zb rfl<|Zb (l1 _ _ _ _ rfl)<|Zb cK rfl);refine⟨h3,j4,congrArg Zn res,Fm.cut (S_:=[u,h.length]) (((f1.I f2).sub<|by simp).I f3)<|by simp,l3,?_⟩;rw[pu.l];exact ZvE (by simpa using p3) jk
theorem ZoM:∀(G:List _),D.pures (G.map Gc.d)=Wq/\D.dps (G.map Gc.d)<=1
 |[]=>⟨rfl,Yy _⟩
 |c::G=>by obtain⟨a,b⟩:=ZoM G;obtain⟨e,f⟩:=ZkN c;rw[Op,D.pures,D.dps,a,e];exact⟨rfl,by lia⟩
def Zvk{a b}{G}(e1:h[a]?=J (cl G))(e2:h[b]?=J (cl G)):IV.ZbE Ws (.ref a) (.ref b) h=.ok (.bl Wq) h:=by
 obtain⟨x,y⟩:=ZoM G;obtain⟨ps,p1,p2,p3⟩:=pys_same (rd:=Zd1 h 3) _ x;have q:∀k,h[k]?=J (cl G)->Zku h (.ref k)=J (.list ps):=λk e=>by show Zd1 h 4 k=_;rw[Zd1,e];simp[cl,p1]
 unfold IV.ZbE;rw[q a e1,q b e2];simp only;rw[if_pos (by simp[PyData.depth];lia),show YQ _ _=Wq by trivial];rfl
def cut(G:List Gc)(lo hi:Option Int):List Gc:=(G.drop<|HT.sIx G.length 0 lo).take (HT.sIx G.length G.length hi-HT.sIx G.length 0 lo)
def Zn8{k}{G}(e:h[k]?=J (cl G))(lo hi):Zis (.ref k) lo hi h=.ok (.ref h.length) (h++[cl<|cut G lo hi]):=by simp[Zis,lstOf,e,cl,cutD,cut]
def ZAc{G N}{y:Nat}{c'}(hy:y<G.length):cut ((G++N).set y c') M (J y)=cut G M (J y):=by simp[cut,HT.Zob,HT.Zlx];rw[Nat.min_eq_left<|by lia,Nat.min_eq_left<|by lia,List.take_set_of_le<|by lia,List.take_append_of_le_length<|by lia]
def ZAb{G N}{y:Nat}{c'}(hy:y<G.length):cut ((G++N).set y c') (J<|y+1) (J G.length)=cut G (J<|y+1) M:=by have e:(y+1)=((y+1:Nat):Int):=rfl;rw[e];simp only[cut,HT.Zob,HT.Zlx,List.length_set,OA];rw[Nat.min_eq_left<|by lia,Nat.min_eq_left<|by lia,Nat.min_eq_left<|by lia,List.drop_set_of_lt<|by lia,List.drop_append_of_le_length<|by lia,List.take_append_of_le_length<|by simp]
def ve(ko kn r:Nat)(x3 x4 x5 x6 x7 x8:Option D):Ev:=[J<|.ref ko,J<|.ref kn,J<|nI r,x3,x4,x5,x6,x7,x8]
section
variable {ko kn r y u:Nat}{G N:List Gc}{c':Gc}{x4 x6 x7 x8:Option D}{us:List Nat}
theorem ZA6(m)(hy:y<G.length)(o:h[ko]?=J (cl G))(k:h[kn]?=J (cl<|(G++N).set y c')):∃ h',xs1 (P.tbl m) Zcs (ve ko kn r (J<|nI y) x4 (J<|.ref u) x6 x7 x8) h=.ok (.rt<|.bl Wq,ve ko kn r (J<|nI y) x4 (J<|.ref u) x6 x7 x8) h'/\Fm [] h h':=by
 have d:ev (P.tbl m) (.sl (.var 1) M<|J<|.var 3) (ve ko _ r (J<|nI y) x4 (J<|.ref u) x6 x7 x8) h=.ok _ _:=Zj4.I ((Zn8 k _ _).I<|by rw [ZAc hy]);have b:(h++[cl<|cut G M<|J (y:Int)])[ko]?=J _:=Tm.keep o;have e:(h++[cl<|cut G M<|J (y:Int)])[kn]?=J _:=Tm.keep k;have f:(h++[cl _])[h.length]?=J (cl<|cut G M<|J (y:Int)):=ZL;have g:Fm [] h (h++[cl<|cut G M<|J (y:Int)]):=.app;generalize h++[cl _]=R at *;have i:ev (P.tbl m) (.sl (.var 0) M<|J<|.var 3) (ve _ kn r (J<|nI y) x4 (J<|.ref u) x6 x7 x8) R=.ok (.ref R.length) (R++[cl<|cut G M<|J (y:Int)]):=Zj4.I<|Zn8 b M<|J (y:Int);have j:=(Zd (op:=.Eq) d i).I<|Zvk (Tm.keep f) ZL;have c:(R++[cl<|cut G M<|J (y:Int)])[ko]?=J _:=Tm.keep b;have n:(R++[cl<|cut G M<|J (y:Int)])[kn]?=J (cl<|(G++N).set y c'):=Tm.keep e;have p:Fm [] R (R++[cl<|cut G M<|J (y:Int)]):=.app;generalize R++[cl<|cut G M<|J (y:Int)]=a at *;have l2:ev (P.tbl m) (.blt .len<|.cons (.var 0) .nil) (ve ko kn r (J<|nI y) x4 (J<|.ref u) x6 x7 x8) a=.ok (.int G.length) a:=(Zb1 (xs:=[.ref ko]) (R:=a) rfl<|Zhv c).I (by simp);have q:ev (P.tbl m) (.sl (.var 1) (J<|.bin .Add (.var 3)<|.Ci_ 1)<|J<|.blt .len<|.cons (.var 0) .nil) (ve ko kn r (J<|nI y) x4 (J<|.ref u) x6 x7 x8) a=.ok (.ref a.length) (a++[cl<|cut G (J<|(y:Int)+1) M]):=by
   exact(Gn.ZjR (x:=.ref kn) (l:=J<|(y:Int)+1) (u:=J (G.length:Int)) rfl rfl (by rw [Zr3,l2];rfl)).I ((Zn8 n _ _).I<|by rw [ZAb hy])
 have s:(a++[cl<|cut G (J<|(y:Int)+1) M])[a.length]?=J (cl<|cut G (J<|(y:Int)+1) M):=ZL;have t:(a++[cl<|cut G (J<|(y:Int)+1) M])[ko]?=J (cl G):=Tm.keep c;have v:Fm [] a (a++[cl<|cut G (J<|(y:Int)+1) M]):=.app;generalize a++[cl<|cut G (J<|(y:Int)+1) M]=w at *;refine⟨w++[cl<|cut G (J<|(y:Int)+1) M],Zm ?_,((g.I p).I v).I .app⟩;rw [ZkT,Zhe,j,Zz];exact(Zd (op:=.Eq) q (by
   rw [Zj4];exact Zn8 t (J<|(y:Int)+1) M)).I (Zvk (Tm.keep s) ZL)
def ZA7(m)(o:h[ko]?=J (cl G))(k:h[kn]?=J (cl<|(G++N).set y c'))(t:h[u]?=J (.lst<|us.map nI))(lu:us.length<=N.length)(lN:N.length<=120):tst (P.tbl m) Zcm (ve ko kn r (J<|nI y) x4 (J<|.ref u) x6 (J<|.bl Wq) x8) h=.ok Ws h:=by have a:ev (P.tbl m) (.blt _<|.cons (.var 0) .nil) (ve _ kn r (J<|nI y) x4 (J<|.ref u) x6 (J<|.bl Wq) x8) h=.ok (.int G.length) h:=(Zb1 rfl<|Zhv o).I (by simp);have b:ev (P.tbl m) (.blt _<|.cons (.var 5) .nil) (ve ko kn r (J<|nI y) x4 (J _) x6 (J<|.bl Wq) x8) h=.ok (.int us.length) h:=(Zb1 rfl<|Zhv t).I (by simp);have c:ev (P.tbl m) (.blt _<|.cons (.var 1) .nil) (ve ko _ r (J<|nI y) x4 (J<|.ref u) x6 (J<|.bl Wq) x8) h=.ok (.int<|G.length+N.length) h:=(Zb1 rfl<|Zhv k).I (by simp);exact Zir (ZpL<|ZI rfl) (ZpL<|ZI<|Zsj ((Zr a b).I Zh5) c ((Zr a rfl).I Zh5) (by simp_all) (by show qd.ok (D.bl<|decide _) h=_;rw[decide_eq_true<|by lia]))
end
end
section
variable {P:Pg}{h:Hd}
section
variable {ko kn r y u:Nat}{G G':List Gc}{c':Gc}
def Zu6(m){iC iT iE}{z}(o:h[ko]?=J (cl G))(k:h[kn]?=J (cl G'))(en:G'[y]?=J c')(e:G[if z=0 then iE else iT]?=J c'):xs1 (P.tbl m) Z9 (ve ko kn r (J<|nI y) (J (Gc.iff iC iT iE).d) (J<|.ref u) (J (Gc.num z).d) M M) h=.ok (.nx,ve ko kn r (J<|nI y) (J (Gc.iff iC iT iE).d) (J<|.ref u) (J (Gc.num z).d) (J<|.bl Wq) M) h:=by have b:ev (P.tbl m) (.cmp .Eq (.ix (.var 6)<|.Ci_ 1)<|.Ci_ 0) (ve ko kn r (J<|nI y) (J (Gc.iff iC iT iE).d) (J<|.ref u) (J (Gc.num z).d) M M) h=.ok (.bl<|decide _) h:=(Zd ((Zf rfl rfl).I rfl) rfl).I<|rfl;have c:ev _ (.bin .Add (.Ci_ 2)<|.blt .int<|.cons _ .nil) _ h=.ok (.int<|if z=0 then 3 else 2) h:=(Zr rfl<|Zb1 (Zb b rfl) rfl).I (by by_cases a:z=0<;>simp[a]<;>rfl);exact(Zq<|Zh (w_eq _ rfl)<|rfl).I ((Za<|Zg<|(Zd (op:=.Eq) (Zy rfl rfl k en)<|Zy rfl ((Zf rfl c).I (by by_cases a:z=0<;>simp[a]<;>rfl)) o e).I Zuq).I rfl)
noncomputable def sums(x z:Int):List (Key×D):=[(.inr<|O "+",.int<|x+z),(.inr<|O "-",.int<|x-z),(.inr<|O "*",.int<|x*z),(.inr<|O "<",.int<|if x<z then 1 else 0)]
def ZyQ(m){iA iB}{w}{x z}(hx:0<=x/\x<1000000)(hz:0<=z/\z<1000000)(o:h[ko]?=J (cl G))(k:h[kn]?=J (cl G'))(en:G'[y]?=J (.num<|_root_.Rw.wk w x z))(e2:G[iB]?=J (.num z)):∃x8 h',xs1 (P.tbl m) Z9 (ve ko kn r (J<|nI y) (J (Gc.op w iA iB).d) (J<|.ref u) (J (Gc.num x).d) M M) h=.ok (.nx,ve ko kn r (J<|nI y) (J (Gc.op w iA iB).d) (J<|.ref u) (J (Gc.num x).d) (J<|.bl Wq) x8) h'/\Fm [] h h':=by
 have zA:∀{x7 x8:Option D}{h:Hd},ev (P.tbl m) (.ix (.var 6)<|.Ci_ 1) (ve ko kn r (J<|nI y) (J (Gc.op w iA iB).d) (J<|.ref u) (J (Gc.num x).d) x7 x8) h=.ok (.int x) h:=λ{_ _ h}=>(Zf (R:=h) rfl rfl).I rfl;have zB:∀{x7 x8:Option D}{h:Hd},h[ko]?=J (cl G)->ev (P.tbl m) (.ix (.ix (.var 0)<|.ix (.var 4)<|.Ci_ 2)<|.Ci_ 1) (ve ko kn r (J<|nI y) (J (Gc.op w iA iB).d) (J<|.ref u) (J (Gc.num x).d) x7 x8) h=.ok (.int z) h:=λ{_ _ h} o=>(Zf (Zy (k:=ko) (n:=iB) rfl ((Zf (R:=h) rfl rfl).I rfl) o e2) rfl).I rfl;have d1:ev (P.tbl m) (.dictl<|.cons (.Cs_ "+")<|.cons (.bin .Add (.ix (.var 6)<|.Ci_ 1)<|.ix (.ix (.var 0)<|.ix (.var 4)<|.Ci_ 2)<|.Ci_ 1)<|.cons (.Cs_ "-")<|.cons (.bin .Sub (.ix (.var 6)<|.Ci_ 1)<|.ix (.ix (.var 0)<|.ix (.var 4)<|.Ci_ 2)<|.Ci_ 1)<|.cons (.Cs_ "*")<|.cons (.bin .Mult (.ix (.var 6)<|.Ci_ 1)<|.ix (.ix (.var 0)<|.ix (.var 4)<|.Ci_ 2)<|.Ci_ 1) .nil) (ve ko kn r (J<|nI y) (J (Gc.op w iA iB).d) (J<|.ref u) (J (Gc.num x).d) M M) h=.ok (.ref h.length) (h++[.dic<|(sums x z).take 3]):=by
  have bg:x.natAbs<2^2000/\z.natAbs<2^2000:=⟨Gn.ZQ (by lia)<|by lia,Gn.ZQ (by lia)<|by lia⟩
  rw[Zeh,show evs (P.tbl m) _ (ve ko kn r (J<|nI y) (J (Gc.op w iA iB).d) (J<|.ref u) (J (Gc.num x).d) M M) h=.ok [.str<|O "+",.int<|x+z,.str<|O "-",.int<|x-z,.str<|O "*",.int<|x*z] h from Zb rfl (Zb ((Zr zA<|zB o).I Zh5)<|Zb rfl<|Zb ((Zr zA<|zB o).I ZtR)<|Zb rfl<|Zb ((Zr zA<|zB o).I<|ZeV bg) rfl),Zz];simp[ZaX,keyOf,Zbi,putD,sums]
 have o1:(h++[DO.dic<|(sums x z).take 3])[ko]?=J (cl G):=Tm.keep o;have k1:(h++[DO.dic<|(sums x z).take 3])[kn]?=J (cl G'):=Tm.keep k;have a1:(h++[DO.dic<|(sums x z).take 3])[h.length]?=J (.dic<|(sums x z).take 3):=ZL;have f1:Fm [] h (h++[DO.dic<|(sums x z).take 3]):=.app;generalize h++[DO.dic<|(sums x z).take 3]=R at *;have lt:=Tm.Zv a1;have p:Z1 (.ref h.length) (.str<|O "<") (.int<|if x<z then 1 else 0) R=.ok () (R.set h.length<|.dic<|sums x z):=by unfold Z1;simp only[a1,keyOf];rw[if_pos (by rw[YC];simp[sums])];simp[putD,sums]
 have ne:ko≠h.length:=λz=>by rw[z,a1]at o1;cases o1
 have kJ:kn≠h.length:=λz=>by rw[z,a1]at k1;cases k1
 have k2:(R.set h.length<|.dic<|sums x z)[kn]?=J (cl G'):=by rw[Oc kJ.symm];exact k1
 have a2:(R.set h.length<|.dic<|sums x z)[h.length]?=J (.dic<|sums x z):=Ol lt;have q2:xs1 (P.tbl m) ZaD (ve ko kn r (J<|nI y) (J (Gc.op w iA iB).d) (J<|.ref u) (J (Gc.num x).d) M<|J<|.ref h.length) R=.ok (.nx,ve ko kn r (J<|nI y) (J (Gc.op w iA iB).d) (J<|.ref u) (J (Gc.num x).d) M<|J<|.ref h.length) (R.set h.length<|.dic<|sums x z):=ZlD (x:=.int<|if x<z then 1 else 0) (R:=R) (h2:=R) (h3:=R) (Zb1 (Zb ((Zd (op:=.Lt) zA<|zB o1).I rfl) rfl) (by by_cases l:x<z<;>simp[l]<;>rfl)) rfl rfl p;have q3:ev (P.tbl m) (.bin .Mod (.ix (.var 8)<|.ix (.var 4)<|.Ci_ 0)<|.Ci_ 1000000) (ve ko kn r (J<|nI y) (J (Gc.op w iA iB).d) (J<|.ref u) (J (Gc.num x).d) M<|J<|.ref h.length) (R.set h.length<|.dic<|sums x z)=.ok (.int<|_root_.Rw.wk w x z) (R.set h.length<|.dic<|sums x z):=by
  have v:∃t,Zw (sums x z) (.inr w.s)=J (.int t)/\t%1000000=_root_.Rw.wk w x z:=by
   cases w
   . exact⟨x+z,by simp[Zw,sums,Wd.s],rfl⟩
   . exact⟨x-z,by simp[Zw,sums,Wd.s],rfl⟩
   . exact⟨x*z,by simp[Zw,sums,Wd.s],rfl⟩
   . exact⟨if x<z then 1 else 0,by simp[Zw,sums,Wd.s],by by_cases l:x<z<;>simp[l,_root_.Rw.wk]⟩
  obtain⟨t,v1,v2⟩:=v;exact(Zr ((Zf (x:=.ref h.length) (y:=.str w.s) (R:=R.set h.length<|.dic<|sums x z) rfl<|(Zf rfl rfl).I rfl).I (by simp only[ZaR,dicOf,a2,v1];rfl)) rfl).I ((ZR<|by decide).I<|by rw[v2])
 refine⟨J<|.ref h.length,R.set h.length<|.dic<|sums x z,(Zi<|Zh (w_eq (c:=.op w iA iB) _ rfl) (by cases w<;>simp[wd,Wd.s])).I<|(Za<|Zg (i:=8) d1).I<|(Za q2).I<|(Za<|Zg (i:=7)<|(Zd (Zy (k:=kn) (n:=y) rfl rfl k2 en)<|ZaF (xs:=[.str<|O "num",.int<|_root_.Rw.wk w x z]) (Zb rfl<|Zb q3 rfl)<|by simp).I ?_).I rfl,Fm.cut (S_:=[h.length]) ((f1.sub<|by simp).I<|.set<|by simp)<|by simp⟩;exact Zuq (c:=.num _)
end
end
section
variable {P:Pg}{h:Hd}
def ZkU{q:Q}{z}(h:q.er=.num z):∃i,q=.num i z:=by cases q<;>cases h;exact⟨_,rfl⟩
def Zz4{q:Q}{w}{s t}(h:q.er=.op w s t):∃i a b,q=.op i w a b/\a.er=s/\b.er=t:=by cases q<;>cases h;exact⟨_,_,_,rfl,rfl,rfl⟩
section
variable {ko kn r y u:Nat}{G N:List Gc}{c c':Gc}
inductive Gd7(P:Pg)(m ko kn r y u:Nat)(c:Gc)(x6:Option D)(N:List Gc)(h:Hd):Prop
 |mk (x8:Option D) (h':Hd) (us:List Nat) (e:xs1 (P.tbl m) Zct (ve ko kn r (J (nI y)) (J c.d) (J (.ref u)) x6 M M) h=.ok (.nx,ve ko kn r (J (nI y)) (J c.d) (J (.ref u)) x6 (J (.bl Wq)) x8) h') (f:Fm [u] h h') (t:h'[u]?=J (.lst (us.map nI))) (l:us.length<=N.length)
def ZA8(H:Lw P)(n z){p:Q}{s'}(o:h[ko]?=J (cl G))(k:h[kn]?=J (cl<|(G++N).set p.no c'))(t:h[u]?=J (.lst []))(ou:ko≠u)(nu:kn≠u)(op:p.ok (gl G))(ct:Gn.Cl [] p.er)(cp:p.Cps)(hz:p.er.size<=z)(hG:z<=800)(ec:G[p.no]?=J c)(wv:∀m∈c.pf,∃c,G[m]?=J c/\c.isV=Wq)(sr:Src G p.no N c' c p.er s'):∃f cf,c.ps.head?=J f/\G[f]?=J cf/\Gd7 P (n+2*z+7) ko kn r p.no u c (J cf.d) N h:=by
 have hy:=(Ob.mp ec).1;have en:((G++N).set _ _)[p.no]?=J c':=Ol (by simp;lia);generalize hre:p.er=s at sr;cases sr with
 |call e' hw=>obtain⟨i,a,b,rfl,rfl,rfl⟩:=ZoW hre;cases YF (ec.symm.I op.1);obtain⟨ca,ea,va⟩:=wv _<|.head _;obtain⟨cb,eb,vb⟩:=wv _<|.tail _<|.head _;have zz:=Tm.zc a.er b.er;have hz:(T.call _ _).size<=z:=hz;obtain⟨R,us,e1,f1,t1,l1⟩:=ZmV H n z hy o k t ou nu ec op.2.1 (by rw[<-Q.ZbO];exact(Zh6 ea va<|Q.rd op.2.1).1) ct.1 cp.1 (by lia) hG ⟨cb,eb⟩ hw e';exact⟨a.no,ca,rfl,ea,M,R,us,(Zq<|Zh (w_eq (c:=.call a.no b.no) _ rfl)<|by simp[wd]).I<|(Za<|Zg (i:=7)<|Zl e1 rfl).I rfl,f1,t1,l1⟩
 |@thn iC iT iE zv tT tE hN e' nz=>subst hN;obtain⟨i,a,b,d,rfl,ha,rfl,rfl⟩:=Znw hre;obtain⟨ia,rfl⟩:=ZkU ha;cases YF (ec.symm.I op.1);exact⟨ia,.num zv,rfl,op.2.1,M,h,[],(Zi<|Zh (w_eq (c:=.iff ia b.no d.no) _ rfl)<|by simp[wd]).I<|(Za<|Zu6 _ o k en (by rw[if_neg nz];exact e')).I rfl,.refl,t,by simp⟩
 |@els iC iT iE tT tE hN e'=>subst hN;obtain⟨i,a,b,d,rfl,ha,rfl,rfl⟩:=Znw hre;obtain⟨ia,rfl⟩:=ZkU ha;cases YF (ec.symm.I op.1);exact⟨ia,.num 0,rfl,op.2.1,M,h,[],(Zi<|Zh (w_eq (c:=.iff ia b.no d.no) _ rfl)<|by simp[wd]).I<|(Za<|Zu6 _ o k en (by rw[if_pos rfl];exact e')).I rfl,.refl,t,by simp⟩
 |@num iA iB w x zz hN hc=>subst hN hc;obtain⟨i,a,b,rfl,ha,hb⟩:=Zz4 hre;obtain⟨ia,rfl⟩:=ZkU ha;obtain⟨ib,rfl⟩:=ZkU hb;cases YF (ec.symm.I op.1);obtain⟨x8,R,e1,f1⟩:=ZyQ (P:=P) (n+2*z+7) (r:=r) (u:=u) (iA:=ia) ct.1 ct.2 o k en op.2.2;exact⟨ia,.num x,rfl,op.2.1,x8,R,[],(Zi<|Zh (w_eq (c:=.op w ia ib) _ rfl) (by cases w<;>simp[wd,Wd.s])).I<|(Za e1).I rfl,f1.sub<|by simp,f1.at t<|by simp,by simp⟩
end
end
section
variable {P:Pg}{h:Hd}
def Zy9{c:Gc}{f}{h}{U}{S}(b:c.bd=[])(nn:∀x,c≠.name x)(nu:∀x,c≠.num x)(e:c.ps.head?=J f)(p:ev U (.var 4) S h=.ok c.d h):ev U (.ix (.var 4)<|.Ci_ 1) S h=.ok (nI f) h:=by refine(Zf p rfl).I ?_;cases c<;>simp[Gc.bd,Gc.ps]at b e nn nu<;>subst e<;>rfl
def ZAj{G}{p:Q}{c}{s'}{N}{c'}(op:p.ok (gl G))(ec:G[p.no]?=J c)(sr:Src G p.no N c' c p.er s'):c.bd=[]/\(∀x,c≠.name x)/\∀x,c≠.num x:=by generalize p.er=s at sr;cases sr<;>simp[Gc.bd]
def ZmT(H:Lw P)(n z){G N}{q}{c c'}{s'}{ko kn}(o:h[ko]?=J (cl G))(k:h[kn]?=J (cl<|(G++N).set q.bt.no c'))(gq:Gq G q)(cp:q.Cps)(v:q.isV=Ws)(hz:q.er.size<=z)(hG:z<=800)(lN:N.length<=120)(ec:G[q.bt.no]?=J c)(wv:∀m∈c.pf,∃c,G[m]?=J c/\c.isV=Wq)(sr:Src G q.bt.no N c' c q.bt.er s'):∃h',run P (n+2*z+8) (O "_law_step_fits") [.ref ko,.ref kn,nI q.no] h=.ok (.bl Wq) h'/\Fm [] h h':=by rw[Ze H.law_step_fits rfl];have ob:=Q.Zh q gq.ok;obtain⟨_,s,C⟩:=Tm.Zdv q.er (by rw[Q.ZbO];exact v) gq.cl;rw[<-Q.Zj6]at s C;obtain⟨R,D,a⟩:=Zs6 H (n+2*z+4) o gq.ok v gq.cl (by lia);have b:=a.at o (by simp);have t:=a.at k (by simp);have E:xs1 (P.tbl<|n+2*z+7) Zcv (ve ko kn q.no (J<|nI q.bt.no) (J c.d) M M M M) R=.ok (.nx,ve ko kn q.no (J<|nI q.bt.no) (J c.d) (J<|.ref R.length) M M M) (R++[.lst []]):=Zg (i:=5) (ZkS rfl<|by simp);have Z:=Tm.Zv b;have lk:=Tm.Zv t;have e:(R++[DO.lst []])[ko]?=J (cl G):=Tm.keep b;have w:(R++[DO.lst []])[kn]?=J (cl<|(G++N).set q.bt.no c'):=Tm.keep t;have F:(R++[DO.lst []])[R.length]?=J (.lst []):=ZL;have K:Fm [] R (R++[DO.lst []]):=.app;have lu:h.length<=R.length:=a.l;generalize R++[DO.lst []]=x at *;obtain⟨L,S,T⟩:=ZAj ob ec sr;obtain⟨f,g,U,ef,x8,h3,us,V,j,W,X⟩:=ZA8 H n z (r:=q.no) (u:=R.length) e w F (by lia) (by lia) ob s (Q.Zmd q cp) (by lia) hG ec wv sr;have x4:xs1 (P.tbl<|n+2*z+7) Zcu (ve ko kn q.no (J<|nI q.bt.no) (J c.d) (J<|.ref R.length) M M M) x=.ok (.nx,ve ko kn q.no (J<|nI q.bt.no) (J c.d) (J<|.ref R.length) (J g.d) M M) x:=Zg (i:=6)<|Zy (k:=ko) (n:=f) rfl (Zy9 L S T U rfl) e ef;have y:=j.at e (by simp;lia);have A:=j.at w (by simp;lia);have Y:=ZA7 (P:=P) (n+2*z+7) (r:=q.no) (x4:=J c.d) (x6:=J g.d) (x8:=x8) y A W X lN;obtain⟨B,x7,f4⟩:=ZA6 (P:=P) (n+2*z+7) (r:=q.no) (u:=R.length) (x4:=J c.d) (x6:=J g.d) (x7:=J<|.bl Wq) (x8:=x8) (Ob.mp ec).1 y A;have p:xs2 (P.tbl<|n+2*z+7) ZdP (ve ko kn q.no M M M M M M) h=.ok (.rt<|.bl Wq,_) B:=(Za<|Zg (i:=3)<|Zl D rfl).I<|(Za<|Zg (i:=4)<|Zy (k:=ko) (n:=q.bt.no) rfl rfl b ec).I<|(Za E).I<|(Za x4).I<|(Za V).I<|(Za<|(Zi Y).I rfl).I<|Zc x7;exact⟨B,congrArg Zn p,Fm.cut (S_:=[R.length]) ((((a.I K).sub<|by simp).I j).I<|f4.sub<|by simp) (by simp;lia)⟩
theorem Zv2 (H:Lw P) (n) {G}{sk r}{t} (hk:h[sk]?=J (cl G)) (rd:Rd (gl G) r t):∃ h',Fm [] h h'/\run P (n+4) (O "_law_is_wide") [st sk r] h=.ok (.bl<|!Wu (t.size<=120)) h':=by
 obtain⟨h',m,e⟩:=Zv4 H.r n hk rd;refine⟨_,m,?_⟩;rw [Ze H.law_is_wide rfl];by_cases hz:t.size<=120
 . rw [if_pos hz] at e;rw [decide_eq_true hz];exact congrArg _ ((Za (by
     show (evs (P.tbl<|n+3) (.cons (.var 0) .nil) [J _] h).plain.bind (λxs R=>catchR _ _ _ _)=_;show catchR _ _ _ (run P _ _ _ h)=_;rw [e];rfl)).I (Zc<|Zm rfl))
 . rw [if_neg hz] at e;rw [decide_eq_false hz];exact congrArg _ (Zc (by
     show catchR _ _ _ (run P _ _ _ h)=_;rw [e];trivial))
def ZxR(H:Gs P)(n)(t)(ct:Gn.Cl [] t)(hz:t.size<=120)(h):∃g k G q,run P (n+3) (O "graph_begun") [t.d] h=.ok (st k 0) (h++g)/\h.length<=k/\(h++g)[k]?=J (cl G)/\Gq G q/\q.Cps/\q.no=0/\q.er=t/\G.length=t.size:=by obtain⟨g,k,e,l,a⟩:=Ztc H n t hz h;obtain⟨o,u⟩:=Q.nod<|Zhs t 0;refine⟨g,k,_,_,e,l,?_,⟨Zfk t 0 [] [] (by simp) rfl,o,u,by rw[Zfm];trivial⟩,Q.ZfP<|Zhs t 0,Zfl 0 t,Zfm t 0,Zgh t 0⟩;rw[a,Grf.cl,Zfs]
noncomputable def vl(ro s:D)(a b c:Option D):Ev:=[J ro,J s,a,b,c]
def ZtU{w v}{h}:IV.ZbE Ws (.tup [.str w]) (.tup [.str v]) h=.ok (.bl<|Wu<|w=v) h:=ZwH
theorem Zvf(H:Lw P){ro}:∀(ds) (k) (G) (q) (h) (a b c),h[k]?=J (cl G)->Gq G q->q.Cps->q.no=0->q.er.size<=120->G.length+120*ds.length<=59000->∃h' f S,ZY [] (.nm 2) (xs2 (P.tbl 300) ZkI) ds (vl ro (st k 0) a b c) h=.ok (f,S) h'/\(f=.rt (.bl Wq)\/f=.nx)
 |[],k,G,q,h,a,b,c,_,_,_,_,_,_=>⟨h,_,_,rfl,.inr rfl⟩
 |d::ds,k,G,q,h,a,b,c,B,p,C,r,Z,lG=>by
  simp only[Os]at lG;have t:xs1 (P.tbl 300) Zkl (vl _ _ _ b c) h=.ok (.nx,vl ro (st k 0) (J d) _ c) (h++[cl G]):=Zg (i:=3)<|Zb1 (xs:=[.ref k]) rfl<|Zvd B;have k1:(h++[cl G])[k]?=J _:=Tm.keep B;have j1:(h++[cl G])[h.length]?=J _:=ZL;generalize h++[cl G]=R at *;have D:=Zs4 H.s 292 k1 p C (by lia) (by lia);rw[r]at D;have E:∀{w:Str}{h2:Hd},(w=O "value" \/ w=O "stuck")->run P 300 (O "graph_step") [st k 0] R=.ok (.tup [.str w]) h2->∃h' f S,ZY [] (.nm 2) (xs2 (P.tbl 300) ZkI) (d::ds) (vl ro (st k 0) a b c) h=.ok (f,S) h'/\(f=.rt (.bl Wq)\/f=.nx):=λ{w h2} F e=>by
   have n:tst (P.tbl 300) Zhk (vl ro (st k 0) (J d) (J<|.ref h.length)<|J<|.tup [.str w]) h2=.ok Wq h2:=ZI ((Zd (x:=.str w) (y:=.str<|O "loud") (R:=h2) ((Zf rfl rfl).I rfl) rfl).I (by rw[Zkz,Zd3];rcases F with rfl|rfl<;>simp));have j:∀v:Str,ev (P.tbl 300) (.cmp .Eq (.var 4)<|.tupl<|.cons (.cst<|.str v) .nil) (vl ro (st k 0) (J d) (J<|.ref h.length)<|J<|.tup [.str w]) h2=.ok (.bl<|Wu<|w=v) h2:=λv=>(Zd (x:=.tup [.str w]) (R:=h2) rfl<|ZaF (xs:=[.str v]) rfl<|by simp).I ZtU;refine⟨h2,_,_,Znr rfl<|(Za t).I<|(Za<|Zg (i:=4)<|Zl e rfl).I<|Zc<|(Zq n).I<|Zc<|Zm (d:=.bl Wq) ?_,.inl rfl⟩;rw[Zr6,Zma,j,Zz];rcases F with rfl|rfl
   . simp
   . have e:Wu (O "stuck"=O "value")=Ws:=by simp
     rw[e];simp only;rw[Zr9,j];simp
  cases D with
  |value e=>exact E (.inl rfl) e
  |stuck h' e m=>exact E (.inr rfl) e
  |loud nv l=>
   obtain⟨g,h2,N,c0,c',u,s',e,m,K,nx,z,L,mY,ln,ec,wv,sr⟩:=l;rw[r]at e z;have v:q.isV=Ws:=by rw[<-Q.ZbO];exact nv
   have lc:=OE (ZxG<|Tm.bot q.er) (Tm.Zdv q.er nv p.cl).2.2;obtain⟨o,T,f3⟩:=ZmT H 52 120 (ko:=h.length) (kn:=g) (m.at j1<|by simp) K p C v Z (by decide) (by lia) ec wv sr;rw[r]at T;have U:xs1 (P.tbl 300) Zkk (vl ro (st k 0) (J d) (J<|.ref h.length) c) R=.ok (.nx,vl ro (st k 0) (J d) (J<|.ref h.length)<|J<|loud<|st g 0) h2:=Zg (i:=4)<|Zl e rfl;have n:tst (P.tbl 300) Zhk (vl ro (st k 0) (J d) (J<|.ref h.length)<|J<|loud<|st g 0) h2=.ok Ws h2:=ZI ((Zd (x:=.str<|O "loud") (y:=.str<|O "loud") (R:=h2) ((Zf rfl rfl).I rfl) rfl).I (by rw[Zkz,Zd3];simp));have j:tst (P.tbl 300) Zkb (vl ro (st k 0) (J d) (J<|.ref h.length)<|J<|loud<|st g 0) h2=.ok Ws o:=Zir (R:=h2) (ZI<|(Zd (x:=nI 0) (y:=nI 0) (R:=h2) (h2:=h2) ((Zf ((Zf rfl rfl).I rfl) rfl).I rfl)<|(Zf rfl rfl).I rfl).I (by rw[Zkz,nI,Zit];simp))<|ZpL<|ZI<|Zl T<|Zb rfl<|Zb (x:=.ref g) (R:=h2) ((Zf ((Zf rfl rfl).I rfl) rfl).I rfl)<|Zb (x:=nI 0) (R:=h2) ((Zf rfl rfl).I rfl) rfl;have V:=f3.at K (by simp);have W:xs1 (P.tbl 300) Zkj (vl ro (st k 0) (J d) (J<|.ref h.length)<|J<|loud<|st g 0) o=.ok (.nx,vl ro (st g 0) (J d) (J<|.ref h.length)<|J<|loud<|st g 0) o:=Zg (i:=1) rfl;have X:=Q.rd L.ok;rw[z]at X;obtain⟨A,m4,e4⟩:=Zv2 H 296 V X;have Y:tst (P.tbl 300) Zka (vl ro (st g 0) (J d) (J<|.ref h.length)<|J<|loud<|st g 0) o=.ok (!Wu (u.er.size<=120)) A:=ZI<|Zl e4 rfl;by_cases w:u.er.size<=120
   . obtain⟨h5,f,S,e5,q5⟩:=Zvf H (ro:=ro) ds g _ u A (J d) (J<|.ref h.length) (J<|loud<|st g 0) (m4.at V<|by simp) L mY z w (by simp;lia);exact⟨h5,f,S,(Zdk rfl<|(Za t).I<|(Za U).I<|(Za<|(Zi n).I rfl).I<|(Za<|(Zi j).I rfl).I<|(Za W).I<|(Za<|(Zi<|Zh Y<|by simp[w]).I rfl).I rfl).I e5,q5⟩
   . exact⟨A,_,_,Znr rfl<|(Za t).I<|(Za U).I<|(Za<|(Zi n).I rfl).I<|(Za<|(Zi j).I rfl).I<|(Za W).I<|Zc<|(Zq<|Zh Y<|by simp[w]).I<|Zc<|Zm rfl,.inl rfl⟩
def Zv8(H:Lw P)(n)(zs:List _){h}:∃v,run P (n+1) (O "_law_cell_at") [.ro<|zs.map .int,.int 0] h=.ok (.int v) h:=by
 rw[Ze H.cell rfl];cases zs with
 |nil=>exact⟨0,rfl⟩
 |cons z zs=>refine⟨z,?_⟩;simp[Gn.ZcM,Gn.ZfE,ZG,Zan,ZmC,seqOf,lstOf]
def ZvF(n)(i):(Zaj i n).length=n:=by simp[Zaj]
def ZyX(H:Lw P)(zs:List _)(hz:zs.length<=63):∃h',run P (300+1) (O "law") [.ro<|zs.map .int] []=.ok (.bl Wq) h':=by
 obtain⟨t,R,e,j,z,_,_,_⟩:=Gn.Zpv H.m (N:=299) (by lia) zs 1 _ (by lia);obtain⟨g,k,G,q,l,_,n,o,p,r,rfl,A⟩:=ZxR H.s 297 t j (by lia) R;generalize R++g=a at *;obtain⟨v,u⟩:=Zv8 H 299 (h:=a) _;have x:Zb6 (Gn.mixed v 1%31)=Wq:=by simp[Zb6];lia
 rw[Ze H.law<|by rfl];generalize D.ro _=ro at *;have b:evi (P.tbl 300) ZkM (vl ro (st k 0) M M M) a=.ok ⟨[],Zaj 0 (Gn.mixed v 1%31).toNat⟩ a:=by rw[ZkM,ZoS,(Zr (Zl (Gn.Zs8 H.m _ v 1 _<|by decide)<|Zb (Zl u rfl) rfl) rfl).I<|ZR<|by decide,Zz];simp only[x,if_true]
 obtain⟨c,f,S,d,y⟩:=Zvf H (ro:=ro) (Zaj 0 (Gn.mixed v 1%31).toNat) k G q _ _ _ _ n o p r (by lia) (by rw[ZvF];lia);refine⟨c,?_⟩;have w:xs2 (P.tbl 300) Zvv [J ro,M,M,M,M] []=.ok (.rt<|.bl Wq,S) c:=by
  refine(Za<|Zg (i:=1)<|Zl l<|Zb (Zl e rfl) rfl).I ?_;rcases y with rfl|rfl
  . exact Zc ((Zed b).I d)
  . exact(Za<|(Zed b).I d).I (Zc<|Zm rfl)
 exact congrArg Zn w
end
end K45L
section
set_option maxHeartbeats 4000000
namespace K45
open PySem L2 IV PyProof.Rows
def ZxT:Sxs:=.o .any
def Zxt:Fd:=fd_ 1 ["k"] ZxT
def Z8:Fd:=fd_ 6 ["_law_wish","_law_rest","_law_scope","_law_state","_law_names_here","_law_room","_law_x","_law_f","_law_inner_here","_law_again"] Gn.ZeB
def Zhq:Sxs:=.w (.iff (.q (.a "Pen" V0 "used")<|.a "Pen" V0 "most") (.o<|.rai (O "Wide")<|.Cs_ "more places than an expression that is told may have") .n) (.auga [O "Pen"] V0 (O "used") F1)
def Zhd:Fd:=fd_ 1 ["self"] Zhq
def Zld:Sxs:=.o (.drp<|.f "_wall"<|.o F0)
def ZkQ:Fd:=fd_ 3 ["self","front","parts"] Zld
def ZnO:Sxs:=.w (.s 2<|.f "opened"<|.o V1) (.ret<|.m "Pen" "filled" V0<|.w (.ix V2 F0)<|.ix V2 F1)
def Znt:Fd:=fd_ 2 ["self","thing","pair"] ZnO
noncomputable def cG:List (Str×D):=[(O "WIDEST",.int 120),(O "VALUES",(.tup [(.str<|O "num"),(.str<|O "fn"),(.str<|O "rec")])),(O "BEYOND",.int 1000000),(O "FORMS",.kd<|O "FORMS")]
noncomputable def cD:List (Str×List (Key×D)):=[(O "FORMS",[(.inr<|O "fn",(.tup [.int 1,.int 1])),(.inr<|O "rec",(.tup [.int 2,.int 1])),(.inr<|O "call",(.tup [.int 0,.int 2])),(.inr<|O "if",(.tup [.int 0,.int 3])),(.inr<|O "+",(.tup [.int 0,.int 2])),(.inr<|O "-",(.tup [.int 0,.int 2])),(.inr<|O "*",(.tup [.int 0,.int 2])),(.inr<|O "<",(.tup [.int 0,.int 2]))])]
noncomputable def dl:List (Str×Str×Fd×Nat):=[(O "_wall",O "_wall",Zxt,0),(O "bound_names",O "bound_names",Tm.ZcN,7),(O "parts_of",O "parts_of",Gn.ZiP,8),(O "front_of",O "front_of",Tm.ZfN,9),(O "count_parts",O "count_parts",Tm.Zfy,10),(O "built",O "built",Tm.ZkP,11),(O "places",O "places",Gn.Zgm,12),(O "bound_to",O "bound_to",Tm.ZiW,14),(O "opened",O "opened",Tm.Zl5,15),(O "meant_by",O "meant_by",Tm.ZiQ,16),(O "within",O "within",Tm.Zl4,17),(O "is_value",O "is_value",Tm.ZiT,22),(O "parts_first",O "parts_first",Tm.Zfu,23),(O "chosen",O "chosen",Tm.ZiV,24),(O "worked",O "worked",Tm.Zgl,25),(O "graph_begun",O "graph_begun",Grf.Zfx,27),(O "first_open",O "first_open",Grf.Zgr,28),(O "next_cell",O "next_cell",Grf.Zhy,29),(O "beneath",O "beneath",Grf.Zj3,30),(O "is_meant",O "is_meant",Grf.ZiU,31),(O "free_beneath",O "free_beneath",Grf.Zeg,32),(O "called",O "called",Grf.Zl7,34),(O "gone_on",O "gone_on",Grf.Zj2,35),(O "written",O "written",Grf.Zj1,36),(O "graph_step",O "graph_step",Grf.Zgp,37),(O "graph_read",O "graph_read",Grf.Zgq,38),(O "_law_whole",O "_law_whole",K45L.Zee,40),(O "_law_cell_at",O "_law_cell_at",Gn.ZcM,41),(O "_law_mixed",O "_law_mixed",Gn.Zci,42),(O "_law_next",O "_law_next",Gn.ZiR,43),(O "_law_names",O "_law_names",Gn.Zch,44),(O "_law_there",O "_law_there",Gn.Zef,45),(O "_law_plain",O "_law_plain",Gn.Zhz,46),(O "_law_function",O "_law_function",Z8,47),(O "_law_number",O "_law_number",Gn.Zgo,48),(O "_law_any",O "_law_any",Gn.ZeZ,49),(O "_law_width",O "_law_width",Gn.Zcg,50),(O "_law_deep",O "_law_deep",Gn.Zdn,51),(O "_law_program",O "_law_program",Gn.Zfv,52),(O "_law_inner",O "_law_inner",K45L.ZhA,53),(O "_law_next_cell",O "_law_next_cell",K45L.ZdK,54),(O "_law_free",O "_law_free",K45L.ZiS,55),(O "_law_cell_fits",O "_law_cell_fits",K45L.ZdL,56),(O "_law_stands",O "_law_stands",K45L.Zgn,57),(O "_law_call_fits",O "_law_call_fits",K45L.ZdM,58),(O "_law_step_fits",O "_law_step_fits",K45L.ZdJ,59),(O "_law_is_wide",O "_law_is_wide",K45L.Zfw,60),(O "law",O "law",K45L.Zl6,61)]
noncomputable def tb:List (Str×Fd):=dl.map λp=>(p.1,p.2.2.1)
noncomputable def mo1:List Ml:=[(O "take_place",O "Pen.take_place",Zhd,18,1),(O "joined",O "Pen.joined",ZkQ,18,2),(O "filled",O "Pen.filled",Tm.Zgs,18,3),(O "told",O "Pen.told",Znt,18,4)]
noncomputable def mo2:List Ml:=[(O "stand_in",O "Copier.stand_in",Grf.Zcj,33,1),(O "write_next",O "Copier.write_next",Grf.Zbp,33,2),(O "copied",O "Copier.copied",Grf.ZdN,33,3)]
def ms:List (Str×Fd):=[(mnm (O "Pen")<|O "__init__",Tm.ZaK),(mnm (O "Copier")<|O "__init__",Grf.ZaL)]++mo1.map (λp=>(mnm (O "Pen") p.1,p.2.2.1))++mo2.map (λp=>(mnm (O "Copier") p.1,p.2.2.1))
def pg:Pg:=⟨tb,λx=>cG.lookup x,λx=>cD.lookup x,1000000,ms⟩
noncomputable def kl:Kl:=⟨[O "Pen",O "Copier"],[O "cells",O "free",O "known",O "meant",O "most",O "used",O "waiting"],mo1.map (λp=>(O "Pen",p.1))++mo2.map (λp=>(O "Copier",p.1)),[O "Pen",O "Copier"],[O "Wide"],[],[]⟩
abbrev Zl6:Fd:=K45L.Zl6
noncomputable def top(i:Nat):Stmt:=PySem.Challenge.pw_samestride_k45_graph_cells_told.main.body.getD i (.Pass ⟨0,0,0,0⟩)
def mt(i j:Nat):Stmt:=inClass (top i) j
noncomputable def fs:List Str:=tb.map (·.1)
local macro_rules|`(tactic| wtm_at "al")=>`(tactic| repeat' first|exact trivial|refine' And.intro ?_ ?_)
local macro_rules|`(tactic| wtm_at "chk")=>`(tactic| exact⟨by constructor<;>decide +kernel,λ_ _ _ _ _ _ us hl=>by
 first
 |(have e:=Zyo (show us.length=0 from hl);subst e;rfl)
 |(obtain⟨a0,e⟩:=Zyn (show us.length=1 from hl);subst e;rfl)
 |(obtain⟨a0,a1,e⟩:=Zym (show us.length=2 from hl);subst e;rfl)
 |(obtain⟨a0,a1,a2,e⟩:=Zyl (show us.length=3 from hl);subst e;rfl)
 |(obtain⟨a0,a1,a2,a3,e⟩:=Zyk (show us.length=4 from hl);subst e;rfl)
 |(obtain⟨a0,a1,a2,a3,a4,e⟩:=Zyj (show us.length=5 from hl);subst e;rfl)
 |(obtain⟨a0,a1,a2,a3,a4,a5,e⟩:=ZAI (show us.length=6 from hl);subst e;rfl)
 |(obtain⟨a0,a1,a2,a3,a4,a5,a6,e⟩:=us_7 (show us.length=7 from hl);subst e;rfl),by decide +kernel⟩)
def kd:All (λp:Str×Str×Fd×Nat=>Chk kl fs p.2.1 p.2.1 p.2.2.1<|top p.2.2.2) dl:=by
 wtm_at "al"
 all_goals wtm_at "chk"
def km1:All (λp:Ml=>Chk kl fs p.1 p.2.1 p.2.2.1<|mt p.2.2.2.1 p.2.2.2.2) mo1:=by
 wtm_at "al"
 all_goals wtm_at "chk"
def kk1:All (λp:Ml=>pg.look (mnm (O "Pen") p.1)=J p.2.2.1) mo1:=by
 wtm_at "al"
 all_goals kernel_rfl
def ki1:Chk kl fs (O "__init__") (O "Pen.__init__") Tm.ZaK (mt 18 0):=by wtm_at "chk"
def km2:All (λp:Ml=>Chk kl fs p.1 p.2.1 p.2.2.1<|mt p.2.2.2.1 p.2.2.2.2) mo2:=by
 wtm_at "al"
 all_goals wtm_at "chk"
def kk2:All (λp:Ml=>pg.look (mnm (O "Copier") p.1)=J p.2.2.1) mo2:=by
 wtm_at "al"
 all_goals kernel_rfl
def ki2:Chk kl fs (O "__init__") (O "Copier.__init__") Grf.ZaL (mt 33 0):=by wtm_at "chk"
end K45
end
namespace K45
open PySem L2 IV
def Zw1:pg.tb.lookup (O "law")=J Zl6:=by kernel_rfl
def mkr:Gn.Mkr pg:=⟨⟨by kernel_rfl,by kernel_rfl,by kernel_rfl,by kernel_rfl,by kernel_rfl,⟨Z8.ps,Z8.N,rfl,rfl,by kernel_rfl⟩,.same<|by kernel_rfl,.same<|by kernel_rfl,by kernel_rfl⟩,by kernel_rfl,.same<|by kernel_rfl⟩
def tre:Gn.Tre pg:=by
 constructor
 all_goals (first|kernel_rfl|decide)
def wid:Tm.Wid pg:=⟨.str<|O "more places than an expression that is told may have",by kernel_rfl⟩
def trb:Tm.Trb pg:=by
 constructor
 case toTre=>exact tre
 case tk=>obtain⟨m,e⟩:=wid;exact⟨_,e⟩
 all_goals kernel_rfl
def gs:Grf.Gs pg:=by
 constructor
 case b=>exact⟨tre,by kernel_rfl,by kernel_rfl⟩
 all_goals kernel_rfl
def lw:K45L.Lw pg:=by
 constructor
 case s=>exact gs
 case r=>exact⟨trb,wid,gs,by kernel_rfl,by kernel_rfl⟩
 case m=>exact mkr
 all_goals kernel_rfl
def runs:∀ns:List Int,ns.length<=63->∃h',run pg (300+1) (O "law") [.ro<|ns.map .int] []=.ok (.bl Wq) h':=λns a=>K45L.ZyX lw ns a
end K45
section
set_option maxHeartbeats 4000000
namespace K45
open PySem L2 IV PyProof.Rows
def tp2{K:Yl}(h:K.lookup a=J ⟨.type "tuple",od,.seq #[.int x t,.int y u] n,sl⟩):RD ⟨K,mg⟩ H B (.tup [.int x,.int y]) (.ref a):=.tup (Zu5 (vs:=[.int x,.int y]) h (by show 2<=Yc;decide)<|.cons Zf1<|.cons Zf1 .nil) (.cons (.int _)<|.cons (.int _) .nil)
theorem md{Pr:Yi}{w:Yh}{K:Yl}{h:YG}{mg:Str->Option Yk}(X:K.In h)(G:h.Ns Ye mg)
   (gM:Zic K=Wq)
   (dd:All (λp:Str×Str×Fd×Nat=>Zx3 K p.1 p.2.1<|top p.2.2.2) dl)
   (eP:Ym K Ye (O "Pen")=J (J<|.ref ca1)) (fZ:Cls K ca1)
   (n1:All (λf=>YJ K (.ref ca1) f=J M) kl.ats)
   (gH:PySem.W.makesIn K ca1=Wq) (gI:Wa K (.ref ca1)=Wq)
   (i1:ZnS K ca1 (O "__init__") (O "Pen.__init__") (mt 18 0))
   (u1:All (λp:Ml=>ZnS K ca1 p.1 p.2.1<|mt p.2.2.2.1 p.2.2.2.2) mo1)
   (eO:Ym K Ye (O "Copier")=J (J<|.ref ca2)) (fY:Cls K ca2)
   (n2:All (λf=>YJ K (.ref ca2) f=J M) kl.ats)
   (gF:PySem.W.makesIn K ca2=Wq) (gG:Wa K (.ref ca2)=Wq)
   (i2:ZnS K ca2 (O "__init__") (O "Copier.__init__") (mt 33 0))
   (u2:All (λp:Ml=>ZnS K ca2 p.1 p.2.1<|mt p.2.2.2.1 p.2.2.2.2) mo2)
   (g7:Ym K Ye (O "Wide")=J (J<|.ref xa1)) (g6:PySem.W.typeIn K (.ref xa1)=J (.type "type")) (gZ:PySem.W.isClsIn K xa1=Wq) (gY:YU K (.ref xa1) (.type "BaseException")=J Wq) (gX:PySem.W.excIn K xa1 [.type "ValueError",.type "Exception",.type "BaseException",.type "object"] "ValueError.__new__"=Wq) (gW:YU K (.ref xa1) (.ref xa1)=J Wq)
   (zz:All (λx:Str=>Ym K Ye x=J M) Zpa)
   (et:Ym K Ye (O "WIDEST")=J (J<|.int 120 t101))
   (dZ:K.lookup q103=J ⟨.type "tuple",r104,.seq #[.str (O "num") t108,.str (O "fn") t109,.str (O "rec") t110] n105,v106⟩)
   (d9:Ym K Ye (O "VALUES")=J (J<|.ref q103))
   (d7:Ym K Ye (O "BEYOND")=J (J<|.int 1000000 t112))
   (dX:K.lookup q121=J ⟨.type "tuple",r122,.seq #[.int 1 t126,.int 1 t127] n123,v124⟩)
   (dW:K.lookup q130=J ⟨.type "tuple",r131,.seq #[.int 2 t135,.int 1 t136] n132,v133⟩)
   (dU:K.lookup q139=J ⟨.type "tuple",r140,.seq #[.int 0 t144,.int 2 t145] n141,v142⟩)
   (dR:K.lookup q148=J ⟨.type "tuple",r149,.seq #[.int 0 t153,.int 3 t154] n150,v151⟩)
   (dQ:K.lookup q157=J ⟨.type "tuple",r158,.seq #[.int 0 t162,.int 2 t163] n159,v160⟩)
   (dP:K.lookup q166=J ⟨.type "tuple",r167,.seq #[.int 0 t171,.int 2 t172] n168,v169⟩)
   (dO:K.lookup q175=J ⟨.type "tuple",r176,.seq #[.int 0 t180,.int 2 t181] n177,v178⟩)
   (dN:K.lookup q184=J ⟨.type "tuple",r185,.seq #[.int 0 t189,.int 2 t190] n186,v187⟩)
   (bX:Ym K Ye (O "FORMS")=J (J<|.ref q114))
   (dY:K.lookup q114=J ⟨.type "dict",M,.dict #[⟨j119,.str (O "fn") t120,.ref q121⟩,⟨j128,.str (O "rec") t129,.ref q130⟩,⟨j137,.str (O "call") t138,.ref q139⟩,⟨j146,.str (O "if") t147,.ref q148⟩,⟨j155,.str (O "+") t156,.ref q157⟩,⟨j164,.str (O "-") t165,.ref q166⟩,⟨j173,.str (O "*") t174,.ref q175⟩,⟨j182,.str (O "<") t183,.ref q184⟩] e115,#[]⟩)
   (c8:j119=hashStr w (O "fn"))
   (cZ:j128=hashStr w (O "rec"))
   (cY:j137=hashStr w (O "call"))
   (cX:j146=hashStr w (O "if"))
   (cW:j155=hashStr w (O "+"))
   (cV:j164=hashStr w (O "-"))
   (cU:j173=hashStr w (O "*"))
   (cT:j182=hashStr w (O "<"))
   (c9:(q114==Yf)=Ws):Md Pr w K mg pg kl:=by
 have cC:∃ a aj,mg (O "FORMS")=J (.ref a)/\DkK Pr w K a aj/\∀ H B,RKs ⟨K,mg⟩ H B (cD.lookup (O "FORMS") |>.getD []) aj:=by
   refine⟨q114,[(YE<|O "fn",.ref q121),(YE<|O "rec",.ref q130),(YE<|O "call",.ref q139),(YE<|O "if",.ref q148),(YE<|O "+",.ref q157),(YE<|O "-",.ref q166),(YE<|O "*",.ref q175),(YE<|O "<",.ref q184)],YO X G bX,⟨_,_,_,[(YE<|O "fn",.ref q121),(YE<|O "rec",.ref q130),(YE<|O "call",.ref q139),(YE<|O "if",.ref q148),(YE<|O "+",.ref q157),(YE<|O "-",.ref q166),(YE<|O "*",.ref q175),(YE<|O "<",.ref q184)],dY,⟨rfl,rfl,rfl⟩,rfl,?_,(.cons (Zx _ t120) rfl<|.cons (Zx _ t129) rfl<|.cons (Zx _ t138) rfl<|.cons (Zx _ t147) rfl<|.cons (Zx _ t156) rfl<|.cons (Zx _ t165) rfl<|.cons (Zx _ t174) rfl<|.cons (Zx _ t183) rfl .nil),(by show ([YE<|O "fn",YE<|O "rec",YE<|O "call",YE<|O "if",YE<|O "+",YE<|O "-",YE<|O "*",YE<|O "<"]:List Key).Nodup;decide +kernel),(.cons ⟨rfl,ZaG⟩<|.cons ⟨rfl,ZaG⟩<|.cons ⟨rfl,ZaG⟩<|.cons ⟨rfl,ZaG⟩<|.cons ⟨rfl,ZaG⟩<|.cons ⟨rfl,ZaG⟩<|.cons ⟨rfl,ZaG⟩<|.cons ⟨rfl,ZaG⟩ .nil),(by show 8<=Yc;decide),c9⟩,λ_ _=>(.cons (tp2 dX)<|.cons (tp2 dW)<|.cons (tp2 dU)<|.cons (tp2 dR)<|.cons (tp2 dQ)<|.cons (tp2 dP)<|.cons (tp2 dO)<|.cons (tp2 dN) .nil)⟩;exact(by
       intro e he;simp only [List.mem_toArray,O2,List.not_mem_nil,or_false] at he;rcases he with rfl|rfl|rfl|rfl|rfl|rfl|rfl|rfl
       . exact⟨YE<|O "fn",Zx (O "fn") t120,c8⟩
       . exact⟨YE<|O "rec",Zx (O "rec") t129,cZ⟩
       . exact⟨YE<|O "call",Zx (O "call") t138,cY⟩
       . exact⟨YE<|O "if",Zx (O "if") t147,cX⟩
       . exact⟨YE<|O "+",Zx (O "+") t156,cW⟩
       . exact⟨YE<|O "-",Zx (O "-") t165,cV⟩
       . exact⟨YE<|O "*",Zx (O "*") t174,cU⟩
       . exact⟨YE<|O "<",Zx (O "<") t183,cT⟩
     )
 refine⟨gM,λx kvs hx=>?_,λx d hx=>?_,?_,λx fd hx=>?_,?_,?_,?_,?_,?_,?_⟩
 . have hm:(x,kvs)∈cD:=lookup_mem hx;have e:(x,kvs)=(O "FORMS",(cD.lookup (O "FORMS") |>.getD [])):=by
     simp only [cD,O2,List.not_mem_nil,or_false] at hm;exact hm
   cases e;exact cC
 . have hm:(x,d)∈cG:=lookup_mem hx;have all:All (λp:Str×D=>∃ v u,mg p.1=J u/\RelV v u/\∀ H B,RD ⟨K,mg⟩ H B p.2 v) cG:=⟨⟨.int 120,_,YO X G et,Zf1,λ_ _=>(.int _)⟩,⟨.ref q103,_,YO X G d9,ZaG,λ_ _=>(.tup (Zu5 (vs:=[(.str<|O "num"),(.str<|O "fn"),(.str<|O "rec")]) dZ (by show 3<=Yc;decide)<|.cons Zik<|.cons Zik<|.cons Zik .nil)<|.cons (.str _<|by decide +kernel)<|.cons (.str _<|by decide +kernel)<|.cons (.str _<|by decide +kernel) .nil)⟩,⟨.int 1000000,_,YO X G d7,Zf1,λ_ _=>(.int _)⟩,⟨.ref q114,_,YO X G bX,rfl,λ_ _=>.kd<|YO X G bX⟩,trivial⟩;exact all.mem _ hm
 . exact(ZlM X G zz).mem
 . exact(ZoX X G dd kd).mem _ (lookup_mem hx)
 . have all:All (λC=>∃ a,mg C=J (.ref a)/\Cls K a/\∀ f∈kl.ats,Za5 K a f) kl.cs:=⟨⟨ca1,YO X G eP,fZ,n1.mem⟩,⟨ca2,YO X G eO,fY,n2.mem⟩,trivial⟩
   exact all.mem
 . exact(show All _ kl.ms from((ZkF (P:=pg) X G eP fZ u1 km1 kk1).app<|ZkF (P:=pg) X G eO fY u2 km2 kk2)).mem
 . have all:All (λC:Str=>∃ a f av fd st q,mg C=J (.ref a)/\Mk K a f/\pg.look (mnm C<|O "__init__")=J fd/\BodyOk K kl (pg.tb.map (·.1)) (O "__init__") q fd st f av) kl.is:=⟨ZrE X G eP gH gI i1 ki1<|by kernel_rfl,ZrE X G eO gF gG i2 ki2<|by kernel_rfl,trivial⟩
   exact all.mem
 . have all:All (λC:Str=>∃ a,mg C=J (.ref a)/\XOk K a) kl.xs:=⟨⟨xa1,YO X G g7,⟨⟨g6,L2.isSome_of gZ,gY⟩,gX,gW⟩⟩,trivial⟩
   exact all.mem
 . have all:All (λp:Str×Str=>∃ a b,mg p.1=J (.ref a)/\mg p.2=J (.ref b)/\XAs K a b) kl.xa:=trivial;exact all.mem
 . have all:All (λp:Str×Str×Bool=>∃ b v,mg p.1=J (.ref b)/\L2.ClV mg p.2.1 v/\PySem.W.kitOne K (.ref b) v=J p.2.2) kl.xi:=trivial;exact all.mem
end K45
end
section
set_option maxHeartbeats 4000000
open PySem PySem.W PyProof.Rows
local macro_rules|`(tactic| wtm_at "al")=>`(tactic| repeat' first|exact trivial|refine' And.intro ?_ ?_)
local macro_rules|`(tactic| wtm_at "dg")=>`(tactic| (refine' ⟨_,_,?na,L2.ZrY ?l ?c ?k⟩;(case na=>k_is);(case l=>k_is);(case c=>k_is);(case k=>k_is)))
local macro_rules|`(tactic| wtm_at "mg")=>`(tactic| (refine' ⟨_,_,?na,?f,?k,L2.ZrY ?l ?c ?kk⟩;(case na=>k_is);(case f=>k_is);(case l=>k_is);(case c=>k_is);(case k=>k_is);(case kk=>k_is)))
set_option maxRecDepth 100000 in
set_option maxHeartbeats 0 in
theorem PySem.Challenge.cw_samestride_k45_graph_cells_told_holds : PySem.Challenge.rw_samestride_k45_graph_cells_told.Holds := by
 refine K45hd ?_
 k_fill
 refine IV.Zyi (l:=PySem.Challenge.rw_samestride_k45_graph_cells_told) (P:=K45.pg) 300 rfl rfl rfl ⟨rfl,by decide,by decide,rfl⟩ (kl:=K45.kl) (λw h Y=>PySem.W.kIn_of Y) K45.Zw1 rfl K45.runs ?MM0
 case MM0=>
  intro w mg h KX G;refine' K45.md KX G ?gM ?dd ?eP ?fZ ?n1 ?gH ?gI ?i1 ?u1 ?eO ?fY ?n2 ?gF ?gG ?i2 ?u2 ?g7 ?g6 ?gZ ?gY ?gX ?gW ?zz ?et ?dZ ?d9 ?d7 ?dX ?dW ?dU ?dR ?dQ ?dP ?dO ?dN ?bX ?dY ?c8 ?cZ ?cY ?cX ?cW ?cV ?cU ?cT ?c9
  (case gM=>(first|k_is|kernel_rfl|decide +kernel))
  (case eP=>k_is)
  (case fZ=>(refine⟨?_,?_,?_,?_⟩<;>k_is))
  (case n1=>(wtm_at "al";all_goals (dsimp only;k_is)))
  (case gH|gI=>k_is)
  (case i1=>wtm_at "mg")
  (case u1=>(wtm_at "al";all_goals wtm_at "mg"))
  (case eO=>k_is)
  (case fY=>(refine⟨?_,?_,?_,?_⟩<;>k_is))
  (case n2=>(wtm_at "al";all_goals (dsimp only;k_is)))
  (case gF|gG=>k_is)
  (case i2=>wtm_at "mg")
  (case u2=>(wtm_at "al";all_goals wtm_at "mg"))
  (case g7|g6=>k_is)
  (case gZ|gY=>k_is)
  (case gX=>k_exc)
  (case gW=>k_is)
  (case dd=>(wtm_at "al";all_goals wtm_at "dg"))
  (case zz=>(wtm_at "al";all_goals (dsimp only;k_is)))
  (case et|d9=>k_is)
  (case dZ|d7=>k_is)
  (case bX|dY=>k_is)
  (case dX|dW=>k_is)
  (case dU|dR=>k_is)
  (case dQ|dP=>k_is)
  (case dO|dN=>k_is)
  (case c8=>(first|rfl|k_is|fail))
  (case cZ=>(first|rfl|k_is|fail))
  (case cY=>(first|rfl|k_is|fail))
  (case cX=>(first|rfl|k_is|fail))
  (case cW=>(first|rfl|k_is|fail))
  (case cV=>(first|rfl|k_is|fail))
  (case cU=>(first|rfl|k_is|fail))
  (case cT=>(first|rfl|k_is|fail))
  (case c9=>rfl)
end
