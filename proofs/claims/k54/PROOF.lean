import PyProof.Rows.All
import Wide.All
import OpenK.AllK
import Wide.FinOn
import PyProof.EqAt
import PyProof.EqKinds
import PyProof.TupleCall
import Lean
import PySem.Challenge.RW_samestride_k54_code_quiet
noncomputable section
set_option Elab.async false
set_option linter.all false
set_option maxRecDepth 100000
open PySem renaming wpAny_bind->Ya,Shared->Yb,wpAny_pure->Yc,mainGlobals->Yd,sysModules->Ye,wpAny_mono->Yf,World->Yg,Program->Yh,Addr->Yi,Value->Yj,wpAny_newObj_type->Yq,starEach->YA,wpAny->YB,sizeLine_eq->YC,Heap->YG,Around->YH,mem_of_lookup->YI,compareOp->YM,wpAny_field->YR,backTo->YS,wpAny_Call_Name_kw->YY,keywordEach->Wc,wpAny_callSpecial?_slot->We,wpAny_holding->Wh,wpAny_call_entry->Wi,wpAny_of_eq->Wp
open PySem.W renaming Frag->Yk,nsIn->Yl,findIn->YJ,mg_of->YO,emptyDict->YT,subIn->YV,hideAll->Wa,keepIn->Wg,instObj->Wj
open PySem.Heap renaming lt_size->Ym,get?_update_other->YN,get?_update_self->YX,get?_push_of_some->Od,get?_push_size->Oj
open PySem.NameKind renaming free->Yn
open PySem.PyData renaming strOk->Yo,eqv->YQ
open PySem.StrLaws renaming sliceText->Yp
open List renaming mem_append_left->Yr,append_nil->Ys,length_map->Yt,replicate->YK,any_cons->Wf,lookup->Wm,foldl_cons->Wr,find?_cons->Ws,getElem?_eq_some_iff->Ob,getElem?_set_ne->Oc,getElem?_append_left->Oe,size_toArray->Of,getElem?_eq_getElem->Og,mem_cons_of_mem->Oh,mem_cons_self->Oi,mem_of_getElem?->O1,getElem?_set_self->Ol,getElem?_append_right->Om,getElem?_map->O2,map_cons->Op,mem_cons->O3,length_cons->Os,mem_append_right->Ov,mem_singleton->Ox,map_nil->Oy,append_assoc->Oz,length_append->OA,nil_append->OB,all_eq_true->OC,mem_append->OD,lookup_cons->OF,sum_cons->OI,getElem?_cons_zero->OJ,getElem?_cons_succ->O0
open Option renaming map_some->Yu,bind_some->Yz,some->J,none->M,map_eq_some_iff->Oo
open Nat renaming lt_irrefl->Yv,zero_le->Yw,le_of_lt->Yy,add_comm->YW,le_add_left->Wb,le_refl->Oq,lt_of_lt_of_le->Ot,ne_of_lt->Ou,le_trans->OE,lt_succ_self->OH
open PySem.Value renaming ref->YD
open Sum renaming inr->YE
open Option.some renaming inj->YF
open Ne renaming symm->YL
open PySem.F renaming plain_max_loop->YU
open PySem.Obj renaming data_mapFields->YZ
open PyProof.Rows renaming slot_tuple_getitem->Wo
open PySem.Builtin.List renaming listTooLong->Wq
open Bool renaming or_eq_true->Wu,true->Wx,false->Wy,and_eq_true->Oa,false_ne_true->Ow,false_eq_true->OG
open Decidable renaming decide->Wz
open PySem.Str renaming ofString->O
set_option genSizeOf false
section
open PySem PySem.W PyProof.Rows
set_option maxHeartbeats 0
structure PySem.W.Fast:Prop where(tw5404814248305594822 tw15149332794473467679 tw584353357257828831 tw1743888253712564154 tw3644263091698581471 tw16604885098043326266 tw15380221850875381853 tw7044927702014088021 tw2936584065456991688 tw10138228729732727952 tw2362653673130250826 tw4731129179560535983 tw17608469608133117537 tw13403238584702274289 tw15242389975083217666 tw9476294442791924049 tw2875617753190849056 tw14394671109838685487 tw17272391062963132428 tw8951043264370551485 tw7492517277873664196 tw6553535067039526823 tw12756720703864866510 tw18008438320403809709 tw3379353460175625121 tw7165707112473480402 tw5615245583990980088 tw16668118184797539805 tw5622859144213320928 tw17390168103266111188 tw15212734054044874809 tw16505923741773903578 tw10089573419264051337 tw16116732396593491743 tw9943054696692107872 tw10423612647956923124 tw14731531421595957138 tw2716581285369049113 tw15026271469194288014 tw12889666908863506447 tw6374224719792641125 tw4612948904812457191 tw13073691130448117211 tw3810792256349547815 tw10480805593636161494 tw8416451016164839218 tw11158231165604957654 tw13975844684975723006 tw4049486700194098818 tw13610261187644773787 tw4253930202887319365 tw715166006512109100 tw8052829124812104202 tw5981333934005355800 tw6001704343509392144 tw4320980936068645835 tw17451953703434521122 tw13494315172441910895 tw2905621809613289090 tw13913146707496911641 tw7788328637068956227 tw1580789803084604186 tw2862049206359045236 tw7687040314504160614 tw15234889376564544672 tw12930609057873301202 tw16961759481533718450 tw9951423258084539416 tw11790283055231331210 tw12358226461999778230 tw6699435622302026395 tw633899191546905586 tw9476861941541097156 tw14238441538831717598 tw3485777176370480644 tw6926680985643769637 tw8724385978259496679 tw15545495322149032996 tw9621030545673218899 tw14628217926549863231 tw1840641729383189803 tw5539234451205217187 tw1720371466479808876 tw6054130226253766958 tw16508417292684516718 tw8242703482248197567 tw6390322454345463399 tw15791034726909264520 tw6211235884987152143 tw1374585380094182892 tw15795147033033937993 tw15532245840535843490 tw11052299301983449761 tw14369664878970662784 tw5221986999079416040 tw13646413053961192196 tw6177048034249232196 tw2120884421695407494 tw14868398602742624972 tw14372480265647514668 tw6144350722924576355 tw7883642699669035713 tw11016407786443064382 tw12431468540696402077 tw13360446562606949577 tw17209812484791778397 tw2892632256034372883 tw5309248614549422011 tw11503421619952809408 tw4490302540404785981 tw313591389849061768 tw14417617861809700659 tw5138946635744967461 tw2092920261995436858 tw10735876662223983379 tw10185917690882332045 tw3904874940525006238 tw3181157846219185981 tw2763387694840094868 tw8326415334688141323 tw1632468299366883686 tw14694877528403824898 tw15069855416454716739 tw11641302521544778400 tw16949670336997897535 tw7215974597976306602 tw9525723933748683321 tw780351871298198015 tw9054833160460216074 tw10214379832794809174 tw16054835004151822759 tw2514589995872828761 tw15918866574888427715 tw1596787483742127357 tw10853535717871744898 tw8774242851165506185 tw2089498504058579006 tw17963625280160789478 tw4606327863757193492 tw1423424012886337420 tw13623076099310292887 tw5077293790821899178 tw7924723085160166985 tw16507960313131736220 tw15642557467200708264 tw17720201971502240802 tw9441951123815896051 tw1945928328497514161 tw5106151800754725381 tw4740195744213370445 tw8011399108927629061 tw15666205927148227610 tw288295751370151784 tw734310051953645185 tw6633782362180468264 tw17557285625373265413 tw5353537657290343062 tw15772531877655795799 tw7119214587060230859 tw15269310016321525762 tw4974619778674031563 tw14924241894216655436 tw17040357110548736564 tw13818341188215128129 tw17475590484926551342 tw8399986839653138258 tw14697016198209724543 tw4616999202734829714 tw14256657129888362202 tw17343695713692424876 tw18134345891975565135 tw12342519945790716550 tw6340821155675660435 tw6784518691403497156 tw257903185992223121 tw9667422568165292001 tw5132514265134774444 tw1983982177456249805 tw1935973920780137971 tw10906841875575557759 tw14289982867050836612 tw171793192950910699 tw1073846361520922690 tw10198499166023050410 tw7587237192873101358 tw7689624240707638852 tw18082861307474958635 tw2761925081474790796 tw12729208959630289414 tw17095346397175520626 tw3332163813015133185 tw4383723249843866526 tw2666574257550639859 tw5426067171820865250 tw3871578974298912638 tw13470071207991857488 tw10071822168173402110 tw2487294586561258223 tw4685454267811915380 tw4585216190385871562 tw17377455380050019780 tw17583172382880423695 tw3978117805545262211 tw7283384995909920593 tw6992517720828428024 tw15284076881020476733 tw15269854813699400226 tw10170657705277021478 tw12656688884502727336 tw13182527622254219704 tw14402239961588776617 tw11891816273268353112 tw9047789061832440470 tw7208986041092456735:True)
open_top K54hd for PySem.Challenge.rw_samestride_k54_code_quiet
end
namespace L2
open PySem PySem.Spec PyProof.Rows
noncomputable abbrev Key:=Sum Int Str
noncomputable def Zio:Key->Yj->Bool
 |.inl k,v=>Value.isInt k v
 |.inr x,v=>Value.isStrOf x v
noncomputable def Zyd(w:Yg):Key->Int
 |.inl k=>hashInt k
 |.inr x=>hashStr w x
def ZM:∀{k:Key}{v:Yj},Zio k v=Wx->(∃i t,k=Sum.inl i/\v=Value.int i t)\/(∃x t,k=YE x/\v=Value.str x t)
 |.inl i,v,h=>by obtain⟨t,e⟩:=Value.isInt_shape (k:=i) (v:=v) h;exact .inl ⟨i,t,rfl,e⟩
 |.inr x,v,h=>by obtain⟨t,e⟩:=Value.isStrOf_shape (x:=x) (v:=v) h;exact .inr ⟨x,t,rfl,e⟩
def Zn2(i:Int)(t:Tok):Zio (.inl i) (.int i t)=Wx:=by simp[Zio,Value.isInt]
def Zy(x:Str)(t:Tok):Zio (.inr x) (.str x t)=Wx:=by simp[Zio,Value.isStrOf]
def ZuY(a b:Int):Wz ((Sum.inl a:Key)=Sum.inl b)=(a==b):=by
 by_cases e:a=b
 . subst e;simp
 . have h:¬ (Sum.inl a:Key)=Sum.inl b:=λq=>e (Sum.inl.inj q);rw[decide_eq_false h];exact(beq_eq_false_iff_ne.mpr e).symm
def ZuV(a b:Str):Wz ((YE a:Key)=YE b)=Wz (a=b):=by
 by_cases e:a=b
 . subst e;simp
 . have h:¬ (YE a:Key)=YE b:=λq=>e (Sum.inr.inj q);rw[decide_eq_false h,decide_eq_false e]
def ZuX(a:Int)(b:Str):Wz ((Sum.inl a:Key)=YE b)=Wy:=decide_eq_false (λq=>nomatch q)
def ZuW(a:Str)(b:Int):Wz ((YE a:Key)=Sum.inl b)=Wy:=decide_eq_false (λq=>nomatch q)
def ZY(prog:Yh)(w:Yg):PySem.KeyKind prog w Key where
 is:=Zio
 hash:=Zyd w
 inj:=λv a b ha hb=>by
  rcases ZM ha with⟨i,t,rfl,rfl⟩|⟨x,t,rfl,rfl⟩
  . rcases ZM hb with⟨j,u,rfl,e⟩|⟨y,u,rfl,e⟩
    . injection e with e1 _;rw[e1]
    . exact nomatch e
  . rcases ZM hb with⟨j,u,rfl,e⟩|⟨y,u,rfl,e⟩
    . exact nomatch e
    . injection e with e1 _;rw[e1]
 byValue:=λk v h=>by rcases ZM h with⟨i,t,rfl,rfl⟩|⟨x,t,rfl,rfl⟩<;>rfl
 pyHash:=λhv h=>by
  rcases ZM hv with⟨i,t,rfl,rfl⟩|⟨x,t,rfl,rfl⟩
  . exact wpAny_pyHash_int h
  . exact wpAny_pyHash_str h
 eqBool:=λhu hv h=>by
  rcases ZM hu with⟨i,t,rfl,rfl⟩|⟨x,t,rfl,rfl⟩
  . rcases ZM hv with⟨j,u,rfl,rfl⟩|⟨y,u,rfl,rfl⟩
    . rw[ZuY]at h;exact wpAny_eqBool_int h
    . rw[ZuX]at h;exact SeqAt.EqAt.int_str i t y u _ _ _ _ h
  . rcases ZM hv with⟨j,u,rfl,rfl⟩|⟨y,u,rfl,rfl⟩
    . rw[ZuW]at h;exact SeqAt.EqAt.str_int x t j u _ _ _ _ h
    . rw[ZuV]at h;exact wpAny_eqBool_str h
 «strs»:=λk x t v h=>by
  rcases ZM h with⟨i,u,rfl,e⟩|⟨y,u,rfl,e⟩
  . exact nomatch e
  . injection e with e1 _;subst e1;cases v<;>rfl
def Zj3(prog:Yh)(w:Yg)(i:Int)(t:Tok):(ZY prog w).is (.inl i) (.int i t)=Wx:=Zn2 i t
def Zj2(prog:Yh)(w:Yg)(x:Str)(t:Tok):(ZY prog w).is (.inr x) (.str x t)=Wx:=Zy x t
inductive V where
 |non|bl (b:Bool)|int (i:Int)|str (x:Str)|byt (b:Array UInt8)|flt (b:UInt64)|ref (a:Yi)|ty (n:String)
 deriving DecidableEq
def RelV:V->Yj->Prop
 |.non,u=>u=Value.none
 |.bl b,u=>u=Value.bool b
 |.int i,u=>∃t,u=Value.int i t
 |.str x,u=>∃t,u=Value.str x t
 |.byt b,u=>∃t,u=Value.bytes b t
 |.flt b,u=>∃t,u=Value.float b t
 |.ref a,u=>u=YD a
 |.ty n,u=>u=Value.type n
abbrev Zs:List V->List Yj->Prop:=Paired RelV
theorem Zs.length(r:Zs xs us):xs.length=us.length:=Paired.length r
theorem Zs.get:∀{xs:List V}{us:List Yj}{i:Nat}{x:V},Zs xs us->xs[i]?=J x->∃u,us[i]?=J u/\RelV x u
 |_,_,_,_,.nil,e=>by simp at e
 |_,_,0,_,.cons r _,e=>by simp at e;subst e;exact⟨_,rfl,r⟩
 |_,_,i+1,x,.cons _ t,e=>by obtain⟨u,R,h2⟩:=Zs.get (i:=i) (x:=x) t (by simpa using e);exact⟨u,by simpa using R,h2⟩
theorem Zs.set(r:RelV x u):∀{xs:List V}{us:List Yj} (i:Nat),Zs xs us->Zs (xs.set i x) (us.set i u)
 |_,_,_,.nil=>.nil
 |_,_,0,.cons _ t=>.cons r t
 |_,_,i+1,.cons q t=>.cons q (Zs.set r i t)
theorem Zs.append:∀{xs ys:List V}{us ws:List Yj},Zs xs us->Zs ys ws->Zs (xs++ys) (us++ws)
 |_,_,_,_,.nil,s=>s
 |_,_,_,_,.cons r t,s=>.cons r (Zs.append t s)
theorem Zs.take:∀{xs:List V}{us:List Yj} (n:Nat),Zs xs us->Zs (xs.take n) (us.take n)
 |_,_,0,_=>.nil
 |_,_,_+1,.nil=>.nil
 |_,_,n+1,.cons r t=>.cons r (Zs.take n t)
theorem Zs.drop:∀{xs:List V}{us:List Yj} (n:Nat),Zs xs us->Zs (xs.drop n) (us.drop n)
 |_,_,0,r=>r
 |_,_,_+1,.nil=>.nil
 |_,_,n+1,.cons _ t=>Zs.drop n t
def ZfH:Option V->Option Yj->Prop
 |some v,J u=>RelV v u
 |none,M=>True
 |_,_=>False
def KV:List (κ×V)->List (κ×Yj)->Prop:=Paired λ(p:κ×V) (q:κ×Yj)=>p.1=q.1/\RelV p.2 q.2
noncomputable def kV:Key->V
 |.inl i=>.int i
 |.inr x=>.str x
inductive HO where
 |lst (xs:List V)
 |tup (xs:List V)
 |dK (kvs:List (Key×V))|dT (kvs:List (List Key×V))
 |set (S_:Int->Bool) (n:Nat)
 |ins (C dx:Yi) (fs:List (Str×V))
 |own (x:Yi)
 |xd (fs:List (Str×V))
 |met (f x:Yi)
 |rng (lo hi:Int)
 |frz (o:Obj) (u:HO)
 |tbl (ps:Array Yj)
 |ext (φ:YG->Prop)
abbrev Hp:=Yi->Option HO
noncomputable def upd(H:Hp)(a:Yi)(o:HO):Hp:=λb=>if b=a then J o else H b
def Zp:upd H a o a=J o:=by unfold upd;rw[if_pos rfl]
def Zq(h:b≠a):upd H a o b=H b:=by unfold upd;rw[if_neg h]
def ZQ{H:Hp}(h:H a=J o)(h':H b=M):a≠b:=by intro e;subst e;rw[h]at h';cases h'
section
variable (P:Yh)(w:Yg)
def ZbS(h:YG)(a:Yi)(items:Array Yj):Prop:=∃o,h.get? a=J o/\o.cls=.type "tuple" /\ o.dict=M/\∃n,o.data=.seq items n
theorem ZbS.tup(x:ZbS h a items):IsTup h a items:=let⟨o,ho,hc,_,r⟩:=x;⟨o,ho,hc,r⟩
theorem ZbS.fresh(h:YG)(items:Array Yj):ZbS (h.push {cls:=.type "tuple",data:=.seq items}) h.objs.size items:=⟨_,Oj _ rfl,rfl,rfl,_,rfl⟩
def Zat(H:Hp)(h:YG)(a:Yi):HO->Prop
 |.lst xs=>xs.length<=sizeLine/\∃(its:List Yj) (n:Nat),Zs xs its/\h.get? a=J {cls:=.type "list",data:=.seq its.toArray n}
 |.tup xs=>xs.length<=sizeLine/\∃its:List Yj,Zs xs its/\ZbS h a its.toArray
 |.dK kvs=>kvs.length<=sizeLine/\(a==Ye)=Wy/\∃vs,KV kvs vs/\h.DictOf (ZY P w) a vs
 |.dT kvs=>kvs.length<=sizeLine/\(a==Ye)=Wy/\∃xs:List (List Key×Yi×Yj),
  Paired (λ(p:List Key×V) (q:List Key×Yi×Yj)=>p.1=q.1/\H q.2.1=J (.tup (p.1.map kV))/\RelV p.2 q.2.2) kvs xs /\
  ∃o es ep,h.get? a=J o/\o.ExactDict/\o.data=.dict es ep/\es.toList=xs.map (entryOfKey (tupleKind (ZY P w)))/\(xs.map (·.1)).Nodup
 |.set S_ n=>h.SetOf (intKind P w) a S_ n
 |.ins C dx fs=>H dx=J (.own a)/\fs.length<=1000/\dx≠a/\h.get? a=J (Wj C dx) /\
  ∃mA,h.Ns1 dx mA/\(∀f,ZfH (fs.lookup f) (mA f))/\PySem.Within mA (fs.map (·.1))
 |.own _=>∃o,h.get? a=J o
 |.xd fs=>∃mA,h.Ns1 a mA/\∀f,ZfH (fs.lookup f) (mA f)
 |.rng lo hi=>∃t u v,h.get? a=J {cls:=.type "range",data:=.fields #[.int lo t,.int hi u,.int 1 v]}
 |.frz o u=>h.get? a=J o/\Zat H h a u
 |.tbl ps=>h.get? a=J {cls:=.none,data:=.fields ps}
 |.met f x=>h.get? a=J (PySem.W.methodObj (.ref f) (.ref x))
 |.ext φ=>φ h/\(∃o,h.get? a=J o)/\∀R h2:YG,φ R->(∀o,R.get? a=J o->h2.get? a=J o)->φ h2
def HOk(H:Hp)(h:YG):Prop:=∀a o,H a=J o->Zat P w H h a o
end
section
variable {P:Yh}{w:Yg}{H H':Hp}{h h':YG}{a:Yi}{o:HO}
theorem Zat.lt(x:Zat P w H h a o):a<h.objs.size:=by
 cases o with
 |lst xs=>obtain⟨_,_,_,_,e⟩:=x;exact Ym e
 |tup xs=>obtain⟨_,_,_,p⟩:=x;exact p.tup.lt
 |dK kvs=>obtain⟨_,_,_,_,o,_,_,e,_⟩:=x;exact Ym e
 |dT kvs=>obtain⟨_,_,_,_,o,_,_,e,_⟩:=x;exact Ym e
 |set S_ n=>obtain⟨o,_,_,_,e,_⟩:=x;exact Ym e
 |ins C dx fs=>obtain⟨_,_,_,e,_⟩:=x;exact Ym e
 |own y=>obtain⟨_,e⟩:=x;exact Ym e
 |xd fs=>obtain⟨_,⟨_,_,_,e,_⟩,_⟩:=x;exact Ym e
 |rng lo hi=>obtain⟨_,_,_,e⟩:=x;exact Ym e
 |frz ob u=>obtain⟨e,_⟩:=x;exact Ym e
 |tbl ps=>exact Ym (show h.get? a=J _ from x)
 |met f y=>exact Ym (show h.get? a=J _ from x)
 |ext φ=>obtain⟨_,⟨_,e⟩,_⟩:=x;exact Ym e
theorem Paired.mapP:∀{l₁:List α}{l₂:List β},Paired F l₁ l₂->(∀a b,F a b->G a b)->Paired G l₁ l₂
 |_,_,.nil,_=>.nil
 |_,_,.cons r t,f=>.cons (f _ _ r) (Paired.mapP t f)
def Zat.stay(x:Zat P w H h a o)(k:∀b u,(b=a\/H b=J (.own a))->h.get? b=J u->h'.get? b=J u)
 (ho:∀b,H b=J (.own a)->H' b=J (.own a)) (ht:∀b xs,H b=J (.tup xs)->H' b=J (.tup xs)):Zat P w H' h' a o:=by
 induction o with
 |lst xs=>obtain⟨z,its,n,r,e⟩:=x;exact⟨z,its,n,r,k _ _ (.inl rfl) e⟩
 |tup xs=>obtain⟨z,its,r,ob,e,c⟩:=x;exact⟨z,its,r,ob,k _ _ (.inl rfl) e,c⟩
 |dK kvs=>obtain⟨z,y,vs,r,ob,es,ep,e,c⟩:=x;exact⟨z,y,vs,r,ob,es,ep,k _ _ (.inl rfl) e,c⟩
 |dT kvs=>obtain⟨z,y,xs,r,ob,es,ep,e,c⟩:=x;exact⟨z,y,xs,Paired.mapP r λp q z=>⟨z.1,ht _ _ z.2.1,z.2.2⟩,ob,es,ep,k _ _ (.inl rfl) e,c⟩
 |set S_ n=>obtain⟨ob,es,ep,t,e,c⟩:=x;exact⟨ob,es,ep,t,k _ _ (.inl rfl) e,c⟩
 |ins C dx fs=>obtain⟨d,z,ne,e,mA,⟨od,es,ep,e2,c⟩,r⟩:=x;exact⟨ho _ d,z,ne,k _ _ (.inl rfl) e,mA,⟨od,es,ep,k _ _ (.inr d) e2,c⟩,r⟩
 |own y=>obtain⟨ob,e⟩:=x;exact⟨ob,k _ _ (.inl rfl) e⟩
 |xd fs=>obtain⟨mA,⟨od,es,ep,e,c⟩,r⟩:=x;exact⟨mA,⟨od,es,ep,k _ _ (.inl rfl) e,c⟩,r⟩
 |rng lo hi=>obtain⟨t,u,v,e⟩:=x;exact⟨t,u,v,k _ _ (.inl rfl) e⟩
 |frz ob u ih=>obtain⟨e,q⟩:=x;exact⟨k _ _ (.inl rfl) e,ih q⟩
 |tbl ps=>have e:h.get? a=J {cls:=.none,data:=.fields ps}:=x;show h'.get? a=J {cls:=.none,data:=.fields ps};exact k a _ (.inl rfl) e
 |met f y=>have e:h.get? a=J (PySem.W.methodObj (.ref f) (.ref y)):=x;show h'.get? a=J (PySem.W.methodObj (.ref f) (.ref y));exact k a _ (.inl rfl) e
 |ext φ=>obtain⟨p,⟨o,e⟩,st⟩:=x;exact⟨st _ _ p λo q=>k _ _ (.inl rfl) q,⟨o,k _ _ (.inl rfl) e⟩,st⟩
theorem HOk.lt(x:HOk P w H h)(e:H a=J o):a<h.objs.size:=(x a o e).lt
def HOk.fresh(x:HOk P w H h)(e:h.objs.size<=a):H a=M:=by
 cases q:H a with
 |none=>rfl
 |some u=>exact absurd (Ot (x.lt q) e) (Yv _)
def HOk.kept(x:HOk P w H h)(k:∀b u,h.get? b=J u->h'.get? b=J u):HOk P w H h':=λa o e=>(x a o e).stay (λb u _ q=>k b u q) (λ_ q=>q) λ_ _ q=>q
def HOk.laid(x:HOk P w H h)(k:∀b u,h.get? b=J u->h'.get? b=J u)(hp:h.objs.size<=a)(new:Zat P w (upd H a o) h' a o):HOk P w (upd H a o) h':=λb u e=>by
 have hn:=x.fresh hp;by_cases hb:b=a
 . subst hb;rw[Zp]at e;cases e;exact new
 . rw[Zq hb]at e;exact(x b u e).stay (λc v _ q=>k c v q) (λc q=>by rw[Zq (ZQ q hn)];exact q) λc xs q=>by rw[Zq (ZQ q hn)];exact q
end
def Rd(H:Hp)(a:Yi)(u:HO):Prop:=H a=J u\/∃o,H a=J (.frz o u)
def Rd.ok{P:Yh}{w:Yg}{H:Hp}{h:YG}{a:Yi}{u:HO}(r:Rd H a u)(x:HOk P w H h):Zat P w H h a u:=by
 rcases r with r|⟨o,r⟩
 . exact x a u r
 . obtain⟨_,q⟩:=x a _ r;exact q
def Mut:Option HO->Prop
 |some (.lst _)=>True
 |some (.dK _)=>True
 |some (.dT _)=>True
 |some (.set _ _)=>True
 |some (.ins _ _ _)=>True
 |some (.ext _)=>True
 |_=>False
section
variable {P:Yh}{w:Yg}{H:Hp}{h h':YG}{x e:Yi}{o':HO}
def HOk.write(ok:HOk P w H h)(mu:Mut (H x))(he:e=x\/H e=J (.own x))(k:∀b u,b≠e->h.get? b=J u->h'.get? b=J u)(fh:∃u,h'.get? e=J u)
 (new:Zat P w (upd H x o') h' x o'):HOk P w (upd H x o') h':=λb u q=>by
 have fG:∀c y,H c=J (.own y)->c≠x:=λc y r z=>by subst z;rw[r]at mu;exact mu
 have iN:∀c xs,H c=J (.tup xs)->c≠x:=λc xs r z=>by subst z;rw[r]at mu;exact mu
 by_cases hb:b=x
 . subst hb;rw[Zp]at q;cases q;exact new
 . rw[Zq hb]at q;by_cases hbe:b=e
   . have q':H b=J (.own x):=by
      rcases he with z|z
      . exact absurd (hbe.trans z) hb
      . rw[hbe];exact z
     rw[q]at q';cases q';obtain⟨v,hv⟩:=fh;exact⟨v,by rw[hbe];exact hv⟩
   . refine(ok b u q).stay (λc v hc r=>k c v ?_ r) (λc r=>by rw[Zq (fG c b r)];exact r) λc xs r=>by rw[Zq (iN c xs r)];exact r
     rcases hc with rfl|hc
     . exact hbe
     . rintro rfl;rcases he with z|z
       . exact fG c b hc z
       . rw[hc]at z;cases z;exact hb rfl
end
structure Un(fs ex:List Yi)(H H':Hp)(h h':YG):Prop where
 keep:∀b o,h.get? b=J o->H b=M->b ∉ fs->b ∉ ex->h'.get? b=J o
 slot:∀b o,h.get? b=J o->H b=M->b∈fs->b ∉ ex->∃sl,h'.get? b=J {o with slots:=sl}
 free:∀b o,h.get? b=J o->H b=M->b ∉ ex->H' b=M
 there:∀b o,h.get? b=J o->b ∉ ex->∃o',h'.get? b=J o'
 tups:∀b xs,H b=J (.tup xs)->H' b=J (.tup xs)
 frzs:∀b o u,H b=J (.frz o u)->H' b=J (.frz o u)
 tbls:∀b ps,H b=J (.tbl ps)->∃more,H' b=J (.tbl (ps++more))
section
variable {fs ex:List Yi}{H H1 H2:Hp}{h R h2 h':YG}{a x e:Yi}{o:HO}
def Un.any(u:Un fs ex H H1 h R)(q:h.get? b=J ob)(n:H b=M)(hx:b ∉ ex):∃sl,R.get? b=J {ob with slots:=sl}:=by
 by_cases hb:b∈fs
 . exact u.slot b ob q n hb hx
 . exact⟨ob.slots,u.keep b ob q n hb hx⟩
def Un.trans(a:Un fs ex H H1 h R)(b:Un fs ex H1 H2 R h2):Un fs ex H H2 h h2 where
 keep:=λc ob q n hc hx=>b.keep c ob (a.keep c ob q n hc hx) (a.free c ob q n hx) hc hx
 slot:=λc ob q n hc hx=>by obtain⟨sl,e1⟩:=a.slot c ob q n hc hx;obtain⟨bG,e2⟩:=b.slot c _ e1 (a.free c ob q n hx) hc hx;exact⟨bG,e2⟩
 free:=λc ob q n hx=>by obtain⟨o',e1⟩:=a.there c ob q hx;exact b.free c o' e1 (a.free c ob q n hx) hx
 there:=λc ob q hx=>by obtain⟨o',e1⟩:=a.there c ob q hx;exact b.there c o' e1 hx
 tups:=λc xs q=>b.tups c xs (a.tups c xs q)
 frzs:=λc ob xs q=>b.frzs c ob xs (a.frzs c ob xs q)
 tbls:=λc ps q=>by obtain⟨m1,e1⟩:=a.tbls c ps q;obtain⟨m2,e2⟩:=b.tbls c _ e1;exact⟨m1++m2,by rw[e2,Array.append_assoc]⟩
def Un.kept(k:∀b u,h.get? b=J u->h'.get? b=J u):Un fs ex H H h h':=⟨λb ob q _ _ _=>k b ob q,λb ob q _ _ _=>⟨ob.slots,k b ob q⟩,λ_ _ _ n _=>n,λb ob q _=>⟨ob,k b ob q⟩,λ_ _ q=>q,λ_ _ _ q=>q,λ_ ps q=>⟨#[],by rw[q];simp⟩⟩
def Un.refl:Un fs ex H H h h:=Un.kept λ_ _ q=>q
def Un.laid(k:∀b u,h.get? b=J u->h'.get? b=J u)(hp:h.objs.size<=a)(hn:H a=M):Un fs ex H (upd H a o) h h' where
 keep:=λb u q _ _ _=>k b u q
 slot:=λb u q _ _ _=>⟨u.slots,k b u q⟩
 free:=λb u q n _=>by rw[Zq (Ou (Ot (Ym q) hp))];exact n
 there:=λb u q _=>⟨u,k b u q⟩
 tups:=λb xs q=>by rw[Zq (ZQ q hn)];exact q
 frzs:=λb u xs q=>by rw[Zq (ZQ q hn)];exact q
 tbls:=λb ps q=>⟨#[],by rw[Zq (ZQ q hn),q];simp⟩
def Un.write(mu:Mut (H x))(he:e=x\/H e=J (.own x))(k:∀b u,b≠e->h.get? b=J u->h'.get? b=J u)(fh:∃u,h'.get? e=J u):Un fs ex H (upd H x o) h h':=by
 have hx:∀b,H b=M->b≠x:=λb n z=>by subst z;rw[n]at mu;exact mu
 have hb:∀b,H b=M->b≠e:=λb n z=>by
  subst z;rcases he with r|r
  . exact hx b n r
  . rw[n]at r;cases r
 have hm:∀b u,H b=J u->¬ Mut (J u)->b≠x:=λb u q nm z=>by subst z;rw[q]at mu;exact nm mu
 refine⟨λb u q n _ _=>k b u (hb b n) q,λb u q n _ _=>⟨u.slots,k b u (hb b n) q⟩,λb u q n _=>by rw[Zq (hx b n)];exact n,λb u q _=>?_,
  λb xs q=>by rw[Zq (hm b _ q λz=>z)];exact q,λb u xs q=>by rw[Zq (hm b _ q λz=>z)];exact q,λb ps q=>⟨#[],by rw[Zq (hm b _ q λz=>z),q];simp⟩⟩
 by_cases hbe:b=e
 . subst hbe;exact fh
 . exact⟨u,k b u hbe q⟩
end
def trk(h:YG)(H:Hp):List Yi:=(List.range h.objs.size).filter λa=>(H a).isSome
def Zi8(h:YG)(H:Hp):YG:=Wa h (trk h H)
def Zn4(h:YG)(H:Hp):(Zi8 h H).objs.size=h.objs.size:=PySem.W.hideAll_size _ _
def Zqc(e:h.get? b=J o)(n:H b=M):(Zi8 h H).get? b=J o:=
 PySem.W.hideAll_get _ e λhm=>by have q:(H b).isSome=Wx:=(List.mem_filter.mp hm).2;rw[n]at q;simp at q
def ZrY(e:(Zi8 h H).get? b=J o):h.get? b=J o/\H b=M:=by
 have e':h.get? b=J o:=PySem.W.of_hideAll (trk h H) e;refine⟨e',?_⟩;cases q:H b with
 |none=>rfl
 |some x=>have hm:b∈trk h H:=List.mem_filter.mpr ⟨List.mem_range.mpr (Ym e'),by simp[q]⟩;have z:(Zi8 h H).get? b=M:=PySem.W.hideAll_none (trk h H) hm;rw[z]at e;cases e
structure Mod(K:Yk)(mg:Str->Option Yj)(base:YG):Prop where
 kin:K.In base
 glob:base.Ns Yd mg
 blt:∃mb,base.Ns builtinsNs mb/\∀x:Str,x ≠ "__name__" -> mb x=bootBuiltins x
 nolimit:base.NoLimit
structure Cx where
 prog:Yh
 w:Yg
 K:Yk
 mg:Str->Option Yj
 base:YG
 A:YH
 N:List Str
 s₀:Yb
 H₀:Hp
 env:Env
 outer:List Env
 stack:List Env
 ex:List Yi
 fn:Str->Bool
 calm:Bool
 pn:List (Yi×Obj)
 xe:Yj->Yb->Prop
noncomputable def frs(l:List Env):List Yi:=l.filterMap (·.frame)
abbrev Cx.fs(X:Cx):List Yi:=frs X.outer
def Vis(sc:Scope)(x:Str):Prop:=sc.names.lookup x=J .local\/sc.names.lookup x=J .cell\/sc.names.lookup x=J .free
def Loc(sc:Scope)(x:Str):Prop:=sc.names.lookup x=J .local\/sc.names.lookup x=J .cell
def Look(env:Env)(h:YG)(m:Str->Option Yj)(x:Str)(u:Yj):Prop:=(env.kindOf x=J .local/\m x=J u)\/((env.kindOf x=J .cell\/env.kindOf x=J .free)/\∃c,env.cells.lookup x=J c/\h.IsCell c (J u))
structure Cx.Ok(X:Cx):Prop where
 mod:Mod X.K X.mg X.base
 kind:X.env.scope.kind=.function
 glob:X.env.globals=Yd
 blt:X.env.builtins=builtinsNs
 above:X.s₀.heap.objs.size<=X.env.locals
 inj:∀x y c,X.env.cells.lookup x=J c->X.env.cells.lookup y=J c->x=y
 has:∀x,(X.env.kindOf x=J .cell\/X.env.kindOf x=J .free)->∃c,X.env.cells.lookup x=J c
 cab:∀x c,X.fn x=Wx->X.env.cells.lookup x=J c->X.s₀.heap.objs.size<=c
 hd:X.calm=Wx->X.A.handled=M
 frames:X.A.frames=J X.stack
 stk:X.stack=X.outer\/(X.stack=X.env::X.outer/\X.env.frame=J X.env.locals)
 exf:∀b∈X.ex,b≠X.env.locals/\∀x c,X.env.cells.lookup x=J c->c≠b
 bs:∀b o,X.base.get? b=J o->X.s₀.heap.get? b=J o/\X.H₀ b=M
 bsz:X.base.objs.size<=X.s₀.heap.objs.size
 noex:∀b o,X.base.get? b=J o->b ∉ X.ex
 exfs:∀b∈X.ex,b ∉ X.fs
 funs:X.s₀.heap.FunFrames X.base X.outer
 frf:∀b∈X.fs,X.H₀ b=M
structure Inv(X:Cx)(aa:List (Yi×Obj))(Z:List (Option V))(H:Hp)(s:Yb):Prop where
 ok:X.Ok
 os:s.os=X.s₀.os
 bare:AllBare s.gens
 base:Un X.fs X.ex X.H₀ H X.s₀.heap s.heap
 loc:∃m,s.heap.Ns X.env.locals m/\∀(i:Nat) (x:Str) (v:V),X.N[i]?=J x->Z[i]?=J (J v)->Vis X.env.scope x->∃u,RelV v u/\Look X.env s.heap m x u
 cell:∀x c,X.env.cells.lookup x=J c->∃v,s.heap.IsCell c v
 free:H X.env.locals=M
 freeC:∀x c,X.env.cells.lookup x=J c->H c=M
 pin:∀p∈X.pn++aa,s.heap.get? p.1=J p.2/\H p.1=M/\p.1≠X.env.locals/\p.1 ∉ X.fs/\∀v,p.2.data≠.cell v
 hok:HOk X.prog X.w H s.heap
 len:Z.length=X.N.length
section
variable {X:Cx}{aa:List (Yi×Obj)}{Z:List (Option V)}{H H':Hp}{s:Yb}{h':YG}
def Cx.Ok.nofr(ok:X.Ok)(e:X.base.get? b=J o):b ∉ X.fs:=λhb=>by have:=(ok.funs.mem hb).1;rw[e]at this;cases this
theorem Inv.bs(I:Inv X aa Z H s):∀b o,X.base.get? b=J o->s.heap.get? b=J o/\H b=M:=λb o e=>⟨I.base.keep b o (I.ok.bs b o e).1 (I.ok.bs b o e).2 (I.ok.nofr e) (I.ok.noex b o e),I.base.free b o (I.ok.bs b o e).1 (I.ok.bs b o e).2 (I.ok.noex b o e)⟩
def Inv.bk(I:Inv X aa Z H s):∀b o,X.base.get? b=J o->s.heap.get? b=J o:=λb o e=>(I.bs b o e).1
theorem Inv.mod(I:Inv X aa Z H s):Mod X.K X.mg X.base:=I.ok.mod
def Inv.kIn(I:Inv X aa Z H s):X.K.In s.heap:=I.ok.mod.kin.keeps I.bk
theorem Inv.lt(I:Inv X aa Z H s):X.env.locals<s.heap.objs.size:=let⟨_,hn,_⟩:=I.loc;hn.lt
def Inv.sz(I:Inv X aa Z H s):X.s₀.heap.objs.size<=s.heap.objs.size:=OE I.ok.above (Yy I.lt)
def Inv.nofs(I:Inv X aa Z H s)(h:s.heap.objs.size<=a):a ∉ X.fs:=λhb=>by obtain⟨_,o,ho,_⟩:=I.ok.funs.mem hb;exact absurd (Ot (Ym ho) (OE I.sz h)) (Yv _)
def Inv.cne(I:Inv X aa Z H s):∀x c,X.env.cells.lookup x=J c->c≠X.env.locals:=λx c e z=>by obtain⟨v,o,ho,hd⟩:=I.cell x c e;obtain⟨m,⟨o',es,ep,bZ,jp,_⟩,_⟩:=I.loc;rw[z,bZ]at ho;cases ho;rw[jp]at hd;cases hd
theorem Inv.funs(I:Inv X aa Z H s):s.heap.FunFrames X.base X.outer:=by
 have all:∀(l:List Env),(∀b∈frs l,b∈X.fs)->X.s₀.heap.FunFrames X.base l->s.heap.FunFrames X.base l:=by
  intro l;induction l with
  |nil=>intro _ _;trivial
  |cons env r ih=>intro hs hl;obtain⟨hk,⟨L,o,hf,hn,ho,hd⟩,hr⟩:=hl;have hL:L∈X.fs:=hs L (by unfold frs;rw[List.filterMap_cons,hf];exact Oi);obtain⟨sl,e⟩:=I.base.slot L o ho (I.ok.frf L hL) hL λz=>I.ok.exfs L z hL;exact⟨hk,⟨L,_,hf,hn,e,hd⟩,ih (λb hb=>hs b (by unfold frs;rw[List.filterMap_cons,hf];exact Oh _ hb)) hr⟩
 exact all X.outer (λ_ hb=>hb) I.ok.funs
theorem Inv.stack(I:Inv X aa Z H s):s.heap.FunFrames X.base X.stack:=by
 rcases I.ok.stk with e|⟨e,hf⟩
 . rw[e];exact I.funs
 . rw[e];obtain⟨m,hn,_⟩:=I.loc;refine .cons (by rw[I.ok.kind];decide) hf hn ?_ I.funs;exact Heap.get?_none_of_le (OE I.ok.bsz I.ok.above)
def Inv.stkSub(I:Inv X aa Z H s):∀b∈frs X.stack,b∈X.env.locals::X.fs:=λb hb=>by
 rcases I.ok.stk with e|⟨e,hf⟩
 . rw[e]at hb;exact Oh _ hb
 . rw[e]at hb;unfold frs at hb;rw[List.filterMap_cons,hf]at hb;exact hb
def Inv.stkFree(I:Inv X aa Z H s):∀b∈frs X.stack,H b=M:=λb hb=>by
 rcases O3.mp (I.stkSub b hb)with e|hb
 . rw[e];exact I.free
 . obtain⟨_,o,ho,_⟩:=I.ok.funs.mem hb;exact I.base.free b o ho (I.ok.frf b hb) λz=>I.ok.exfs b z hb
def Inv.step{g':Array GenState}{t':Nat}{d':Drawn}{ch:List Yi}(I:Inv X aa Z H s)
 (cC:∀b∈ch,(b∈X.ex\/X.s₀.heap.objs.size<=b)/\b≠X.env.locals/\(∀x c,X.env.cells.lookup x=J c->c≠b)/\∀p∈X.pn++aa,p.1≠b)
 (keep:∀b o,b≠X.env.locals->b ∉ X.fs->b ∉ ch->s.heap.get? b=J o->H b=M->h'.get? b=J o)
 (slot:∀b o,b≠X.env.locals->b∈X.fs->b ∉ ch->s.heap.get? b=J o->H b=M->∃sl,h'.get? b=J {o with slots:=sl}) (free:∀b o,b ∉ ch->s.heap.get? b=J o->H b=M->H' b=M)
 (there:∀b o,b ∉ ch->s.heap.get? b=J o->∃o',h'.get? b=J o')
 (tups:∀b xs,H b=J (.tup xs)->H' b=J (.tup xs)) (frzs:∀b o u,H b=J (.frz o u)->H' b=J (.frz o u)) (tbls:∀b ps,H b=J (.tbl ps)->∃more,H' b=J (.tbl (ps++more)))
 (ns:∀m,s.heap.Ns X.env.locals m->h'.Ns X.env.locals m) (hok:HOk X.prog X.w H' h') (hg:AllBare g') :
 Inv X aa Z H' {s with heap:=h',gens:=g',drawn:=d',toks:=t'}:=by
 have eX:∀b o,X.s₀.heap.get? b=J o->b≠X.env.locals:=λb o e=>Ou (Ot (Ym e) I.ok.above);have gK:∀b o,X.s₀.heap.get? b=J o->b ∉ X.ex->b ∉ ch:=λb o e hx hb=>by
  rcases(cC b hb).1 with z|z
  . exact hx z
  . exact absurd (Ot (Ym e) z) (Yv _)
 have c8:∀x c,X.env.cells.lookup x=J c->∀v,s.heap.IsCell c v->h'.IsCell c v:=λx c e v ⟨o,ho,hd⟩=>by
  have fI:c ∉ ch:=λz=>(cC c z).2.2.1 x c e rfl;by_cases hc:c∈X.fs
  . obtain⟨sl,q⟩:=slot c o (I.cne x c e) hc fI ho (I.freeC x c e);exact⟨_,q,hd⟩
  . exact⟨o,keep c o (I.cne x c e) hc fI ho (I.freeC x c e),hd⟩
 refine⟨I.ok,I.os,hg,⟨λb o e n hb hx=>?_,λb o e n hb hx=>?_,λb o e n hx=>?_,λb o e hx=>?_,λb xs e=>tups b xs (I.base.tups b xs e),λb o xs e=>frzs b o xs (I.base.frzs b o xs e),λb ps e=>?_⟩,?_,λx c e=>?_,?_,λx c e=>?_,λp hp=>?_,hok,I.len⟩
 . exact keep b o (eX b o e) hb (gK b o e hx) (I.base.keep b o e n hb hx) (I.base.free b o e n hx)
 . obtain⟨sl,e1⟩:=I.base.slot b o e n hb hx;obtain⟨bG,e2⟩:=slot b _ (eX b o e) hb (gK b o e hx) e1 (I.base.free b o e n hx);exact⟨bG,e2⟩
 . obtain⟨o',e1⟩:=I.base.there b o e hx;exact free b o' (gK b o e hx) e1 (I.base.free b o e n hx)
 . obtain⟨o',e1⟩:=I.base.there b o e hx;exact there b o' (gK b o e hx) e1
 . obtain⟨m1,e1⟩:=I.base.tbls b ps e;obtain⟨m2,e2⟩:=tbls b _ e1;exact⟨m1++m2,by rw[e2,Array.append_assoc]⟩
 . obtain⟨m,hn,hl⟩:=I.loc;refine⟨m,ns m hn,λi x v e1 e2 e3=>?_⟩;obtain⟨u,r,l⟩:=hl i x v e1 e2 e3;refine⟨u,r,?_⟩;rcases l with l|⟨k,c,e,z⟩
   . exact .inl l
   . exact .inr ⟨k,c,e,c8 x c e _ z⟩
 . obtain⟨v,z⟩:=I.cell x c e;exact⟨v,c8 x c e v z⟩
 . obtain⟨m,⟨o,_,_,ho,_⟩,_⟩:=I.loc;exact free _ o (λz=>(cC _ z).2.1 rfl) ho I.free
 . obtain⟨v,o,ho,hd⟩:=I.cell x c e;exact free c o (λz=>(cC c z).2.2.1 x c e rfl) ho (I.freeC x c e)
 . obtain⟨e,n,ne,nf,d⟩:=I.pin p hp;have fI:p.1 ∉ ch:=λz=>(cC p.1 z).2.2.2 p hp rfl;exact⟨keep p.1 p.2 ne nf fI e n,free p.1 p.2 fI e n,ne,nf,d⟩
theorem Inv.un{t':Nat}(I:Inv X aa Z H s)(u:Un X.fs [] H H' s.heap h')(hok:HOk X.prog X.w H' h'):Inv X aa Z H' {s with heap:=h',toks:=t'}:=by
 obtain⟨m,⟨o,es,ep,ho,r⟩,_⟩:=id I.loc;obtain⟨sl,hL⟩:=u.any ho I.free (by simp);exact I.step (g':=s.gens) (d':=s.drawn) (ch:=[]) (λ_ z=>nomatch z) (λb o _ hb _ e n=>u.keep b o e n hb (by simp)) (λb o _ hb _ e n=>u.slot b o e n hb (by simp)) (λb o _ e n=>u.free b o e n (by simp)) (λb o _ e=>u.there b o e (by simp)) u.tups u.frzs u.tbls (λm' hm=>by
   obtain⟨o',g6,jG,bZ,r'⟩:=hm;rw [ho] at bZ;cases bZ;exact⟨_,g6,jG,hL,r'⟩) hok I.bare
theorem Inv.call{g':Array GenState}{t':Nat}{d':Drawn}{ch:List Yi}(I:Inv X aa Z H s)(u:Un (frs X.stack) ch H H' s.heap h')(hok:HOk X.prog X.w H' h')(hg:AllBare g')
   (cC:∀ b∈ch,(b∈X.ex\/X.s₀.heap.objs.size<=b)/\b≠X.env.locals/\(∀ x c,X.env.cells.lookup x=J c->c≠b)/\∀ p∈X.pn++aa,p.1≠b) :
   Inv X aa Z H' {s with heap:=h',gens:=g',drawn:=d',toks:=t'}:=by
 obtain⟨m,⟨o,es,ep,ho,r⟩,_⟩:=id I.loc;obtain⟨sl,hL⟩:=u.any ho I.free λz=>(cC _ z).2.1 rfl;exact I.step (ch:=ch) cC (λb o hL hb hc e n=>u.keep b o e n (λz=>(O3.mp (I.stkSub b z)).elim hL hb) hc) (λb o _ _ hc e n=>u.any e n hc) (λb o hc e n=>u.free b o e n hc) (λb o hc e=>u.there b o e hc) u.tups u.frzs u.tbls (λm' hm=>by
   obtain⟨o',g6,jG,bZ,r'⟩:=hm;rw [ho] at bZ;cases bZ;exact⟨_,g6,jG,hL,r'⟩) hok hg
def Inv.turned{t':Nat}{it:Yi}(I:Inv X aa Z H s)(k:∀b o,b≠it->s.heap.get? b=J o->h'.get? b=J o)(hn:H it=M)(hL:it≠X.env.locals)
 (R:it∈X.ex\/X.s₀.heap.objs.size<=it) (h2:∀x c,X.env.cells.lookup x=J c->c≠it) (h3:∀p∈X.pn++aa,p.1≠it):Inv X aa Z H {s with heap:=h',toks:=t'}:=by
 have cU:∀b u,H b=J u->b≠it:=λb u e z=>by rw[z,hn]at e;cases e
 refine I.step (g':=s.gens) (d':=s.drawn) (ch:=[it]) (λb hb=>?_) (λb o _ _ hc e _=>k b o (λz=>hc (by simp[z])) e) (λb o _ _ hc e _=>⟨o.slots,k b o (λz=>hc (by simp[z])) e⟩) (λ_ _ _ _ n=>n)
  (λb o hc e=>⟨o,k b o (λz=>hc (by simp[z])) e⟩) (λ_ _ e=>e) (λ_ _ _ e=>e) (λb ps e=>⟨#[],by rw[e];simp⟩) (λm hm=>?_) (λb u e=>?_) I.bare
 . have e:b=it:=by simpa using hb
   subst e;exact⟨R,hL,h2,h3⟩
 . obtain⟨o,es,ep,ho,r⟩:=hm;exact⟨o,es,ep,k _ o (YL hL) ho,r⟩
 . refine(I.hok b u e).stay (λc v hc q=>k c v ?_ q) (λ_ q=>q) λ_ _ q=>q;rcases hc with z|z
   . rw[z];exact cU b u e
   . exact cU c _ z
def Inv.tok(I:Inv X aa Z H s)(t:Nat):Inv X aa Z H {s with toks:=t}:=I.un (h':=s.heap) (t':=t) Un.refl I.hok
theorem Inv.kept{t':Nat}(I:Inv X aa Z H s)(k:∀b u,s.heap.get? b=J u->h'.get? b=J u):Inv X aa Z H {s with heap:=h',toks:=t'}:=I.un (Un.kept k) (I.hok.kept k)
theorem Inv.laid{a:Yi}{o:HO}{t':Nat}(I:Inv X aa Z H s)(k:∀b u,s.heap.get? b=J u->h'.get? b=J u)(hp:s.heap.objs.size<=a)(new:Zat X.prog X.w (upd H a o) h' a o):
 Inv X aa Z (upd H a o) {s with heap:=h',toks:=t'}:=I.un (Un.laid k hp (I.hok.fresh hp)) (I.hok.laid k hp new)
theorem Inv.write(I:Inv X aa Z H s)(mu:Mut (H x))(he:e=x\/H e=J (.own x))(k:∀b u,b≠e->s.heap.get? b=J u->h'.get? b=J u)(fh:∃u,h'.get? e=J u)
 (new:Zat X.prog X.w (upd H x o) h' x o):Inv X aa Z (upd H x o) {s with heap:=h',toks:=t'}:=I.un (Un.write mu he k fh) (I.hok.write mu he k fh new)
def Inv.weak(I:Inv X aa Z H s)(hl:σ'.length=Z.length)(w:∀(i:Nat) v,σ'[i]?=J (J v)->Z[i]?=J (J v)):Inv X aa σ' H s:=⟨I.ok,I.os,I.bare,I.base,let⟨m,hn,fV⟩:=I.loc;⟨m,hn,λi x v e1 e2 e3=>fV i x v e1 (w i v e2) e3⟩,I.cell,I.free,I.freeC,I.pin,I.hok,hl.trans I.len⟩
def Inv.pins_of(I:Inv X aa Z H s)(h:∀p∈fF,s.heap.get? p.1=J p.2/\H p.1=M/\p.1≠X.env.locals/\p.1 ∉ X.fs/\∀v,p.2.data≠.cell v):Inv X fF Z H s:=⟨I.ok,I.os,I.bare,I.base,I.loc,I.cell,I.free,I.freeC,λp hp=>(OD.mp hp).elim (λz=>I.pin p (Yr _ z)) (h p),I.hok,I.len⟩
def Zg7{N:List Str}(hN:N.Nodup){i j:Nat}{x:Str}(a:N[i]?=J x)(b:N[j]?=J x):i=j:=by obtain⟨R,e1⟩:=Ob.mp a;obtain⟨h2,e2⟩:=Ob.mp b;exact(List.getElem_inj hN).mp (e1.trans e2.symm)
def Zia{qd:Model}{A:YH}{Q:Unit->Yb->Prop}(I:Inv X aa Z H s)(hN:X.N.Nodup)(hi:X.N[i]?=J x)(hx:Loc X.env.scope x)(r:RelV v u)
 (h:∀s',Inv X aa (Z.set i (J v)) H s'->(∃a,Heap.SameBut a s.heap s'.heap/\(a=X.env.locals\/X.env.cells.lookup x=J a))->Q () s') (hf:X.fn x=Wx\/X.env.scope.names.lookup x=J .local:=by first|exact .inl rfl|exact .inr rfl|assumption):YB qd A (storeName X.env x u) Q E s:=by
 obtain⟨m,hn,hl⟩:=id I.loc;have ee:(X.env.scope.kind==.class||(X.env.scope.kind==.module&&X.env.locals != X.env.globals))=Wy:=by rw[I.ok.kind];rfl
 have hiσ:i<Z.length:=by rw[I.len];exact(Ob.mp hi).1
 have cne:=I.cne;have aH:∀{a:Yi}{h':YG},(∃o,s.heap.get? a=J o/\H a=M)->Heap.SameBut a s.heap h'->HOk X.prog X.w H h':=λ{a h'} ha hs b ob e=>by
  obtain⟨_,_,aC⟩:=ha;refine(I.hok b ob e).stay (λc w' hc q=>(hs.2 c ?_).trans q) (λ_ q=>q) λ_ _ q=>q;rintro rfl;rcases hc with rfl|hc
  . rw[aC]at e;cases e
  . rw[aC]at hc;cases hc
 rcases hx with hk|hk
 . refine wpAny_storeName_local hk hn (λh' dX hs=>?_) ee;obtain⟨oL,_,_,fc,_⟩:=id hn;refine h _ ⟨I.ok,I.os,I.bare,⟨λb o e n hb hx=>?_,λb o e n hb hx=>?_,I.base.free,λb o e hx=>?_,I.base.tups,I.base.frzs,I.base.tbls⟩,⟨_,dX,λj y v' e1 e2 e3=>?_⟩,λy c e=>?_,I.free,I.freeC,λp hp=>?_,aH ⟨oL,fc,I.free⟩ hs,by simpa using I.len⟩ ⟨_,hs,.inl rfl⟩
   . exact(hs.2 b (Ou (Ot (Ym e) I.ok.above))).trans (I.base.keep b o e n hb hx)
   . obtain⟨sl,e1⟩:=I.base.slot b o e n hb hx;exact⟨sl,(hs.2 b (Ou (Ot (Ym e) I.ok.above))).trans e1⟩
   . obtain⟨o',e1⟩:=I.base.there b o e hx;exact⟨o',(hs.2 b (Ou (Ot (Ym e) I.ok.above))).trans e1⟩
   . by_cases hj:j=i
     . subst hj;rw[hi]at e1;cases e1;rw[Ol hiσ]at e2;cases e2;exact⟨u,r,.inl ⟨hk,by simp⟩⟩
     . rw[Oc (YL hj)]at e2;obtain⟨u',r',q⟩:=hl j y v' e1 e2 e3;refine⟨u',r',?_⟩;rcases q with⟨k,e⟩|⟨k,c,e,z⟩
       . refine .inl ⟨k,?_⟩;have:y≠x:=λe=>hj (Zg7 hN e1 (e▸hi));simp[this,e]
       . exact .inr ⟨k,c,e,z.sameBut hs (cne y c e)⟩
   . obtain⟨w',z⟩:=I.cell y c e;exact⟨w',z.sameBut hs (cne y c e)⟩
   . obtain⟨e,n,ne,nf,d⟩:=I.pin p hp;exact⟨(hs.2 p.1 ne).trans e,n,ne,nf,d⟩
 . have jl:X.fn x=Wx:=by
    rcases hf with z|z
    . exact z
    . rw[z]at hk;cases hk
   obtain⟨c,hc⟩:=I.ok.has x (.inl hk);obtain⟨w',z⟩:=I.cell x c hc;refine wpAny_storeName_cell I.ok.kind hk hc z (λh' cF hs=>?_);obtain⟨oc,gP,jc⟩:=id z;refine h {s with heap:=h'} ⟨I.ok,I.os,I.bare,⟨λb o e n hb hx=>?_,λb o e n hb hx=>?_,I.base.free,λb o e hx=>?_,I.base.tups,I.base.frzs,I.base.tbls⟩,⟨m,hn.sameBut hs (YL (cne x c hc)),λj y v' e1 e2 e3=>?_⟩,λy c' e=>?_,I.free,I.freeC,λp hp=>?_,aH ⟨oc,gP,I.freeC x c hc⟩ hs,by simpa using I.len⟩ ⟨c,hs,.inr hc⟩
   . exact(hs.2 b (Ou (Ot (Ym e) (I.ok.cab x c jl hc)))).trans (I.base.keep b o e n hb hx)
   . obtain⟨sl,e1⟩:=I.base.slot b o e n hb hx;exact⟨sl,(hs.2 b (Ou (Ot (Ym e) (I.ok.cab x c jl hc)))).trans e1⟩
   . obtain⟨o',e1⟩:=I.base.there b o e hx;exact⟨o',(hs.2 b (Ou (Ot (Ym e) (I.ok.cab x c jl hc)))).trans e1⟩
   . by_cases hj:j=i
     . subst hj;rw[hi]at e1;cases e1;rw[Ol hiσ]at e2;cases e2;exact⟨u,r,.inr ⟨.inl hk,c,hc,cF⟩⟩
     . rw[Oc (YL hj)]at e2;obtain⟨u',r',q⟩:=hl j y v' e1 e2 e3;refine⟨u',r',?_⟩;rcases q with q|⟨k,c',e,z'⟩
       . exact .inl q
       . refine .inr ⟨k,c',e,z'.sameBut hs ?_⟩;rintro rfl;exact hj (Zg7 hN e1 (I.ok.inj _ _ _ e hc▸hi))
   . by_cases hcc:c'=c
     . subst hcc;exact⟨_,cF⟩
     . obtain⟨w2,z2⟩:=I.cell y c' e;exact⟨w2,z2.sameBut hs hcc⟩
   . obtain⟨e,n,ne,nf,d⟩:=I.pin p hp;refine⟨(hs.2 p.1 ?_).trans e,n,ne,nf,d⟩;intro q;rw[q,gP]at e;have q':oc=p.2:=YF e;exact d w' (by rw[<-q'];exact jc)
def ZdL(I:Inv X aa Z H s)(hN:X.N.Nodup)(hi:X.N[i]?=J x)(hx:Loc X.env.scope x)(r:RelV v u)
 (h:∀s',Inv X aa (Z.set i (J v)) H s'->Q () s') (hf:X.fn x=Wx\/X.env.scope.names.lookup x=J .local:=by first|exact .inl rfl|exact .inr rfl|assumption):YB qd A (storeName X.env x u) Q E s:=
 Zia I hN hi hx r (λs' I' _=>h s' I') hf
def Inv.call'(I:Inv X aa Z H s)(ho:s'.os=s.os)(u:Un (frs X.stack) ch H H' s.heap s'.heap)(hok:HOk X.prog X.w H' s'.heap)(hg:AllBare s'.gens)
 (cC:∀b∈ch,(b∈X.ex\/X.s₀.heap.objs.size<=b)/\b≠X.env.locals/\(∀x c,X.env.cells.lookup x=J c->c≠b)/\∀p∈X.pn++aa,p.1≠b):Inv X aa Z H' s':=by
 obtain⟨h',g',d',t',o'⟩:=s';have e:o'=s.os:=ho;subst e;exact I.call (g':=g') (t':=t') (d':=d') u hok hg cC
end
abbrev XK:=Yj->Option Yi->Hp->Prop
noncomputable abbrev St:=List (Option V)
abbrev VK:=V->Hp->Prop
abbrev TE:=St->Hp->VK->Prop
abbrev TT:=St->Hp->(Bool->Hp->Prop)->Prop
abbrev TA:=St->Hp->(List V->Hp->Prop)->Prop
structure Ends where
 nx:St->Hp->Prop
 rt:VK
 bk:St->Hp->Prop:=λ_ _=>False
 ct:St->Hp->Prop:=λ_ _=>False
abbrev TS:=Ends->St->Hp->Prop
def EP(X:Cx)(aa:List (Yi×Obj))(Z:St)(Q:VK)(u:Yj)(s':Yb):Prop:=∃v H',Inv X aa Z H' s'/\RelV v u/\Q v H'
def TP(X:Cx)(aa:List (Yi×Obj))(Z:St)(Q:Bool->Hp->Prop)(b:Bool)(s':Yb):Prop:=∃H',Inv X aa Z H' s'/\Q b H'
def AP(X:Cx)(aa:List (Yi×Obj))(Z:St)(Q:List V->Hp->Prop)(us:List Yj)(s':Yb):Prop:=∃vs H',Inv X aa Z H' s'/\Zs vs us/\Q vs H'
def SP(X:Cx)(aa:List (Yi×Obj))(D:Ends)(f:Flow)(s':Yb):Prop:=
 match f with
 |.next=>∃σ' H',Inv X aa σ' H' s'/\D.nx σ' H'
 |.brk=>∃σ' H',Inv X aa σ' H' s'/\D.bk σ' H'
 |.cont=>∃σ' H',Inv X aa σ' H' s'/\D.ct σ' H'
 |.ret u=>∃v σ' H',Inv X aa σ' H' s'/\RelV v u/\D.rt v H'
def PE(X:Cx)(e:Expr)(t:TE):Prop:=∀(aa:List (Yi×Obj)) (s:Yb) (Z:St) (H:Hp) (Q:VK),Inv X aa Z H s->t Z H Q->YB (model X.prog X.w) X.A (eval e X.env) (EP X aa Z Q) X.xe s
def PT(X:Cx)(e:Expr)(t:TT):Prop:=∀(aa:List (Yi×Obj)) (s:Yb) (Z:St) (H:Hp) (Q:Bool->Hp->Prop),Inv X aa Z H s->t Z H Q->YB (model X.prog X.w) X.A (isTrue e X.env (eval e X.env)) (TP X aa Z Q) X.xe s
def PW(X:Cx)(e:Expr)(t:TT):Prop:=∀(aP:Sem Yj) (aa:List (Yi×Obj)) (s:Yb) (Z:St) (H:Hp) (Q:Bool->Hp->Prop),Inv X aa Z H s->t Z H Q->YB (model X.prog X.w) X.A (isTrue e X.env aP) (TP X aa Z Q) X.xe s
def PW.pt(h:PW X e t):PT X e t:=h _
def PA(X:Cx)(es:List Expr)(t:TA):Prop:=∀(pos:Pos) (aa:List (Yi×Obj)) (s:Yb) (Z:St) (H:Hp) (Q:List V->Hp->Prop),Inv X aa Z H s->t Z H Q->YB (model X.prog X.w) X.A (spliced (YS pos (YA es X.env))) (AP X aa Z Q) X.xe s
def PS(X:Cx)(st:Stmt)(t:TS):Prop:=∀(aa:List (Yi×Obj)) (s:Yb) (Z:St) (H:Hp) (D:Ends),Inv X aa Z H s->t D Z H->YB (model X.prog X.w) X.A (exec st X.env) (SP X aa D) X.xe s
def PSs(X:Cx)(st:List Stmt)(t:TS):Prop:=∀(aa:List (Yi×Obj)) (s:Yb) (Z:St) (H:Hp) (D:Ends),Inv X aa Z H s->t D Z H->YB (model X.prog X.w) X.A (execs st X.env) (SP X aa D) X.xe s
def thn(h:YB qd A t Q E s)(hQ:∀a s,Q a s->Q' a s):YB qd A t Q' E s:=Yf h hQ λ_ _ x=>x
section
variable {X:Cx}
noncomputable def ZxF(i:Nat):TE:=λZ H Q=>∃v,Z[i]?=J (J v)/\Q v H
noncomputable def tC(v:V):TE:=λ_ H Q=>Q v H
def Zpw(hN:X.N[i]?=J x)(hv:Vis X.env.scope x)(hd:(x==("__debug__" : Str))=Wy:=by decide)(cE:(x==("__classdict__" : Str))=Wy:=by decide):PE X (.Name x pos) (ZxF i):=by
 intro aa s Z H Q I h;obtain⟨v,e,h⟩:=h;obtain⟨m,hn,hl⟩:=I.loc;obtain⟨u,r,l⟩:=hl i x v hN e hv;have fin:EP X aa Z Q u s:=⟨v,H,I,r,h⟩
 rcases l with⟨hk,hm⟩|⟨hk,c,hc,aW⟩
 . exact wpAny_Name (wpAny_loadName_local I.ok.kind hk hn hm fin) hd
 . rcases hk with hk|hk
   . exact wpAny_Name (wpAny_loadName_cell I.ok.kind hk hc aW fin) hd
   . exact wpAny_Name (wpAny_loadName_free I.ok.kind hk hc aW fin cE) hd
def Zum{i j pos}:PE X (.Constant (.int i) j pos) (tC (.int i)):=λ_ _ _ H _ I h=>wpAny_Constant_int ⟨.int i,H,I.tok _,⟨_,rfl⟩,h⟩
def Zww{b j pos}:PE X (.Constant (.bool b) j pos) (tC (.bl b)):=λ_ _ _ H _ I h=>Constant_bool ⟨.bl b,H,I,rfl,h⟩
def Zul{j pos}:PE X (.Constant .none j pos) (tC .non):=λ_ _ _ H _ I h=>Constant_none ⟨.non,H,I,rfl,h⟩
def Zpx{x j pos}:PE X (.Constant (.str x) j pos) (tC (.str x)):=λ_ _ _ H _ I h=>Calls.Constant_str ⟨.str x,H,I.tok _,⟨_,rfl⟩,h⟩
def Gl(X:Cx)(x:Str):Prop:=X.env.kindOf x=J .globalImplicit
def Zdc(I:Inv X aa Z H s)(hg:Gl X x)(hm:X.mg x=J u)(h:Q u s)
 (hd:(x==("__debug__" : Str))=Wy:=by decide):YB (model X.prog X.w) X.A (eval (.Name x pos) X.env) Q E s:=
 Calls.Name_function_global I.ok.kind hg (Calls.loadGlobal_global (by rw[I.ok.glob];exact I.mod.glob.keeps I.bk) hm h) hd
def Zdd(I:Inv X aa Z H s)(hg:Gl X x)(hm:X.mg x=M)(hv:bootBuiltins x=J u)(h:Q u s)
 (hn:x ≠ "__name__" := by decide) (hd:(x==("__debug__" : Str))=Wy:=by decide):YB (model X.prog X.w) X.A (eval (.Name x pos) X.env) Q E s:=by
 obtain⟨mb,R,h2⟩:=I.mod.blt;exact Calls.Name_function_global I.ok.kind hg (Calls.loadGlobal_builtin (by rw[I.ok.glob];exact I.mod.glob.keeps I.bk) hm (by rw[I.ok.blt];exact R.keeps I.bk) ((h2 x hn).trans hv) h) hd
def Zmt(hg:Gl X x)(hm:X.mg x=J u)(r:RelV v u)(hd:(x==("__debug__" : Str))=Wy:=by decide):PE X (.Name x pos) (tC v):=λ_ _ _ H _ I h=>Zdc I hg hm ⟨v,H,I,r,h⟩ hd
def ZrH(hg:Gl X x)(hm:X.mg x=M)(hv:bootBuiltins x=J u)(r:RelV v u)(hn:x ≠ "__name__" := by decide)(hd:(x==("__debug__" : Str))=Wy:=by decide):PE X (.Name x pos) (tC v):=λ_ _ _ H _ I h=>Zdd I hg hm hv ⟨v,H,I,r,h⟩ hn hd
variable {a b:Expr}{ta tb:TE}{pos:Pos}
variable {tA gB:TT}{rest:List Expr}
noncomputable def ZxT(t u:TT):TT:=λZ H Q=>t Z H λc H1=>if c=Wx then u Z H1 Q else Q Wy H1
noncomputable def tOr(t u:TT):TT:=λZ H Q=>t Z H λc H1=>if c=Wx then Q Wx H1 else u Z H1 Q
noncomputable def ZxL(t:TT):TT:=λZ H Q=>t Z H λc H1=>Q (!c) H1
def Zro(ha:PT X a tA):PW X (.BoolOp .And [a] pos) tA:=by
 intro wh aa s Z H Q I h;refine isTrue_and (thn (ha aa s Z H Q I h) λc s1 e=>?_);cases c with
 |true=>exact isTrue_and_nil e
 |false=>exact e
def Zt6(ha:PT X a tA):PW X (.BoolOp .Or [a] pos) tA:=by
 intro wh aa s Z H Q I h;refine isTrue_or (thn (ha aa s Z H Q I h) λc s1 e=>?_);cases c with
 |false=>exact isTrue_or_nil e
 |true=>exact e
def Zt7(ha:PT X a tA)(hb:PW X (.BoolOp .And (b::rest) pos) gB):PW X (.BoolOp .And (a::b::rest) pos) (ZxT tA gB):=by
 intro wh aa s Z H Q I h;refine isTrue_and (thn (ha aa s Z H _ I h) λc s1 ⟨H1,I1,q1⟩=>?_);cases c with
 |true=>exact hb wh aa s1 Z H1 Q I1 q1
 |false=>exact⟨H1,I1,q1⟩
def Zwn(ha:PT X a tA)(hb:PW X (.BoolOp .Or (b::rest) pos) gB):PW X (.BoolOp .Or (a::b::rest) pos) (tOr tA gB):=by
 intro wh aa s Z H Q I h;refine isTrue_or (thn (ha aa s Z H _ I h) λc s1 ⟨H1,I1,q1⟩=>?_);cases c with
 |true=>exact⟨H1,I1,q1⟩
 |false=>exact hb wh aa s1 Z H1 Q I1 q1
def Zt9(ha:PT X a tA):PT X (.UnaryOp .Not a pos) (ZxL tA):=by intro aa s Z H Q I h;exact isTrue_not (ha aa s Z H (λc H1=>Q (!c) H1) I h)
def ZvZ(ta tb:TE):TE:=λZ H Q=>ta Z H λx H1=>∃c,x=.bl c/\if c=Wx then tb Z H1 Q else Q (.bl Wy) H1
def ZxK(ta tb:TE):TE:=λZ H Q=>ta Z H λx H1=>∃c,x=.bl c/\if c=Wx then Q (.bl Wx) H1 else tb Z H1 Q
noncomputable def ZvT(ta:TE):TE:=λZ H Q=>ta Z H λx H1=>∃c,x=.bl c/\Q (.bl (!c)) H1
def Zpz{op}(h:PE X a t):PE X (.BoolOp op [a] pos) t:=λaa s Z H Q I hw=>BoolOp_one (h aa s Z H Q I hw)
def Zuq(ha:PE X a ta)(hb:PE X (.BoolOp .And (b::rest) pos) tb):PE X (.BoolOp .And (a::b::rest) pos) (ZvZ ta tb):=by
 intro aa s Z H Q I h;refine BoolOp_and (thn (ha aa s Z H _ I h) λv s1 ⟨x,H1,I1,r1,q1⟩=>?_);obtain⟨c,rfl,q1⟩:=q1;cases r1;refine wpAny_truthy_bool ?_;cases c with
 |true=>exact hb aa s1 Z H1 Q I1 q1
 |false=>exact⟨.bl Wy,H1,I1,rfl,q1⟩
def Zws(ha:PE X a ta)(hb:PE X (.BoolOp .Or (b::rest) pos) tb):PE X (.BoolOp .Or (a::b::rest) pos) (ZxK ta tb):=by
 intro aa s Z H Q I h;refine BoolOp_or (thn (ha aa s Z H _ I h) λv s1 ⟨x,H1,I1,r1,q1⟩=>?_);obtain⟨c,rfl,q1⟩:=q1;cases r1;refine wpAny_truthy_bool ?_;cases c with
 |false=>exact hb aa s1 Z H1 Q I1 q1
 |true=>exact⟨.bl Wx,H1,I1,rfl,q1⟩
def Zuk(ha:PE X a ta):PE X (.UnaryOp .Not a pos) (ZvT ta):=by intro aa s Z H Q I h;refine UnaryOp_ (thn (ha aa s Z H _ I h) λv s1 ⟨x,H1,I1,r1,q1⟩=>?_);obtain⟨c,rfl,q1⟩:=q1;cases r1;exact not_of (wpAny_truthy_bool ⟨.bl (!c),H1,I1,rfl,q1⟩)
def tIf(t:TT)(ta tb:TE):TE:=λZ H Q=>t Z H λc H1=>if c=Wx then ta Z H1 Q else tb Z H1 Q
def ZpD(hc:PT X c tA)(ha:PE X a ta)(hb:PE X b tb):PE X (.IfExp c a b pos) (tIf tA ta tb):=by
 intro aa s Z H Q I h;refine wpAny_IfExp (thn (hc aa s Z H _ I h) λd s1 ⟨H1,I1,q1⟩=>?_);cases d with
 |true=>exact ha aa s1 Z H1 Q I1 q1
 |false=>exact hb aa s1 Z H1 Q I1 q1
end
def SqL(K:Yk)(H:Hp)(a:Yi)(xs:List V):Prop:=
 Rd H a (.lst xs) \/
  ∃(o:Obj) (its:Array Yj) (n:Nat),K.lookup a=J o/\o.cls=.type "list" /\ o.dict=M/\o.data=.seq its n/\its.size<=sizeLine/\Zs xs its.toList
def SqT(K:Yk)(H:Hp)(a:Yi)(xs:List V):Prop:=
 Rd H a (.tup xs) \/
  ∃(o:Obj) (its:Array Yj) (n:Nat),K.lookup a=J o/\o.cls=.type "tuple" /\ o.data=.seq its n/\its.size<=sizeLine/\Zs xs its.toList
noncomputable def Zyx:Yj->Option V
 |.none=>J .non
 |.bool b=>J (.bl b)
 |.int i _=>J (.int i)
 |.str x _=>J (.str x)
 |.bytes b _=>J (.byt b)
 |.float b _=>J (.flt b)
 |.ref a=>J (.ref a)
 |.type n=>J (.ty n)
 |_=>M
def RelV.abs(r:RelV x u):Zyx u=J x:=by
 cases x with
 |non=>cases r;rfl
 |bl _=>cases r;rfl
 |int _=>obtain⟨t,rfl⟩:=r;rfl
 |str _=>obtain⟨t,rfl⟩:=r;rfl
 |byt _=>obtain⟨t,rfl⟩:=r;rfl
 |flt _=>obtain⟨t,rfl⟩:=r;rfl
 |ref _=>cases r;rfl
 |ty _=>cases r;rfl
def RelV.inj(r:RelV x u)(q:RelV y u):x=y:=YF (r.abs.symm.trans q.abs)
theorem Zs.inj:∀{xs ys:List V}{us:List Yj},Zs xs us->Zs ys us->xs=ys
 |_,_,_,.nil,.nil=>rfl
 |_,_,_,.cons r t,.cons r' t'=>by rw[r.inj r',Zs.inj t t']
section
variable {X:Cx}{aa:List (Yi×Obj)}{Z:St}{H:Hp}{s:Yb}{a:Yi}{xs ys:List V}
def SqL.of{K:Yk}(h:H a=J (.lst xs)):SqL K H a xs:=.inl (.inl h)
def Inv.list(I:Inv X aa Z H s)(h:SqL X.K H a xs):∃its:List Yj,Zs xs its/\PlainL s.heap a its.toArray/\xs.length<=sizeLine:=by
 rcases h with h|⟨o,its,n,hk,hc,hd,hs,hz,r⟩
 . obtain⟨z,its,n,r,e⟩:=h.ok I.hok;exact⟨its,r,⟨_,n,e,rfl,rfl,rfl⟩,z⟩
 . refine⟨its.toList,r,⟨o,n,I.kIn a o hk,hc,hd,by simpa using hs⟩,?_⟩;have e:=r.length;simp only[Array.length_toList]at e
   lia
def Inv.tuple(I:Inv X aa Z H s)(h:SqT X.K H a xs):∃its:List Yj,Zs xs its/\IsTup s.heap a its.toArray/\xs.length<=sizeLine:=by
 rcases h with h|⟨o,its,n,hk,hc,hs,hz,r⟩
 . obtain⟨z,its,r,p⟩:=h.ok I.hok;exact⟨its,r,p.tup,z⟩
 . refine⟨its.toList,r,⟨o,I.kIn a o hk,hc,n,by simpa using hs⟩,?_⟩;have e:=r.length;simp only[Array.length_toList]at e
   lia
def Inv.list_inj(I:Inv X aa Z H s)(h:SqL X.K H a xs)(h':SqL X.K H a ys):xs=ys:=by
 obtain⟨its,r,⟨o,n,e,_,_,d⟩,_⟩:=I.list h;obtain⟨its',r',⟨o',n',e',_,_,d'⟩,_⟩:=I.list h';rw[e]at e';cases e';rw[d]at d';injection d' with d1 _;have:its=its':=by simpa using congrArg Array.toList d1
 subst this;exact r.inj r'
def Inv.tuple_inj(I:Inv X aa Z H s)(h:SqT X.K H a xs)(h':SqT X.K H a ys):xs=ys:=by
 obtain⟨its,r,⟨o,e,_,n,d⟩,_⟩:=I.tuple h;obtain⟨its',r',⟨o',e',_,n',d'⟩,_⟩:=I.tuple h';rw[e]at e';cases e';rw[d]at d';injection d' with d1 _;have:its=its':=by simpa using congrArg Array.toList d1
 subst this;exact r.inj r'
end
noncomputable abbrev Cx.wish(X:Cx)(E:Yj->Yb->Prop):Cx:={X with xe:=E}
abbrev Cx.nox(X:Cx):Cx:=X.wish λ_ _=>False
theorem Cx.Ok.wish{X:Cx}(ok:X.Ok)(E:Yj->Yb->Prop):(X.wish E).Ok:=⟨ok.mod,ok.kind,ok.glob,ok.blt,ok.above,ok.inj,ok.has,ok.cab,ok.hd,ok.frames,ok.stk,ok.exf,ok.bs,ok.bsz,ok.noex,ok.exfs,ok.funs,ok.frf⟩
def Cx.Ok.unwish{X:Cx}{E:Yj->Yb->Prop}(ok:(X.wish E).Ok):X.Ok:=⟨ok.mod,ok.kind,ok.glob,ok.blt,ok.above,ok.inj,ok.has,ok.cab,ok.hd,ok.frames,ok.stk,ok.exf,ok.bs,ok.bsz,ok.noex,ok.exfs,ok.funs,ok.frf⟩
section
variable {X:Cx}{aa:List (Yi×Obj)}{Z:St}{H:Hp}{s:Yb}{E:Yj->Yb->Prop}
theorem Inv.wish(I:Inv X aa Z H s)(E:Yj->Yb->Prop):Inv (X.wish E) aa Z H s:=⟨I.ok.wish E,I.os,I.bare,I.base,I.loc,I.cell,I.free,I.freeC,I.pin,I.hok,I.len⟩
theorem Inv.unwish(I:Inv (X.wish E) aa Z H s):Inv X aa Z H s:=⟨I.ok.unwish,I.os,I.bare,I.base,I.loc,I.cell,I.free,I.freeC,I.pin,I.hok,I.len⟩
end
section
variable {X:Cx}{st:Stmt}{rest:List Stmt}{t u:TS}{e:Expr}{te:TE}{pos:Pos}
noncomputable def Zs2:TS:=λD Z H=>D.nx Z H
noncomputable def ZxI(t u:TS):TS:=λD Z H=>t {D with nx:=u D} Z H
def Zrr:PSs X [] Zs2:=λ_ _ Z H _ I h=>wpAny_execs_nil ⟨Z,H,I,h⟩
def Zpm(R:PS X st t)(h2:PSs X rest u):PSs X (st::rest) (ZxI t u):=by
 intro aa s Z H D I h;refine wpAny_execs_cons (thn (R aa s Z H {D with nx:=u D} I h) λf s1 q=>?_);cases f with
 |next=>obtain⟨σ',H',I',q⟩:=q;exact h2 aa s1 σ' H' D I' q
 |ret v=>exact q
 |brk=>exact q
 |cont=>exact q
def Zrq(R:PS X st t):PSs X [st] t:=by
 intro aa s Z H D I h;refine wpAny_execs_cons (thn (R aa s Z H D I h) λf s1 q=>?_);cases f with
 |next=>exact wpAny_execs_nil q
 |ret v=>exact q
 |brk=>exact q
 |cont=>exact q
noncomputable def ZtK:TS:=λD Z H=>D.bk Z H
noncomputable def ZvX:TS:=λD Z H=>D.ct Z H
def Zrs:PS X (.Pass pos) Zs2:=λ_ _ Z H _ I h=>wpAny_Pass ⟨Z,H,I,h⟩
def Zpq:PS X (.Break pos) ZtK:=λ_ _ Z H _ I h=>wpAny_Break ⟨Z,H,I,h⟩
def ZjW:PS X (.Continue pos) ZvX:=λ_ _ Z H _ I h=>wpAny_Continue ⟨Z,H,I,h⟩
def Inv.quiet(I:Inv X aa Z H s):interactive X.env=Wy:=by simp[interactive,I.ok.kind]
noncomputable def ZvV(te:TE):TS:=λD Z H=>te Z H λ_ H1=>D.nx Z H1
def Zrt(he:PE X e te)(hs:swapsWith e M pos.line X.env=pure Wy:=by rfl):PS X (.Expr e pos) (ZvV te):=by intro aa s Z H D I h;exact wpAny_Expr_any (thn (he aa s Z H _ I h) λv s1 ⟨x,H1,I1,r1,q1⟩=>⟨Z,H1,I1,q1⟩) I.quiet hs
noncomputable def ZxJ(te:TE):TS:=λD Z H=>te Z H D.rt
def Zua(he:PE X e te):PS X (.Return (J e) pos) (ZxJ te):=by intro aa s Z H D I h;exact wpAny_Return_some (thn (he aa s Z H _ I h) λv s1 ⟨x,H1,I1,r1,q1⟩=>⟨x,Z,H1,I1,r1,q1⟩)
noncomputable def ZxN(c:TT)(t u:TS):TS:=λD Z H=>c Z H λb H1=>if b=Wx then t D Z H1 else u D Z H1
def Zwp(hc:PT X c tc)(ha:PSs X a t)(hb:PSs X b u):PS X (.If c a b pos) (ZxN tc t u):=by
 intro aa s Z H D I h;refine wpAny_If (thn (hc aa s Z H _ I h) λd s1 ⟨H1,I1,q1⟩=>?_);cases d with
 |true=>exact ha aa s1 Z H1 D I1 q1
 |false=>exact hb aa s1 Z H1 D I1 q1
end
abbrev TG:=V->St->Hp->(St->Hp->Prop)->Prop
abbrev TGs:=List V->St->Hp->(St->Hp->Prop)->Prop
def PG(X:Cx)(target:Expr)(t:TG):Prop:=
 ∀(aa:List (Yi×Obj)) (s:Yb) (Z:St) (H:Hp) (v:V) (u:Yj) (Q:St->Hp->Prop),Inv X aa Z H s->RelV v u->t v Z H Q ->
  YB (model X.prog X.w) X.A (assign target X.env u) (λ_ s'=>∃σ' H',Inv X aa σ' H' s'/\Q σ' H') X.xe s
def PGs(X:Cx)(ts:List Expr)(t:TGs):Prop:=
 ∀(aa:List (Yi×Obj)) (s:Yb) (Z:St) (H:Hp) (vs:List V) (us:List Yj) (Q:St->Hp->Prop),Inv X aa Z H s->Zs vs us->t vs Z H Q ->
  YB (model X.prog X.w) X.A (assignInOrder ((assignEach ts X.env).map (·.2)) us) (λ_ s'=>∃σ' H',Inv X aa σ' H' s'/\Q σ' H') X.xe s
abbrev ZsU:=V->V->V->Hp->(Hp->Prop)->Prop
def ZsV(X:Cx)(t:ZsU):Prop:=
 ∀(aa:List (Yi×Obj)) (s:Yb) (Z:St) (H:Hp) (o i v:V) (ov iv u:Yj) (Q:Hp->Prop),Inv X aa Z H s->RelV o ov->RelV i iv->RelV v u->t o i v H Q ->
  YB (model X.prog X.w) X.A (setItem ov iv u) (λ_ s'=>∃H',Inv X aa Z H' s'/\Q H') X.xe s
abbrev TIp:=V->V->Hp->VK->Prop
def PIp(X:Cx)(op:Operator)(t:TIp):Prop:=
 ∀(aa:List (Yi×Obj)) (s:Yb) (Z:St) (H:Hp) (x y:V) (v u:Yj) (Q:VK),Inv X aa Z H s->RelV x v->RelV y u->t x y H Q ->
  YB (model X.prog X.w) X.A (inplaceOp op v u) (EP X aa Z Q) X.xe s
section
variable {X:Cx}{pos:Pos}
noncomputable def Zdr(i:Nat):TG:=λv Z H Q=>Q (Z.set i (J v)) H
def Zms(hN:X.N.Nodup)(hi:X.N[i]?=J x)(hx:Loc X.env.scope x)(hf:X.fn x=Wx\/X.env.scope.names.lookup x=J .local:=by first|exact .inl rfl|exact .inr rfl|assumption):PG X (.Name x pos) (Zdr i):=by intro aa s Z H v u Q I r h;exact wpAny_assign_Name (ZdL I hN hi hx r (λs' I'=>⟨_,H,I',h⟩) hf)
noncomputable def Zsm:TGs:=λvs Z H Q=>vs=[]/\Q Z H
noncomputable def Zkg(t:TG)(u:TGs):TGs:=λvs Z H Q=>∃v r,vs=v::r/\t v Z H λσ' H'=>u r σ' H' Q
def Zmq:PGs X [] Zsm:=by intro aa s Z H vs us Q I r h;obtain⟨e,h⟩:=h;subst e;cases r;exact assignInOrder_nil ⟨Z,H,I,h⟩
def Zg3(R:PG X e t)(h2:PGs X es u)
 (hs:(assignEach (e::es) X.env).map (·.2)=assign e X.env::(assignEach es X.env).map (·.2):=by rfl):PGs X (e::es) (Zkg t u):=by
 intro aa s Z H vs us Q I r h;obtain⟨v,vr,e1,h⟩:=h;subst e1;cases r with
 |cons r rr=>rw[hs];refine assignInOrder_cons (thn (R aa s Z H _ _ _ I r h) λ_ s1 ⟨σ1,H1,I1,q1⟩=>?_);exact h2 aa s1 σ1 H1 _ _ Q I1 rr q1
noncomputable def Zsl(K:Yk)(n:Nat)(t:TGs):TG:=λv Z H Q=>∃a xs,v=.ref a/\SqT K H a xs/\xs.length=n/\t xs Z H Q
def Zpv(hc:X.calm=Wx)(h:PGs X es t)
 (hn:(assignEach es X.env).length=n:=by rfl) (hst:(assignEach es X.env).findIdx? (·.1)=M:=by rfl):PG X (.Tuple es k pos) (Zsl X.K n t):=by
 intro aa s Z H v u Q I r hw;obtain⟨a,xs,e1,hq,hl,hw⟩:=hw;subst e1;cases r;obtain⟨its,rv,ht,hz⟩:=I.tuple hq;refine assign_Tuple_tuple (I.ok.hd hc) ht (by simp[hn,<-hl,rv.length]) hst λh' hx=>?_;have I1:Inv X aa Z H {s with heap:=h'}:=I.kept (t':=s.toks) λb o e=>hx b o (Ou (Ym e)) e;exact h aa _ Z H xs _ Q I1 (by simpa using rv) hw
noncomputable def Zyf(to ti:TE)(t:ZsU):TG:=λv Z H Q=>to Z H λo H1=>ti Z H1 λi H2=>t o i v H2 λH3=>Q Z H3
def Zuh(ho:PE X o to)(hi:PE X i ti)(hs:ZsV X t)
 (ha:∀v,assign (.Subscript o i pos) X.env v=(do
  let ov <- holding [v] (eval o X.env);let iv <- holding [v,ov] (eval i X.env)
  standAt pos
  holding [v,ov,iv] (setItem ov iv v)
  release [v,ov,iv] []):=by intro _;rfl):PG X (.Subscript o i pos) (Zyf to ti t):=by
 intro aa s Z H v u Q I r h;rw[ha];refine Ya (Wh (thn (ho aa s Z H _ I h) λov s1 ⟨x,H1,I1,r1,q1⟩=>?_));refine Ya (Wh (thn (hi aa s1 Z H1 _ I1 q1) λiv s2 ⟨y,H2,I2,r2,q2⟩=>?_));refine Ya (wpAny_standAt (Ya (Wh (thn (hs aa s2 Z H2 x y v ov iv u _ I2 r1 r2 r q2) λ_ s3 ⟨H3,I3,q3⟩=>?_))));exact wpAny_release ⟨Z,H3,I3,q3⟩
noncomputable def ZkZ(te:TE)(g:TG):TS:=λD Z H=>te Z H λx H1=>g x Z H1 D.nx
def Zpr(he:PE X e te)(hg:PG X tg g)(hs:swapsWithSole [tg] e pos.line X.env=pure Wy:=by rfl)(hw:swappedStores [tg] e X.env=pure M:=by rfl)
 (R:(assignEach [tg] X.env).map (·.2)=[assign tg X.env]:=by rfl):PS X (.Assign [tg] e pos) (ZkZ te g):=by
 intro aa s Z H D I h;refine wpAny_Assign_stores (thn (he aa s Z H _ I h) λv s1 ⟨x,H1,I1,r1,q1⟩=>?_) hs hw;rw[R];exact thn (hg aa s1 Z H1 x v _ I1 r1 q1) λ_ s2 q=>q
def Zlh(hN:X.N.Nodup)(hi:X.N[i]?=J x)(hx:Loc X.env.scope x)(he:PE X e te)(hs:swapsWith e (J (.Name x pos')) pos.line X.env=pure Wy:=by rfl)(hf:X.fn x=Wx\/X.env.scope.names.lookup x=J .local:=by first|exact .inl rfl|exact .inr rfl|assumption):
 PS X (.Assign [.Name x pos'] e pos) (ZkZ te (Zdr i)):=by
 intro aa s Z H D I h;refine wpAny_Assign_Name (thn (he aa s Z H _ I h) λv s1 ⟨y,H1,I1,r1,q1⟩=>?_) hs;exact ZdL I1 hN hi hx r1 (λs2 I2=>⟨_,H1,I2,q1⟩) hf
noncomputable def ZxS(i:Nat)(te:TE)(ti:TIp):TS:=λD Z H=>∃x,Z[i]?=J (J x)/\te Z H λy H1=>ti x y H1 λz H2=>D.nx (Z.set i (J z)) H2
def Zud(hN:X.N.Nodup)(hi:X.N[i]?=J x)(hx:Loc X.env.scope x)(he:PE X e te)(ho:PIp X op ti)(hf:X.fn x=Wx\/X.env.scope.names.lookup x=J .local:=by first|exact .inl rfl|exact .inr rfl|assumption):
 PS X (.AugAssign (.Name x pos') op e pos) (ZxS i te ti):=by
 intro aa s Z H D I h;obtain⟨v,e1,h⟩:=h;obtain⟨m,hn,hl⟩:=I.loc;have vis:Vis X.env.scope x:=by rcases hx with k|k;exact .inl k;exact .inr (.inl k)
 obtain⟨u,r,l⟩:=hl i x v hi e1 vis;refine wpAny_AugAssign_Name ?_;have go:YB (model X.prog X.w) X.A (eval e X.env) (λw s₂=>YB (model X.prog X.w) X.A (inplaceOp op u w) (λr s₃=>YB (model X.prog X.w) X.A (storeName X.env x r) (λ_=>SP X aa D .next) X.xe s₃) X.xe s₂) X.xe s:=by refine thn (he aa s Z H _ I h) λw s1 ⟨y,H1,I1,r1,q1⟩=>?_;refine thn (ho aa s1 Z H1 v y u w _ I1 r r1 q1) λz s2 ⟨zv,H2,I2,r2,q2⟩=>?_;exact ZdL I2 hN hi hx r2 (λs3 I3=>⟨_,H2,I3,q2⟩) hf
 rcases l with⟨hk,hm⟩|⟨hk,c,hc,aW⟩
 . exact wpAny_loadName_local I.ok.kind hk hn hm go
 . rcases hk with hk|hk
   . exact wpAny_loadName_cell I.ok.kind hk hc aW go
   . rcases hx with k|k
     . have:X.env.scope.names.lookup x=J .free:=hk;rw[k]at this;cases this
     . have:X.env.scope.names.lookup x=J .free:=hk;rw[k]at this;cases this
noncomputable def ipI(f:Int->Int->Int):TIp:=λx y H Q=>∃i j,x=.int i/\y=.int j/\Q (.int (f i j)) H
def Zu2:PIp X .Add (ipI λi j=>i+j):=by intro aa s Z H x y v u Q I r1 r2 h;obtain⟨i,j,e1,e2,q⟩:=h;subst e1;subst e2;obtain⟨t,rfl⟩:=r1;obtain⟨t',rfl⟩:=r2;exact iadd_int ⟨.int _,H,I.tok _,⟨_,rfl⟩,q⟩
def ZoO(c:TT)(tb:TS):TS:=λD Z H=>∃W:Nat->St->Hp->Prop,(∃m,W m Z H)/\∀m Z H,W m Z H ->
 c Z H λb H1=>if b=Wx then ∃N:St->Hp->Prop,(∀σ' H',N σ' H'->∃m',m'<m/\W m' σ' H')/\tb {D with nx:=N,ct:=N,bk:=D.nx} Z H1 else D.nx Z H1
def Zpn(hp:PassesOwn (model X.prog X.w) X.A X.env X.xe)(hc:PT X c tc)(hb:PSs X body tb):PS X (.While c body [] pos) (ZoO tc tb):=by
 intro aa s Z H D I h;obtain⟨W,⟨m0,w0⟩,turn⟩:=h;refine wpAny_While (codeAny_whileLoop (λn s'=>∃σ' H',Inv X aa σ' H' s'/\W n σ' H') ?_ m0 ⟨Z,H,I,w0⟩);rintro n s1 ⟨σ1,H1,I1,w1⟩;refine wpAny_passesOwn hp (thn (hc aa s1 σ1 H1 _ I1 (turn n σ1 H1 w1)) λb s2 ⟨H2,I2,q2⟩=>?_);cases b with
 |true=>
  obtain⟨N,hN,q2⟩:=q2;rw[if_pos rfl];refine wpAny_passesOwn hp (thn (hb aa s2 σ1 H2 _ I2 q2) λf s3 q3=>?_);cases f with
  |next=>obtain⟨σ3,H3,I3,n3⟩:=q3;obtain⟨m',hm,w3⟩:=hN σ3 H3 n3;exact⟨m',hm,σ3,H3,I3,w3⟩
  |cont=>obtain⟨σ3,H3,I3,n3⟩:=q3;obtain⟨m',hm,w3⟩:=hN σ3 H3 n3;exact⟨m',hm,σ3,H3,I3,w3⟩
  |brk=>exact q3
  |ret v=>exact q3
 |false=>rw[if_neg Ow];exact wpAny_execs_nil ⟨σ1,H2,I2,q2⟩
end
structure It where
 go:Nat->Hp->Prop
 yld:Nat->Hp->V->Hp->Prop
 stop:Nat->Hp->Prop
def Zb7(X:Cx)(aa:List (Yi×Obj))(H:Hp)(b:Yi):Prop:=H b=M/\b≠X.env.locals/\b ∉ X.fs/\(b∈X.ex\/X.s₀.heap.objs.size<=b)/\(∀x c,X.env.cells.lookup x=J c->c≠b)/\∀p∈X.pn++aa,p.1≠b
def Inv.fpOk(I:Inv X aa Z H s)(hb:s.heap.objs.size<=b)(hn:H' b=M):Zb7 X aa H' b:=by
 refine⟨hn,Nat.ne_of_gt (Ot I.lt hb),I.nofs hb,.inr (OE I.sz hb),λx c e z=>?_,λp hp z=>?_⟩
 . obtain⟨v,q⟩:=I.cell x c e;exact absurd (Ot q.lt (by rw[z];exact hb)) (Yv _)
 . exact absurd (Ot (Ym (I.pin p hp).1) (by rw[z];exact hb)) (Yv _)
structure Turn(P:Yh)(w:Yg)(K:Yk)(tg:Expr)(qb:It)(fp:List Yi)(it:Yi)(tn:Nat->YG->Prop):Prop where
 mem:it∈fp
 obj:∀i h,tn i h->∀b∈fp,∃o,h.get? b=J o/\∀v,o.data≠.cell v
 keep:∀i h h',tn i h->(∀b∈fp,∀o,h.get? b=J o->h'.get? b=J o)->tn i h'
 item:∀(X:Cx),X.prog=P->X.w=w->X.K=K->X.calm=Wx->∀(i:Nat) (aa:List (Yi×Obj)) (s:Yb) (Z:St) (H:Hp) (E:Yj->Yb->Prop),Inv X aa Z H s->(∀b∈fp,Zb7 X aa H b)->tn i s.heap->qb.go i H ->
  YB (model P w) X.A (pyNext (.ref it)) (λr s1=>∃u,r=J u /\
   YB (model P w) X.A (letOwnedTupleGo tg (.ref it) u) (λ_ s2=>∃x H',Inv X aa Z H' s2/\RelV x u/\qb.yld i H x H'/\tn (i+1) s2.heap/\∀b∈fp,H' b=M) E s1) E s
 done:∀(X:Cx),X.prog=P->X.w=w->X.K=K->X.calm=Wx->∀(i:Nat) (aa:List (Yi×Obj)) (s:Yb) (Z:St) (H:Hp) (E:Yj->Yb->Prop),Inv X aa Z H s->(∀b∈fp,Zb7 X aa H b)->tn i s.heap->qb.stop i H ->
  YB (model P w) X.A (pyNext (.ref it)) (λr s1=>r=M/\Inv X aa Z H s1) E s
 self:∀(A:YH) (i:Nat) (s:Yb) (Q:Yj->Yb->Prop) (E:Yj->Yb->Prop),tn i s.heap->Q (.ref it) s->YB (model P w) A (pyIter (.ref it)) Q E s
abbrev TI:=St->Hp->(It->Hp->Prop)->Prop
def PIE(X:Cx)(aa:List (Yi×Obj))(Z:St)(tg:Expr)(qe:It->Hp->Prop)(gL:Yj)(s2:Yb):Prop:=∃(it:Yi) (fp:List Yi) (tn:Nat->YG->Prop) (qb:It) (H':Hp),gL=.ref it/\Inv X aa Z H' s2/\Turn X.prog X.w X.K tg qb fp it tn/\tn 0 s2.heap/\(∀b∈fp,Zb7 X aa H' b)/\qe qb H'
def PI(X:Cx)(tg iter:Expr)(wi:TI):Prop:=
 ∀(aa:List (Yi×Obj)) (s:Yb) (Z:St) (H:Hp) (qe:It->Hp->Prop),Inv X aa Z H s->wi Z H qe ->
  YB (model X.prog X.w) X.A (eval iter X.env) (λv s1=>YB (model X.prog X.w) X.A (pyIter v) (PIE X aa Z tg qe) X.xe s1) X.xe s
theorem Zke(ho:s.heap.get? it=J o)(hc:o.cls=.type n)(hd:o.data=.fields vs)
   (hn:["enumerate", "zip", "dict_itemiterator", "dict_reverseitemiterator", "odict_iterator", "itertools.zip_longest", "itertools.pairwise"].contains n=Wy) (hQ:Q () s):YB qd A (letOwnedTupleGo tg (.ref it) u) Q E s:=by
 unfold letOwnedTupleGo;cases tg<;>first
   |exact Yc hQ
   | (cases u<;>first
       |exact Yc hQ
       | (refine Ya (wpAny_load ho ?_)
          rw [hc,hd];show YB qd A (if (["enumerate", "zip", "dict_itemiterator", "dict_reverseitemiterator", "odict_iterator", "itertools.zip_longest", "itertools.pairwise"].contains n&&vs[0]?==J (rawInt _))=Wx then _ else _) Q E s;rw [if_neg (by intro h;rw [hn,Bool.false_and] at h;cases h)];exact Yc hQ))
noncomputable def Itl(K:Yk)(a:Yi):It:=⟨λi H=>∃xs x,SqL K H a xs/\xs[i]?=J x,λi H x H'=>H'=H/\∀xs,SqL K H a xs->xs[i]?=J x,λi H=>∃xs,SqL K H a xs/\xs.length<=i⟩
noncomputable def Itt(K:Yk)(a:Yi):It:=⟨λi H=>∃xs x,SqT K H a xs/\xs[i]?=J x,λi H x H'=>H'=H/\∀xs,SqT K H a xs->xs[i]?=J x,λi H=>∃xs,SqT K H a xs/\xs.length<=i⟩
noncomputable def Itr(lo:Int)(n:Nat):It:=⟨λi _=>i<n,λi H x H'=>H'=H/\x=.int (lo+i),λi _=>n<=i⟩
def Zni{P:Yh}{w:Yg}{K:Yk}{tg:Expr}(a it:Yi):Turn P w K tg (Itl K a) [it] it (λi h=>h.IsListIter it a i) where
 mem:=by simp
 obj:=λi h st b hb=>by
  have e:b=it:=by simpa using hb
  subst e;obtain⟨o,e,c,d⟩:=st;exact⟨o,e,λv z=>by rw[d]at z;cases z⟩
 keep:=λi h h' st k=>st.at λo e=>k it (by simp) o e
 item:=by intro X hP hw hK hc i aa s Z H E I hf st hg;subst hP hw hK;obtain⟨xs,x,hq,hx⟩:=hg;obtain⟨its,rv,p,hz⟩:=I.list hq;obtain⟨u,hu,ru⟩:=rv.get hx;obtain⟨f0,f1,f2,f3,f4,f5⟩:=hf it (by simp);refine wpAny_pyNext_list_item st p.isList (x:=u) (by simpa using hu) λh' bi sb=>?_;have I1:Inv X aa Z H {s with heap:=h'}:=I.turned (t':=s.toks) (λb o hb e=>(sb.2 b hb).trans e) f0 f1 f3 f4 f5;obtain⟨o,e,c,d⟩:=id bi;exact⟨u,rfl,Zke (s:={s with heap:=h'}) e c d (by decide) ⟨x,H,I1,ru,⟨rfl,λys hy=>by rw[I.list_inj hy hq];exact hx⟩,bi,λb hb=>(hf b hb).1⟩⟩
 done:=by intro X hP hw hK hc i aa s Z H E I hf st hg;subst hP hw hK;obtain⟨xs,hq,hx⟩:=hg;obtain⟨its,rv,p,hz⟩:=I.list hq;obtain⟨f0,f1,f2,f3,f4,f5⟩:=hf it (by simp);have hl:=rv.length;exact wpAny_pyNext_list_end (I.ok.hd hc) st p.isList (by simp;lia) λh' eb=>⟨rfl,I.turned (t':=s.toks) (λb o hb e=>eb b o hb e) f0 f1 f3 f4 f5⟩
 self:=λ_ _ _ _ _ st h=>wpAny_pyIter_listiter st h
def ZkW{P:Yh}{w:Yg}{K:Yk}{tg:Expr}(a it:Yi):Turn P w K tg (Itt K a) [it] it (λi h=>h.IsTupleIter it a i) where
 mem:=by simp
 obj:=λi h st b hb=>by
  have e:b=it:=by simpa using hb
  subst e;obtain⟨o,e,c,d⟩:=st;exact⟨o,e,λv z=>by rw[d]at z;cases z⟩
 keep:=λi h h' st k=>st.at λo e=>k it (by simp) o e
 item:=by intro X hP hw hK hc i aa s Z H E I hf st hg;subst hP hw hK;obtain⟨xs,x,hq,hx⟩:=hg;obtain⟨its,rv,p,hz⟩:=I.tuple hq;obtain⟨u,hu,ru⟩:=rv.get hx;obtain⟨f0,f1,f2,f3,f4,f5⟩:=hf it (by simp);refine wpAny_pyNext_tuple_item st (show s.heap.IsTuple a its.toArray from p) (x:=u) (by simpa using hu) λh' bi sb=>?_;have I1:Inv X aa Z H {s with heap:=h'}:=I.turned (t':=s.toks) (λb o hb e=>(sb.2 b hb).trans e) f0 f1 f3 f4 f5;obtain⟨o,e,c,d⟩:=id bi;exact⟨u,rfl,Zke (s:={s with heap:=h'}) e c d (by decide) ⟨x,H,I1,ru,⟨rfl,λys hy=>by rw[I.tuple_inj hy hq];exact hx⟩,bi,λb hb=>(hf b hb).1⟩⟩
 done:=by intro X hP hw hK hc i aa s Z H E I hf st hg;subst hP hw hK;obtain⟨xs,hq,hx⟩:=hg;obtain⟨its,rv,p,hz⟩:=I.tuple hq;obtain⟨f0,f1,f2,f3,f4,f5⟩:=hf it (by simp);have hl:=rv.length;exact wpAny_pyNext_tuple_end (I.ok.hd hc) st (show s.heap.IsTuple a its.toArray from p) (by simp;lia) λh' eb=>⟨rfl,I.turned (t':=s.toks) (λb o hb e=>eb b o hb e) f0 f1 f3 f4 f5⟩
 self:=λ_ _ _ _ _ st h=>wpAny_pyIter_tupleiter st h
theorem ZkX{P:Yh}{w:Yg}{K:Yk}{tg:Expr}(it:Yi)(lo:Int)(n:Nat):Turn P w K tg (Itr lo n) [it] it (λi h=>IsRangeIter h it (lo+(i:Nat)*1) ((n:Int)-(i:Nat)) 1) where
 mem:=by simp
 obj:=λi h st b hb=>by
   have e:b=it:=by simpa using hb
   subst e;exact⟨_,st,λv z=>by
     have z':Data.fields _=Data.cell v:=z;cases z'⟩
 keep:=λi h h' st k=>k it (by simp) _ st
 item:=by
   intro X hP hw hK hc i aa s Z H E I hf st hg;subst hP hw hK;obtain⟨f0,f1,f2,f3,f4,f5⟩:=hf it (by simp);have W:=Walks.range (prog:=X.prog) (w:=X.w) (I.ok.hd hc) it lo 1 n;refine W.item i s _ _ hg st λv h' tk hv bi kk=>?_;obtain⟨t,rfl⟩:=hv;have I1:Inv X aa Z H {s with heap:=h',toks:=tk}:=I.turned (λb o hb e=>kk b o (by simpa using hb) e) f0 f1 f3 f4 f5;refine⟨_,rfl,Zke (s:={s with heap:=h',toks:=tk}) (n := "range_iterator") bi rfl rfl (by decide) ⟨.int (lo+i),H,I1,⟨t,?_⟩,⟨rfl,rfl⟩,bi,λb hb=>(hf b hb).1⟩⟩;rw [Int.mul_one]
 done:=by
   intro X hP hw hK hc i aa s Z H E I hf st hg;subst hP hw hK;obtain⟨f0,f1,f2,f3,f4,f5⟩:=hf it (by simp);exact wpAny_pyNext_range_end (I.ok.hd hc) st (by have:n<=i:=hg;lia) λh' eb=>⟨rfl,I.turned (t':=s.toks) (λb o hb e=>eb b o hb e) f0 f1 f3 f4 f5⟩
 self:=λ_ _ _ _ _ st h=>wpAny_pyIter_rangeiter st h
section
variable {X:Cx}{tg:Expr}
def Zo2{aa:List (Yi×Obj)}{Z:St}{H:Hp}{s:Yb}{qe:It->Hp->Prop}{E:Yj->Yb->Prop}{lo hi:Int}{t u v:Tok}{tk:Nat}(I:Inv X aa Z H s)(R:-(2^62)<=lo)(h2:lo<2^62)(h3:-(2^62)<=hi)(h4:hi<2^62)
 (q:qe (Itr lo (hi-lo).toNat) H):YB (model X.prog X.w) X.A (pyIter (.ref s.heap.objs.size)) (PIE X aa Z tg qe) E {s with heap:=s.heap.push {cls:=.type "range",data:=.fields #[.int lo t,.int hi u,.int 1 v]},toks:=tk}:=by
 refine wpAny_pyIter_range (IsRange.new ..) (small_one R h2 h3 h4) ?_;have I1:Inv X aa Z H {s with heap:=s.heap.push {cls:=.type "range",data:=.fields #[.int lo t,.int hi u,.int 1 v]},toks:=tk}:=I.kept λb o e=>Od _ e;refine⟨(s.heap.push {cls:=.type "range",data:=.fields #[.int lo t,.int hi u,.int 1 v]}).objs.size,[(s.heap.push {cls:=.type "range",data:=.fields #[.int lo t,.int hi u,.int 1 v]}).objs.size],_,_,H,rfl,
  I1.kept (t':=tk) λb o e=>Od _ e,ZkX _ lo (hi-lo).toNat,?_,λb hb=>?_,q⟩
 . have e1:lo+((0:Nat):Int)*1=lo:=by simp
   have e2:(((hi-lo).toNat:Nat):Int)-((0:Nat):Int)=Builtin.Range.rangeSize lo hi 1:=by rw[rangeSize_one];split<;>lia
   show IsRangeIter _ _ (lo+((0:Nat):Int)*1) ((((hi-lo).toNat:Nat):Int)-((0:Nat):Int)) 1;rw[e1,e2];exact Oj _ rfl
 . have e:b=(s.heap.push {cls:=.type "range",data:=.fields #[.int lo t,.int hi u,.int 1 v]}).objs.size:=by simpa using hb
   subst e;exact I1.fpOk (Oq _) (I1.hok.fresh (Oq _))
def Zw1(ta:TA):TI:=λZ H qe=>ta Z H λvs H1=>∃j:Int,vs=[.int j]/\-(2^62)<=j/\j<2^62/\qe (Itr 0 j.toNat) H1
def ZnI{a:Expr}{ta:TA}{p pos:Pos}(hg:Gl X "range")(hm:X.mg "range"=M)(ha:PA X [a] ta)(hs:YA [a] X.env=[(Wy,eval a X.env)]:=by rfl):PI X tg (.Call (.Name "range" p) [a] [] pos) (Zw1 ta):=by
 intro aa s Z H qe I h;refine Call_ (Zdd I hg hm boot_range (PyProof.Rows.callWith_type1 (thn (ha pos aa s Z H _ I h) λus s1 ⟨vs,H1,I1,r1,q1⟩=>?_) hs rfl));obtain⟨j,e,q1,q2,q⟩:=q1;subst e;cases r1 with
 |cons r rr=>cases rr;obtain⟨t,rfl⟩:=r;exact call_range_1 (Zo2 I1 (by lia) (by lia) q1 q2 (by simpa using q))
def ZxO(wi:TI)(g:TG)(tb:TS):TS:=λD Z H=>wi Z H λqb H1=>∃W:Nat->Nat->St->Hp->Prop,(∃m,W 0 m Z H1)/\∀i m Z H,W i m Z H ->
 (qb.stop i H/\D.nx Z H)\/(qb.go i H/\∃N:St->Hp->Prop,(∀σ' H',N σ' H'->∃m',m'<m/\W (i+1) m' σ' H')/\∀x H',qb.yld i H x H'->g x Z H' λσ2 H2=>tb {D with nx:=N,ct:=N,bk:=D.nx} σ2 H2)
noncomputable def Zg2(fp:List Yi)(h:YG):List (Yi×Obj):=fp.filterMap λb=>(h.get? b).map λo=>(b,o)
def Zdb(hb:b∈fp)(e:h.get? b=J o):(b,o)∈Zg2 fp h:=List.mem_filterMap.mpr ⟨b,hb,by rw[e];rfl⟩
def ZnQ(hp:p∈Zg2 fp h):p.1∈fp/\h.get? p.1=J p.2:=by
 obtain⟨b,hb,e⟩:=List.mem_filterMap.mp hp;cases q:h.get? b with
 |none=>rw[q]at e;cases e
 |some o=>rw[q]at e;have e':(b,o)=p:=YF e;subst e';exact⟨hb,q⟩
def Inv.pinned(I:Inv X aa Z H s)(hf:∀b∈fp,Zb7 X aa H b)(ho:∀b∈fp,∃o,s.heap.get? b=J o/\∀v,o.data≠.cell v):Inv X (aa++Zg2 fp s.heap) Z H s:=
 I.pins_of λp hp=>(OD.mp hp).elim (λz=>I.pin p (Ov _ z)) λz=>by obtain⟨hb,e⟩:=ZnQ z;obtain⟨f0,f1,f2,_⟩:=hf p.1 hb;obtain⟨o,e',d⟩:=ho p.1 hb;rw[e]at e';cases e';exact⟨e,f0,f1,f2,d⟩
def Inv.unpinned(I:Inv X (aa++pl) Z H s):Inv X aa Z H s:=I.pins_of λp hp=>I.pin p (Ov _ (Yr _ hp))
def Zub(hp:PassesOwn (model X.prog X.w) X.A X.env X.xe)(hc:X.calm=Wx)(hi:PI X tg iter wi)(hg:PG X tg g)(hb:PSs X body tb)
 (hs:∀x,foldedSetIterable iter X.env x=pure x:=by intro _;rfl):PS X (.For tg iter body [] pos) (ZxO wi g tb):=by
 intro aa s Z H D I h;refine wpAny_For (thn (hi aa s Z H _ I h) λv s1 R=>thn R λgL s2 h2=>?_) hs;obtain⟨it,fp,tn,qb,H2,e,I2,T,bF,f2,W,⟨m0,w0⟩,turn⟩:=h2;subst e;have bq:∀{H':Hp},(∀b∈fp,H' b=M)->∀b∈fp,Zb7 X aa H' b:=λhn b hb=>⟨hn b hb,(f2 b hb).2⟩
 refine codeAny_forLoop_any (λn s'=>∃i σ' H',Inv X aa σ' H' s'/\tn i s'.heap/\(∀b∈fp,H' b=M)/\W i n σ' H') ?_ m0 ⟨0,Z,H2,I2,bF,λb hb=>(f2 b hb).1,w0⟩;rintro n s3 ⟨i,σ3,H3,I3,st3,fr3,w3⟩;rcases turn i n σ3 H3 w3 with⟨stop,qn⟩|⟨go,N,hN,step⟩
 . refine wpAny_passesOwn hp (thn (T.done X rfl rfl rfl hc i aa s3 σ3 H3 X.xe I3 (bq fr3) st3 stop) λr s4 ⟨hr,I4⟩=>?_);subst hr;exact wpAny_execs_nil ⟨σ3,H3,I4,qn⟩
 . refine wpAny_passesOwn hp (thn (T.item X rfl rfl rfl hc i aa s3 σ3 H3 X.xe I3 (bq fr3) st3 go) λr s4 ⟨u,hr,h4⟩=>?_);subst hr;refine wpAny_passesOwn hp (thn h4 λ_ s5 ⟨x,H5,I5,r5,y5,eW,gZ⟩=>?_);have nA:=I5.pinned (bq gZ) (T.obj _ _ eW);refine wpAny_passesOwn hp (thn (hg _ s5 σ3 H5 x u _ nA r5 (step x H5 y5)) λ_ s6 ⟨σ6,H6,I6,q6⟩=>?_);refine wpAny_passesOwn hp (thn (hb _ s6 σ6 H6 _ I6 q6) λf s7 q7=>?_);have again:∀{σ7:St}{H7:Hp},Inv X (aa++Zg2 fp s5.heap) σ7 H7 s7->N σ7 H7->∃m,m<n/\∃i σ' H',Inv X aa σ' H' s7/\tn i s7.heap/\(∀b∈fp,H' b=M)/\W i m σ' H':=λ{σ7 H7} I7 n7=>by obtain⟨m',hm,w7⟩:=hN σ7 H7 n7;refine⟨m',hm,i+1,σ7,H7,I7.unpinned,T.keep _ _ _ eW λb hb o e=>(I7.pin (b,o) (Ov _ (Ov _ (Zdb hb e)))).1,λb hb=>?_,w7⟩;obtain⟨o,e,d⟩:=T.obj _ _ eW b hb;exact(I7.pin (b,o) (Ov _ (Ov _ (Zdb hb e)))).2.1
   cases f with
   |next=>obtain⟨σ7,H7,I7,n7⟩:=q7;exact again I7 n7
   |cont=>obtain⟨σ7,H7,I7,n7⟩:=q7;exact again I7 n7
   |brk=>obtain⟨σ7,H7,I7,q7⟩:=q7;exact⟨σ7,H7,I7.unpinned,q7⟩
   |ret v=>obtain⟨x7,σ7,H7,I7,r7,q7⟩:=q7;exact⟨x7,σ7,H7,I7.unpinned,r7,q7⟩
end
abbrev R2:=V->V->Hp->VK->Prop
def OpR(X:Cx)(f:Yj->Yj->Sem Yj)(r:R2):Prop:=
 ∀(aa:List (Yi×Obj)) (s:Yb) (Z:St) (H:Hp) (x y:V) (v u:Yj) (Q:VK),Inv X aa Z H s->RelV x v->RelV y u->r x y H Q ->
  YB (model X.prog X.w) X.A (f v u) (EP X aa Z Q) X.xe s
def UnR(X:Cx)(f:Yj->Sem Yj)(r:V->Hp->VK->Prop):Prop:=
 ∀(aa:List (Yi×Obj)) (s:Yb) (Z:St) (H:Hp) (x:V) (v:Yj) (Q:VK),Inv X aa Z H s->RelV x v->r x H Q ->
  YB (model X.prog X.w) X.A (f v) (EP X aa Z Q) X.xe s
def Zcl(X:Cx)(f:Yj)(r:List V->Hp->VK->Prop):Prop:=
 ∀(aa:List (Yi×Obj)) (s:Yb) (Z:St) (H:Hp) (xs:List V) (us:List Yj) (Q:VK),Inv X aa Z H s->Zs xs us->r xs H Q ->
  YB (model X.prog X.w) X.A (call f us) (EP X aa Z Q) X.xe s
def Zyy(X:Cx)(r:V->Hp->(Bool->Hp->Prop)->Prop):Prop:=
 ∀(aa:List (Yi×Obj)) (s:Yb) (Z:St) (H:Hp) (x:V) (v:Yj) (Q:Bool->Hp->Prop),Inv X aa Z H s->RelV x v->r x H Q ->
  YB (model X.prog X.w) X.A (truthy v) (TP X aa Z Q) X.xe s
def tOp(r:R2)(ta tb:TE):TE:=λZ H Q=>ta Z H λx H1=>tb Z H1 λy H2=>r x y H2 Q
noncomputable def tUn(r:V->Hp->VK->Prop)(ta:TE):TE:=λZ H Q=>ta Z H λx H1=>r x H1 Q
noncomputable def rI(C:Int->Int->Prop)(g:Int->Int->V):R2:=λx y H Q=>∃i j,x=.int i/\y=.int j/\C i j/\Q (g i j) H
noncomputable def rI0(g:Int->Int->V):R2:=λx y H Q=>∃i j,x=.int i/\y=.int j/\Q (g i j) H
def rU(g:Int->V):V->Hp->VK->Prop:=λx H Q=>∃i,x=.int i/\Q (g i) H
section
variable {X:Cx}{a b c:Expr}{ta tb tc:TE}{pos:Pos}
def Zvr(ha:PE X a ta)(hb:PE X b tb){aa:List (Yi×Obj)}{s:Yb}{Z:St}{H:Hp}{qe:V->V->Hp->Prop}(I:Inv X aa Z H s)
 (h:ta Z H λx H1=>tb Z H1 λy H2=>qe x y H2) {Q:Yj->Yb->Prop}{f:Yj->Yj->Sem Yj}
 (hf:∀v u s2 x y H2,Inv X aa Z H2 s2->RelV x v->RelV y u->qe x y H2->YB (model X.prog X.w) X.A (f v u) Q X.xe s2) :
 YB (model X.prog X.w) X.A (eval a X.env) (λv s₁=>YB (model X.prog X.w) X.A (eval b X.env) (λu s₂=>YB (model X.prog X.w) X.A (f v u) Q X.xe s₂) X.xe s₁) X.xe s:=by
 refine thn (ha aa s Z H _ I h) λv s1 ⟨x,H1,I1,r1,q1⟩=>?_;refine thn (hb aa s1 Z H1 _ I1 q1) λu s2 ⟨y,H2,I2,r2,q2⟩=>?_;exact hf v u s2 x y H2 I2 r1 r2 q2
def Zwt{op:Operator}{r:R2}(ho:OpR X (binaryOp op) r)(ha:PE X a ta)(hb:PE X b tb):PE X (.BinOp a op b pos) (tOp r ta tb):=by intro aa s Z H Q I h;exact wpAny_BinOp (Zvr ha hb I h λv u s2 x y H2 I2 rx ry q=>ho aa s2 Z H2 x y v u Q I2 rx ry q)
def Zwr{op:UnaryOp}{r:V->Hp->VK->Prop}(ho:UnR X (unaryOp op) r)(ha:PE X a ta):PE X (.UnaryOp op a pos) (tUn r ta):=by intro aa s Z H Q I h;exact UnaryOp_ (thn (ha aa s Z H _ I h) λv s1 ⟨x,H1,I1,r1,q1⟩=>ho aa s1 Z H1 x v Q I1 r1 q1)
def opI{f:Yj->Yj->Sem Yj}{C:Int->Int->Prop}{g:Int->Int->Int}
 (rule:∀(i j:Int) (t u:Tok) (s:Yb) (Q:Yj->Yb->Prop) (E:Yj->Yb->Prop),C i j->Q (.int (g i j) s.toks) {s with toks:=s.toks+1}->YB (model X.prog X.w) X.A (f (.int i t) (.int j u)) Q E s) :
 OpR X f (rI C λi j=>.int (g i j)):=by
 intro aa s Z H x y v u Q I rx ry h;obtain⟨i,j,rfl,rfl,hc,q⟩:=h;obtain⟨t,rfl⟩:=rx;obtain⟨t',rfl⟩:=ry;exact rule i j t t' s _ _ hc ⟨.int (g i j),H,I.tok _,⟨_,rfl⟩,q⟩
def ZwE{g:Int->Int->Int}
 (rule:∀(i j:Int) (t u:Tok) (s:Yb) (Q:Yj->Yb->Prop) (E:Yj->Yb->Prop),Q (.int (g i j) s.toks) {s with toks:=s.toks+1}->YB (model X.prog X.w) X.A (f (.int i t) (.int j u)) Q E s) :
 OpR X f (rI0 λi j=>.int (g i j)):=by
 intro aa s Z H x y v u Q I rx ry h;obtain⟨i,j,rfl,rfl,q⟩:=h;obtain⟨t,rfl⟩:=rx;obtain⟨t',rfl⟩:=ry;exact rule i j t t' s _ _ ⟨.int (g i j),H,I.tok _,⟨_,rfl⟩,q⟩
def ZrX{g:Int->Int->Bool}
 (rule:∀(i j:Int) (t u:Tok) (s:Yb) (Q:Yj->Yb->Prop) (E:Yj->Yb->Prop),Q (.bool (g i j)) s->YB (model X.prog X.w) X.A (f (.int i t) (.int j u)) Q E s) :
 OpR X f (rI0 λi j=>.bl (g i j)):=by
 intro aa s Z H x y v u Q I rx ry h;obtain⟨i,j,rfl,rfl,q⟩:=h;obtain⟨t,rfl⟩:=rx;obtain⟨t',rfl⟩:=ry;exact rule i j t t' s _ _ ⟨.bl (g i j),H,I,rfl,q⟩
def ZyA(i j:Int):Prop:=0<j/\j<1073741824
def Zyz(i j:Int):Prop:=0<=j/\j<=1000000/\i.natAbs<2^64
def Zux:OpR X (binaryOp .Add) (rI0 λi j=>.int (i+j)):=ZwE λ_ _ _ _ _ _ _ q=>add_int q
def Zur:OpR X (binaryOp .Sub) (rI0 λi j=>.int (i-j)):=ZwE λ_ _ _ _ _ _ _ q=>sub_int q
def ZrN:OpR X (binaryOp .FloorDiv) (rI ZyA λi j=>.int (i/j)):=opI λi j _ _ _ _ _ hc q=>by have R:(0:Int)<j:=hc.1;have h2:j<1073741824:=hc.2;exact floordiv_int (by lia) (by rw[Int.fdiv_eq_ediv_of_nonneg i (by lia)];exact q) (.inl (PyProof.noPylong_small (by lia)))
def Zut:OpR X (binaryOp .Mod) (rI (λ_ j=>0<j) λi j=>.int (i%j)):=opI λi j _ _ _ _ _ hc q=>by have R:(0:Int)<j:=hc;exact mod_int' (by lia) (by rw[Int.fmod_eq_emod_of_nonneg i (by lia)];exact q)
def Zus:OpR X (binaryOp .Pow) (rI Zyz λi j=>.int (i^j.toNat)):=opI λ_ _ _ _ _ _ _ hc q=>pow_int_small hc.1 hc.2.1 hc.2.2 q
def unI{g:Int->Int}
 (rule:∀(i:Int) (t:Tok) (s:Yb) (Q:Yj->Yb->Prop) (E:Yj->Yb->Prop),Q (.int (g i) s.toks) {s with toks:=s.toks+1}->YB (model X.prog X.w) X.A (f (.int i t)) Q E s) :
 UnR X f (rU λi=>.int (g i)):=by
 intro aa s Z H x v Q I rx h;obtain⟨i,rfl,q⟩:=h;obtain⟨t,rfl⟩:=rx;exact rule i t s _ _ ⟨.int (g i),H,I.tok _,⟨_,rfl⟩,q⟩
def Zty:UnR X (unaryOp .USub) (rU λi=>.int (-i)):=unI λ_ _ _ _ _ q=>neg_int q
def ZlE(I:Inv X aa Z H s)(q:Q (.bl k) H)(e:k=k'):EP X aa Z Q (.bool k') s:=by subst e;exact⟨.bl k,H,I,rfl,q⟩
def Zwy:OpR X (YM .Lt) (rI0 λi j=>.bl (Wz (i<j))):=ZrX λ_ _ _ _ _ _ _ q=>lt_int q
def Zwz:OpR X (YM .LtE) (rI0 λi j=>.bl (Wz (i<=j))):=ZrX λ_ _ _ _ _ _ _ q=>le_int q
def ZwA:OpR X (YM .Gt) (rI0 λi j=>.bl (Wz (j<i))):=ZrX λ_ _ _ _ _ _ _ q=>gt_int q
def ZwB:OpR X (YM .GtE) (rI0 λi j=>.bl (Wz (j<=i))):=ZrX λ_ _ _ _ _ _ _ q=>ge_int q
def Zuu:OpR X (YM .Is) (λx y H Q=>y=.non/\Q (.bl (Wz (x=.non))) H):=by
 intro aa s Z H x y v u Q I rx ry h;obtain⟨rfl,q⟩:=h;cases ry;refine is_none_gen (ZlE I q ?_);cases x<;>first
  |(cases rx;rfl)
  |(obtain⟨t,rfl⟩:=rx;rfl)
def ZrL:OpR X (YM .IsNot) (λx y H Q=>y=.non/\Q (.bl (!Wz (x=.non))) H):=by
 intro aa s Z H x y v u Q I rx ry h;obtain⟨rfl,q⟩:=h;cases ry;refine isnot_none_gen (ZlE I q ?_);cases x<;>first
  |(cases rx;rfl)
  |(obtain⟨t,rfl⟩:=rx;rfl)
def Zmu{op:CmpOp}{r:R2}(ho:OpR X (YM op) r)(ha:PE X a ta)(hb:PE X b tb)(hm:behindInMarks op b=Wy):PE X (.Compare a [op] [b] pos) (tOp r ta tb):=by intro aa s Z H Q I h;exact wpAny_Compare1 (Zvr ha hb I h λv u s2 x y H2 I2 rx ry q=>ho aa s2 Z H2 x y v u Q I2 rx ry q) hm
noncomputable def Zs1(t:TE):TT:=λZ H Q=>t Z H λx H'=>∃k,x=.bl k/\Q k H'
def Zmo{op:CmpOp}{r:R2}(ho:OpR X (YM op) r)(ha:PE X a ta)(hb:PE X b tb)(hm:behindInMarks op b=Wy):PT X (.Compare a [op] [b] pos) (Zs1 (tOp r ta tb)):=by
 intro aa s Z H Q I h;refine wpAny_isTrue_Compare1 (thn (ha aa s Z H _ I h) λv s1 ⟨x,H1,I1,r1,q1⟩=>thn (hb aa s1 Z H1 _ I1 q1) λu s2 ⟨y,H2,I2,r2,q2⟩=>thn (ho aa s2 Z H2 x y v u _ I2 r1 r2 q2) λc s3 ⟨z,H3,I3,r3,k,e,q3⟩=>?_) hm
 subst e;cases r3;exact wpAny_truthy_bool ⟨H3,I3,q3⟩
def ZoQ(r r':R2)(ta tb tc:TE):TE:=λZ H Q=>ta Z H λx H1=>tb Z H1 λy H2=>r x y H2 λz H3=>∃k,z=.bl k /\
 (if k=Wx then tc Z H3 λw' H4=>r' y w' H4 Q else Q (.bl Wy) H3)
def ZpF(ho:OpR X (YM op) r)(bZ:OpR X (YM cT) r')(ha:PE X a ta)(hb:PE X b tb)(hc:PE X c tc)
 (hm:lastMarks [op,cT] [b,c]=Wy:=by with_unfolding_all rfl):PE X (.Compare a [op,cT] [b,c] pos) (ZoQ r r' ta tb tc):=by
 intro aa s Z H Q I h;refine Compare_chain (thn (ha aa s Z H _ I h) λv s1 ⟨x,H1,I1,r1,q1⟩=>chain_link (thn (hb aa s1 Z H1 _ I1 q1) λu s2 ⟨y,H2,I2,r2,q2⟩=>thn (ho aa s2 Z H2 x y v u _ I2 r1 r2 q2) λd s3 ⟨z,H3,I3,r3,k,e,q3⟩=>?_)) hm
 subst e;cases r3;refine wpAny_truthy_bool ?_;cases k with
 |false=>exact ite_ff ⟨.bl Wy,H3,I3,rfl,q3⟩
 |true=>exact ite_tt (chain_last (thn (hc aa s3 Z H3 _ I3 q3) λw' s4 ⟨z',H4,I4,r4,q4⟩=>bZ aa s4 Z H4 y z' u w' Q I4 r2 r4 q4))
def Zpl(ho:OpR X (YM op) r)(bZ:OpR X (YM cT) r')(ha:PE X a ta)(hb:PE X b tb)(hc:PE X c tc)
 (hm:lastMarks [op,cT] [b,c]=Wy:=by with_unfolding_all rfl):PT X (.Compare a [op,cT] [b,c] pos) (Zs1 (ZoQ r r' ta tb tc)):=by
 intro aa s Z H Q I h;refine isTrue_chain (thn (ha aa s Z H _ I h) λv s1 ⟨x,H1,I1,r1,q1⟩=>test_link (thn (hb aa s1 Z H1 _ I1 q1) λu s2 ⟨y,H2,I2,r2,q2⟩=>thn (ho aa s2 Z H2 x y v u _ I2 r1 r2 q2) λd s3 ⟨z,H3,I3,r3,k,e,q3⟩=>?_)) hm
 subst e;cases r3;refine wpAny_truthy_bool ?_;cases k with
 |false=>obtain⟨k',e',q'⟩:=q3;cases e';exact ite_ff ⟨H3,I3,q'⟩
 |true=>refine ite_tt (test_last (thn (hc aa s3 Z H3 _ I3 q3) λw' s4 ⟨z',H4,I4,r4,q4⟩=>thn (bZ aa s4 Z H4 y z' u w' _ I4 r2 r4 q4) λd' s5 ⟨z2,H5,I5,r5,k2,e2,q5⟩=>?_));subst e2;cases r5;exact wpAny_truthy_bool ⟨H5,I5,q5⟩
def Zvu(K:Yk)(x:V)(H:Hp)(k:Bool):Prop:=
 match x with
 |.non=>k=Wy
 |.bl b=>k=b
 |.int i=>k=(i != 0)
 |.str y=>y.length<=sizeLine/\k=((y.length:Int) != 0)
 |.byt y=>y.size<=sizeLine/\k=((y.size:Int) != 0)
 |.ref p=>(∃xs,SqL K H p xs/\k=!xs.isEmpty)\/(∃xs,SqT K H p xs/\k=!xs.isEmpty)\/∃kvs,H p=J (.dK kvs)/\k=!kvs.isEmpty
 |_=>False
def ZlC(r:KV kvs vs):(!vs.isEmpty)=!kvs.isEmpty:=by cases r<;>rfl
def Zhc(r:Zs xs its):(!its.toArray.isEmpty)=!xs.isEmpty:=by cases r<;>simp
def Zca:(sizeLine:Nat)<2^63:=by rw[YC];decide
def ZtG:Zyy X (λx H Q=>∃k,Zvu X.K x H k/\Q k H):=by
 intro aa s Z H x v Q I rx h;obtain⟨k,e,q⟩:=h;have hl:=Zca;have hs:sizeLine=16777216:=YC;cases x with
 |non=>cases rx;have e':k=Wy:=e;subst e';exact truthy_none ⟨H,I,q⟩
 |bl b=>cases rx;have e':k=b:=e;subst e';exact wpAny_truthy_bool ⟨H,I,q⟩
 |int i=>obtain⟨t,rfl⟩:=rx;have e':k=(i != 0):=e;subst e';exact PySem.P.truthy_int ⟨H,I,q⟩
 |str y=>obtain⟨t,rfl⟩:=rx;obtain⟨hy,e'⟩:y.length<=sizeLine/\k=((y.length:Int) != 0):=e;subst e';exact PySem.P.truthy_str (by lia) ⟨H,I.tok _,q⟩
 |byt y=>obtain⟨t,rfl⟩:=rx;obtain⟨hy,e'⟩:y.size<=sizeLine/\k=((y.size:Int) != 0):=e;subst e';exact PySem.W.truthy_bytes (by lia) ⟨H,I.tok _,q⟩
 |ref p=>
  cases rx;have e':(∃xs,SqL X.K H p xs/\k=!xs.isEmpty)\/(∃xs,SqT X.K H p xs/\k=!xs.isEmpty)\/∃kvs,H p=J (.dK kvs)/\k=!kvs.isEmpty:=e;rcases e' with⟨xs,hx,e'⟩|⟨xs,hx,e'⟩|⟨kvs,hx,e'⟩
  . subst e';obtain⟨its,r,pl,hz⟩:=I.list hx;have al:=r.length;exact wpAny_truthy_list pl.isList (by simp only[Of];lia) ⟨H,I.tok _,by rw[Zhc r];exact q⟩
  . subst e';obtain⟨its,r,pl,hz⟩:=I.tuple hx;have al:=r.length;exact truthy_tuple pl (by simp only[Of];lia) ⟨H,I.tok _,by rw[Zhc r];exact q⟩
  . subst e';obtain⟨hz,hS,vs,r,m⟩:kvs.length<=sizeLine/\(p==Ye)=Wy/\∃vs,KV kvs vs/\s.heap.DictOf (ZY X.prog X.w) p vs:=I.hok p _ hx;have al:kvs.length=vs.length:=Paired.length r;exact wpAny_truthy_dict hS m (by lia) ⟨H,I.tok _,by rw[ZlC r];exact q⟩
 |_=>exact(show False from e).elim
def Zpk(ha:PE X a ta)(he:∀aP,isTrue a X.env aP=(do let v <- aP;standAt a.pos;holding [v] (truthy v))):
 PT X a (λZ H Q=>ta Z H λx H'=>∃k,Zvu X.K x H' k/\Q k H'):=by
 intro aa s Z H Q I h;exact isTrue_plain (thn (ha aa s Z H _ I h) λv s1 ⟨x,H1,I1,r1,q1⟩=>ZtG aa s1 Z H1 x v Q I1 r1 q1) (he _)
def Zll:OpR X (binaryOp .Add) (λx y H Q=>∃i j,x=.str i/\y=.str j/\i.length+j.length<=sizeLine/\Q (.str (i++j)) H):=by intro aa s Z H x y v u Q I rx ry h;obtain⟨i,j,rfl,rfl,hz,q⟩:=h;obtain⟨t,rfl⟩:=rx;obtain⟨t',rfl⟩:=ry;exact add_str (λt' tk=>⟨.str (i++j),H,I.tok _,⟨_,rfl⟩,q⟩) hz
def vals1{x:V}{us:List Yj}(r:Zs [x] us):∃u,us=[u]/\RelV x u:=by
 cases r with
 |cons r1 r2=>cases r2;exact⟨_,rfl,r1⟩
def vals2{x y:V}{us:List Yj}(r:Zs [x,y] us):∃u w',us=[u,w']/\RelV x u/\RelV y w':=by
 cases r with
 |cons r1 r2=>
  cases r2 with
  |cons r3 r4=>cases r4;exact⟨_,_,rfl,r1,r3⟩
end
structure ObjM(h:YG)(x dx C:Yi)(mA:Str->Option Yj):Prop where
 obj:h.get? x=J (Wj C dx)
 ns:h.Ns1 dx mA
 ne:dx≠x
def ZnV{h:YG}(n:h.Ns1 dx mA):∃od,h.get? dx=J od/\∀name,PySem.W.lookIn name od=J (mA name):=by
 obtain⟨o,es,ep,ho,hd,hk,_,hm⟩:=n;refine⟨o,ho,λname=>?_⟩;have e:=hm name;unfold nsFind findBy at e;rw[<-Array.find?_toList]at e;unfold PySem.W.lookIn;rw[hd];dsimp only;split
 . rename_i y q;rw[q]at e;exact congrArg J e
 . rename_i q;rw[q]at e;have a:es.toList.any (·.refKey)=Wy:=by rw[List.any_eq_false];intro y hy;obtain⟨z,t,dY⟩:=hk y (Array.mem_toList_iff.mp hy);simp[DictEntry.refKey,dY]
   have a':¬ es.toList.any (·.refKey)=Wx:=by rw[a];exact Ow
   rw[if_neg a'];exact congrArg J e
def ObjM.look(I:ObjM h x dx C mA):∃od,PySem.W.InstAt h x (Wj C dx) C (J od)/\∀name,PySem.W.lookIn name od=J (mA name):=
 let⟨od,ho,hl⟩:=ZnV I.ns
 ⟨od,⟨I.obj,rfl,rfl,ho⟩,hl⟩
section
variable {prog:Yh}{w:Yg}{A:YH}{E:Yj->Yb->Prop}{s:Yb}{K:Yk}{x dx C f:Yi}{mA:Str->Option Yj}{name:Str}{v:Yj}
def Zsk(X:K.In s.heap)(I:ObjM s.heap x dx C mA)(hg:PySem.W.plainGet K C name=Wx)(hh:PySem.W.hasDictIn K C=Wx)
 (ha:YJ K (.ref C) name=J M) (hv:mA name=J v) (gN:PySem.W.handedIn v=Wx) (h:Q v {s with toks:=s.toks+1}) :
 YB (model prog w) A (getAttr (.ref x) name expr) Q E s:=by
 obtain⟨od,qb,hl⟩:=I.look;exact PySem.W.get_value X qb (PySem.W.plainGet_of hg).1 (PySem.W.findObj_own hh ha rfl (by rw[hl,hv])) gN h
def Zqe(X:K.In s.heap)(I:ObjM s.heap x dx C mA)(hg:PySem.W.plainGet K C name=Wx)
 (hf:YJ K (.ref C) name=J (J (.ref f))) (ht:PySem.W.isFn K (.ref f)=Wx) (hv:mA name=M) (h:Q (.ref f,[.ref x]) s) :
 YB (model prog w) A (getMethod (.ref x) name pl) Q E s:=by
 obtain⟨od,qb,hl⟩:=I.look;exact PySem.W.method_fn X qb (PySem.W.plainGet_of hg).1 (PySem.W.plainGet_of hg).2 hf (beq_iff_eq.mp ht) (by show(PySem.W.lookIn name od).map (·.isSome)=J Wy;rw[hl,hv];rfl) h
def Zrd(X:K.In s.heap)(I:ObjM s.heap x dx C mA)
 (hs:YJ K (.ref C) "__setattr__"=J (J (.builtin "object.__setattr__"))) (hp:PySem.W.plainOver K C=Wx) (ht:PySem.W.takerIn K C name=J M) (hh:PySem.W.hasDictIn K C=Wx)
 (hw:PySem.Within mA ns) (hsz:ns.length<=sizeLine)
 (h:∀h',ObjM h' x dx C (λy=>if y=name then J v else mA y)->Heap.SameBut dx s.heap h'->Q () {s with heap:=h',toks:=s.toks+2}) :
 YB (model prog w) A (setAttr (.ref x) name v) Q E s:=by
 obtain⟨od,qb,hl⟩:=I.look;refine PySem.W.set_plain X qb hs (PySem.W.osa_open (s:={s with toks:=s.toks+1}) (r:=M) X qb hp ht λb=>?_);obtain⟨cd,hc,jp⟩:=PySem.W.any_some hh;have hx:s.heap.get? x=J ⟨.ref C,J dx,.plain,#[]⟩:=I.obj;refine Ya (Yc (Ya (Ya (wpAny_loadPart hx (Ya (PySem.W.Looks.here (s:={s with toks:=s.toks+1}) (PySem.W.looks_clsIn X hc) ?_))))));rw[jp];refine Yc (a:=J dx) (Ya (Yc (Ya ?_)));refine wpAny_nsSet1 (s:={s with toks:=s.toks+1}) I.ns λh' gR gO=>?_;obtain⟨oD,oa,og,lR,mE,mH⟩:=gR.count (PySem.Within.cons name v hw);refine Ya (wpAny_lookBehind lR (by rw[mE];exact pastItsLine_dict (OE mH (by rw[Os];lia))) ?_);exact Yc (h _ ⟨(gO.2 _ (YL I.ne)).trans I.obj,gR,I.ne⟩ gO)
def ZpV(X:K.In s.heap)(hm:PySem.W.makesIn K C=Wx)
 (hi:YJ K (.ref C) "__init__"=J (J (.ref f))) (hf:PySem.W.typeIn K (.ref f)=J (.type "function"))
 (h:codeAny (model prog w) (A.under (.builtin "type.__call__" ⟨.ref C::vs,kw⟩)) (.call (.ref f) ⟨.ref (s.heap.objs.size+1)::vs,kw⟩) (PySem.W.InitBack (s.heap.objs.size+1) qe)
  {s with heap:=(s.heap.push YT).push (Wj C s.heap.objs.size)}) :
 codeAny (model prog w) A (.call (.ref C) ⟨vs,kw⟩) qe s:=by
 obtain⟨hh,g,d,t,os⟩:=s;exact PySem.W.make_core (PySem.W.makes_of X hm) (PySem.W.looks_findIn X hi) (λself=>PySem.W.bind_fn X self hf) (.inl rfl) h
end
noncomputable def Zcx(f:Str)(v:V):List (Str×V)->List (Str×V)
 |[]=>[(f,v)]
 |(g,x)::r=>if g=f then(g,v)::r else(g,x)::Zcx f v r
theorem Zge(f g:Str)(v:V):∀fs:List (Str×V),(Zcx f v fs).lookup g=if g=f then J v else fs.lookup g
 |[]=>by
  show Wm g [(f,v)]=_;by_cases h:g=f
  . have hb:(g==f)=Wx:=beq_iff_eq.mpr h;simp only[Wm,hb,if_pos h]
  . have hb:(g==f)=Wy:=beq_eq_false_iff_ne.mpr h;simp only[Wm,hb,if_neg h]
 |(k,x)::r=>by
  have ih:=Zge f g v r;rw[show Zcx f v ((k,x)::r)=(if k=f then(k,v)::r else(k,x)::Zcx f v r)from rfl];by_cases hk:k=f
  . rw[if_pos hk];by_cases h:g=k
    . have hb:(g==k)=Wx:=beq_iff_eq.mpr h;simp only[Wm,hb,if_pos (h.trans hk)]
    . have hb:(g==k)=Wy:=beq_eq_false_iff_ne.mpr h;simp only[Wm,hb,if_neg (λe:g=f=>h (e.trans hk.symm))]
  . rw[if_neg hk];by_cases h:g=k
    . have hb:(g==k)=Wx:=beq_iff_eq.mpr h;simp only[Wm,hb,if_neg (λe:g=f=>hk (h.symm.trans e))]
    . have hb:(g==k)=Wy:=beq_eq_false_iff_ne.mpr h;simp only[Wm,hb];exact ih
theorem ZfV(f:Str)(v:V):∀fs:List (Str×V),f∈(Zcx f v fs).map (·.1)/\∀g,g∈fs.map (·.1)->g∈(Zcx f v fs).map (·.1)
 |[]=>⟨by simp[Zcx],λg h=>by simp at h⟩
 |(k,x)::r=>by
  obtain⟨i1,i2⟩:=ZfV f v r;rw[show Zcx f v ((k,x)::r)=(if k=f then(k,v)::r else(k,x)::Zcx f v r)from rfl];by_cases hk:k=f
  . rw[if_pos hk];subst hk;exact⟨by simp,λg h=>by simpa using h⟩
  . rw[if_neg hk];refine⟨?_,λg h=>?_⟩
    . rw[Op];exact Oh _ i1
    . rw[Op]at h ⊢;rcases O3.mp h with e|e
      . exact O3.mpr (.inl e)
      . exact Oh _ (i2 g e)
theorem Zgg(f:Str)(v:V):∀fs:List (Str×V),(Zcx f v fs).length<=fs.length+1
 |[]=>by simp[Zcx]
 |(k,x)::r=>by
  have ih:=Zgg f v r;rw[show Zcx f v ((k,x)::r)=(if k=f then(k,v)::r else(k,x)::Zcx f v r)from rfl];by_cases hk:k=f
  . rw[if_pos hk,Os,Os];lia
  . rw[if_neg hk,Os,Os];lia
def ZfH.some_of(r:ZfH (J v) o):∃u,o=J u/\RelV v u:=by
 cases o with
 |none=>exact(show False from r).elim
 |some u=>exact⟨u,rfl,r⟩
def ZfH.none_of(r:ZfH M o):o=M:=by
 cases o with
 |none=>rfl
 |some u=>exact(show False from r).elim
def Zn5(r:RelV v u):PySem.W.handedIn u=Wx:=by
 cases v with
 |non=>cases (show u=Value.none from r);rfl
 |bl b=>cases (show u=Value.bool b from r);rfl
 |int i=>obtain⟨t,e⟩:=(show ∃t,u=Value.int i t from r);cases e;rfl
 |str x=>obtain⟨t,e⟩:=(show ∃t,u=Value.str x t from r);cases e;rfl
 |byt b=>obtain⟨t,e⟩:=(show ∃t,u=Value.bytes b t from r);cases e;rfl
 |flt b=>obtain⟨t,e⟩:=(show ∃t,u=Value.float b t from r);cases e;rfl
 |ref a=>cases (show u=YD a from r);rfl
 |ty n=>cases (show u=Value.type n from r);rfl
section
variable {P:Yh}{w:Yg}{H:Hp}{h:YG}{a C dx:Yi}{fs:List (Str×V)}
def Zi5(hok:HOk P w H h)(e:H a=J (.ins C dx fs)):∃mA,ObjM h a dx C mA/\(∀f,ZfH (fs.lookup f) (mA f))/\PySem.Within mA (fs.map (·.1))/\fs.length<=1000/\H dx=J (.own a):=by
 obtain⟨d,z,ne,ob,mA,n,r,q⟩:=(show Zat P w H h a (.ins C dx fs)from hok a _ e)
 exact⟨mA,⟨ob,n,ne⟩,r,q,z,d⟩
end
structure Cls(K:Yk)(C:Yi):Prop where
 pg:PySem.W.plainGet K C Str.empty=Wx
 hd:PySem.W.hasDictIn K C=Wx
 po:PySem.W.plainOver K C=Wx
 sa:YJ K (.ref C) "__setattr__"=J (J (.builtin "object.__setattr__"))
def Cls.get{K:Yk}(c:Cls K C)(f:Str):PySem.W.plainGet K C f=Wx:=c.pg
def Zbt(K:Yk)(C:Yi)(f:Str):Prop:=YJ K (.ref C) f=J M
def Zbt.taker{K:Yk}(n:Zbt K C f):PySem.W.takerIn K C f=J M:=by unfold PySem.W.takerIn;rw[show YJ K (.ref C) f=J M from n];rfl
structure Meth(K:Yk)(C:Yi)(m:Str)(f:Yi):Prop where
 at_:YJ K (.ref C) m=J (J (.ref f))
 fn:PySem.W.isFn K (.ref f)=Wx
 kp:Wg K (.ref f)=Wx
section
variable {X:Cx}{aa:List (Yi×Obj)}{Z:St}{H:Hp}{s:Yb}{a C dx:Yi}{fs:List (Str×V)}{f:Str}{v:V}{A:YH}{E:Yj->Yb->Prop}
def Zhg(I:Inv X aa Z H s)(e:H a=J (.ins C dx fs))(c:Cls X.K C)(n:Zbt X.K C f)(l:fs.lookup f=J v)
 (h:∀u s',Inv X aa Z H s'->RelV v u->Q u s'):YB (model X.prog X.w) A (getAttr (.ref a) f b) Q E s:=by
 obtain⟨mA,O_,r,_,_,_⟩:=Zi5 I.hok e;obtain⟨u,hu,ru⟩:=ZfH.some_of (v:=v) (o:=mA f) (by rw[<-l];exact r f);exact Zsk I.kIn O_ (c.get f) c.hd n hu (Zn5 ru) (h u _ (I.tok _) ru)
def Zhf(I:Inv X aa Z H s)(e:H a=J (.ins C dx fs))(c:Cls X.K C)(k:Meth X.K C m g)(l:fs.lookup m=M)
 (h:Q (.ref g,[.ref a]) s):YB (model X.prog X.w) A (getMethod (.ref a) m pl) Q E s:=by
 obtain⟨mA,O_,r,_,_,_⟩:=Zi5 I.hok e;have hn:mA m=M:=ZfH.none_of (by rw[<-l];exact r m);exact Zqe I.kIn O_ (c.get m) k.at_ k.fn hn h
def ZgY(I:Inv X aa Z H s)(e:H a=J (.ins C dx fs))(c:Cls X.K C)(n:Zbt X.K C f)(hl:fs.length<1000)(ry:RelV y u)
 (h:∀s',Inv X aa Z (upd H a (.ins C dx (Zcx f y fs))) s'->Q () s'):YB (model X.prog X.w) A (setAttr (.ref a) f u) Q E s:=by
 obtain⟨mA,O_,r,wi,_,ho⟩:=Zi5 I.hok e;have hz:(fs.map (·.1)).length<=sizeLine:=by rw[Yt,YC];lia
 refine Zrd I.kIn O_ c.sa c.po n.taker c.hd wi hz λh' O' sb=>h _ ?_;have hd:∃o,h'.get? dx=J o:=let⟨o,_,_,e',_⟩:=O'.ns;⟨o,e'⟩;refine I.write (x:=a) (e:=dx) (by rw[e];exact True.intro) (.inr ho) (λb q hb z=>(sb.2 b hb).trans z) hd ?_;refine⟨by rw[Zq O_.ne];exact ho,?_,O_.ne,O'.obj,_,O'.ns,λg=>?_,λg hg=>?_⟩
 . have:=Zgg f y fs;lia
 . show ZfH ((Zcx f y fs).lookup g) (if g=f then J u else mA g);rw[Zge];by_cases q:g=f
   . rw[if_pos q,if_pos q];exact ry
   . rw[if_neg q,if_neg q];exact r g
 . by_cases q:g=f
   . rw[q];exact(ZfV f y fs).1
   . refine(ZfV f y fs).2 g (wi g λz=>hg ?_);show(if g=f then J u else mA g)=M;rw[if_neg q];exact z
def Inv.made(I:Inv X aa Z H s):Inv X aa Z (upd (upd H s.heap.objs.size (.own (s.heap.objs.size+1))) (s.heap.objs.size+1) (.ins C s.heap.objs.size []))
 {s with heap:=(s.heap.push YT).push (Wj C s.heap.objs.size)}:=by
 have e1:(s.heap.push YT).get? s.heap.objs.size=J YT:=Oj s.heap rfl;have e2:((s.heap.push YT).push (Wj C s.heap.objs.size)).get? (s.heap.objs.size+1)=J (Wj C s.heap.objs.size):=by
  have:=Oj (s.heap.push YT) (o:=Wj C s.heap.objs.size) rfl
  rwa [Heap.size_push]at this
 have e3:(s.heap.push YT).Ns s.heap.objs.size (λ_=>M):=⟨YT,#[],_,e1,rfl,(λe he=>absurd he (by simp)),λ_=>rfl⟩
 have I1:=I.laid (a:=s.heap.objs.size) (o:=.own (s.heap.objs.size+1)) (h':=s.heap.push YT) (t':=s.toks) (λb u q=>Od _ q) (Oq _) ⟨_,e1⟩;refine I1.laid (a:=s.heap.objs.size+1) (o:=.ins C s.heap.objs.size []) (t':=s.toks) (λb u q=>Od _ q) (Nat.le_of_eq (Heap.size_push _ _)) ?_;have ne:s.heap.objs.size≠s.heap.objs.size+1:=Ou (OH _);refine⟨by rw[Zq ne,Zp],Yw _,ne,e2,λ_=>M,(Heap.Ns1.of_empty e3).at λo q=>Od _ q,λ_=>True.intro,λy hy=>absurd rfl hy⟩
def ZsR(hb:attributeBase e f env (eval e env)=eval e env)
 (h:YB (model prog w) A (eval e env) (λo s₁=>YB (model prog w) A (getAttr o f Wx) Q E s₁) E s):YB (model prog w) A (eval (.Attribute e f pos) env) Q E s:=
 Attribute_any_ h (by rw[arm_eval_Attribute,hb])
end
def ZxP(K:Yk)(ta:TE)(f:Str):TE:=λZ H Q=>ta Z H λx H1=>∃a C dx fs v,x=.ref a/\H1 a=J (.ins C dx fs)/\Cls K C/\Zbt K C f/\fs.lookup f=J v/\Q v H1
def ZxX(K:Yk)(ta tv:TE)(f:Str):TS:=λD Z H=>tv Z H λy H1=>ta Z H1 λx H2=>∃a C dx fs,x=.ref a/\H2 a=J (.ins C dx fs)/\Cls K C/\Zbt K C f/\fs.length<1000 /\
 D.nx Z (upd H2 a (.ins C dx (Zcx f y fs)))
def Zxu(X:Cx)(op:Operator)(rd:V->V->Hp->VK->Prop):Prop:=∀(aa:List (Yi×Obj)) (s:Yb) (Z:St) (H:Hp) (x y:V) (u v:Yj) (Q:VK),Inv X aa Z H s->RelV x u->RelV y v->rd x y H Q->YB (model X.prog X.w) X.A (inplaceOp op u v) (EP X aa Z Q) X.xe s
def Zrf(K:Yk)(ta tv:TE)(rd:V->V->Hp->VK->Prop)(f:Str):TS:=λD Z H=>ta Z H λx H1=>∃a C dx fs v,x=.ref a/\H1 a=J (.ins C dx fs)/\Cls K C/\Zbt K C f/\fs.lookup f=J v /\
 tv Z H1 λy H2=>rd v y H2 λz H3=>∃cZ bh,H3 a=J (.ins C cZ bh)/\bh.length<1000/\D.nx Z (upd H3 a (.ins C cZ (Zcx f z bh)))
section
variable {X:Cx}{o e value:Expr}{f:Str}{pos pos' ir:Pos}{ta tv:TE}
def Zun(he:PE X e ta)(hb:attributeBase e f X.env (eval e X.env)=eval e X.env):PE X (.Attribute e f pos) (ZxP X.K ta f):=by intro aa s Z H Q I h;refine ZsR hb (thn (he aa s Z H _ I h) λu s1 ⟨x,H1,I1,rx,a,C,dx,fs,v,ex,ea,c,n,l,q⟩=>?_);subst ex;obtain rfl:u=YD a:=rx;exact Zhg I1 ea c n l λu' s2 I2 ru=>⟨v,H1,I2,ru,q⟩
def Zuc(ha:PE X o ta)(hv:PE X value tv)(hs:swapsWith value (J (.Attribute o f pos')) pos.line X.env=pure Wy):PS X (.Assign [.Attribute o f pos'] value pos) (ZxX X.K ta tv f):=by intro aa s Z H D I h;refine plainObj_wpAny_Assign_Attribute (thn (hv aa s Z H _ I h) λu s1 ⟨y,H1,I1,ry,q⟩=>thn (ha aa s1 Z H1 _ I1 q) λov s2 ⟨x,H2,I2,rx,a,C,dx,fs,ex,ea,c,n,l,q2⟩=>?_) hs;subst ex;obtain rfl:ov=YD a:=rx;exact ZgY I2 ea c n l ry λs3 I3=>⟨Z,_,I3,q2⟩
def ZnE(ha:PE X o ta)(hv:PE X value tv)(hop:Zxu X op rd):PS X (.AugAssign (.Attribute o f ir) op value pos) (Zrf X.K ta tv rd f):=by intro aa s Z H D I h;refine wpAny_AugAssign_AttributeAny (thn (ha aa s Z H _ I h) λov s1 ⟨x,H1,I1,rx,a,C,dx,fs,v,ex,ea,c,n,l,q⟩=>?_);subst ex;obtain rfl:ov=YD a:=rx;refine Zhg I1 ea c n l λu s2 I2 ru=>thn (hv aa s2 Z H1 _ I2 q) λw3 s3 ⟨y,H2,I3,ry,q3⟩=>thn (hop aa s3 Z H2 v y u w3 _ I3 ru ry q3) λw4 s4 ⟨z,H3,I4,rz,cZ,bh,m9,l',q4⟩=>?_;exact ZgY I4 m9 c n l' rz λs5 I5=>⟨Z,_,I5,q4⟩
def Zwl:V->V->Hp->VK->Prop:=λx y H Q=>∃i j,x=.int i/\y=.int j/\Q (.int (i+j)) H
def Zu3:Zxu X .Add Zwl:=by
 rintro aa s Z H x y u v Q I rx ry ⟨i,j,rfl,rfl,q⟩;obtain⟨t,rfl⟩:=(show ∃t,u=Value.int i t from rx)
 obtain⟨t',rfl⟩:=(show ∃t',v=Value.int j t' from ry)
 exact PyProof.Rows.iadd_int ⟨.int (i+j),H,I.tok _,⟨_,rfl⟩,q⟩
end
structure Room(k:Nat)(A:YH):Prop where
 hd:A.handled=M
 dp:A.depth+k+5<recursionLimit
 un:A.units+4*k+1300<cLine
 gd:A.guards=J []
def Room.mono(r:Room k A)(h:j<=k):Room j A:=⟨r.hd,by have:=r.dp;lia,by have:=r.un;lia,r.gd⟩
theorem Room.deeper(r:Room (k+1) A)(env:Env):Room k (A.deeper env):=⟨r.hd,by have:=r.dp;show A.depth+1+k+5<_;lia,by have:=r.un;show A.units+3+4*k+1300<_;lia,r.gd⟩
def Zlv{A:YH}:(A.under (.builtin "type.__call__" ⟨.ref C::us,kw⟩)).depth=A.depth+1:=by first|rfl|simp[Around.under,Code.weight,Code.isCreation,Code.isGuard,Code.isCaller,Code.frames,Code.isFrame,guardIds]
def Zlu{A:YH}:(A.under (.builtin "type.__call__" ⟨.ref C::us,kw⟩)).units=A.units+1:=by first|rfl|simp[Around.under,Code.cUnits,Code.frames,Code.isFrame]
def Room.make(r:Room (k+1) A)(C:Yi)(us:List Yj)(kw:List (Str×Yj)):Room k (A.under (.builtin "type.__call__" ⟨.ref C::us,kw⟩)):=⟨r.hd,by have:=r.dp;rw[Zlv];lia,by have:=r.un;rw[Zlu];lia,by first|exact r.gd|simpa[Around.under,Code.weight,Code.isCreation,Code.isGuard,Code.isCaller,Code.frames,Code.isFrame,guardIds]using r.gd⟩
theorem Room.depth(r:Room k A):A.depth<recursionLimit:=by have:=r.dp;lia
noncomputable def Znl:TA:=λ_ H Q=>Q [] H
noncomputable def Zl6(ta:TE)(tr:TA):TA:=λZ H Q=>ta Z H λx H1=>tr Z H1 λxs H2=>Q (x::xs) H2
section
variable {X:Cx}{e:Expr}{es:List Expr}{te:TE}{t:TA}{pos:Pos}
def Zcy:PA X [] Znl:=λ_ _ _ _ H Q I h=>Calls.spliced_nil ⟨[],H,I,.nil,h⟩
def ZaC(ha:PE X e te)(hr:PA X es t)(hs:YA (e::es) X.env=(Wy,eval e X.env)::YA es X.env:=by rfl):PA X (e::es) (Zl6 te t):=by intro pos aa s Z H Q I h;rw[hs];show YB _ _ (spliced ((Wy,eval e X.env)::YS pos (YA es X.env))) _ _ s;refine Calls.spliced_cons (thn (ha aa s Z H _ I h) λu s1 ⟨x,H1,I1,r1,q1⟩=>?_);exact thn (hr pos aa s1 Z H1 _ I1 q1) λus s2 ⟨xs,H2,I2,r2,q2⟩=>⟨x::xs,H2,I2,.cons r1 r2,q2⟩
def ZxG(t:TA):TE:=λZ H Q=>t Z H λxs H1=>xs.length<=sizeLine/\∀p,H1 p=M->Q (.ref p) (upd H1 p (.tup xs))
def ZxM(t:TA):TE:=λZ H Q=>t Z H λxs H1=>xs.length<=sizeLine/\∀p,H1 p=M->Q (.ref p) (upd H1 p (.lst xs))
def Zui{x1}(h:PA X es t):PE X (.Tuple es x1 pos) (ZxG t):=by intro aa s Z H Q I hq;refine wpAny_Tuple_spliced (thn (h pos aa s Z H _ I hq) λus s1 ⟨xs,H1,I1,r,z,q⟩=>⟨by rw[<-r.length];exact z,?_⟩);have hf:H1 s1.heap.objs.size=M:=I1.hok.fresh (Oq _);refine⟨.ref s1.heap.objs.size,upd H1 s1.heap.objs.size (.tup xs),I1.laid (t':=s1.toks) (λb u e=>Od _ e) (Oq _) ?_,rfl,q _ hf⟩;exact⟨z,us,r,⟨_,Oj _ rfl,rfl,rfl,_,rfl⟩⟩
def ZpC(h:PA X es t):PE X (.List es pos) (ZxM t):=by intro aa s Z H Q I hq;refine wpAny_List_spliced (thn (h pos aa s Z H _ I hq) λus s1 ⟨xs,H1,I1,r,z,q⟩=>⟨by rw[<-r.length];exact z,?_⟩);have hf:H1 s1.heap.objs.size=M:=I1.hok.fresh (Oq _);refine⟨.ref s1.heap.objs.size,upd H1 s1.heap.objs.size (.lst xs),I1.laid (t':=s1.toks) (λb u e=>Od _ e) (Oq _) ?_,rfl,q _ hf⟩;exact⟨z,us,0,r,Oj _ rfl⟩
end
abbrev Sp:=List V->Hp->VK->XK->Prop
abbrev CXT:=List Env->Hp->Yb->XK->Yj->Yb->Prop
structure Env0(P:Yh)(w:Yg)(K:Yk)(mg:Str->Option Yj)(base:YG)(A:YH)(outer:List Env)(s:Yb)(H:Hp):Prop where
 frames:A.frames=J outer
 mod:Mod K mg base
 bs:∀b o,base.get? b=J o->s.heap.get? b=J o/\H b=M
 bsz:base.objs.size<=s.heap.objs.size
 funs:s.heap.FunFrames base outer
 frf:∀b∈frs outer,H b=M
 hok:HOk P w H s.heap
 bare:AllBare s.gens
def CE(outer:List Env)(P:Yh)(w:Yg)(H:Hp)(s:Yb)(Q:VK)(u:Yj)(s':Yb):Prop:=∃v H',s'.os=s.os/\AllBare s'.gens/\Un (frs outer) [] H H' s.heap s'.heap/\HOk P w H' s'.heap/\RelV v u/\Q v H'
def CR(CX:CXT)(outer:List Env)(P:Yh)(w:Yg)(H:Hp)(s:Yb)(Q:VK)(E:XK)(r:Result)(s':Yb):Prop:=
 match r with
 |.ok (.ret u)=>CE outer P w H s Q u s'
 |.ok _=>False
 |.error e=>CX outer H s E e s'
structure FnOk(P:Yh)(w:Yg)(K:Yk)(mg:Str->Option Yj)(base:YG)(CX:CXT)(k:Nat)(f:Yi)(fd:FuncData)(ps:List Str)(sp:Sp):Prop where
 len:∀vs H Q E,sp vs H Q E->vs.length=ps.length
 run:∀(A:YH) (outer:List Env) (s:Yb) (H:Hp) (args:Args) (us:List Yj) (vs:List V) (Q:VK) (E:XK),Room k A->Env0 P w K mg base A outer s H->BindsTo s fd args (ps.zip us)->Zs vs us->sp vs H Q E ->
  codeAny (model P w) A (.call (.ref f) args) (CR CX outer P w H s Q E) s
def FnOk.imp{P:Yh}{w:Yg}{K:Yk}{mg:Str->Option Yj}{base:YG}{CX:CXT}{k:Nat}{f:Yi}{fd:FuncData}{ps:List Str}{sp jL:Sp}(F:FnOk P w K mg base CX k f fd ps sp)
 (h:∀vs H Q E,jL vs H Q E->sp vs H Q E):FnOk P w K mg base CX k f fd ps jL:=
 ⟨λvs H Q E q=>F.len vs H Q E (h _ _ _ _ q),λA outer s H args us vs Q E hr he hb hv hs=>F.run A outer s H args us vs Q E hr he hb hv (h _ _ _ _ hs)⟩
def Env0.make{P:Yh}{w:Yg}{K:Yk}{mg:Str->Option Yj}{base:YG}{A:YH}{outer:List Env}{s:Yb}{H:Hp}(e:Env0 P w K mg base A outer s H)(C:Yi)(us:List Yj)(kw:List (Str×Yj)):
 Env0 P w K mg base (A.under (.builtin "type.__call__" ⟨.ref C::us,kw⟩)) outer s H:=⟨by first|exact e.frames|(simpa[Around.under,Code.envs,Code.isFrame,pushEnvs]using e.frames),e.mod,e.bs,e.bsz,e.funs,e.frf,e.hok,e.bare⟩
section
variable {X:Cx}{aa:List (Yi×Obj)}{Z:St}{H:Hp}{s s':Yb}
def Inv.env0(I:Inv X aa Z H s):Env0 X.prog X.w X.K X.mg X.base X.A X.stack s H:=⟨I.ok.frames,I.ok.mod,I.bs,OE I.ok.bsz I.sz,I.stack,I.stkFree,I.hok,I.bare⟩
def Inv.after(I:Inv X aa Z H s)(h:CE X.stack X.prog X.w H s Q u s'):EP X aa Z Q u s':=by obtain⟨v,H',os,bare,un,hok,r,q⟩:=h;obtain⟨hh,g,d,t,lb⟩:=s';obtain rfl:lb=s.os:=os;exact⟨v,H',I.call (h':=hh) (g':=g) (d':=d) (t':=t) (ch:=[]) un hok bare (λb z=>absurd z (by simp)),r,q⟩
end
noncomputable def ZvY(sp:Sp)(aZ:List V)(E:XK)(t:TA):TE:=λZ H Q=>t Z H λvs H1=>sp (vs++aZ) H1 Q E
def Zs3(C:Yi)(m:Str)(sp:Sp)(aZ:List V)(E:XK)(ta:TE)(t:TA):TE:=λZ H Q=>ta Z H λx H1=>∃a dx fs,x=.ref a/\H1 a=J (.ins C dx fs)/\fs.lookup m=M /\
 t Z H1 λvs H2=>sp (x::(vs++aZ)) H2 Q E
def Zs4(C:Yi)(sp:Sp)(aZ:List V)(E:XK)(t:TA):TE:=λZ H Q=>t Z H λvs H1=>∀x dx,H1 x=M->H1 dx=M->dx≠x ->
 sp (.ref x::(vs++aZ)) (upd (upd H1 dx (.own x)) x (.ins C dx [])) (λv H2=>v=.non/\Q (.ref x) H2) E
def Binds(K:Yk)(fd:FuncData)(ps:List Str)(ds:List Yj):Prop:=∀(s:Yb) (us:List Yj),K.In s.heap->(us++ds).length=ps.length->BindsTo s fd ⟨us,[]⟩ (ps.zip (us++ds))
def Binds.all{K:Yk}(h:∀us:List Yj,us.length=ps.length->bindArgs fd ⟨us,[]⟩=pure (ps.zip us)):Binds K fd ps []:=λs us _ hl=>by rw[Ys]at hl ⊢;exact .of_eq (h us hl)
def Zbb(CX:CXT)(X:Cx)(E:XK):Prop:=∀(aa:List (Yi×Obj)) (Z:St) (H:Hp) (s:Yb) (e:Yj) (s':Yb),Inv X aa Z H s->CX X.stack H s E e s'->X.xe e s'
section
variable {X:Cx}{CX:CXT}{k:Nat}{f C:Yi}{fd:FuncData}{ps:List Str}{sp:Sp}{aZ:List V}{ds:List Yj}{E:XK}{x m:Str}{p pos apos:Pos}{e o:Expr}{es:List Expr}{ta:TE}{t:TA}
def Zk7(F:FnOk X.prog X.w X.K X.mg X.base CX k f fd ps sp)(hr:Room k X.A)(hb:Binds X.K fd ps ds)(hd:Zs aZ ds)(hx:Zbb CX X E)
 (I:Inv X aa Z H s) (r:Zs vs us) (h:sp (vs++aZ) H Q E):YB (model X.prog X.w) X.A (call (.ref f) us) (EP X aa Z Q) X.xe s:=by
 have r2:Zs (vs++aZ) (us++ds):=r.append hd;have hl:(us++ds).length=ps.length:=by rw[<-r2.length];exact F.len _ _ _ _ h
 refine wpAny_call (codeAny_mono (F.run X.A X.stack s H ⟨us,[]⟩ (us++ds) (vs++aZ) Q E hr I.env0 (hb s us I.kIn hl) r2 h) λr s' hq=>?_);cases r with
 |error e=>exact hx aa Z H s e s' I hq
 |ok fl=>
  cases fl with
  |ret u=>exact I.after hq
  |next=>exact False.elim hq
  |brk=>exact False.elim hq
  |cont=>exact False.elim hq
def ZrG(F:FnOk X.prog X.w X.K X.mg X.base CX k f fd ps sp)(hr:Room k X.A)(hg:Gl X x)(hm:X.mg x=J (.ref f))(hk:Wg X.K (.ref f)=Wx)(hb:Binds X.K fd ps ds)(hd:Zs aZ ds)(hx:Zbb CX X E)
 (ha:PA X (e::es) t) (bu:(x==("__debug__" : Str))=Wy:=by decide) (he:YA (e::es) X.env=(Wy,eval e X.env)::YA es X.env:=by rfl) (a9:(YS pos (YA es X.env)).any (·.1)=Wy:=by rfl) :
 PE X (.Call (.Name x p) (e::es) [] pos) (ZvY sp aZ E t):=by
 intro aa s Z H Q I h;refine YY (Zdc I hg hm ?_ bu);refine PySem.W.callWith_K (h₀:=X.base) I.ok.mod.kin hk (thn (ha pos aa s Z H _ I h) λus s1 ⟨vs,H1,I1,r,q⟩=>⟨I1.kIn,?_⟩) he a9;exact Zk7 F hr hb hd hx I1 r q
def ZrB(he:PE X o ta)(c:Cls X.K C)(hm:Meth X.K C m f)(F:FnOk X.prog X.w X.K X.mg X.base CX k f fd ps sp)(hr:Room k X.A)(hb:Binds X.K fd ps ds)(hd:Zs aZ ds)(hx:Zbb CX X E)(ha:PA X (e::es) t)
 (hst:YA (e::es) X.env=(Wy,eval e X.env)::YA es X.env:=by rfl) (a9:(YS pos (YA es X.env)).any (·.1)=Wy:=by rfl)
 (ht:eval (.Call (.Attribute o m apos) (e::es) [] pos) X.env=(do
  let ov <- eval o X.env
  standAt apos.atName
  let (f,first) <- holding [ov] (getMethod ov m pl)
  callWith pos f first (YS pos (YA (e::es) X.env)) (backToKw pos (Wc [] X.env))):=by rfl) :
 PE X (.Call (.Attribute o m apos) (e::es) [] pos) (Zs3 C m sp aZ E ta t):=by
 intro aa s Z H Q I h;refine PySem.W.methodCall_KW (pl:=pl) (thn (he aa s Z H _ I h) λu s1 ⟨x,H1,I1,rx,a,dx,fs,ex,ea,l,q⟩=>?_) ht;subst ex;obtain rfl:u=YD a:=rx;refine Zhf I1 ea c hm l ?_;refine PySem.W.callWith_K (first:=[.ref a]) (h₀:=X.base) I.ok.mod.kin hm.kp (thn (ha pos aa s1 Z H1 _ I1 q) λus s2 ⟨vs,H2,I2,r,q2⟩=>⟨I2.kIn,?_⟩) hst a9;exact Zk7 (us:=.ref a::us) (vs:=.ref a::vs) F hr hb hd hx I2 (.cons rfl r) q2
def ZpA(he:PE X o ta)(c:Cls X.K C)(hm:Meth X.K C m f)(F:FnOk X.prog X.w X.K X.mg X.base CX k f fd ps sp)(hr:Room k X.A)(hb:Binds X.K fd ps ds)(hd:Zs aZ ds)(hx:Zbb CX X E)
 (ht:eval (.Call (.Attribute o m apos) [] [] pos) X.env=(do
  let ov <- eval o X.env
  standAt apos.atName
  let (f,first) <- holding [ov] (getMethod ov m pl)
  callWith pos f first (YS pos (YA [] X.env)) (backToKw pos (Wc [] X.env))):=by rfl) :
 PE X (.Call (.Attribute o m apos) [] [] pos) (Zs3 C m sp aZ E ta Znl):=by
 intro aa s Z H Q I h;refine PySem.W.methodCall_KW (pl:=pl) (thn (he aa s Z H _ I h) λu s1 ⟨x,H1,I1,rx,a,dx,fs,ex,ea,l,q⟩=>?_) ht;subst ex;obtain rfl:u=YD a:=rx;refine Zhf I1 ea c hm l ?_;exact PySem.W.callWith_K0 (first:=[.ref a]) I1.kIn hm.kp (Zk7 (us:=[.ref a]) (vs:=[.ref a]) F hr hb hd hx I1 (.cons rfl .nil) q)
structure Mk(K:Yk)(C f:Yi):Prop where
 makes:PySem.W.makesIn K C=Wx
 init:YJ K (.ref C) "__init__"=J (J (.ref f))
 fn:PySem.W.isFn K (.ref f)=Wx
 kp:Wg K (.ref C)=Wx
def ZjJ(qd:Mk X.K C f)(F:FnOk X.prog X.w X.K X.mg X.base CX k f fd ps sp)(hr:Room (k+1) X.A)(hb:Binds X.K fd ps ds)(hd:Zs aZ ds)
 (hx:Zbb CX X E) (I:Inv X aa Z H s) (r:Zs vs us)
 (h:∀x dx,H x=M->H dx=M->dx≠x->sp (.ref x::(vs++aZ)) (upd (upd H dx (.own x)) x (.ins C dx [])) (λv H2=>v=.non/\Q (.ref x) H2) E) :
 YB (model X.prog X.w) X.A (call (.ref C) us) (EP X aa Z Q) X.xe s:=by
 have hq:=h (s.heap.objs.size+1) s.heap.objs.size (I.hok.fresh (Nat.le_succ _)) (I.hok.fresh (Oq _)) (Ou (OH _));have I2:=Inv.made (C:=C) I;have r2:Zs (V.ref (s.heap.objs.size+1)::(vs++aZ)) (YD (s.heap.objs.size+1)::(us++ds)):=.cons rfl (r.append hd);have hl:(YD (s.heap.objs.size+1)::us++ds).length=ps.length:=by have e:=r2.length;rw[F.len _ _ _ _ hq]at e;exact e.symm
 refine wpAny_call (ZpV (f:=f) I.kIn qd.makes qd.init (beq_iff_eq.mp qd.fn) (codeAny_mono (F.run _ X.stack _ _ ⟨YD (s.heap.objs.size+1)::us,[]⟩ (YD (s.heap.objs.size+1)::(us++ds)) _ _ E (hr.make C us [])
  (I2.env0.make C us []) (hb _ (YD (s.heap.objs.size+1)::us) I2.kIn hl) r2 hq) λr s' fR=>?_))
 cases r with
 |error e=>exact hx aa Z _ _ e s' I2 fR
 |ok fl=>
  cases fl with
  |ret u=>obtain⟨v,H',I3,rv,ev,q3⟩:=I2.after fR;subst ev;exact⟨rv,⟨V.ref (s.heap.objs.size+1),H',I3,rfl,q3⟩⟩
  |next=>exact False.elim fR
  |brk=>exact False.elim fR
  |cont=>exact False.elim fR
def ZrD(qd:Mk X.K C f)(F:FnOk X.prog X.w X.K X.mg X.base CX k f fd ps sp)(hr:Room (k+1) X.A)(hg:Gl X x)(hm:X.mg x=J (.ref C))(hb:Binds X.K fd ps ds)(hd:Zs aZ ds)(hx:Zbb CX X E)
 (ha:PA X (e::es) t) (bu:(x==("__debug__" : Str))=Wy:=by decide) (he:YA (e::es) X.env=(Wy,eval e X.env)::YA es X.env:=by rfl) (a9:(YS pos (YA es X.env)).any (·.1)=Wy:=by rfl) :
 PE X (.Call (.Name x p) (e::es) [] pos) (Zs4 C sp aZ E t):=by
 intro aa s Z H Q I h;refine YY (Zdc I hg hm ?_ bu);refine PySem.W.callWith_K (h₀:=X.base) I.ok.mod.kin qd.kp (thn (ha pos aa s Z H _ I h) λus s1 ⟨vs,H1,I1,r,q⟩=>⟨I1.kIn,?_⟩) he a9;exact ZjJ qd F hr hb hd hx I1 r q
def ZpB(qd:Mk X.K C f)(F:FnOk X.prog X.w X.K X.mg X.base CX k f fd ps sp)(hr:Room (k+1) X.A)(hg:Gl X x)(hm:X.mg x=J (.ref C))(hb:Binds X.K fd ps ds)(hd:Zs aZ ds)(hx:Zbb CX X E)
 (bu:(x==("__debug__" : Str))=Wy:=by decide):PE X (.Call (.Name x p) [] [] pos) (Zs4 C sp aZ E Znl):=by
 intro aa s Z H Q I h;refine YY (Zdc I hg hm ?_ bu);exact PySem.W.callWith_K0 I.kIn qd.kp (ZjJ (us:=[]) qd F hr hb hd hx I .nil h)
end
structure FnScope(N P:List Str)(sc:Scope):Prop where
 kind:sc.kind=.function
 co:sc.isCoroutine=Wy
 gen:sc.isGenerator=Wy
 nd:N.Nodup
 pre:N.take P.length=P
 par:∀x∈P,sc.names.lookup x=J .local\/sc.names.lookup x=J .cell
 nofree:∀y∈sc.names,y.2≠.free
theorem Ziz{kindOf:Str->Option NameKind}:∀{binds:List (Str×Yj)}{m:Str->Option Yj},(∀v,(x,v) ∉ binds)->bindL kindOf binds m x=m x
 |[],_,_=>rfl
 |(n,v)::r,m,h=>by
  unfold bindL;rw[Ziz λw hw=>h w (Oh _ hw)];split
  . have:x≠n:=by rintro rfl;exact h v Oi
    simp[this]
  . rfl
theorem ZiB{kindOf:Str->Option NameKind}:∀{binds:List (Str×Yj)}{m:Str->Option Yj},(∀v,(x,v) ∉ binds)->bindC kindOf binds m x=m x
 |[],_,_=>rfl
 |(n,v)::r,m,h=>by
  unfold bindC;rw[ZiB λw hw=>h w (Oh _ hw)];split
  . rfl
  . have:x≠n:=by rintro rfl;exact h v Oi
    simp[this]
theorem ZiA{kindOf:Str->Option NameKind}:∀{P:List Str}{vs:List Yj}{i:Nat}{m:Str->Option Yj},P.Nodup->P[i]?=J x->vs[i]?=J v->kindOf x=J .local ->
 bindL kindOf (P.zip vs) m x=J v
 |[],_,_,_,_,h,_,_=>by simp at h
 |_::_,[],_,_,_,_,h,_=>by simp at h
 |p::P,w::vs,0,m,nd,R,h2,hk=>by simp at R h2;subst R;subst h2;show bindL kindOf ((p,w)::P.zip vs) m p=_;unfold bindL;rw[Ziz λv hv=>(List.nodup_cons.mp nd).1 (List.of_mem_zip hv).1,if_pos hk];simp
 |p::P,w::vs,i+1,m,nd,R,h2,hk=>by show bindL kindOf ((p,w)::P.zip vs) m x=_;unfold bindL;exact ZiA (i:=i) (List.nodup_cons.mp nd).2 (by simpa using R) (by simpa using h2) hk
theorem ZiC{kindOf:Str->Option NameKind}:∀{P:List Str}{vs:List Yj}{i:Nat}{m:Str->Option Yj},P.Nodup->P[i]?=J x->vs[i]?=J v->kindOf x≠J .local ->
 bindC kindOf (P.zip vs) m x=J v
 |[],_,_,_,_,h,_,_=>by simp at h
 |_::_,[],_,_,_,_,h,_=>by simp at h
 |p::P,w::vs,0,m,nd,R,h2,hk=>by simp at R h2;subst R;subst h2;show bindC kindOf ((p,w)::P.zip vs) m p=_;unfold bindC;rw[ZiB λv hv=>(List.nodup_cons.mp nd).1 (List.of_mem_zip hv).1,if_neg hk];simp
 |p::P,w::vs,i+1,m,nd,R,h2,hk=>by show bindC kindOf ((p,w)::P.zip vs) m x=_;unfold bindC;exact ZiC (i:=i) (List.nodup_cons.mp nd).2 (by simpa using R) (by simpa using h2) hk
noncomputable def start(N:List Str)(vs:List V):St:=vs.map J++YK (N.length-vs.length) M
def Zf4(CX:CXT)(P:Yh)(w:Yg)(K:Yk)(mg:Str->Option Yj)(base:YG)(N:List Str)(ah:Str)(scope:Scope)(f:Yi)(cd:Yj)(A:YH)(outer:List Env)(s:Yb)(H:Hp)(E:XK):Cx where
 prog:=P
 w:=w
 K:=K
 mg:=mg
 base:=base
 A:=A.deeper (envOfC ah scope s.heap.objs.size f cd)
 N:=N
 s₀:=s
 H₀:=H
 env:=envOfC ah scope s.heap.objs.size f cd
 outer:=outer
 stack:=envOfC ah scope s.heap.objs.size f cd::outer
 ex:=[]
 calm:=Wx
 fn:=λ_=>Wx
 pn:=[]
 xe:=λe s'=>YB (model P w) (A.deeper (envOfC ah scope s.heap.objs.size f cd)) (leaving (envOfC ah scope s.heap.objs.size f cd) e) (λ_ dB=>CX outer H s E e dB) (λe' dB=>CX outer H s E e' dB) s'
def ZkA{sc:Scope}(h:sc.names.lookup x=J .cell):∃c,(cellsFrom n sc.names []).lookup x=J c:=by have q:=PySem.W.cellsFrom_some sc.names n [] (.inl h);exact Option.isSome_iff_exists.mp q
def Zn3{CX:CXT}{P:Yh}{w:Yg}{K:Yk}{mg:Str->Option Yj}{base:YG}{N ps:List Str}{ah:Str}{scope:Scope}{f:Yi}{cd:Yj}{A:YH}{outer:List Env}{s s1:Yb}{H:Hp}{E:XK}{us:List Yj}{vs:List V}
 (S_:FnScope N ps scope) (hd:A.handled=M) (e0:Env0 P w K mg base A outer s H) (hl:vs.length=ps.length) (r:Zs vs us)
 (x:InCallC s s.heap.objs.size (bindL (envOfC ah scope s.heap.objs.size f cd).kindOf (ps.zip us) λ_=>M) (cellsFrom (s.heap.objs.size+1) scope.names []) (bindC (envOfC ah scope s.heap.objs.size f cd).kindOf (ps.zip us) λ_=>M) s1) :
 Inv (Zf4 CX P w K mg base N ah scope f cd A outer s H E) [] (start N vs) H s1:=by
 have a9:ps.length<=N.length:=by have:=congrArg List.length S_.pre;rw[List.length_take]at this;lia
 obtain⟨R,tk,rfl,hk⟩:=x.done;have fH:∀b:Yi,b ∉ (Zf4 CX P w K mg base N ah scope f cd A outer s H E).ex:=λb z=>absurd (show b∈([]:List Yi)from z) (by simp);refine⟨⟨e0.mod,S_.kind,rfl,rfl,Oq _,λy z c R h2=>?_,λy hy=>?_,λy c _ h=>?_,λ_=>hd,Around.frames_deeper e0.frames,.inr ⟨rfl,rfl⟩,λb z=>absurd z (fH b),e0.bs,e0.bsz,λb _ _=>fH b,λb z=>absurd z (fH b),e0.funs,e0.frf⟩,
  rfl,e0.bare,Un.kept hk,⟨_,x.toInCall.ns,λi y v R h2 h3=>?_⟩,λy c h=>⟨_,x.cell y c h⟩,e0.hok.fresh (Oq _),λy c h=>?_,λp hp=>absurd (show p∈([]:List (Yi×Obj))from hp) (by simp),e0.hok.kept hk,?_⟩
 . exact name_of_addr x.apart (YI R) (YI h2)
 . have hy:scope.names.lookup y=J .cell\/scope.names.lookup y=J .free:=hy;rcases hy with hy|hy
   . exact ZkA hy
   . exact absurd rfl (S_.nofree _ (YI hy))
 . exact Yy (x.above y c (YI h))
 . have hi:i<vs.length:=by
    unfold start at h2;by_cases hi:i<vs.length
    . exact hi
    . rw[Om (by simpa using hi)]at h2;rw[List.getElem?_replicate]at h2;split at h2<;>cases h2
   have ha:vs[i]?=J v:=by
    unfold start at h2;rw[Oe (by simpa using hi),O2]at h2;cases e:vs[i]? with
    |none=>rw[e]at h2;cases h2
    |some a=>rw[e]at h2;cases h2;rfl
   obtain⟨u,hu,rv⟩:=r.get ha;have hp:ps[i]?=J y:=by rw[<-S_.pre,List.getElem?_take_of_lt (by lia)];exact R
   have jQ:ps.Nodup:=by rw[<-S_.pre];exact S_.nd.sublist (List.take_sublist _ _)
   refine⟨u,rv,?_⟩;rcases S_.par y (O1 hp)with k|k
   . exact .inl ⟨k,ZiA jQ hp hu k⟩
   . obtain⟨c,e⟩:=ZkA (n:=s.heap.objs.size+1) k;refine .inr ⟨.inl k,c,e,?_⟩;have q:=x.cell y c e;rw[ZiC jQ hp hu (by show scope.names.lookup y≠_;rw[k];decide)]at q;exact q
 . exact e0.hok.fresh (Yy (x.above y c (YI h)))
 . unfold start;show _=N.length;rw[OA,Yt,List.length_replicate]
   lia
def Zw7{CX:CXT}{P:Yh}{w:Yg}{K:Yk}{mg:Str->Option Yj}{base:YG}{k:Nat}{f:Yi}{name ah:Str}{params:Arguments}{body:List Stmt}{scope:Scope}{dV kV aL pm aF ct oc:Yj}{an od:Option Yi}
 {bV:Array (Option Yj)}{N ps:List Str}{sp:Sp} (lk:K.lookup f=J ⟨oc,od,.func (PySem.W.fnOf name ah params body scope dV kV aL pm an aF ct),bV⟩) (cE:PySem.W.codeIn K aF ah=Wx) (S_:FnScope N ps scope)
 (len:∀vs H Q E,sp vs H Q E->vs.length=ps.length)
 (gf:∀(A:YH) (outer:List Env) (s:Yb) (H:Hp) (vs:List V) (Q:VK) (E:XK),Room k (A.deeper (envOfC ah scope s.heap.objs.size f aF))->sp vs H Q E ->
  ∃t,PSs (Zf4 CX P w K mg base N ah scope f aF A outer s H E) body t/\t {nx:=λ_ H'=>Q .non H',rt:=Q} (start N vs) H) :
 FnOk P w K mg base CX (k+1) f (PySem.W.fnOf name ah params body scope dV kV aL pm an aF ct) ps sp:=by
 refine⟨len,λA outer s H args us vs Q E hr e0 hb r bJ=>?_⟩;have hl:=len _ _ _ _ bJ;have KX:K.In s.heap:=e0.mod.kin.keeps λb o e=>(e0.bs b o e).1;have lA:s.heap.NoLimit:=e0.mod.nolimit.keeps λb o e=>(e0.bs b o e).1;have fW:∀y∈ps.zip us,scope.names.lookup y.1=J .local\/(scope.names.lookup y.1=J .cell/\((cellsFrom (s.heap.objs.size+1) scope.names []).lookup y.1).isSome=Wx):=λ⟨n,v⟩ hy=>by
  rcases S_.par n (List.of_mem_zip hy).1 with q|q
  . exact .inl q
  . exact .inr ⟨q,PySem.W.cellsFrom_some _ _ _ (.inl q)⟩
 refine codeAny_call_function hr.depth (KX _ _ lk) rfl S_.co S_.gen rfl (PySem.W.codeRec_of KX cE) (hb _ _ _ _ ?_);refine wpAny_newFunctionEnv_cells S_.kind fW λenv he s1 x=>?_;subst he;refine⟨lA.keeps x.toInCall.keep,codeAny_func ?_⟩;obtain⟨t,ht,hq⟩:=gf A outer s H vs Q E (hr.deeper _) bJ;have I:Inv (Zf4 CX P w K mg base N ah scope f aF A outer s H E) [] (start N vs) H s1:=Zn3 S_ hr.hd e0 hl r x;refine Yf (ht [] s1 (start N vs) H _ I hq) (λfl s' hs=>?_) λe s' hs=>hs;have fin:∀{σ':St}{H':Hp}{v:V}{u:Yj},Inv (Zf4 CX P w K mg base N ah scope f aF A outer s H E) [] σ' H' s'->RelV v u->Q v H'->CE outer P w H s Q u s':=λ{σ' H' v u} qb rv q=>⟨v,H',qb.os,qb.bare,qb.base,qb.hok,rv,q⟩
 cases fl with
 |ret u=>obtain⟨v,σ',H',qb,rv,q⟩:=hs;exact fin qb rv q
 |next=>obtain⟨σ',H',qb,q⟩:=hs;exact fin (v:=V.non) (u:=Value.none) qb rfl q
 |brk=>obtain⟨_,_,_,q⟩:=hs;exact False.elim q
 |cont=>obtain⟨_,_,_,q⟩:=hs;exact False.elim q
section
variable {X:Cx}{x:Str}{p pos:Pos}{e:Expr}{es:List Expr}{t:TA}{id T:String}{r:List V->Hp->VK->Prop}
noncomputable def tCB(r:List V->Hp->VK->Prop)(t:TA):TE:=λZ H Q=>t Z H λvs H1=>r vs H1 Q
def ZcV(hc:Zcl X (.builtin id) r)(hg:Gl X x)(hm:X.mg x=M)(hv:bootBuiltins x=J (.builtin id))(ha:PA X (e::es) t)(hn:x ≠ "__name__" := by decide)(bu:(x==("__debug__" : Str))=Wy:=by decide)
 (he:YA (e::es) X.env=(Wy,eval e X.env)::YA es X.env:=by rfl) (a9:(YS pos (YA es X.env)).any (·.1)=Wy:=by rfl):PE X (.Call (.Name x p) (e::es) [] pos) (tCB r t):=by
 intro aa s Z H Q I h;refine YY (Zdd I hg hm hv ?_ hn bu);exact PyProof.Rows.callWith_builtin1 (thn (ha pos aa s Z H _ I h) λus s1 ⟨vs,H1,I1,r1,q1⟩=>hc aa s1 Z H1 vs us Q I1 r1 q1) he a9
def ZnK(hc:Zcl X (.type T) r)(hg:Gl X x)(hm:X.mg x=M)(hv:bootBuiltins x=J (.type T))(ha:PA X (e::es) t)(hn:x ≠ "__name__" := by decide)(bu:(x==("__debug__" : Str))=Wy:=by decide)
 (he:YA (e::es) X.env=(Wy,eval e X.env)::YA es X.env:=by rfl) (a9:(YS pos (YA es X.env)).any (·.1)=Wy:=by rfl):PE X (.Call (.Name x p) (e::es) [] pos) (tCB r t):=by
 intro aa s Z H Q I h;refine YY (Zdd I hg hm hv ?_ hn bu);exact PyProof.Rows.callWith_type1 (thn (ha pos aa s Z H _ I h) λus s1 ⟨vs,H1,I1,r1,q1⟩=>hc aa s1 Z H1 vs us Q I1 r1 q1) he a9
end
end L2
namespace HT
open PySem PyProof.Rows
section
variable {prog:Yh}{w:Yg}{A:YH}{E:Yj->Yb->Prop}{s:Yb}
def ZsD(ht:IsTup s.heap t vs.toArray)(hb:IsTup s.heap b ws.toArray)(hv:vs≠[])
 (R:ws=[]->Q (.ref t) s) (h2:ws≠[]->Q (.ref s.heap.objs.size) {s with heap:=s.heap.push {cls:=.type "tuple",data:=.seq (vs++ws).toArray}})
 (hsz:vs.length+ws.length<=sizeLine):YB (model prog w) A (binaryOp .Add (.ref t) (.ref b)) Q E s:=by
 obtain⟨⟨cls,dd,data,sl⟩,ho,hc,n,hd⟩:=id ht;obtain⟨⟨cls2,g9,data2,gC⟩,dR,ge,n2,f9⟩:=id hb;simp only at hc hd ge f9;subst hc hd ge f9;have e:vs.toArray++ws.toArray=(vs++ws).toArray:=by simp
 by_cases hw:ws=[]
 . exact concat_meets ⟨_,ho,rfl⟩ ⟨_,dR,rfl⟩ noFill_tuple_add seq_tuple_add PySem.F.slot_tuple_add PySem.F.entry_tuple_add (PySem.F.args_tuple_add_2 _ _)
    (tuple_addW1 t b vs.toArray ws.toArray n n2 dd g9 sl gC (by simpa using hv) (by simp[hw])) ⟨ho,dR,R hw⟩
 . refine concat_meets ⟨_,ho,rfl⟩ ⟨_,dR,rfl⟩ noFill_tuple_add seq_tuple_add PySem.F.slot_tuple_add PySem.F.entry_tuple_add (PySem.F.args_tuple_add_2 _ _)
    (tuple_addW2 t b vs.toArray ws.toArray n n2 dd g9 sl gC (by simpa using hv) (by simpa using hw) (by rw[Of,Of];exact hsz)) ⟨ho,dR,?_⟩
   rw[e];exact h2 hw
noncomputable def sIx(n d:Nat):Option Int->Nat
 |none=>d
 |some v=>if v<0 then(v+(n:Int)).toNat else min v.toNat n
def ZtQ(n d:Nat)(hd:d<=n)(o:Option Int):sIx n d o<=n:=by
 cases o with
 |none=>exact hd
 |some v=>
  show(if v<0 then(v+(n:Int)).toNat else min v.toNat n)<=n;by_cases hv:v<0
  . rw[if_pos hv];lia
  . rw[if_neg hv];exact Nat.min_le_right _ _
def ZmY(v:Int)(n d:Nat):(if v<0 then max (v+(n:Int)) 0 else min v (n:Int))=((sIx n d (J v):Nat):Int):=by
 show(if v<0 then max (v+(n:Int)) 0 else min v (n:Int))=(((if v<0 then(v+(n:Int)).toNat else min v.toNat n):Nat):Int)
 by_cases hv:v<0
 . simp only[if_pos hv];lia
 . simp only[if_neg hv];lia
def ZlT(lo hi:Option Int)(n:Nat):Builtin.Slice.sliceAdjust lo hi 1 (n:Int)=(((sIx n 0 lo:Nat):Int),((sIx n n hi:Nat):Int)):=by
 have R:¬ ((1:Int)<0):=by lia
 unfold Builtin.Slice.sliceAdjust;simp only[R,if_false];refine Prod.ext ?_ ?_
 . cases lo with
   |none=>rfl
   |some v=>exact ZmY v n 0
 . cases hi with
   |none=>rfl
   |some v=>exact ZmY v n n
def Zlj(i j:Nat):Builtin.Slice.slicePlaces (i:Int) (j:Int) 1=j-i:=by
 unfold Builtin.Slice.slicePlaces;have R:(1:Int) > 0:=by lia
 simp only[R,if_true,Int.ediv_one];split<;>lia
def ZgW(p:IsPart v o)(h:Q o s):YB (model prog w) A (Builtin.Slice.slicePartIndex v) Q E s:=by
 cases p with
 |none=>exact slicePart_none h
 |int i t=>exact slicePart_int h
def ZcU{sl:Yi}{vl vu:Yj}{lo hi:Option Int}{n:Nat}{Q:Int×Int×Nat->Yb->Prop}(hs:s.heap.IsSliceOf sl vl vu .none)(pl:IsPart vl lo)(pu:IsPart vu hi)
 (h:Q (((sIx n 0 lo:Nat):Int),1,sIx n n hi-sIx n 0 lo) s):YB (model prog w) A (Builtin.Slice.sliceApplied (.ref sl) (pure (n:Int))) Q E s:=by
 obtain⟨os,dN,gV,fZ⟩:=id hs;unfold Builtin.Slice.sliceApplied Builtin.Slice.sliceFields;refine Ya (Ya (YR dN fZ (x:=vl) rfl (Ya (YR dN fZ (x:=vu) rfl (Ya (YR dN fZ (x:=.none) rfl (Yc ?_)))))));refine Ya (slicePart_none ?_);show YB _ _ (if ((1:Int)==0)=Wx then _ else _) _ _ s;rw[if_neg (by decide)];refine Ya (ZgW pl (Ya (ZgW pu (Ya (Yc ?_)))));show YB _ _ (match Builtin.Slice.sliceAdjust lo hi 1 (n:Int)with|(lo,hi)=>pure (lo,(1:Int),Builtin.Slice.slicePlaces lo hi 1)) _ _ s;rw[ZlT lo hi n];show YB _ _ (pure (((sIx n 0 lo:Nat):Int),(1:Int),Builtin.Slice.slicePlaces ((sIx n 0 lo:Nat):Int) ((sIx n n hi:Nat):Int) 1)) _ _ s;rw[Zlj];exact Yc h
def Zpu(xs:Array Yj)(i k:Nat):((List.range k).filterMap λ(m:Nat)=>xs[((i:Int)+(m:Int)*1).toNat]?).toArray=((xs.toList.drop i).take k).toArray:=by
 have e:(λ(m:Nat)=>xs[((i:Int)+(m:Int)*1).toNat]?)=λm=>xs[i+m]? := by
  funext m;have:((i:Int)+(m:Int)*1).toNat=i+m:=by lia
  rw[this]
 rw[e];have:=pick_run xs i k;rw[List.filterMap_map]at this;have e2:((λx=>xs[x]?) ∘ λx=>i+x)=λm=>xs[i+m]? := rfl;rw[e2]at this;rw[this]
def Zfm{t sl:Yi}{items:Array Yj}{vl vu:Yj}{lo hi:Option Int}{Q:Yj->Yb->Prop}(ht:IsTup s.heap t items)(hs:s.heap.IsSliceOf sl vl vu .none)(pl:IsPart vl lo)(pu:IsPart vu hi)
 (hw:¬ (sIx items.size 0 lo=0/\sIx items.size items.size hi=items.size))
 (h:Q (.ref s.heap.objs.size) {s with heap:=s.heap.push {cls:=.type "tuple",data:=.seq ((items.toList.drop (sIx items.size 0 lo)).take (sIx items.size items.size hi-sIx items.size 0 lo)).toArray}})
 (hsz:items.size<=sizeLine):YB (model prog w) A (getItem (.ref t) (.ref sl)) Q E s:=by
 have bv:sizeOk (.seq ((items.toList.drop (sIx items.size 0 lo)).take (sIx items.size items.size hi-sIx items.size 0 lo)).toArray):=by
  show((items.toList.drop (sIx items.size 0 lo)).take (sIx items.size items.size hi-sIx items.size 0 lo)).toArray.size<=sizeLine;rw[Of,List.length_take,List.length_drop,Array.length_toList]
  lia
 have hj:sIx items.size items.size hi<=items.size:=ZtQ _ _ (Oq _) hi;obtain⟨os,dN,gV,fZ⟩:=id hs;have jw:s.TypeIs (.ref sl) "slice" := ⟨os,dN,gV⟩
 unfold getItem
 try with_reducible refine Wh ?_
 first|refine Ya (Yc ?_)|skip
 refine Ya (wpAny_sequenceKey ht.typeIs (by decide) ?_);refine Ya (We (name:=O "__getitem__") ht.typeIs Wo
  (Wi Wo ht.typeIs entry_tuple_getitem ?_ (args_tuple_getitem _ _)))
 show YB _ _ (Builtin.Tuple.tupleItemsOf (.ref t) >>= _) _ _ s;refine Ya (tupleItemsOf_ ht ?_);refine Ya (wpAny_typeOf jw ?_);rw[if_pos (by decide)];refine Ya (ZcU hs pl pu ?_);have lT:¬ ((((sIx items.size 0 lo:Nat):Int)==0&&(1:Int)==1&&(sIx items.size items.size hi-sIx items.size 0 lo)==items.size)=Wx):=by intro q;rw[Oa,Oa]at q;have q1:((sIx items.size 0 lo:Nat):Int)=0:=eq_of_beq q.1.1;have q2:sIx items.size items.size hi-sIx items.size 0 lo=items.size:=eq_of_beq q.2;exact hw ⟨by lia,by lia⟩
 show YB _ _ (if (((sIx items.size 0 lo:Nat):Int)==0&&(1:Int)==1&&(sIx items.size items.size hi-sIx items.size 0 lo)==items.size)=Wx then _ else _) _ _ s;rw[if_neg lT,Zpu]
 first
  |exact Ya (m:=Builtin.Tuple.tupleExact _) (Yq (Yc ⟨_,rfl,Yc h⟩) bv)
  |exact Ya (m:=Builtin.Tuple.tupleExact _) (Yq (Ya (Yc (Yc ⟨_,rfl,Yc h⟩))) bv)
  |exact Ya (Ya (m:=Builtin.Tuple.tupleExact _) (Yq (Yc (Yc ⟨_,rfl,Yc h⟩)) bv))
  |exact Ya (Ya (m:=Builtin.Tuple.tupleExact _) (Yq (Yc ⟨_,rfl,Yc h⟩) bv))
end
end HT
namespace L2
open PySem PySem.Spec PyProof.Rows
abbrev TO:=St->Hp->(Option Int->Hp->Prop)->Prop
def PO(X:Cx)(e:Option Expr)(t:TO):Prop:=
 ∀(aa:List (Yi×Obj)) (s:Yb) (Z:St) (H:Hp) (Q:Option Int->Hp->Prop),Inv X aa Z H s->t Z H Q ->
  YB (model X.prog X.w) X.A (evalPart e X.env) (λu s'=>∃o H',Inv X aa Z H' s'/\IsPart u o/\Q o H') X.xe s
noncomputable def Zq9:TO:=λ_ H Q=>Q M H
noncomputable def ZvS(t:TE):TO:=λZ H Q=>t Z H λx H1=>∃i,x=.int i/\Q (J i) H1
section
variable {X:Cx}{e:Expr}{te:TE}{lo hi:Option Expr}{tl th:TO}{pos p2:Pos}
def Zrw:PO X M Zq9:=by intro aa s Z H Q I h;rw[evalPart_none];exact Yc ⟨M,H,I,.none,h⟩
def Zrv(h:PE X e te):PO X (J e) (ZvS te):=by intro aa s Z H Q I hw;rw[evalPart_some];refine thn (h aa s Z H _ I hw) λu s1 ⟨x,H1,I1,r1,q1⟩=>?_;obtain⟨i,rfl,q⟩:=q1;obtain⟨t,rfl⟩:=r1;exact⟨J i,H1,I1,.int i t,q⟩
def SlR(X:Cx)(r:V->Option Int->Option Int->Hp->VK->Prop):Prop:=
 ∀(aa:List (Yi×Obj)) (s:Yb) (Z:St) (H:Hp) (x:V) (v vl vu:Yj) (lo hi:Option Int) (sl:Yi) (Q:VK),Inv X aa Z H s->RelV x v->s.heap.IsSliceOf sl vl vu .none->IsPart vl lo->IsPart vu hi->r x lo hi H Q ->
  ∃T id,typeLookup (.type T) "__getitem__"=pure (J (.builtin id))/\s.TypeIs v T/\YB (model X.prog X.w) X.A (getItem v (.ref sl)) (EP X aa Z Q) X.xe s
noncomputable def tSl(r:V->Option Int->Option Int->Hp->VK->Prop)(te:TE)(tl th:TO):TE:=λZ H Q=>te Z H λx H1=>tl Z H1 λl H2=>th Z H2 λu H3=>r x l u H3 Q
def Zpy(hr:SlR X r)(he:PE X e te)(hl:PO X lo tl)(hu:PO X hi th):PE X (.Subscript e (.Slice lo hi M p2) pos) (tSl r te tl th):=by intro aa s Z H Q I h;refine Subscript_ (thn (he aa s Z H _ I h) λv s1 ⟨x,H1,I1,r1,q1⟩=>?_);refine wpAny_Slice (thn (hl aa s1 Z H1 _ I1 q1) λvl s2 ⟨l,H2,I2,pl,q2⟩=>thn (hu aa s2 Z H2 _ I2 q2) λvu s3 ⟨u,H3,I3,pu,q3⟩=>?_);rw[evalPart_none];refine Yc ?_;have I4:Inv X aa Z H3 {s3 with heap:=s3.heap.push {cls:=.type "slice",data:=.fields #[vl,vu,.none]}}:=I3.kept (t':=s3.toks) λb ob q=>Od _ q;obtain⟨T,id,hT,ht,hg⟩:=hr aa {s3 with heap:=s3.heap.push {cls:=.type "slice",data:=.fields #[vl,vu,.none]}} Z H3 x v vl vu l u s3.heap.objs.size Q I4 r1 (Heap.IsSliceOf.new ..) pl pu q3;show YB (model X.prog X.w) X.A (subscriptTail e (.Slice lo hi M p2) v (.ref s3.heap.objs.size)) (EP X aa Z Q) X.xe {s3 with heap:=s3.heap.push {cls:=.type "slice",data:=.fields #[vl,vu,.none]}};exact tail_any (ops:=[.ref s3.heap.objs.size,v]) ht hT hg (by with_unfolding_all rfl)
def Zks(xs:List V)(lo hi:Option Int):List V:=(xs.drop (HT.sIx xs.length 0 lo)).take (HT.sIx xs.length xs.length hi-HT.sIx xs.length 0 lo)
def Zgo(xs:List V)(lo hi:Option Int):(Zks xs lo hi).length<=xs.length:=by
 unfold Zks;rw[List.length_take,List.length_drop]
 lia
def Zx1(K:Yk):V->Option Int->Option Int->Hp->VK->Prop:=λx lo hi H Q=>∃a xs,x=.ref a/\SqT K H a xs /\
 ¬ (HT.sIx xs.length 0 lo=0/\HT.sIx xs.length xs.length hi=xs.length)/\∀p,H p=M->Q (.ref p) (upd H p (.tup (Zks xs lo hi)))
def ZtM:SlR X (Zx1 X.K):=by
 intro aa s Z H x v vl vu lo hi sl Q I rx hs pl pu h;obtain⟨a,xs,rfl,hx,hw,q⟩:=h;cases rx;obtain⟨its,r,ht,hz⟩:=I.tuple hx;have al:its.toArray.size=xs.length:=by rw[Of];exact r.length.symm
 refine⟨"tuple",_,PyProof.Rows.slot_tuple_getitem.lookup,ht.typeIs,?_⟩;refine HT.Zfm ht hs pl pu (by rw[al];exact hw) ?_ (by rw[al];exact hz);rw[al];refine⟨.ref s.heap.objs.size,_,I.laid (t':=s.toks) (o:=.tup (Zks xs lo hi)) (λb ob q=>Od _ q) (Oq _) ?_,rfl,q _ (I.hok.fresh (Oq _))⟩;exact⟨OE (Zgo xs lo hi) hz,_,(r.drop (HT.sIx xs.length 0 lo)).take (HT.sIx xs.length xs.length hi-HT.sIx xs.length 0 lo),ZbS.fresh _ _⟩
def Zwj(K:Yk):R2:=λx y H Q=>∃a b xs ys,x=.ref a/\y=.ref b/\SqT K H a xs/\SqT K H b ys/\xs≠[]/\xs.length+ys.length<=sizeLine /\
 (ys=[]->Q (.ref a) H)/\(ys≠[]->∀p,H p=M->Q (.ref p) (upd H p (.tup (xs++ys))))
def Zs.nil_iff(r:Zs xs us):us=[]↔xs=[]:=by
 cases r with
 |nil=>simp
 |cons _ _=>simp
def ZrO:OpR X (binaryOp .Add) (Zwj X.K):=by intro aa s Z H x y v u Q I rx ry h;obtain⟨a,b,xs,ys,rfl,rfl,ha,hb,hx,hz,q1,q2⟩:=h;cases rx;cases ry;obtain⟨its,r1,p1,_⟩:=I.tuple ha;obtain⟨ay,r2,p2,_⟩:=I.tuple hb;refine HT.ZsD p1 p2 (λz=>hx (r1.nil_iff.mp z)) (λz=>⟨.ref a,H,I,rfl,q1 (r2.nil_iff.mp z)⟩) (λz=>?_) (by rw[<-r1.length,<-r2.length];exact hz);refine⟨.ref s.heap.objs.size,_,I.laid (t':=s.toks) (o:=.tup (xs++ys)) (λb ob q=>Od _ q) (Oq _) ?_,rfl,q2 (λw=>z (r2.nil_iff.mpr w)) _ (I.hok.fresh (Oq _))⟩;exact⟨by rw[OA];exact hz,_,r1.append r2,ZbS.fresh _ _⟩
end
noncomputable def ixN(n:Nat)(i:Int):Option Nat:=if 0<=i then(if i<n then J i.toNat else M)else if -(n:Int)<=i then J (i+n).toNat else M
def atI(xs:List α)(i:Int):Option α:=(ixN xs.length i).bind λj=>xs[j]?
def ZmK(h:ixN n i=J j):seqIndex? i n=J j/\j<n/\-(n:Int)<=i/\i<n:=by
 unfold ixN at h;by_cases h0:0<=i
 . rw[if_pos h0]at h;by_cases R:i<n
   . rw[if_pos R]at h;have e:i.toNat=j:=YF h;exact⟨by rw[seqIndex_of h0 R,e],by lia,by lia,R⟩
   . rw[if_neg R]at h;cases h
 . rw[if_neg h0]at h;by_cases R:-(n:Int)<=i
   . rw[if_pos R]at h;have e:(i+n).toNat=j:=YF h;exact⟨by rw[seqIndex_neg (by lia) R,e],by lia,R,by lia⟩
   . rw[if_neg R]at h;cases h
def ZjA(h:atI xs i=J v):∃j,seqIndex? i xs.length=J j/\xs[j]?=J v/\j<xs.length/\-(xs.length:Int)<=i/\i<xs.length:=by
 unfold atI at h;cases e:ixN xs.length i with
 |none=>rw[e]at h;cases h
 |some j=>rw[e]at h;obtain⟨R,h2,h3,h4⟩:=ZmK e;exact⟨j,R,h,h2,h3,h4⟩
def ZjC(b:Expr):Prop:=∀o i,subscripted b Wy o i=operate [o,i] (getItem o i)
def IxR(X:Cx)(r:R2):Prop:=
 ∀(value slice:Expr) (aa:List (Yi×Obj)) (s:Yb) (Z:St) (H:Hp) (x y:V) (v u:Yj) (Q:VK),Inv X aa Z H s->RelV x v->RelV y u->r x y H Q ->
  subscripted slice Wy v u=operate [v,u] (getItem v u)->YB (model X.prog X.w) X.A (subscriptTail value slice v u) (EP X aa Z Q) X.xe s
def MtR(X:Cx)(id:String)(r:V->List V->Hp->VK->Prop):Prop:=
 ∀(aa:List (Yi×Obj)) (s:Yb) (Z:St) (H:Hp) (x:V) (xs:List V) (v:Yj) (us:List Yj) (Q:VK),Inv X aa Z H s->RelV x v->Zs xs us->r x xs H Q ->
  YB (model X.prog X.w) X.A (call (.builtin id) (v::us)) (EP X aa Z Q) X.xe s
section
variable {X:Cx}{a b:Expr}{ta tb:TE}{pos:Pos}
def Zwu{r:R2}(hr:IxR X r)(ha:PE X a ta)(hb:PE X b tb)(hs:ZjC b):PE X (.Subscript a b pos) (tOp r ta tb):=by intro aa s Z H Q I h;exact Subscript_ (Zvr ha hb I h λv u s2 x y H2 I2 rx ry q=>hr a b aa s2 Z H2 x y v u Q I2 rx ry q (hs _ _))
def Zx7(K:Yk):R2:=λx y H Q=>∃p xs i v,x=.ref p/\y=.int i/\SqL K H p xs/\atI xs i=J v/\Q v H
def Zx5(K:Yk):R2:=λx y H Q=>∃p xs i v,x=.ref p/\y=.int i/\SqT K H p xs/\atI xs i=J v/\Q v H
def Zx6:R2:=λx y H Q=>∃z i c,x=.str z/\y=.int i/\z.length<=sizeLine/\atI z.cps.toList i=J c/\Q (.str ⟨#[c]⟩) H
def Zsd:IxR X (Zx7 X.K):=by
 intro value slice aa s Z H x y v u Q I rx ry h hs;obtain⟨p,xs,i,z,rfl,rfl,hq,he,q⟩:=h;cases rx;obtain⟨t,rfl⟩:=ry;obtain⟨its,r,pl,hz⟩:=I.list hq;obtain⟨j,R,h2,h3,h4,h5⟩:=ZjA he;obtain⟨w,ew,aw⟩:=r.get h2;have hl:=r.length;have hn:=Zca;have fin:EP X aa Z Q w s:=⟨z,H,I,aw,q⟩
 by_cases h0:0<=i
 . have hj:i.toNat=j:=by rw[seqIndex_of h0 h5]at R;exact YF R
   exact item_listR pl.isList h0 (by lia) (by rw[hj];simpa using ew) fin hs
 . have hj:(i+(its.toArray.size:Int)).toNat=j:=by rw[seqIndex_neg (by lia) h4]at R;rw[Of,<-hl];exact YF R
   exact subscriptTail_builtinR (x:=w) pl.isList.typeIs slot_list_getitem.lookup
    (wpAny_getItem_list_neg (Q:=λr s'=>r=w/\EP X aa Z Q r s') pl.isList (by lia) (by rw[Of]<;>lia) (by lia) (by rw[hj];simpa using ew) ⟨rfl,fin⟩) hs
def ZcB:IxR X (Zx5 X.K):=by
 intro value slice aa s Z H x y v u Q I rx ry h hs;obtain⟨p,xs,i,z,rfl,rfl,hq,he,q⟩:=h;cases rx;obtain⟨t,rfl⟩:=ry;obtain⟨its,r,pl,hz⟩:=I.tuple hq;obtain⟨j,R,h2,h3,h4,h5⟩:=ZjA he;obtain⟨w,ew,aw⟩:=r.get h2;have hl:=r.length;have hn:=Zca;have fin:EP X aa Z Q w s:=⟨z,H,I,aw,q⟩
 exact subscriptTail_builtinR (x:=w) pl.typeIs slot_tuple_getitem.lookup
  (getItem_tuple (j:=j) (Q:=λr s'=>r=w/\EP X aa Z Q r s') pl (by lia) (by lia) (by rw[Of,<-hl];exact R) (by simpa using ew) ⟨rfl,fin⟩) hs
theorem ZuZ:IxR X Zx6:=by
 intro value slice aa s Z H x y v u Q I rx ry h hs;obtain⟨z,i,c,rfl,rfl,hz,he,q⟩:=h;obtain⟨t,rfl⟩:=rx;obtain⟨t',rfl⟩:=ry;obtain⟨j,R,h2,h3,h4,h5⟩:=ZjA he;have hl:z.cps.toList.length=z.length:=by simp [Str.length]
 rw [hl] at R h4 h5;have hn:=Zca;exact tail_any (typeIs_str s z t) slot_str_getitem.lookup (getItem_str (c:=c) (by
   have e1:Wz (i < -(2^63:Int))=Wy:=decide_eq_false (by lia);have e2:Wz (i ≥ 2^63)=Wy:=decide_eq_false (by lia);rw [e1,e2,Bool.or_false]) (by rw [R];simpa using h2) ⟨.str ⟨#[c]⟩,H,I.tok _,⟨_,rfl⟩,q⟩) hs
def Zlt(its:List Yj)(n j:Nat)(u:Yj):Obj.mapSeq (·.setIfInBounds j u) {cls:=.type "list",data:=.seq its.toArray n}={cls:=.type "list",data:=.seq (its.set j u).toArray n}:=by simp[Obj.mapSeq]
theorem Inv.lst(I:Inv X aa Z H s)(h:H p=J (.lst xs)):
 ∃(its:List Yj) (n:Nat),Zs xs its/\s.heap.get? p=J {cls:=.type "list",data:=.seq its.toArray n}/\xs.length<=sizeLine:=by
 obtain⟨z,its,n,r,e⟩:=I.hok p _ h;exact⟨its,n,r,e,z⟩
def Inv.lstUpd{aa:List (Yi×Obj)}{Z:St}{H:Hp}{s:Yb}{p:Yi}{xs ys:List V}{its its':List Yj}{n n':Nat}{f:Obj->Obj}(I:Inv X aa Z H s)(h:H p=J (.lst xs))
 (ho:s.heap.get? p=J {cls:=.type "list",data:=.seq its.toArray n}) (hf:f {cls:=.type "list",data:=.seq its.toArray n}={cls:=.type "list",data:=.seq its'.toArray n'}) (r:Zs ys its') (hz:ys.length<=sizeLine) (t:Nat) :
 Inv X aa Z (upd H p (.lst ys)) {s with heap:=s.heap.update p f,toks:=t}:=by
 have e:(s.heap.update p f).get? p=J {cls:=.type "list",data:=.seq its'.toArray n'}:=by rw[YX f ho (by rw[hf]<;>rfl),hf]
 refine I.write (x:=p) (e:=p) (by rw[h];trivial) (.inl rfl) (λb u hb q=>(YN _ _ (YL hb)).trans q) ⟨_,e⟩ ?_;exact⟨hz,its',n',r,e⟩
def Zwg:V->V->V->Hp->(Hp->Prop)->Prop:=λo i v H Q=>∃p xs k j,o=.ref p/\i=.int k/\H p=J (.lst xs)/\ixN xs.length k=J j/\Q (upd H p (.lst (xs.set j v)))
def set_list:ZsV X Zwg:=by
 intro aa s Z H o i v ov iv u Q I ro ri rv h;obtain⟨p,xs,k,j,rfl,rfl,hp,hj,q⟩:=h;cases ro;obtain⟨t,rfl⟩:=ri;obtain⟨its,n,r,ho,hz⟩:=I.lst hp;obtain⟨R,h2,h3,h4⟩:=ZmK hj;have hl:=r.length;have hn:=Zca;have I':Inv X aa Z (upd H p (.lst (xs.set j v))) {s with heap:=s.heap.update p (Obj.mapSeq (·.setIfInBounds j u))}:=I.lstUpd hp ho (Zlt its n j u) (r.set rv j) (by rw[List.length_set];exact hz) s.toks
 by_cases h0:0<=k
 . have hk:k.toNat=j:=by rw[seqIndex_of h0 h4]at R;exact YF R
   exact PySem.W.ki_setAt ho h0 (by lia) (by rw[Of,<-hl];exact h4) (by rw[hk];exact⟨_,I',q⟩)
 . have hk:(k+(its.toArray.size:Int)).toNat=j:=by rw[seqIndex_neg (by lia) h3]at R;rw[Of,<-hl];exact YF R
   exact PySem.W.ki_setBack ho (by lia) (by rw[Of,<-hl];exact h3) (by lia) (by rw[hk];exact⟨_,I',q⟩)
def ZiQ(lo hi:Option Int)(n:Nat):(sliceBounds lo hi M n).1=((HT.sIx n 0 lo:Nat):Int)/\(sliceBounds lo hi M n).2.1=((HT.sIx n n hi:Nat):Int)/\(sliceBounds lo hi M n).2.2=1:=by
 refine⟨?_,?_,rfl⟩
 . cases lo with
   |none=>simp[sliceBounds,HT.sIx]
   |some i=>
    simp only[sliceBounds,HT.sIx,Option.getD_none,show(1:Int) > 0 by decide,if_true];by_cases h:i<0
    . simp only[h,if_true]<;>lia
    . simp only[h,if_false]<;>lia
 . cases hi with
   |none=>simp[sliceBounds,HT.sIx]
   |some i=>
    simp only[sliceBounds,HT.sIx,Option.getD_none,show(1:Int) > 0 by decide,if_true];by_cases h:i<0
    . simp only[h,if_true]<;>lia
    . simp only[h,if_false]<;>lia
def ZhP(its:List Yj)(lo hi:Option Int):slicePick its.toArray lo hi M=((its.drop (HT.sIx its.length 0 lo)).take (HT.sIx its.length its.length hi-HT.sIx its.length 0 lo)).toArray:=by obtain⟨R,h2,h3⟩:=ZiQ lo hi its.toArray.size;unfold slicePick;rw[R,h2,h3];simp only[sliceRange_one,pick_run,Of]<;>rfl
def Zx3(K:Yk):V->Option Int->Option Int->Hp->VK->Prop:=λx lo hi H Q=>∃a xs,x=.ref a/\SqL K H a xs/\∀p,H p=M->Q (.ref p) (upd H p (.lst (Zks xs lo hi)))
def Zrc:SlR X (Zx3 X.K):=by intro aa s Z H x v vl vu lo hi sl Q I rx hs pl pu h;obtain⟨a,xs,rfl,hx,q⟩:=h;cases rx;obtain⟨its,r,ht,hz⟩:=I.list hx;have al:=r.length;refine⟨"list",_,slot_list_getitem.lookup,ht.isList.typeIs,?_⟩;refine wpAny_getItem_list_slice ht.isList hs pl pu .none (by simp) ?_ (by rw[Of]<;>lia);rw[ZhP,<-al];refine⟨.ref s.heap.objs.size,_,I.laid (t':=s.toks) (o:=.lst (Zks xs lo hi)) (λb ob q=>Od _ q) (Oq _) ?_,rfl,q _ (I.hok.fresh (Oq _))⟩;exact⟨OE (Zgo xs lo hi) hz,_,0,(r.drop (HT.sIx xs.length 0 lo)).take (HT.sIx xs.length xs.length hi-HT.sIx xs.length 0 lo),Oj _ rfl⟩
noncomputable def ZeJ:V->Bool
 |.non=>Wx
 |.bl _=>Wx
 |.int _=>Wx
 |.str _=>Wx
 |_=>Wy
noncomputable def eqV:V->V->Bool
 |.non,.non=>Wx
 |.bl a,.bl b=>a==b
 |.bl a,.int b=>(if a then 1 else 0)==b
 |.int a,.bl b=>a==(if b then 1 else 0)
 |.int a,.int b=>a==b
 |.str a,.str b=>a==b
 |_,_=>Wy
def Zvj(ry:RelV y u)(rx:RelV x v)(fy:ZeJ y=Wx)(fx:ZeJ x=Wx):SeqAt.EqAt A s u v (eqV y x):=by
 cases y with
 |non=>
  cases ry;cases x with
  |non=>cases rx;exact SeqAt.EqAt.same _
  |bl b=>cases rx;exact SeqAt.EqAt.none_bool b
  |int b=>obtain⟨t,rfl⟩:=rx;exact SeqAt.EqAt.none_int b t
  |str b=>obtain⟨t,rfl⟩:=rx;exact SeqAt.EqAt.none_str b t
  |_=>exact absurd (show Wy=Wx from fx) Ow
 |bl a=>
  cases ry;cases x with
  |non=>cases rx;exact SeqAt.EqAt.bool_none a
  |bl b=>cases rx;exact SeqAt.EqAt.bool_bool a b
  |int b=>obtain⟨t,rfl⟩:=rx;exact SeqAt.EqAt.bool_int a b t
  |str b=>obtain⟨t,rfl⟩:=rx;exact SeqAt.EqAt.bool_str a b t
  |_=>exact absurd (show Wy=Wx from fx) Ow
 |int a=>
  obtain⟨t',rfl⟩:=ry;cases x with
  |non=>cases rx;exact SeqAt.EqAt.int_none a t'
  |bl b=>cases rx;exact SeqAt.EqAt.int_bool a t' b
  |int b=>obtain⟨t,rfl⟩:=rx;exact SeqAt.EqAt.int_int a t' b t
  |str b=>obtain⟨t,rfl⟩:=rx;exact SeqAt.EqAt.int_str a t' b t
  |_=>exact absurd (show Wy=Wx from fx) Ow
 |str a=>
  obtain⟨t',rfl⟩:=ry;cases x with
  |non=>cases rx;exact SeqAt.EqAt.str_none a t'
  |bl b=>cases rx;exact SeqAt.EqAt.str_bool a t' b
  |int b=>obtain⟨t,rfl⟩:=rx;exact SeqAt.EqAt.str_int a t' b t
  |str b=>obtain⟨t,rfl⟩:=rx;exact SeqAt.EqAt.str_str a t' b t
  |_=>exact absurd (show Wy=Wx from fx) Ow
 |_=>exact absurd (show Wy=Wx from fy) Ow
def eqU(x:V)(u:Yj):Bool:=match u with
 |.none=>eqV .non x
 |.bool b=>eqV (.bl b) x
 |.int i _=>eqV (.int i) x
 |.str z _=>eqV (.str z) x
 |_=>Wy
def Zqs(r:RelV y u)(f:ZeJ y=Wx):eqU x u=eqV y x:=by
 cases y with
 |non=>cases r;rfl
 |bl b=>cases r;rfl
 |int i=>obtain⟨t,rfl⟩:=r;rfl
 |str z=>obtain⟨t,rfl⟩:=r;rfl
 |_=>exact absurd (show Wy=Wx from f) Ow
theorem ZfG:∀{xs:List V}{us:List Yj},Zs xs us->xs.all ZeJ=Wx->us.any (eqU x)=xs.any λy=>eqV y x
 |_,_,.nil,_=>rfl
 |y::xs,u::us,.cons r t,f=>by rw[List.all_cons,Oa]at f;rw[Wf,Wf,Zqs r f.1,ZfG t f.2]
theorem ZdP(rx:RelV x v)(fx:ZeJ x=Wx):∀{xs:List V}{us:List Yj},Zs xs us->xs.all ZeJ=Wx->∀u∈us,SeqAt.EqAt A s u v (eqU x u)
 |_,_,.nil,_=>λu hu=>by cases hu
 |y::xs,u::us,.cons r t,f=>λu' hu=>by
  rw[List.all_cons,Oa]at f;rcases O3.mp hu with rfl|hu
  . rw[Zqs r f.1];exact Zvj r rx f.1 fx
  . exact ZdP rx fx t f.2 u' hu
def inV(x:V)(xs:List V):Bool:=xs.any λy=>eqV y x
def rIn(K:Yk)(neg:Bool):R2:=λx y H Q=>∃p xs,y=.ref p/\(SqL K H p xs\/SqT K H p xs)/\ZeJ x=Wx/\xs.all ZeJ=Wx/\Q (.bl (if neg then !inV x xs else inV x xs)) H
def ZnO:OpR X (YM .In) (rIn X.K Wy):=by
 intro aa s Z H x y v u Q I rx ry h;obtain⟨p,xs,rfl,hq,fx,fs,q⟩:=h;cases ry;rcases hq with hq|hq
 . obtain⟨its,r,pl,hz⟩:=I.list hq;refine SeqAt.in_listAt (eqU x) pl.isList (λw hw=>ZdP rx fx r fs w (by simpa using hw)) ⟨.bl _,H,I,rfl,?_⟩;rw[show its.toArray.any (eqU x)=its.any (eqU x) by simp,ZfG r fs];exact q
 . obtain⟨its,r,pl,hz⟩:=I.tuple hq;refine SeqAt.in_tupleAt (eqU x) pl (λw hw=>ZdP rx fx r fs w (by simpa using hw)) ⟨.bl _,H,I,rfl,?_⟩;rw[show its.toArray.any (eqU x)=its.any (eqU x) by simp,ZfG r fs];exact q
def ZiW:OpR X (YM .NotIn) (rIn X.K Wx):=by
 intro aa s Z H x y v u Q I rx ry h;obtain⟨p,xs,rfl,hq,fx,fs,q⟩:=h;cases ry;rcases hq with hq|hq
 . obtain⟨its,r,pl,hz⟩:=I.list hq;refine SeqAt.notIn_listAt (eqU x) pl.isList (λw hw=>ZdP rx fx r fs w (by simpa using hw)) ⟨.bl _,H,I,rfl,?_⟩;rw[show its.toArray.any (eqU x)=its.any (eqU x) by simp,ZfG r fs];exact q
 . obtain⟨its,r,pl,hz⟩:=I.tuple hq;refine SeqAt.notIn_tupleAt (eqU x) pl (λw hw=>ZdP rx fx r fs w (by simpa using hw)) ⟨.bl _,H,I,rfl,?_⟩;rw[show its.toArray.any (eqU x)=its.any (eqU x) by simp,ZfG r fs];exact q
def Zjl:Zcl X (.builtin "len") (λxs H Q=>∃p ys,xs=[.ref p]/\(SqL X.K H p ys\/SqT X.K H p ys)/\Q (.int ys.length) H):=by
 intro aa s Z H xs us Q I r h;obtain⟨p,ys,rfl,hq,q⟩:=h;obtain⟨u,rfl,rx⟩:=vals1 r;cases rx;have hn:=Zca;rcases hq with hq|hq
 . obtain⟨its,r',pl,hz⟩:=I.list hq;have al:=r'.length;exact Calls.call_len_list pl.isList (by simp only[Of]<;>lia) ⟨.int ys.length,H,I.tok _,⟨s.toks+1,by rw[Of,al]⟩,q⟩
 . obtain⟨its,r',pl,hz⟩:=I.tuple hq;have al:=r'.length;exact len_tuple pl (by simp only[Of]<;>lia) ⟨.int ys.length,H,I.tok _,⟨s.toks+1,by rw[Of,al]⟩,q⟩
def Zjk:Zcl X (.builtin "len") (λxs H Q=>∃z,xs=[.str z]/\z.length<=sizeLine/\Q (.int z.length) H):=by intro aa s Z H xs us Q I r h;obtain⟨z,rfl,hz,q⟩:=h;obtain⟨u,rfl,t,rfl⟩:=vals1 r;have hn:=Zca;exact len_str (by lia) ⟨.int z.length,H,I.tok _,⟨_,rfl⟩,q⟩
def ZeP:Zcl X (.type "tuple") (λxs H Q=>∃p ys,xs=[.ref p]/\((SqL X.K H p ys/\∀l,H l=M->Q (.ref l) (upd H l (.tup ys)))\/(SqT X.K H p ys/\Q (.ref p) H))):=by
 intro aa s Z H xs us Q I r h;obtain⟨p,ys,rfl,h⟩:=h;obtain⟨u,rfl,rx⟩:=vals1 r;cases rx;rcases h with⟨hq,q⟩|⟨hq,q⟩
 . obtain⟨its,r',pl,hz⟩:=I.list hq;have al:=r'.length;refine call_tuple_list pl.isList (λh' kp=>?_) (by simp only[Of]<;>lia);have I1:Inv X aa Z H {s with heap:=h'}:=I.kept (t':=s.toks) kp;have I2:Inv X aa Z (upd H h'.objs.size (.tup ys)) {s with heap:=h'.push {cls:=.type "tuple",data:=.seq its.toArray}}:=I1.laid (t':=s.toks) (λb o e=>Od _ e) (Oq _) (show Zat X.prog X.w _ _ _ (.tup ys)from⟨hz,its,r',ZbS.fresh _ _⟩)
   exact⟨.ref h'.objs.size,_,I2,rfl,q _ (I1.hok.fresh (Oq _))⟩
 . obtain⟨its,r',pl,hz⟩:=I.tuple hq;exact call_tuple_same pl ⟨.ref p,H,I,rfl,q⟩
def tyV(K:Yk)(T:String)(x:V)(H:Hp):Prop:=match x with
 |.str _=>T="str"
 |.int _=>T="int"
 |.ref p=>(T="list" /\ ∃xs,SqL K H p xs)\/(T="tuple" /\ ∃o,K.lookup p=J o/\o.cls=.type "tuple" /\ o.dict=M) \/
  (T="dict" /\ ((∃kvs,H p=J (.dK kvs))\/∃kvs,H p=J (.dT kvs)))\/(T="set" /\ ∃S_ n,H p=J (.set S_ n))
 |_=>False
def ZoF(I:Inv X aa Z H s)(r:RelV x v)(ty:tyV X.K T x H):
 s.TypeIs v T/\∀a,v=.ref a->∃ob,s.heap.get? a=J ob/\ob.dict=M:=by
 cases x with
 |str z=>obtain⟨t,rfl⟩:=r;cases (show T="str" from ty);exact⟨typeIs_str s z t,λ_ e=>nomatch e⟩
 |int i=>obtain⟨t,rfl⟩:=r;cases (show T="int" from ty);exact⟨typeIs_int s i t,λ_ e=>nomatch e⟩
 |ref p=>
  cases r;rcases ty with⟨rfl,xs,hq⟩|⟨rfl,o,hk,hc,hd⟩|⟨rfl,hk⟩|⟨rfl,S_,n,hk⟩
  . obtain⟨its,_,pl,_⟩:=I.list hq;refine⟨pl.isList.typeIs,λa e=>?_⟩;cases e;obtain⟨o,n,e,c,hd,_⟩:=pl;exact⟨o,e,hd⟩
  . refine⟨⟨o,I.kIn p o hk,hc⟩,λa e=>?_⟩;cases e;exact⟨o,I.kIn _ o hk,hd⟩
  . have z:∃o,s.heap.get? p=J o/\o.ExactDict:=by
     rcases hk with⟨kvs,hk⟩|⟨kvs,hk⟩
     . obtain⟨_,_,_,_,o,_,_,e,ex,_⟩:=I.hok p _ hk;exact⟨o,e,ex⟩
     . obtain⟨_,_,_,_,o,_,_,e,ex,_⟩:=I.hok p _ hk;exact⟨o,e,ex⟩
    obtain⟨o,e,ex⟩:=z;refine⟨⟨o,e,ex.1⟩,λa e2=>?_⟩;cases e2;exact⟨o,e,ex.2.1⟩
  . obtain⟨o,_,_,_,e,ex,_⟩:=I.hok p _ hk;refine⟨⟨o,e,ex.1⟩,λa e2=>?_⟩;cases e2;exact⟨o,e,ex.2.1⟩
 |_=>exact False.elim ty
noncomputable def ZxR(K:Yk)(T:String)(r:V->List V->Hp->VK->Prop)(to:TE):TE:=λZ H Q=>to Z H λx H1=>tyV K T x H1/\r x [] H1 Q
noncomputable def tBM(K:Yk)(T:String)(r:V->List V->Hp->VK->Prop)(to:TE)(t:TA):TE:=λZ H Q=>to Z H λx H1=>tyV K T x H1/\t Z H1 λxs H2=>r x xs H2 Q
variable {o e:Expr}{es:List Expr}{to:TE}{t:TA}{name:Str}{apos ao:Pos}{T id:String}{r:V->List V->Hp->VK->Prop}
def Zup(pa:PlainAttrs T)(slot:Slot T name id)(iY:typeOf (.builtin id)=pure (.type "method_descriptor"))(hm:MtR X id r)(ho:PE X o to)
 (aY:attributeBase o name X.env (eval o X.env)=eval o X.env:=by rfl) (aR:(apos.endLine==ao.line)=Wx:=by rfl):PE X (.Call (.Attribute o name apos) [] [] ao) (ZxR X.K T r to):=by
 intro aa s Z H Q I h;refine wpAny_Call_method0_late aY aR (thn (ho aa s Z H _ I h) λv s1 ⟨x,H1,I1,r1,ty,q1⟩=>?_);obtain⟨R,h2⟩:=ZoF I1 r1 ty;exact⟨T,id,pa,slot,iY,R,h2,Calls.callWith_builtin rfl (PySem.evalArgs_none (hm aa s1 Z H1 x [] v [] Q I1 r1 .nil q1))⟩
def Zwv(pa:PlainAttrs T)(slot:Slot T name id)(iY:typeOf (.builtin id)=pure (.type "method_descriptor"))(hm:MtR X id r)(ho:PE X o to)(ha:PA X (e::es) t)
 (aY:attributeBase o name X.env (eval o X.env)=eval o X.env:=by rfl)
 (d9:((YS ao (YA (e::es) X.env)).all (λx=>!x.1)&&(backToKw ao (Wc [] X.env)).all (λx=>x.1.isSome)
  && Wz ((e::es).length+([]:List Keyword).length+(if ([]:List Keyword).isEmpty then 0 else 1)<30))=Wx:=by rfl)
 (aR:(apos.endLine==ao.line)=Wx:=by rfl) (hs:YA (e::es) X.env=(Wy,eval e X.env)::YA es X.env:=by rfl) (dL:(YS ao (YA es X.env)).any (·.1)=Wy:=by rfl) :
 PE X (.Call (.Attribute o name apos) (e::es) [] ao) (tBM X.K T r to t):=by
 intro aa s Z H Q I h;refine wpAny_Call_method_late aY d9 aR rfl (thn (ho aa s Z H _ I h) λv s1 ⟨x,H1,I1,r1,ty,q1⟩=>?_);obtain⟨R,h2⟩:=ZoF I1 r1 ty;refine⟨T,id,pa,slot,iY,R,h2,?_⟩;have hA:=ha ao aa s1 Z H1 _ I1 q1;rw[hs]at hA ⊢;refine Calls.callWith_builtin (by show(Wy||(YS ao (YA es X.env)).any (·.1))=Wy;rw[dL]<;>rfl) (Calls.evalArgs_plain ?_);exact thn hA λus s2 ⟨vs,H2,I2,r2,q2⟩=>hm aa s2 Z H2 x vs v us Q I2 r1 r2 q2
end
def MtM(X:Cx)(id:String)(r:V->List V->Hp->VK->Prop):Prop:=
 ∀(aa:List (Yi×Obj)) (s:Yb) (Z:St) (H:Hp) (x:V) (xs:List V) (v:Yj) (us:List Yj) (Q:VK),Inv X aa Z H s->RelV x v->Zs xs us->r x xs H Q ->
  YB (model X.prog X.w) X.A (call (.builtin id) (v::us)) (EP X aa Z Q) X.xe s
def Zs.one:∀{x:V}{us:List Yj},Zs [x] us->∃u,us=[u]/\RelV x u
 |_,_,.cons r .nil=>⟨_,rfl,r⟩
def Zs.zero:∀{us:List Yj},Zs [] us->us=[]
 |_,.nil=>rfl
theorem Zs.dropLast(h:Zs xs us):Zs xs.dropLast us.dropLast:=by
 induction h with
 |nil=>exact .nil
 |cons r t ih=>
  cases t with
  |nil=>exact .nil
  |cons q t'=>exact .cons r ih
theorem Zs.reverse(h:Zs xs us):Zs xs.reverse us.reverse:=by
 induction h with
 |nil=>exact .nil
 |cons r t ih=>rw[List.reverse_cons,List.reverse_cons];exact Zs.append ih (.cons r .nil)
def ZlI(l:List α):l.eraseIdx (l.length-1)=l.dropLast:=by
 induction l with
 |nil=>rfl
 |cons a r ih=>
  cases r with
  |nil=>rfl
  |cons b r=>
   have e:(a::b::r).length-1=((b::r).length-1)+1:=by
    have R:(a::b::r).length=r.length+2:=rfl;have h2:(b::r).length=r.length+1:=rfl
    lia
   rw[e,List.eraseIdx_cons_succ,ih]
   all_goals rfl
section
variable {X:Cx}{aa:List (Yi×Obj)}{Z:St}{H:Hp}{s:Yb}{l:Yi}{xs ys:List V}
def Inv.lset{its its':List Yj}{n:Nat}{f:Array Yj->Array Yj}{t':Nat}(I:Inv X aa Z H s)(hH:H l=J (.lst xs))
 (e:s.heap.get? l=J {cls:=.type "list",data:=.seq its.toArray n}) (hf:f its.toArray=its'.toArray) (hv:Zs ys its') (hz:ys.length<=sizeLine) :
 Inv X aa Z (upd H l (.lst ys)) {s with heap:=s.heap.update l (Obj.mapSeq f),toks:=t'}:=by
 have q:=PySem.IsL.update e f;rw[hf]at q;refine I.write (x:=l) (e:=l) (by rw[hH];exact trivial) (.inl rfl) (λb' u hb hu=>(YN s.heap (Obj.mapSeq f) (YL hb)).trans hu) ⟨_,q⟩ ?_;exact⟨hz,its',_,hv,q⟩
def Inv.lnew(I:Inv X aa Z H s)(hv:Zs ys its)(hz:ys.length<=sizeLine):
 Inv X aa Z (upd H s.heap.objs.size (.lst ys)) {s with heap:=s.heap.push {cls:=.type "list",data:=.seq its.toArray},toks:=t'}:=
 I.laid (λ_ _ q=>Od _ q) (Oq _) ⟨hz,its,0,hv,Oj _ rfl⟩
theorem Inv.fresh(I:Inv X aa Z H s):H s.heap.objs.size=M:=I.hok.fresh (Oq _)
def Inv.lstM(I:Inv X aa Z H s)(hH:H l=J (.lst xs)):xs.length<=sizeLine/\∃(its:List Yj) (n:Nat),Zs xs its/\xs.length=its.length/\s.heap.get? l=J {cls:=.type "list",data:=.seq its.toArray n}:=by obtain⟨z,its,n,r,e⟩:=I.hok l _ hH;exact⟨z,its,n,r,r.length,e⟩
def Zj0{n:Nat}(h:n<=sizeLine):Wq n=Wy:=by unfold Wq;exact decide_eq_false (by lia)
end
section
variable {X:Cx}
def Zrn:V->List V->Hp->VK->Prop:=λx vs H Q=>∃l xs y,x=.ref l/\vs=[y]/\H l=J (.lst xs)/\xs.length<sizeLine/\Q .non (upd H l (.lst (xs++[y])))
def Zik:MtM X "list.append" Zrn:=by
 intro aa s Z H x vs v us Q I rx rv h;obtain⟨l,xs,y,rfl,rfl,hH,hz,q⟩:=h;cases rx;obtain⟨u,rfl,ru⟩:=rv.one;obtain⟨z,its,n,r,hl,e⟩:=I.lstM hH;refine call_meets F.slot_list_append ⟨_,e,rfl⟩ F.entry_list_append (F.args_list_append_2 _ _) (PySem.list_append l its.toArray n u (by rw[Of];lia)) ⟨e,?_⟩;refine⟨.non,_,I.lset (its':=its++[u]) hH e (by simp) (r.append (.cons ru .nil)) ?_,rfl,q⟩;rw[OA,List.length_singleton]
 lia
def Zrm:V->List V->Hp->VK->Prop:=λx vs H Q=>∃l b xs zs,x=.ref l/\vs=[.ref b]/\H l=J (.lst xs)/\H b=J (.lst zs)/\xs.length+zs.length<=sizeLine/\Q .non (upd H l (.lst (xs++zs)))
def ZnT:MtM X "list.extend" Zrm:=by
 intro aa s Z H x vs v us Q I rx rv h;obtain⟨l,b,xs,zs,rfl,rfl,hH,hB,hz,q⟩:=h;cases rx;obtain⟨u,rfl,ru⟩:=rv.one;cases ru;obtain⟨z,its,n,r,hl,e⟩:=I.lstM hH;obtain⟨z2,ay,n2,r2,bN,e2⟩:=I.lstM hB;have hsz:its.toArray.size+ay.toArray.size<=sizeLine:=by rw[Of,Of];lia
 have cf:¬ (!its.toArray.isEmpty&&Wq (its.toArray.size+ay.toArray.size))=Wx:=by rw[Zj0 hsz,Bool.and_false];exact Ow
 refine call_meets F.slot_list_extend ⟨_,e,rfl⟩ F.entry_list_extend (F.args_list_extend_2 _ _)
  (AutoSeq1.list_extend_list_list_0 l its.toArray n b ay.toArray n2 cf (by rw[Of];lia) (by lia)) ⟨e,e2,?_⟩
 refine⟨.non,_,I.lset (its':=its++ay) hH e (by simp) (r.append r2) ?_,rfl,q⟩;rw[OA]
 lia
def Zx4:V->List V->Hp->VK->Prop:=λx vs H Q=>∃l xs y,x=.ref l/\vs=[]/\H l=J (.lst xs)/\xs[xs.length-1]?=J y/\Q y (upd H l (.lst xs.dropLast))
def ZuF:MtM X "list.pop" Zx4:=by
 intro aa s Z H x vs v us Q I rx rv h;obtain⟨l,xs,y,rfl,rfl,hH,hy,q⟩:=h;cases rx;have fO:=rv.zero;subst fO;obtain⟨z,its,n,r,hl,e⟩:=I.lstM hH;obtain⟨u,hu,ru⟩:=r.get hy;have cL:its.toArray[its.toArray.size-1]?=J u:=by show its.toArray[its.length-1]?=J u;rw[<-Array.getElem?_toList,<-hl];exact hu
 refine call_meets F.slot_list_pop ⟨_,e,rfl⟩ F.entry_list_pop (F.args_list_pop_1 _) (MeetsSeq.list_pop_last l its.toArray n u cL (by rw[Of];lia)) ⟨e,?_⟩;refine⟨y,_,I.lset (its':=its.dropLast) hH e ?_ r.dropLast ?_,ru,q⟩
 . show its.toArray.eraseIdxIfInBounds (its.toArray.size-1)=its.dropLast.toArray;rw[Of,List.eraseIdxIfInBounds_toArray,ZlI]
 . rw[List.length_dropLast]
   lia
def Zpf:V->List V->Hp->VK->Prop:=λx vs H Q=>∃l xs,x=.ref l/\vs=[]/\H l=J (.lst xs)/\Q .non (upd H l (.lst xs.reverse))
def Zlr:MtM X "list.reverse" Zpf:=by
 intro aa s Z H x vs v us Q I rx rv h;obtain⟨l,xs,rfl,rfl,hH,q⟩:=h;cases rx;have fO:=rv.zero;subst fO;obtain⟨z,its,n,r,hl,e⟩:=I.lstM hH;refine call_meets F.slot_list_reverse ⟨_,e,rfl⟩ F.entry_list_reverse (F.args_list_reverse_1 _) (AutoSeq1.list_reverse_list_0 l its.toArray n (by rw[Of];lia)) ⟨e,?_⟩;refine⟨.non,_,I.lset (its':=its.reverse) hH e (by simp) r.reverse ?_,rfl,q⟩;rw[List.length_reverse]
 lia
def Zt5:V->List V->Hp->VK->Prop:=λx vs H Q=>∃l xs,x=.ref l/\vs=[]/\H l=J (.lst xs)/\Q .non (upd H l (.lst []))
def ZpS:MtM X "list.clear" Zt5:=by intro aa s Z H x vs v us Q I rx rv h;obtain⟨l,xs,rfl,rfl,hH,q⟩:=h;cases rx;have fO:=rv.zero;subst fO;obtain⟨z,its,n,r,hl,e⟩:=I.lstM hH;refine call_meets F.slot_list_clear ⟨_,e,rfl⟩ F.entry_list_clear (F.args_list_clear_1 _) (AutoSeq1.list_clear_list_0 l its.toArray n (by rw[Of];lia)) ⟨e,?_⟩;exact⟨.non,_,I.lset (its':=[]) (ys:=[]) hH e rfl .nil (Yw _),rfl,q⟩
def Zx9:R2:=λx y H Q=>∃l b xs zs,x=.ref l/\y=.ref b/\H l=J (.lst xs)/\H b=J (.lst zs)/\xs.length+zs.length<=sizeLine/\∀p,H p=M->Q (.ref p) (upd H p (.lst (xs++zs)))
def Zuw:OpR X (binaryOp .Add) Zx9:=by
 intro aa s Z H x y v u Q I rx ry h;obtain⟨l,b,xs,zs,rfl,rfl,hH,hB,hz,q⟩:=h;cases rx;cases ry;obtain⟨z,its,n,r,hl,e⟩:=I.lstM hH;obtain⟨z2,ay,n2,r2,bN,e2⟩:=I.lstM hB;refine PySem.P.add_list e e2 ?_ (by rw[Of,Of];lia);have ea:its.toArray++ay.toArray=(its++ay).toArray:=by simp
 rw[ea];exact⟨.ref _,_,I.lnew (t':=s.toks) (r.append r2) (by rw[OA];lia),rfl,q _ I.fresh⟩
end
end L2
namespace Att
open PySem PySem.W PySem.Calls PyProof.Rows
def ZgA:∀(ns:List Int) (vs:List Yj),WellAll P h vs (ns.map WData.int)->IntsAre vs ns:=by
 intro ns;induction ns with
 |nil=>intro vs w;rw[Oy]at w;cases w;exact .nil
 |cons n ns ih=>
  intro vs w;rw[Op]at w;cases w with
  |cons a b=>cases a;exact .cons _ _ (ih _ b)
def Zns{l:OpenLaw}{n:Nat}(hn:l.most=J n){P:Params}{h:YG}{args:List WData}{bp:List Yj}
 (cN:l.row.toRowW.claim.pre args=Wx) (iT:WellAll P h bp args) :
 ∃a vs ns,bp=[YD a]/\args=[WData.list (ns.map WData.int)]/\h.get? a=J {cls:=.type "list",data:=.seq vs.toArray}/\IntsAre vs ns/\ns.length<=n:=by
 have lL:WShape.hasAll [] args [.list .int]=Wx:=(pre_splitW cN).1;have hc:l.pre.holds [] {args:=args}=Wx:=(pre_splitW cN).2;obtain⟨d,r,rfl,R,h2⟩:=hasAllW_cons lL;obtain rfl:=hasAllW_nil h2;obtain⟨xs,rfl,h3⟩:=hasW_list R;obtain⟨ns,rfl⟩:=items_int h3;have al:ns.length<=n:=by
  unfold OpenLaw.pre at hc;have h4:(WTm.not (.lt (.lit (.int (n:Int))) (.len (.arg 0)))).holds [] {args:=[.list (ns.map .int)]}=Wx:=by have h4:=(holds_andW hc).1;rw[hn]at h4;exact h4
  have h5:=condW_of h4 (w_not (w_lt w_lit (w_len_list (w_arg rfl))));rw[Yt]at h5;refine Nat.le_of_not_lt λq=>?_;have q':(n:Int)<((ns.length:Nat):Int):=by lia
  first
   |(rw[decide_eq_true q']at h5;exact absurd h5 (by decide))
   |(simp at h5;lia)
 cases iT with
 |cons w1 w2=>
  cases w2;cases w1 with
  |list ho cr=>exact⟨_,_,ns,rfl,rfl,ho,ZgA ns _ cr,al⟩
def ZnF(l:OpenLaw)(args:List WData):l.row.toRowW.claim.post args (.bool Wx) args=Wx:=
 postW_of (r:=l.row.toRowW) (X:=(Wx==Wx))
  (show WShape.has [] (.bool Wx) .bool=Wx by first|rfl|decide|simp[WShape.has,WShape.arms,WShape.armsAll])
  (show(WTm.eq .res (.lit (.bool Wx))).value [] {args:=args,res:=J (.bool Wx),after:=args}=J (.bool (Wx==Wx))from w_eq_bool (w_res rfl) w_lit) rfl
def ZkN{l:OpenLaw}{n:Nat}{q:Yh}{bc:List Str}{XP:(Str->Option Yj)->YG->Prop}{YP:Yg->YG->Prop}{d:DefRec}
 (hn:l.most=J n) (f7:d.params.defaults=[])
 (call:∀(w:Yg) (s₀ s₁:Yb) (mg mb:Str->Option Yj) (fa:Yi) (o:Obj) (pm cd aL:Yj) (a:Yi) (vs:List Yj) (ns:List Int),
  Ground q bc [] XP w s₀ mg mb s₁.heap->YP w s₁.heap ->
  s₁.heap.get? fa=J o->o.data=.func (docDef d.name d.params d.body d.scope pm cd aL)->s₁.heap.CodeRec cd d.name->mg d.name=J (.ref fa) ->
  s₁.heap.get? a=J {cls:=.type "list",data:=.seq vs.toArray}->IntsAre vs ns->ns.length<=n->s₁.gens=#[] ->
  codeAny (model l.prog w) callerA (.call (.ref fa) ⟨[.ref a],[]⟩) (λr s'=>r=.ok (.ret (.bool Wx))/\OldK s₁.heap s'.heap/\s'.os=s₁.os/\AllBare s'.gens) s₁) :
 WalkO q bc XP YP l.row.toRowW d [] (λf vs=>PySem.call f vs):=by
 intro w s₀ s₁ mg mb G Y fa o pm cd aL dV kV ho hd cE hD fg hg args bp as cN mh nO iT j1;obtain rfl:dV=.none:=Dflts.none hD f7;obtain rfl:kV=.none:=Dflts.noKw hD;obtain⟨a,vs,ns,rfl,rfl,dQ,cg,al⟩:=Zns hn cN iT;refine enter_call (codeAny_mono (call w s₀ s₁ mg mb fa o pm cd aL a vs ns G Y ho (fd_plain hd) cE fg dQ cg al hg) λr s' hq=>?_);obtain⟨rfl,h2,h3,h4⟩:=hq;exact⟨.inl ⟨.bool Wx,.bool Wx,[],rfl,λ_=>rfl,.bool Wx,ZnF l _,λ_=>⟨List.Pairwise.nil,λ_ hm=>(nomatch hm)⟩⟩,h2,h3,h4⟩
end Att
namespace L2
open PySem PySem.Spec PyProof.Rows
theorem Zh9:∀{vs:List Yj}{ns:List Int},IntsAre vs ns->Zs (ns.map V.int) vs
 |_,_,.nil=>.nil
 |_,_,.cons n t h=>.cons ⟨t,rfl⟩ (Zh9 h)
def ZsW(H:Hp):Prop:=∀b,H b=M\/∃o xs,H b=J (.frz o (.lst xs))
theorem Zp0{P:Yh}{w:Yg}{K:Yk}{mg mb:Str->Option Yj}{CX:CXT}{k:Nat}{fa a:Yi}{fd:FuncData}{x:Str}{sp:Sp}{s₁:Yb}{vs:List Yj}{ns:List Int}
   (KX:K.In s₁.heap) (bM:s₁.heap.Ns Yd mg) (hb:s₁.heap.Ns builtinsNs mb) (jr:∀ x:Str,x ≠ "__name__" -> mb x=bootBuiltins x) (je:s₁.heap.NoLimit) (hg:s₁.gens=#[])
   (ha:s₁.heap.get? a=J {cls:=.type "list",data:=.seq vs.toArray}) (hi:IntsAre vs ns) (hl:ns.length<=sizeLine) (hr:Room k callerA)
   (F:∀ base:YG,K.In base->base.Ns Yd mg->FnOk P w K mg base CX k fa fd [x] sp) (gg:∀ (s:Yb) (u:Yj),BindsTo s fd ⟨[u],[]⟩ [(x,u)])
   (bJ:∀ H:Hp,ZsW H->SqL K H a (ns.map V.int)->sp [.ref a] H (λv _=>v=.bl Wx) λ_ _ _=>False)
   (jz:∀ H e s',CX [] H s₁ (λ_ _ _=>False) e s'->False) :
   codeAny (model P w) callerA (.call (.ref fa) ⟨[.ref a],[]⟩) (λr s'=>r=.ok (.ret (.bool Wx))/\OldK s₁.heap s'.heap/\s'.os=s₁.os/\AllBare s'.gens) s₁:=by
 have rv:=Zh9 hi;have iQ:=hi.length;have gr:∀ H:Hp,ZsW H->SqL K H a (ns.map V.int)->HOk P w H s₁.heap->(∀ b,H b≠M->b=a)->(H a≠M->K.lookup a=M) ->
     codeAny (model P w) callerA (.call (.ref fa) ⟨[.ref a],[]⟩) (λr s'=>r=.ok (.ret (.bool Wx))/\OldK s₁.heap s'.heap/\s'.os=s₁.os/\AllBare s'.gens) s₁:=by
   intro H hO hS hok hA hK;have bA:∀ {b:Yi}{o:Obj},s₁.heap.get? b=J o->H b=M->(Zi8 s₁.heap H).get? b=J o:=λe n=>Zqc e n;have fH:∀ {b:Yi}{o:Obj}{es:Array DictEntry}{ep:Nat},s₁.heap.get? b=J o->o.data=.dict es ep->H b=M:=λ{b o es ep} e d=>by
     cases q:H b with
     |none=>rfl
     |some u =>
       have e':b=a:=hA b (by rw [q];simp);subst e';rw [ha] at e;cases e;have d':Data.seq vs.toArray _=Data.dict es ep:=d;cases d'
   have gJ:∀ {b:Yi}{m:Str->Option Yj},s₁.heap.Ns b m->(Zi8 s₁.heap H).Ns b m:=λ{b m} ⟨o,es,ep,e,d,r⟩=>⟨o,es,ep,bA e (fH e d),d,r⟩
   have kq:K.In (Zi8 s₁.heap H):=λb o e=>bA (KX b o e) (by
     cases q:H b with
     |none=>rfl
     |some u =>
       have e':b=a:=hA b (by rw [q];simp);subst e';rw [hK (by rw [q];simp)] at e;cases e)
   have hM:Mod K mg (Zi8 s₁.heap H):=⟨kq,gJ bM,⟨mb,gJ hb,jr⟩,let⟨mc,R,h2⟩:=je;⟨mc,gJ R,h2⟩⟩
   have e0:Env0 P w K mg (Zi8 s₁.heap H) callerA [] s₁ H:=⟨rfl,hM,λb o e=>ZrY e,Nat.le_of_eq (Zn4 _ _),trivial,λb hb=>absurd (show b∈([]:List Yi) from hb) (by simp),hok,.of_eq hg⟩
   refine codeAny_mono ((F _ kq (gJ bM)).run callerA [] s₁ H ⟨[.ref a],[]⟩ [.ref a] [.ref a] _ _ hr e0 (gg s₁ (.ref a)) (.cons rfl .nil) (bJ H hO hS)) λr s' h=>?_;cases r with
   |error e=>exact(jz H e s' h).elim
   |ok fl =>
     cases fl with
     |next=>exact False.elim h
     |brk=>exact False.elim h
     |cont=>exact False.elim h
     |ret u =>
       obtain⟨v,H',os,bare,un,jb,r',q⟩:=h;have q':v=.bl Wx:=q;subst q';obtain rfl:u=Value.bool Wx:=r';refine⟨rfl,OldK.of_keep λb o e=>?_,os,bare⟩;cases q:H b with
       |none=>exact un.keep b o e q (by intro z;exact absurd (show b∈([]:List Yi) from z) (by simp)) (by simp)
       |some u =>
         rcases hO b with z|⟨ob,xs,z⟩
         . rw [q] at z;cases z
         . have z2:=un.frzs b ob _ z;obtain⟨e1,_⟩:=hok b _ z;obtain⟨e2,_⟩:=jb b _ z2;rw [e] at e1;cases e1;exact e2
 cases hk:K.lookup a with
 |some o =>
   have e:=KX a o hk;rw [ha] at e;cases e;refine gr (λ_=>M) (λ_=>.inl rfl) (.inr ⟨_,vs.toArray,_,hk,rfl,rfl,rfl,by rw [Of,iQ];exact hl,by simpa using rv⟩) (λb u z=>by have z':(M:Option HO)=J u:=z;cases z') (λb z=>absurd rfl z) λz=>absurd rfl z
 |none =>
   refine gr (λb=>if b=a then J (.frz {cls:=.type "list",data:=.seq vs.toArray} (.lst (ns.map V.int))) else M) (λb=>?_) (.inl (.inr ⟨{cls:=.type "list",data:=.seq vs.toArray},if_pos rfl⟩)) (λb u z=>?_) (λb z=>?_) λ_=>hk
   . by_cases hb:b=a
     . exact .inr ⟨_,_,if_pos hb⟩
     . exact .inl (if_neg hb)
   . by_cases hb:b=a
     . have z':=(if_pos hb).symm.trans z;cases z';subst hb;exact⟨ha,by rw [Yt];exact hl,vs,_,rv,ha⟩
     . have z':=(if_neg hb).symm.trans z;cases z'
   . by_cases hb:b=a
     . exact hb
     . exact absurd (if_neg hb) z
def Zq0{l:PySem.W.OpenLaw}{n k:Nat}{q:Yh}{bc:List Str}{XP:(Str->Option Yj)->YG->Prop}{YP:Yg->YG->Prop}{d:DefRec}{K:Params->Yk}{CX:Yg->CXT}{sp:Yg->Sp}{x:Str}
 (hn:l.most=J n) (gR:n<=sizeLine) (f7:d.params.defaults=[]) (hr:Room k callerA)
 (hY:∀(w:Yg) (h:YG),YP w h->(K w.params).In h)
 (F:∀(w:Yg) (mg:Str->Option Yj) (fa:Yi) (h:YG),(K w.params).In h->h.Ns Yd mg->mg d.name=J (.ref fa) ->
  ∃fd:FuncData,(∀(s:Yb) (u:Yj),BindsTo s fd ⟨[u],[]⟩ [(x,u)]) /\
   ∀base:YG,(K w.params).In base->base.Ns Yd mg->FnOk l.prog w (K w.params) mg base (CX w) k fa fd [x] (sp w))
 (bJ:∀(w:Yg) (H:Hp) (a:Yi) (ns:List Int),ns.length<=n->ZsW H->SqL (K w.params) H a (ns.map V.int)->sp w [.ref a] H (λv _=>v=.bl Wx) λ_ _ _=>False)
 (jz:∀(w:Yg) (H:Hp) (s:Yb) (e:Yj) (s':Yb),CX w [] H s (λ_ _ _=>False) e s'->False) :
 PySem.W.WalkO q bc XP YP l.row.toRowW d [] (λf vs=>PySem.call f vs):=by
 refine Att.ZkN hn f7 λw s₀ s₁ mg mb fa o pm cd aL a vs ns G Y ho hd cE fg dQ cg al hg=>?_;have KX:=hY w _ Y;obtain⟨fd,hb,hF⟩:=F w mg fa _ KX G.T.g fg;exact Zp0 KX G.T.g G.T.b G.T.builtins G.T.nolimit hg dQ cg (OE al gR) hr hF hb (λH hO hS=>bJ w H a ns al hO hS) λH e s'=>jz w H s₁ e s'
noncomputable def inClass(s:Stmt)(j:Nat):Stmt:=match s with
 |.ClassDef _ _ _ body _ _ _ _ _ _ _=>body.getD j (.Pass ⟨0,0,0,0⟩)
 |_=>.Pass ⟨0,0,0,0⟩
noncomputable def Zev(s:Stmt):Arguments:=match s with
 |.FunctionDef _ a _ _ _ _ _ _ _ _=>a
 |_=>{posonlyargs:=[],args:=[],vararg:=M,kwonlyargs:=[],kw_defaults:=[],kwarg:=M,defaults:=[]}
noncomputable def Zcq(s:Stmt):List Stmt:=match s with
 |.FunctionDef _ _ b _ _ _ _ _ _ _=>b
 |_=>[]
def Z0(s:Stmt):Scope:=match s with
 |.FunctionDef _ _ _ _ _ _ sc _ _ _=>sc
 |_=>{kind:=.function,names:=[],isGenerator:=false,isCoroutine:=false}
noncomputable abbrev E0:XK:=λ_ _ _=>False
structure Fun(K:Yk)(x ah:Str)(st:Stmt)(f:Yi)(fd:FuncData):Prop where
 ex:∃(oc:Yj) (od:Option Yi) (kV aL pm:Yj) (an:Option Yi) (aF ct:Yj) (bV:Array (Option Yj)),
  fd=PySem.W.fnOf x ah (Zev st) (Zcq st) (Z0 st) .none kV aL pm an aF ct/\K.lookup f=J ⟨oc,od,.func fd,bV⟩/\PySem.W.codeIn K aF ah=Wx
 kp:Wg K (.ref f)=Wx
section
variable {K:Yk}
def Fun.binds{x ah:Str}{st:Stmt}{f:Yi}{fd:FuncData}{ps:List Str}(F:Fun K x ah st f fd)
 (h:∀(kV aL pm:Yj) (an:Option Yi) (aF ct:Yj) (us:List Yj),us.length=ps.length->bindArgs (PySem.W.fnOf x ah (Zev st) (Zcq st) (Z0 st) .none kV aL pm an aF ct) ⟨us,[]⟩=pure (ps.zip us)):Binds K fd ps []:=by
 obtain⟨oc,od,kV,aL,pm,an,aF,ct,bV,rfl,lk,cE⟩:=F.ex;exact .all (h kV aL pm an aF ct)
def Zqh{x ah:Str}{st:Stmt}{f:Yi}{oc:Yj}{od an:Option Yi}{bV:Array (Option Yj)}{kV aL pm aF ct:Yj}(l:K.lookup f=J ⟨oc,od,.func (PySem.W.fnOf x ah (Zev st) (Zcq st) (Z0 st) .none kV aL pm an aF ct),bV⟩)
 (c:PySem.W.codeIn K aF ah=Wx) (k:Wg K (.ref f)=Wx):Fun K x ah st f (PySem.W.fnOf x ah (Zev st) (Zcq st) (Z0 st) .none kV aL pm an aF ct):=⟨⟨oc,od,kV,aL,pm,an,aF,ct,bV,rfl,l,c⟩,k⟩
end
def Zkc{A B_:Prop}(h:B_):if Wy=Wx then A else B_:=by rw[if_neg Ow];exact h
def Zkb{A B_:Prop}(h:A):if Wx=Wx then A else B_:=by rw[if_pos rfl];exact h
set_option tactic.hygienic false
section
variable {κ:Type}[DecidableEq κ]
noncomputable def Ze7(kvs:List (κ×V))(k:κ):Option V:=(kvs.find? λkv=>Wz (kv.1=k)).map (·.2)
noncomputable def putK(kvs:List (κ×V))(k:κ)(v:V):List (κ×V):=if (kvs.any λkv=>Wz (kv.1=k))=Wx then kvs.map (λkv=>if kv.1=k then(kv.1,v)else kv)else kvs++[(k,v)]
def ZoA{p:κ×V}{r:List (κ×V)}{k:κ}(e:p.1=k):Ze7 (p::r) k=J p.2:=by simp[Ze7,Ws,e]
def ZoB{p:κ×V}{r:List (κ×V)}{k:κ}(e:¬ p.1=k):Ze7 (p::r) k=Ze7 r k:=by simp[Ze7,Ws,e]
def Zgf(kvs:List (κ×V))(k:κ)(v:V):(putK kvs k v).length<=kvs.length+1:=by
 unfold putK;split
 . rw[Yt];lia
 . rw[OA,Os,List.length_nil];lia
def ZfH.isSome_eq{o:Option V}{u:Option Yj}(r:ZfH o u):o.isSome=u.isSome:=by
 cases o with
 |none=>cases u with
  |none=>rfl
  |some _=>exact(show False from r).elim
 |some _=>cases u with
  |none=>exact(show False from r).elim
  |some _=>rfl
def KV.val{kvs:List (κ×V)}{vs:List (κ×Yj)}(r:KV kvs vs)(k:κ):ZfH (Ze7 kvs k) (valueAt vs k):=by
 unfold KV at r;induction r with
 |nil=>exact True.intro
 |@cons p q ps qs h t ih=>
  obtain⟨R,h2⟩:=h;by_cases e:p.1=k
  . have e':q.1=k:=R.symm.trans e;have b:valueAt (q::qs) k=J q.2:=by simp[valueAt,Ws,e']
    rw[ZoA e,b];exact h2
  . have e':¬ q.1=k:=λz=>e (R.trans z);have b:valueAt (q::qs) k=valueAt qs k:=by simp[valueAt,Ws,e']
    rw[ZoB e,b];exact ih
theorem KV.any{kvs:List (κ×V)}{vs:List (κ×Yj)}(r:KV kvs vs)(k:κ):(kvs.any λkv=>Wz (kv.1=k))=vs.any λkv=>Wz (kv.1=k):=by
 unfold KV at r;induction r with
 |nil=>rfl
 |cons h t ih=>rw[Wf,Wf,ih,h.1]
def KV.repl{kvs:List (κ×V)}{vs:List (κ×Yj)}(r:KV kvs vs)(k:κ){y:V}{u:Yj}(ry:RelV y u):
 KV (kvs.map λkv=>if kv.1=k then(kv.1,y)else kv) (vs.map λkv=>if kv.1=k then(kv.1,u)else kv):=by
 unfold KV at r ⊢;induction r with
 |nil=>exact .nil
 |@cons p q ps qs h t ih=>
  rw[Op,Op];refine .cons ?_ ih;obtain⟨R,h2⟩:=h;by_cases e:p.1=k
  . rw[if_pos e,if_pos (R.symm.trans e)];exact⟨R,ry⟩
  . rw[if_neg e,if_neg (λz=>e (R.trans z))];exact⟨R,h2⟩
def KV.put{kvs:List (κ×V)}{vs:List (κ×Yj)}(r:KV kvs vs)(k:κ){y:V}{u:Yj}(ry:RelV y u):KV (putK kvs k y) (stored vs k u):=by
 unfold putK stored;rw[r.any k];by_cases e:(vs.any λkv=>Wz (kv.1=k))=Wx
 . rw[if_pos e,if_pos e];exact r.repl k ry
 . rw[if_neg e,if_neg e];exact Paired.snoc r ⟨rfl,ry⟩
theorem KV.length(r:KV kvs vs):kvs.length=vs.length:=Paired.length r
end
def Zj9(r:RelV (kV k) u):(ZY P w).is k u=Wx:=by
 cases k with
 |inl i=>obtain⟨t,e⟩:=(show ∃t,u=Value.int i t from r);subst e;exact Zj3 P w i t
 |inr x=>obtain⟨t,e⟩:=(show ∃t,u=Value.str x t from r);subst e;exact Zj2 P w x t
section
variable {P:Yh}{w:Yg}{H:Hp}{h:YG}{a:Yi}
def Zv8(ok:HOk P w H h)(e:Rd H a u):Zat P w H h a u:=e.ok ok
def Ztm(ok:HOk P w H h)(e:Rd H a (.dK kvs)):kvs.length<=sizeLine/\(a==Ye)=Wy/\∃vs,KV kvs vs/\h.DictOf (ZY P w) a vs:=show Zat P w H h a (.dK kvs)from Zv8 ok e
def Ztn(ok:HOk P w H h)(e:H a=J (.dK kvs)):kvs.length<=sizeLine/\(a==Ye)=Wy/\∃vs,KV kvs vs/\h.DictOf (ZY P w) a vs:=Ztm ok (.inl e)
end
section
variable {X:Cx}{aa:List (Yi×Obj)}{Z:St}{H:Hp}{s:Yb}{a:Yi}
def Inv.big(I:Inv X aa Z H s):Ye<s.heap.objs.size:=by have h:Yd<s.heap.objs.size:=(I.mod.glob.keeps I.bk).lt;exact Nat.lt_trans (by decide) h
def ZmW(I:Inv X aa Z H s)(mu:Mut (H a))(hs:Heap.SameBut a s.heap h')(he:∃q,h'.get? a=J q)(new:Zat X.prog X.w (upd H a ob) h' a ob):
 Inv X aa Z (upd H a ob) {s with heap:=h',toks:=t'}:=
 I.write (x:=a) (e:=a) mu (.inl rfl) (λb q hb z=>(hs.2 b hb).trans z) he new
def Zqu(z:kvs.length<=sizeLine)(hd:(a==Ye)=Wy)(rel:KV kvs vs)(dd:h'.DictOf (ZY P w) a vs):
 Zat P w H' h' a (.dK kvs):=⟨z,hd,vs,rel,dd⟩
end
def Zkq(h:YG)(hb:Ye<h.objs.size):Zat P w H (h.push {cls:=.type "dict",data:=.dict #[]}) h.objs.size (.dK []):=⟨Yw _,beq_eq_false_iff_ne.mpr (YL (Ou hb)),[],.nil,Heap.DictOf.new h⟩
def ZtJ:TE:=λ_ H Q=>∀p,H p=M->Q (.ref p) (upd H p (.dK []))
section
variable {X:Cx}{pos:Pos}
def ZpE:PE X (.Dict [] [] pos) ZtJ:=λaa s Z H Q I h=>wpAny_Dict_empty ⟨.ref s.heap.objs.size,_,I.laid (a:=s.heap.objs.size) (o:=.dK []) (t':=s.toks) (λ_ _ q=>Od _ q) (Oq _) (Zkq s.heap I.big),rfl,h _ (I.hok.fresh (Oq _))⟩
end
def ZiP:List (TE×TE)->St->Hp->(List (V×V)->Hp->Prop)->Prop
 |[],_,H,Q=>Q [] H
 |(tk,tv)::r,Z,H,Q=>tk Z H λx H1=>tv Z H1 λy H2=>ZiP r Z H2 λps H3=>Q ((x,y)::ps) H3
abbrev VV:List (V×V)->List (Yj×Yj)->Prop:=Paired λp q=>RelV p.1 q.1/\RelV p.2 q.2
def PPs(X:Cx)(pos:Pos)(keys:List (Option Expr))(values:List Expr)(trs:List (TE×TE)):Prop:=
 ∀(aa:List (Yi×Obj)) (s:Yb) (Z:St) (H:Hp) (Q:List (V×V)->Hp->Prop),Inv X aa Z H s->ZiP trs Z H Q ->
  YB (model X.prog X.w) X.A (evalPairs (pairTrees keys values X.env pos)) (λvs s'=>∃ps H',Inv X aa Z H' s'/\VV ps vs/\Q ps H') X.xe s
def Zru:PPs X pos [] [] []:=λaa s Z H Q I h=>pairTrees_nil_walk ⟨[],H,I,.nil,h⟩
def Zps(hk:PE X k tk)(hv:PE X v tv)(hr:PPs X pos ks vs trs):
 PPs X pos (J k::ks) (v::vs) ((tk,tv)::trs):=λaa s Z H Q I h=>
 pairTrees_cons_walk (thn (hk aa s Z H _ I h) λu s1 ⟨x,H1,I1,rx,q1⟩=>thn (hv aa s1 Z H1 _ I1 q1) λw2 s2 ⟨y,H2,I2,ry,q2⟩=>thn (hr aa s2 Z H2 _ I2 q2) λws s3 ⟨ps,H3,I3,rel,q3⟩=>⟨(x,y)::ps,H3,I3,.cons ⟨rx,ry⟩ rel,q3⟩)
def ZfT(kvs more:List (Key×V)):List (Key×V):=more.foldl (λag kv=>putK ag kv.1 kv.2) kvs
def KV.merge:∀{more:List (Key×V)}{rs:List (Key×Yj)}{kvs:List (Key×V)}{vs:List (Key×Yj)},KV more rs->KV kvs vs->KV (ZfT kvs more) (merged vs rs):=by
 intro more rs kvs vs r;unfold KV at r;induction r generalizing kvs vs with
 |nil=>intro q;exact q
 |@cons p q ps qs h t ih=>
  intro r0;have e:KV (putK kvs p.1 p.2) (stored vs q.1 q.2):=by have:=r0.put p.1 h.2;rw[<-h.1];exact this
  exact ih e
theorem ZeI:∀(more kvs:List (Key×V)),(ZfT kvs more).length<=kvs.length+more.length
 |[],kvs=>by show kvs.length<=kvs.length+0;lia
 |p::r,kvs=>by have R:=ZeI r (putK kvs p.1 p.2);have h2:=Zgf kvs p.1 p.2;show(ZfT (putK kvs p.1 p.2) r).length<=_;rw[Os];lia
theorem ZhE:∀{kvs:List (Key×V)}{ws:List (Yj×Yj)},VV (kvs.map λkv=>(kV kv.1,kv.2)) ws->∃rs,Carries (ZY P w) ws rs/\KV kvs rs
 |[],_,r=>by rw[Oy]at r;cases r;exact⟨[],True.intro,.nil⟩
 |p::kvs,_,r=>by
  rw[Op]at r;cases r with
  |@cons a b as bs h t=>obtain⟨rs,c,q⟩:=ZhE (P:=P) (w:=w) t;obtain⟨b1,b2⟩:=b;exact⟨(p.1,b2)::rs,⟨Zj9 h.1,rfl,c⟩,.cons ⟨rfl,h.2⟩ q⟩
def ZvW(trs:List (TE×TE)):TE:=λZ H Q=>∀p,H p=M->ZiP trs Z (upd H p (.dK [])) λps H2=>H2 p=J (.dK [])/\∃kvs:List (Key×V),ps=kvs.map (λkv=>(kV kv.1,kv.2))/\kvs.length<=15/\Q (.ref p) (upd H2 p (.dK (ZfT [] kvs)))
def ZrE(h:PPs X pos keys values trs)(cr:keys.all (·.isSome)=Wx)(hl:keys.length=values.length)(h0:keys≠[])
 (jC:keys.length<=15):PE X (.Dict keys values pos) (ZvW trs):=by
 intro aa s Z H Q I q;have hn:=I.hok.fresh (Oq s.heap.objs.size);have I1:=I.laid (a:=s.heap.objs.size) (o:=.dK []) (h':=s.heap.push {cls:=.type "dict",data:=.dict #[]}) (t':=s.toks) (λ_ _ q=>Od _ q) (Oq _) (Zkq s.heap I.big);refine wpAny_Dict_walk (knd:=ZY X.prog X.w) cr hl h0 jC (thn (h aa _ Z _ _ I1 (q _ hn)) λws s2 ⟨ps,H2,I2,rel,e,kvs,ep,lk,q2⟩=>?_);subst ep;obtain⟨rs,c,rk⟩:=ZhE (P:=X.prog) (w:=X.w) rel;obtain⟨z,hd,nH,r0,dd⟩:=Ztn I2.hok e;cases r0;refine⟨rs,c,dd,λh' gq hs=>⟨.ref s.heap.objs.size,_,?_,rfl,q2⟩⟩;have hz:(ZfT [] kvs).length<=sizeLine:=by have R:=ZeI kvs [];rw[List.length_nil]at R;rw[YC];lia
 have he:∃q,h'.get? s.heap.objs.size=J q:=let⟨q,_,_,hq,_⟩:=gq;⟨q,hq⟩;exact ZmW I2 (by rw[e];exact True.intro) hs he (Zqu hz hd (rk.merge .nil) gq)
set_option tactic.hygienic true
theorem ZdR{env:Env}:∀(names:List (Str×NameKind)) (x:Str),
 (names.map λ(n,k)=>if (k==Yn&&env.scope.kind==.function&&env.kindOf n==J .cell)then(n,NameKind.cell)else(n,k)).lookup x =
  (names.lookup x).map λk=>if (k==Yn&&env.scope.kind==.function&&env.kindOf x==J .cell)then NameKind.cell else k
 |[],_=>rfl
 |(n,k)::r,x=>by
  have ih:=@ZdR env r x;show Wm x ((if (k==Yn&&env.scope.kind==.function&&env.kindOf n==J .cell)=Wx then(n,NameKind.cell)else(n,k))::_)=_;cases hx:x==n with
  |true=>
   have e:x=n:=by simpa using hx
   subst e;by_cases hc:(k==Yn&&env.scope.kind==.function&&env.kindOf x==J .cell)=Wx
   . rw[if_pos hc];simp only[OF,hx,Yu,if_pos hc]
   . rw[if_neg hc];simp only[OF,hx,Yu,if_neg hc]
  |false=>
   by_cases hc:(k==Yn&&env.scope.kind==.function&&env.kindOf n==J .cell)=Wx
   . rw[if_pos hc];simp only[OF,hx];exact ih
   . rw[if_neg hc];simp only[OF,hx];exact ih
noncomputable def Zd0(env:Env):List (Str×NameKind)->List (Str×Yi)->List (Str×Yi)
 |[],cs=>cs
 |(n,k)::r,cs=>Zd0 env r (if (k==.free)=Wx then(n,(env.cells.lookup n).getD 0)::cs else cs)
theorem Zky{env:Env}:∀(l:List (Str×NameKind)) (cs:List (Str×Yi)),(∀y∈l,y.2=.free->∃c,env.cells.lookup y.1=J c) ->
 (∀x c,(x,c)∈cs->env.cells.lookup x=J c)->∀x c,(x,c)∈Zd0 env l cs->env.cells.lookup x=J c
 |[],cs,_,h2,x,c,hm=>h2 x c hm
 |(n,k)::r,cs,R,h2,x,c,hm=>by
  refine Zky r _ (λy hy=>R y (Oh _ hy)) (λx c hm=>?_) x c hm;by_cases hk:(k==Yn)=Wx
  . rw[if_pos hk]at hm;rcases O3.mp hm with e|hm
    . cases e;have jj:k=.free:=by cases k<;>first|rfl|(exact absurd hk (by decide))
      obtain⟨c,e⟩:=R (n,k) Oi jj;rw[e];rfl
    . exact h2 x c hm
  . rw[if_neg hk]at hm;exact h2 x c hm
theorem Ziw:∀(l:List (Str×NameKind)) (cs:List (Str×Yi)) (p:Str×Yi),p∈cs->p∈Zd0 env l cs
 |[],_,_,h=>h
 |(n,k)::r,cs,p,h=>by
  refine Ziw r _ p ?_;by_cases hk:(k==Yn)=Wx
  . rw[if_pos hk];exact Oh _ h
  . rw[if_neg hk];exact h
theorem Zkz:∀(l:List (Str×NameKind)) (cs:List (Str×Yi)) (y:Str×NameKind),y∈l->y.2=.free->∃c,(y.1,c)∈Zd0 env l cs
 |(n,k)::r,cs,y,h,hf=>by
  rcases O3.mp h with e|h
  . subst e;refine⟨(env.cells.lookup n).getD 0,Ziw r _ _ ?_⟩;have hk:(k==Yn)=Wx:=by have:k=.free:=hf;subst this;rfl
    rw[if_pos hk];exact Oi
  . exact Zkz r _ y h hf
theorem ZeH:∀{l:List (Str×α)}{x:Str}{c:α},(x,c)∈l->∃c',l.lookup x=J c'/\(x,c')∈l
 |(n,d)::r,x,c,h=>by
  cases hx:x==n with
  |true=>
   have e:x=n:=by simpa using hx
   subst e;exact⟨d,by simp[OF],Oi⟩
  |false=>
   rcases O3.mp h with e|h
   . cases e;simp at hx
   . obtain⟨c',R,h2⟩:=ZeH h;exact⟨c',by simp only[OF,hx];exact R,Oh _ h2⟩
def ZeO(h:∀y∈scope.names,y.2=.free->∃c,env.cells.lookup y.1=J c):closureFor scope env=pure (Zd0 env scope.names []):=by
 have all:∀(l:List (Str×NameKind)) (cs:List (Str×Yi)),(∀y∈l,y.2=.free->∃c,env.cells.lookup y.1=J c) ->
  (forIn l cs λ(x:Str×NameKind) r=>match x with|(name,kind)=>if (kind==Yn)=Wx then(do let a <- cellOf env name;pure (ForInStep.yield ((name,a)::r)))else pure (ForInStep.yield r):Sem (List (Str×Yi)))=pure (Zd0 env l cs):=by
  intro l;induction l with
  |nil=>intro cs _;rfl
  |cons y r ih=>
   intro cs hl;obtain⟨n,k⟩:=y;rw[List.forIn_cons];have hr:=λcs=>ih cs λy hy=>hl y (Oh _ hy);by_cases hk:(k==Yn)=Wx
   . have jj:k=.free:=by cases k<;>first|rfl|(exact absurd hk (by decide))
     obtain⟨c,e⟩:=hl (n,k) Oi jj;have ec:cellOf env n=pure c:=by unfold cellOf;rw[e]
     simp only[hk,if_true,ec];show(forIn r ((n,c)::cs) _:Sem _)=_;rw[hr];show _=pure (Zd0 env r (if (k==Yn)=Wx then(n,(env.cells.lookup n).getD 0)::cs else cs));rw[if_pos hk,e];rfl
   . simp only[hk];show(forIn r cs _:Sem _)=_;rw[hr];show _=pure (Zd0 env r (if (k==Yn)=Wx then(n,(env.cells.lookup n).getD 0)::cs else cs));rw[if_neg hk]
 unfold closureFor;have z:=all scope.names [] h;dsimp only at z ⊢;rw[z];rfl
set_option tactic.hygienic false
def Zku(I:Nat->Yb->Prop)
 (turn:∀n s,I n s->YB (model prog w) A (pyNext it) (λr s₁=>match r with
  |none=>qe (.ok .next) s₁
  |some v=>YB (model prog w) A (letOwnedTupleGo target it v) (λ_ s₁'=>YB (model prog w) A (assign target env v) (λ_ s₂=>
   YB (model prog w) A (forIn be Wx λc r=>if r=Wx then do let ok <- isTrue c env (eval c env);pure (ForInStep.yield ok)else pure (ForInStep.yield r)) (λok s₃=>
    if ok=Wx then YB (model prog w) A (eval aE env) (λx s₄=>YB (model prog w) A (call (.builtin "list.append") [ag,x]) (λ_ s₅=>∃m,m<n/\I m s₅) (notedBy (model prog w) A env λe s'=>qe (.error e) s') s₄) (notedBy (model prog w) A env λe s'=>qe (.error e) s') s₃
    else ∃m,m<n/\I m s₃) (notedBy (model prog w) A env λe s'=>qe (.error e) s') s₂) (notedBy (model prog w) A env λe s'=>qe (.error e) s') s₁') (notedBy (model prog w) A env λe s'=>qe (.error e) s') s₁) (notedBy (model prog w) A env λe s'=>qe (.error e) s') s)
 (n:Nat) (h:I n s) :
 codeAny (model prog w) A (.compLoop (.ListComp aE [⟨target,iter,be,0⟩] scope pos) 0 it ag env) qe s:=by
 refine codeAny_loop rfl I (λn s hI=>?_) n h;show YB _ A ((compTurn (.ListComp aE [⟨target,iter,be,0⟩] scope pos) 0 it ag env).onRaise (λx=>do noteFrame x env;theTreesLotGoes x)) _ _ s;refine wpAny_noted ?_;rw[compTurn_list];refine Ya (wpAny_standAt (Ya (Yf (turn n s hI) (λr s₁ h₁=>?_) λ_ _ h'=>h')));cases r with
 |none=>exact Yc h₁
 |some v=>
  refine Ya (Yf h₁ (λ_ s₁' h₁'=>?_) λ_ _ h'=>h');refine Ya (Yf h₁' (λ_ s₂ h₂=>Ya (Yf h₂ (λok s₃ h₃=>?_) λ_ _ h'=>h')) λ_ _ h'=>h');cases ok with
  |false=>exact Yc ⟨rfl,h₃⟩
  |true=>exact Ya (Ya (Yf h₃ (λx s₄ h₄=>Ya (Yf h₄ (λ_ s₅ h₅=>Yc (Yc ⟨rfl,h₅⟩)) λ_ _ h'=>h')) λ_ _ h'=>h'))
structure CompSc(NC N:List Str)(js:List (Option Nat))(sc scope:Scope):Prop where
 kind:scope.kind=.function
 dkind:sc.kind=.function
 nocell:∀y∈scope.names,y.2≠.cell
 locs:∀y∈scope.names,y.2=.local->scope.names.lookup y.1=J .local
 free:∀y∈scope.names,y.2=.free->sc.names.lookup y.1=J .cell
 nd:NC.Nodup
 len:js.length=NC.length
 jok:((NC.zip js).all λp=>p.2.all λj=>Wz (N[j]?=J p.1)&&Wz (scope.names.lookup p.1=J .free))=Wx
theorem CompSc.at{NC N:List Str}{js:List (Option Nat)}(S_:CompSc NC N js sc scope){i j:Nat}{x:Str}(R:NC[i]?=J x)(h2:js[i]?=J (J j)):N[j]?=J x/\scope.names.lookup x=J .free:=by
 have h:=S_.jok;rw[OC]at h;have hm:(x,J j)∈NC.zip js:=by refine O1 (i:=i) ?_;rw[List.getElem?_zip_eq_some];exact⟨R,h2⟩
 have q:=h _ hm;simp only[Option.all_some,Oa,decide_eq_true_eq]at q;exact q
def capt(js:List (Option Nat))(Z:St):St:=js.map λo=>o.bind λj=>(Z[j]?).join
def xeC(X:Cx)(scope:Scope)(C:Yi):Yj->Yb->Prop:=notedBy (model X.prog X.w) X.A (compEnvC scope (Zd0 X.env scope.names []) C X.env) λe s'=>∃m,s'.heap.Ns C m/\∀h',Heap.SameBut C s'.heap h'->∀bD:Env,bD.locals=C->YB (model X.prog X.w) X.A (passOn "comprehension.variables-let-go" e bD:Sem Yj) (λ_ _=>False) X.xe {s' with heap:=h'}
def ZC(X:Cx)(NC:List Str)(scope:Scope)(C:Yi)(s3:Yb)(H3:Hp)(fp:List Yi):Cx:={X with N:=NC,s₀:=s3,H₀:=H3,env:=compEnvC scope (Zd0 X.env scope.names []) C X.env,outer:=X.stack,stack:=X.stack,ex:=fp,fn:=λ_=>Wy,calm:=true,pn:=[],xe:=xeC X scope C}
def Zon(k:Nat)(g:TG):Prop:=∀x Z H Q,g x Z H Q->g x Z H λσ2 H2=>Q σ2 H2/\σ2.length=Z.length/\∀j,k<=j->σ2[j]?=Z[j]?
def ZkP(k:Nat)(g:TGs):Prop:=∀x Z H Q,g x Z H Q->g x Z H λσ2 H2=>Q σ2 H2/\σ2.length=Z.length/\∀j,k<=j->σ2[j]?=Z[j]?
def Zq7(h:i<k):Zon k (Zdr i):=λx Z H Q q=>⟨q,List.length_set,λj hj=>by rw[Oc (by lia)]⟩
def Zl5:ZkP k Zsm:=λx Z H Q q=>⟨q.1,q.2,rfl,λ_ _=>rfl⟩
def ZgT(h:i<k)(hu:ZkP k u):ZkP k (Zkg (Zdr i) u):=by
 rintro xs Z H Q ⟨v,r,e,q⟩;refine⟨v,r,e,?_⟩;have z:=hu r (Z.set i (J v)) H Q q;have z2:=hu r (Z.set i (J v)) H (λσ2 H2=>Q σ2 H2/\σ2.length=(Z.set i (J v)).length/\∀j,k<=j->σ2[j]?=(Z.set i (J v))[j]?) z;show u r (Z.set i (J v)) H _;have e1:(Z.set i (J v)).length=Z.length:=List.length_set;have e2:∀j,k<=j->(Z.set i (J v))[j]?=Z[j]? := λj hj=>Oc (by lia);have e3:(λσ2 H2=>Q σ2 H2/\σ2.length=Z.length/\∀j,k<=j->σ2[j]?=Z[j]?)=(λσ2 H2=>Q σ2 H2/\σ2.length=(Z.set i (J v)).length/\∀j,k<=j->σ2[j]?=(Z.set i (J v))[j]?):=by funext σ2 H2;rw[e1];refine propext ⟨λ⟨a,b,c⟩=>⟨a,b,λj hj=>(c j hj).trans (e2 j hj).symm⟩,λ⟨a,b,c⟩=>⟨a,b,λj hj=>(c j hj).trans (e2 j hj)⟩⟩
 rw[e3];exact z
def ZoL{K:Yk}(hu:ZkP k u):Zon k (Zsl K n u):=by rintro x Z H Q ⟨a,xs,e,R,h2,q⟩;exact⟨a,xs,e,R,h2,hu xs Z H Q q⟩
def PIf(X:Cx)(be:List Expr)(t:TT):Prop:=
 ∀(aa:List (Yi×Obj)) (s:Yb) (Z:St) (H:Hp) (Q:Bool->Hp->Prop),Inv X aa Z H s->t Z H Q ->
  YB (model X.prog X.w) X.A (forIn be Wx λc r=>if r=Wx then do let ok <- isTrue c X.env (eval c X.env);pure (ForInStep.yield ok)else pure (ForInStep.yield r)) (TP X aa Z Q) X.xe s
noncomputable def ZxE:TT:=λ_ H Q=>Q Wx H
def Zry{X:Cx}:PIf X [] ZxE:=λ_ _ _ H _ I h=>wpAny_tests_nil ⟨H,I,h⟩
def Zrx{X:Cx}{c:Expr}{t:TT}(hc:PT X c t):PIf X [c] t:=λaa s Z H Q I h=>wpAny_tests_one (hc aa s Z H Q I h)
def Zs5(wi:TI)(js:List (Option Nat))(g:TG)(tc:TT)(te:TE):TE:=λZ H Q=>wi Z H λqb H1=>∀D,H1 D=M->∃W:Nat->Nat->List V->Hp->Prop,(∃m,W 0 m [] (upd H1 D (.lst []))) /\
 ∀i m ys H,W i m ys H->H D=J (.lst ys)->(qb.stop i H/\Q (.ref D) H) \/
  (qb.go i H/\ys.length<sizeLine/\∀x H',qb.yld i H x H'->g x (capt js Z) H' λσ2 H2=>tc σ2 H2 λb H3=>
   if b=Wx then te σ2 H3 λy H4=>H4 D=J (.lst ys)/\∃m',m'<m/\W (i+1) m' (ys++[y]) (upd H4 D (.lst (ys++[y])))
   else H3 D=J (.lst ys)/\∃m',m'<m/\W (i+1) m' ys H3)
section
variable {X:Cx}{aa:List (Yi×Obj)}{Z:St}{H:Hp}{s:Yb}
def Zkd{NC:List Str}{js:List (Option Nat)}{sc scope:Scope}{C:Yi}{h4:YG}{tk:Nat}{fp:List Yi}{m:Str->Option Yj}(S_:CompSc NC X.N js sc scope)(bK:X.env.scope=sc)(hc:X.calm=Wx)
 (I:Inv X aa Z H s) (f:∀b∈fp,Zb7 X aa H b) (fo:∀b∈fp,∃o,s.heap.get? b=J o) (hC:C=s.heap.objs.size) (bM:h4.Ns C m) (hk:∀b o,s.heap.get? b=J o->h4.get? b=J o) :
 Inv (ZC X NC scope C s H fp) [] (capt js Z) H {s with heap:=h4,toks:=tk}:=by
 have aV:∀y∈scope.names,y.2=.free->∃c,X.env.cells.lookup y.1=J c:=λy hy hf=>I.ok.has y.1 (.inl (show X.env.scope.names.lookup y.1=J .cell by rw[bK];exact S_.free y hy hf));have fi:∀x c,(Zd0 X.env scope.names []).lookup x=J c->X.env.cells.lookup x=J c:=λx c e=>Zky scope.names [] aV (λ_ _ z=>by cases z) x c (YI e);have kB:∀y∈scope.names,y.2=.free->∃c,(Zd0 X.env scope.names []).lookup y.1=J c:=λy hy hf=>by obtain⟨c,hm⟩:=Zkz (env:=X.env) scope.names [] y hy hf;obtain⟨c',e,_⟩:=ZeH hm;exact⟨c',e⟩
 have kinds:∀x,(ZC X NC scope C s H fp).env.kindOf x=(scope.names.lookup x).map λk=>if (k==Yn&&X.env.scope.kind==.function&&X.env.kindOf x==J .cell)then NameKind.cell else k:=λx=>ZdR scope.names x;have gn:∀x,scope.names.lookup x=J .free->(ZC X NC scope C s H fp).env.kindOf x=J .cell:=λx e=>by
  rw[kinds,e];have R:X.env.kindOf x=J .cell:=show X.env.scope.names.lookup x=J .cell by rw[bK];exact S_.free (x,.free) (YI e) rfl
  have h2:X.env.scope.kind=.function:=I.ok.kind;simp only[Yu,R,h2];rfl
 have flt:∀b∈fp,b<s.heap.objs.size:=λb hb=>let⟨o,e⟩:=fo b hb;Ym e;refine⟨⟨I.ok.mod,S_.kind,I.ok.glob,I.ok.blt,Nat.le_of_eq hC.symm,λx y c R h2=>I.ok.inj x y c (fi x c R) (fi y c h2),λx hx=>?_,λx c hf _=>absurd (show Wy=Wx from hf) Ow,λ_=>I.ok.hd hc,I.ok.frames,.inl rfl,λb hb=>⟨?_,λx c e=>(f b hb).2.2.2.2.1 x c (fi x c e)⟩,
  I.bs,OE I.ok.bsz I.sz,λb o e hb=>?_,λb hb hm=>?_,I.stack,I.stkFree⟩,
  rfl,I.bare,Un.kept hk,⟨m,bM,λi x v R h2 h3=>?_⟩,λx c e=>?_,?_,λx c e=>I.freeC x c (fi x c e),λp hp=>absurd (show p∈([]:List (Yi×Obj))from hp) (by simp),I.hok.kept hk,?_⟩
 . rw[kinds]at hx;cases e:scope.names.lookup x with
   |none=>rw[e]at hx;rcases hx with hx|hx<;>cases hx
   |some k=>
    rw[e]at hx;have hm:=YI e;have hk:k=.free:=by
     by_cases hf:(k==Yn)=Wx
     . cases k<;>first|rfl|(exact absurd hf (by decide))
     . have mC:(k==Yn)=Wy:=Bool.eq_false_iff.mpr hf;simp only[Yu,mC,Bool.false_and,OG,if_false]at hx;rcases hx with hx|hx
       . exact absurd (YF hx) (S_.nocell _ hm)
       . exact YF hx
    exact kB (x,k) hm hk
 . show b≠C;rw[hC];exact Ou (flt b hb)
 . obtain⟨_,_,_,f3,_⟩:=f b hb;rcases f3 with z|z
   . exact I.ok.noex b o e z
   . exact absurd (Ot (Ym e) (OE I.ok.bsz z)) (Yv _)
 . obtain⟨_,f1,f2,_⟩:=f b hb;exact(O3.mp (I.stkSub b hm)).elim f1 f2
 . have hj:∃j,js[i]?=J (J j)/\Z[j]?=J (J v):=by
    unfold capt at h2;rw[O2]at h2;cases e:js[i]? with
    |none=>rw[e]at h2;cases h2
    |some o=>
     rw[e]at h2;have jB:(o.bind λj=>(Z[j]?).join)=J v:=YF h2;cases o with
     |none=>cases jB
     |some j=>
      refine⟨j,rfl,?_⟩;have gm:(Z[j]?).join=J v:=jB;cases q:Z[j]? with
      |none=>rw[q]at gm;cases gm
      |some r=>rw[q]at gm;rw[show r=J v from gm]
   obtain⟨j,hj,hσ⟩:=hj;obtain⟨hN,bz⟩:=S_.at (show NC[i]?=J x from R) hj;have aW:X.env.scope.names.lookup x=J .cell:=by rw[bK];exact S_.free (x,.free) (YI bz) rfl
   obtain⟨m0,_,hl⟩:=I.loc;obtain⟨u,r,l⟩:=hl j x v hN hσ (.inr (.inl aW));refine⟨u,r,?_⟩;rcases l with⟨k,_⟩|⟨_,c,e,z⟩
   . rw[show X.env.kindOf x=J .cell from aW]at k;cases k
   . obtain⟨c',e'⟩:=kB (x,.free) (YI bz) rfl;have ec:=fi x c' e';rw[e]at ec;cases ec;obtain⟨o,ho,hd⟩:=z;exact .inr ⟨.inl (gn x bz),c,e',o,hk _ _ ho,hd⟩
 . obtain⟨v,o,ho,hd⟩:=I.cell x c (fi x c e);exact⟨v,o,hk _ _ ho,hd⟩
 . show H C=M;rw[hC];exact I.hok.fresh (Oq _)
 . unfold capt;rw[Yt];exact S_.len
end
section
variable {X:Cx}{aE tg iter:Expr}{be:List Expr}{scope sc:Scope}{pos:Pos}{NC:List Str}{js:List (Option Nat)}{k:Nat}{wi:TI}{g:TG}{tc:TT}{te:TE}
def Inv.comp_out{aa:List (Yi×Obj)}{Z σ':St}{H3 H':Hp}{s3 s1:Yb}{C:Yi}{fp:List Yi}{h'':YG}(I3:Inv X aa Z H3 s3)(f:∀b∈fp,Zb7 X aa H3 b)(hC:C=s3.heap.objs.size)
 (I':Inv (ZC X NC scope C s3 H3 fp) [] σ' H' s1) (hs:Heap.SameBut C s1.heap h''):Inv X aa Z H' {s1 with heap:=h''}:=by
 have ne:∀b o,s3.heap.get? b=J o->b≠C:=λb o e=>by rw[hC];exact Ou (Ym e)
 have u:=I'.base;refine I3.call' (s':={s1 with heap:=h''}) (ch:=fp) I'.os ⟨λb o e n hb hx=>(hs.2 b (ne b o e)).trans (u.keep b o e n hb hx),λb o e n hb hx=>?_,u.free,λb o e hx=>?_,u.tups,u.frzs,u.tbls⟩ ?_ I'.bare λb hb=>?_
 . obtain⟨sl,q⟩:=u.slot b o e n hb hx;exact⟨sl,(hs.2 b (ne b o e)).trans q⟩
 . obtain⟨o',q⟩:=u.there b o e hx;exact⟨o',(hs.2 b (ne b o e)).trans q⟩
 . have aC:H' C=M:=I'.free;intro b ob e;refine(I'.hok b ob e).stay (λc w' hc q=>(hs.2 c ?_).trans q) (λ_ q=>q) λ_ _ q=>q;rintro rfl;rcases hc with rfl|hc
   . rw[aC]at e;cases e
   . rw[aC]at hc;cases hc
 . obtain⟨_,f1,_,f3,f4,f5⟩:=f b hb;exact⟨f3,f1,f4,f5⟩
def Ziv{aa:List (Yi×Obj)}{Z:St}{H3:Hp}{s3 s4:Yb}{C Dd it:Yi}{fp:List Yi}{tn:Nat->YG->Prop}{qb:It}{W:Nat->Nat->List V->Hp->Prop}{Q:VK}{m0:Nat}{post:Result->Yb->Prop}
 (hb:∀(aa:List (Yi×Obj)) (Z:St) (C:Yi) (s3:Yb) (H3:Hp) (fp:List Yi),Inv X aa Z H3 s3->(∀b∈fp,Zb7 X aa H3 b)->C=s3.heap.objs.size->PG (ZC X NC scope C s3 H3 fp) tg g/\PIf (ZC X NC scope C s3 H3 fp) be tc/\PE (ZC X NC scope C s3 H3 fp) aE te)
 (hk:Zon k g) (fY:∀j,j<k->js[j]?=J M) (hC:C=s3.heap.objs.size) (I3:Inv X aa Z H3 s3) (f3:∀b∈fp,Zb7 X aa H3 b) (eT:∀b∈fp,∃o,s3.heap.get? b=J o) (I4:Inv (ZC X NC scope C s3 H3 fp) [] (capt js Z) H3 s4) (T:Turn X.prog X.w X.K tg qb fp it tn) (dA:tn 0 s4.heap) (mY:H3 Dd=J (.lst [])) (w0:W 0 m0 [] H3)
 (turn:∀i m ys H,W i m ys H->H Dd=J (.lst ys)->(qb.stop i H/\Q (.ref Dd) H)\/(qb.go i H/\ys.length<sizeLine/\∀x H',qb.yld i H x H'->g x (capt js Z) H' λσ2 H2=>tc σ2 H2 λb H3=>if b=Wx then te σ2 H3 λy H4=>H4 Dd=J (.lst ys)/\∃m',m'<m/\W (i+1) m' (ys++[y]) (upd H4 Dd (.lst (ys++[y])))else H3 Dd=J (.lst ys)/\∃m',m'<m/\W (i+1) m' ys H3))
 (kN:∀s6 H5,Inv (ZC X NC scope C s3 H3 fp) [] (capt js Z) H5 s6->Q (.ref Dd) H5->post (.ok .next) s6) (er:∀e s',(∃m,s'.heap.Ns C m/\∀h',Heap.SameBut C s'.heap h'->∀bD:Env,bD.locals=C->YB (model X.prog X.w) X.A (passOn "comprehension.variables-let-go" e bD:Sem Yj) (λ_ _=>False) X.xe {s' with heap:=h'})->post (.error e) s') :
 codeAny (model X.prog X.w) X.A (.compLoop (.ListComp aE [⟨tg,iter,be,0⟩] scope pos) 0 (.ref it) (.ref Dd) (compEnvC scope (Zd0 X.env scope.names []) C X.env)) post s4:=by
 have bq:∀{H':Hp},(∀b∈fp,H' b=M)->∀b∈fp,Zb7 (ZC X NC scope C s3 H3 fp) [] H' b:=λhn b hb=>⟨hn b hb,(by rw[hC];exact Ou (let⟨o,e⟩:=eT b hb;Ym e)),λhm=>I4.ok.exfs b hb hm,.inl hb,λx c e=>(I4.ok.exf b hb).2 x c e,λp hp=>absurd (show p∈([]:List (Yi×Obj))from hp) (by simp)⟩
 have g7:∀e s',xeC X scope C e s'->notedBy (model X.prog X.w) X.A (compEnvC scope (Zd0 X.env scope.names []) C X.env) (λe s'=>post (.error e) s') e s':=λe s' z=>Yf z (λ_ dB q=>er e dB q) λe' dB q=>er e' dB q;refine Zku (λn s'=>∃i ys H',Inv (ZC X NC scope C s3 H3 fp) [] (capt js Z) H' s'/\tn i s'.heap/\(∀b∈fp,H' b=M)/\H' Dd=J (.lst ys)/\W i n ys H') ?_ m0
  ⟨0,[],_,I4,dA,λb hb=>(f3 b hb).1,mY,w0⟩
 rintro n s5 ⟨i,ys,H5,I5,eW,gZ,mX,w5⟩;rcases turn i n ys H5 w5 mX with⟨stop,qn⟩|⟨go,al,step⟩
 . refine Yf (T.done (ZC X NC scope C s3 H3 fp) rfl rfl rfl rfl i [] s5 (capt js Z) H5 (λ_ _=>False) I5 (bq gZ) eW stop) (λr s6 ⟨hr,I6⟩=>?_) λ_ _ z=>z.elim;subst hr;exact kN s6 H5 I6 qn
 . refine Yf (T.item (ZC X NC scope C s3 H3 fp) rfl rfl rfl rfl i [] s5 (capt js Z) H5 (λ_ _=>False) I5 (bq gZ) eW go) (λr s6 ⟨u,hr,h6⟩=>?_) λ_ _ z=>z.elim;subst hr;refine Yf h6 (λ_ s7 ⟨x,H7,I7,r7,y7,iw,m4⟩=>?_) λ_ _ z=>z.elim;have nz:=I7.pinned (bq m4) (T.obj _ _ iw);obtain⟨pg,k6,pe⟩:=hb aa Z C s3 H3 fp I3 f3 hC;refine Yf (pg _ s7 (capt js Z) H7 x u _ nz r7 (hk _ _ _ _ (step x H7 y7))) (λ_ s8 ⟨σ8,H8,I8,q8,l8,k8⟩=>?_) g7;have back:∀{H9:Hp}{s9:Yb},Inv (ZC X NC scope C s3 H3 fp) ([]++Zg2 fp s7.heap) σ8 H9 s9 ->
    Inv (ZC X NC scope C s3 H3 fp) [] (capt js Z) H9 s9/\tn (i+1) s9.heap/\∀b∈fp,H9 b=M:=λ{H9 s9} I9=>by
    refine⟨(I9.unpinned).weak l8.symm λj v e=>?_,T.keep _ _ _ iw λb hb o e=>(I9.pin (b,o) (Ov _ (Ov _ (Zdb hb e)))).1,λb hb=>?_⟩
    . by_cases hj:j<k
      . unfold capt at e;rw[O2,fY j hj]at e;cases e
      . rw[k8 j (Nat.le_of_not_lt hj)];exact e
    . obtain⟨o,e,d⟩:=T.obj _ _ iw b hb;exact(I9.pin (b,o) (Ov _ (Ov _ (Zdb hb e)))).2.1
   refine Yf (k6 _ s8 σ8 H8 _ I8 q8) (λok s9 ⟨H9,I9,q9⟩=>?_) g7;cases ok with
   |false=>rw[if_neg Ow]at q9 ⊢;obtain⟨mW,m',hm,w9⟩:=q9;obtain⟨b1,b2,b3⟩:=back I9;exact⟨m',hm,i+1,ys,H9,b1,b2,b3,mW,w9⟩
   |true=>
    rw[if_pos rfl]at q9 ⊢;refine Yf (pe _ s9 σ8 H9 _ I9 q9) (λy kR ⟨v,kH,nE,kY,jy,m',hm,kK⟩=>?_) g7;refine Yf (Zik (X:=ZC X NC scope C s3 H3 fp) _ kR σ8 kH (.ref Dd) [v] (.ref Dd) [y]
     (λ_ kG=>kG=upd kH Dd (.lst (ys++[v]))) nE rfl (.cons kY .nil) ⟨_,ys,v,rfl,rfl,jy,al,rfl⟩) (λ_ nK ⟨_,kG,nB,_,nc⟩=>?_) g7
    subst nc;obtain⟨b1,b2,b3⟩:=back nB;exact⟨m',hm,i+1,ys++[v],_,b1,b2,b3,Zp,kK⟩
theorem ZrF(S_:CompSc NC X.N js sc scope)(bK:X.env.scope=sc)(hc:X.calm=Wx)(hi:PI X tg iter wi)
   (hb:∀ (aa:List (Yi×Obj)) (Z:St) (C:Yi) (s3:Yb) (H3:Hp) (fp:List Yi),Inv X aa Z H3 s3->(∀ b∈fp,Zb7 X aa H3 b)->C=s3.heap.objs.size->PG (ZC X NC scope C s3 H3 fp) tg g/\PIf (ZC X NC scope C s3 H3 fp) be tc/\PE (ZC X NC scope C s3 H3 fp) aE te)
   (hk:Zon k g) (fY:∀ j,j<k->js[j]?=J M) (hs:∀ x,foldedSetIterable iter X.env x=pure x:=by intro _;rfl) :
   PE X (.ListComp aE [⟨tg,iter,be,0⟩] scope pos) (Zs5 wi js g tc te):=by
 intro aa s Z H Q I h;have aV:∀ y∈scope.names,y.2=.free->∃ c,X.env.cells.lookup y.1=J c:=λy hy hf=>I.ok.has y.1 (.inl (show X.env.scope.names.lookup y.1=J .cell by rw [bK];exact S_.free y hy hf));rw [eval_ListComp];refine wpAny_comprehension_free (use:=M) rfl hs (ZeO aV) S_.kind S_.locs (thn (hi aa s Z H _ I h) λxv s1 R=>thn R λgL s2 h2=>?_);obtain⟨it,fp,tn,qb,H2,e,I2,T,bF,f2,rest⟩:=h2;subst e;have hD:H2 s2.heap.objs.size=M:=I2.hok.fresh (Oq _);obtain⟨W,⟨m0,w0⟩,turn⟩:=rest s2.heap.objs.size hD;refine Yq (wpAny_newFunctionEnv S_.nocell (by intro y hy;simp at hy) (λh4 bM dI=>?_) S_.kind);have I3:Inv X aa Z (upd H2 s2.heap.objs.size (.lst [])) {s2 with heap:=s2.heap.push {cls:=.type "list",dict:=M,data:=.seq ([]:List Yj).toArray}}:=I2.lnew (t':=s2.toks) (ys:=[]) (its:=[]) .nil (Yw _);dsimp only at bM dI ⊢;generalize hs3:({s2 with heap:=s2.heap.push {cls:=.type "list",dict:=M,data:=.seq ([]:List Yj).toArray}}:Yb)=s3 at I3;have eh:s2.heap.push {cls:=.type "list",dict:=M,data:=.seq ([]:List Yj).toArray}=s3.heap:=by rw [<-hs3]
 have eD:s2.heap.objs.size<s3.heap.objs.size:=by rw [<-eh,Heap.size_push];exact OH _
 rw [eh] at bM dI;have keep:∀ b o,s3.heap.get? b=J o->h4.get? b=J o:=λb o e=>(dI.2 b (Ou (Ym e))).trans (Od _ e);have eT:∀ b∈fp,∃ o,s3.heap.get? b=J o:=λb hb=>by
   obtain⟨o,e,_⟩:=T.obj 0 _ bF b hb;exact⟨o,by rw [<-eh];exact Od _ e⟩
 have iO:∀ b∈fp,b≠s2.heap.objs.size:=λb hb=>by
   obtain⟨o,e,_⟩:=T.obj 0 _ bF b hb;exact Ou (Ym e)
 have f3:∀ b∈fp,Zb7 X aa (upd H2 s2.heap.objs.size (.lst [])) b:=λb hb=>⟨by rw [Zq (iO b hb)];exact(f2 b hb).1,(f2 b hb).2⟩
 have I4:=Zkd (tk:=s2.toks+([]:List (Str×Yj)).length) S_ bK hc I3 f3 eT rfl bM keep;have dA:tn 0 h4:=T.keep 0 _ _ bF λb hb o e=>keep b o (by rw [<-eh];exact Od _ e);have eC:(s2.heap.push {cls:=.type "list",dict:=M,data:=.seq ([]:List Yj).toArray}).objs.size=s3.heap.objs.size:=by rw [eh]
 have loop:∀ s4:Yb,s4={s3 with heap:=h4,toks:=s2.toks+([]:List (Str×Yj)).length} ->
     codeAny (model X.prog X.w) X.A (.compLoop (.ListComp aE [⟨tg,iter,be,0⟩] scope pos) 0 (.ref it) (.ref s2.heap.objs.size) (compEnvC scope (Zd0 X.env scope.names []) s3.heap.objs.size X.env))
       (compPost (model X.prog X.w) X.A X.xe M (EP X aa Z Q) (.ref s2.heap.objs.size) s3.heap.objs.size) s4:=by
   rintro s4 rfl;exact Ziv hb hk fY rfl I3 f3 eT I4 T dA Zp w0 turn (λs6 H5 I6 qn=>by
     obtain⟨m,hm,_⟩:=I6.loc;exact⟨m,hm,λh' eZ=>⟨.ref s2.heap.objs.size,H5,I3.comp_out f3 rfl I6 eZ,rfl,qn⟩⟩) (λ_ _ z=>z)
 have e4:({s2 with heap:=h4,toks:=s2.toks+([]:List (Str×Yj)).length}:Yb)={s3 with heap:=h4,toks:=s2.toks+([]:List (Str×Yj)).length}:=by rw [<-hs3]
 rw [eC];exact codeAny_compStart_list (loop _ e4) (T.self X.A 0 _ _ _ dA (loop _ e4))
end
set_option tactic.hygienic true
section
variable {X:Cx}
def TyN(K:Yk)(x:V)(H:Hp)(t:String):Prop:=match x with
 |.int _=>t="int"
 |.str _=>t="str"
 |.bl _=>t="bool"
 |.non=>t="NoneType"
 |.ref p=>(t="list" /\ ∃xs,SqL K H p xs)\/(t="tuple" /\ ∃xs,SqT K H p xs)
 |_=>False
def ZqH:Zcl X (.builtin "isinstance") (λxs H Q=>∃x t T b,xs=[x,.ty T]/\TyN X.K x H t/\PySem.W.kitOne X.K (.type t) (.type T)=J b/\Q (.bl b) H):=by
 intro aa s Z H xs us Q I r h;obtain⟨x,t,T,b,rfl,ty,e,q⟩:=h;obtain⟨u,w',rfl,rx,rT⟩:=vals2 r;obtain rfl:w'=Value.type T:=rT;have fin:∀tk,EP X aa Z Q (.bool b) {s with toks:=tk}:=λtk=>⟨.bl b,H,I.tok tk,rfl,q⟩
 cases x with
 |int i=>obtain⟨tk,rfl⟩:=rx;obtain rfl:t="int" := ty;exact PySem.W.kia_one PySem.W.kitx_int I.kIn trivial e (by intro z;cases z) fin
 |str i=>obtain⟨tk,rfl⟩:=rx;obtain rfl:t="str" := ty;exact PySem.W.kia_one PySem.W.kitx_str I.kIn trivial e (by intro z;cases z) fin
 |bl i=>obtain rfl:u=Value.bool i:=rx;obtain rfl:t="bool" := ty;exact PySem.W.kia_one PySem.W.kitx_bool I.kIn trivial e (by intro z;cases z) fin
 |non=>obtain rfl:u=Value.none:=rx;obtain rfl:t="NoneType" := ty;exact PySem.W.kia_one PySem.W.kitx_none I.kIn trivial e (by intro z;cases z) fin
 |ref p=>
  obtain rfl:u=YD p:=rx;rcases ty with⟨rfl,xs,hx⟩|⟨rfl,xs,hx⟩
  . obtain⟨its,_,pl,_⟩:=I.list hx;exact PySem.W.kia_one PySem.W.kitx_list I.kIn pl.isList.typeIs e (by intro z;cases z) fin
  . obtain⟨its,_,pl,_⟩:=I.tuple hx;exact PySem.W.kia_one PySem.W.kitx_tuple I.kIn pl.typeIs e (by intro z;cases z) fin
 |_=>exact(show False from ty).elim
def Zn1{K:Yk}(h:PySem.W.kitOne [] (.type t) (.type T)=J b):PySem.W.kitOne K (.type t) (.type T)=J b:=h
def Zx2:V->Option Int->Option Int->Hp->VK->Prop:=λx lo hi H Q=>∃y,x=.str y/\y.length<=sizeLine/\Q (.str (Yp y lo hi)) H
def ZtN:SlR X Zx2:=by
 intro aa s Z H x v vl vu lo hi sl Q I rx hs pl pu h;obtain⟨y,rfl,hz,q⟩:=h;obtain⟨t,rfl⟩:=rx;refine⟨"str",_,F.slot_str_getitem.lookup,typeIs_str _ _ _,?_⟩;have go:∀(l u:Option (Int×Tok)),vl=partValue l->vu=partValue u->lo=l.map (·.1)->hi=u.map (·.1)->YB (model X.prog X.w) X.A (getItem (.str y t) (.ref sl)) (EP X aa Z Q) X.xe s:=by rintro l u rfl rfl rfl rfl;refine wpAny_getItem_str_slice (l:=l) (u:=u) (st:=M) hs rfl ?_;refine post_val_or_str ⟨OE (Txt.slice_le y _ _) hz,λt' k=>⟨.str _,H,I.tok k,⟨t',rfl⟩,q⟩⟩
 cases pl with
 |none=>
  cases pu with
  |none=>exact go M M rfl rfl rfl rfl
  |int j tj=>exact go M (J (j,tj)) rfl rfl rfl rfl
 |int i ti=>
  cases pu with
  |none=>exact go (J (i,ti)) M rfl rfl rfl rfl
  |int j tj=>exact go (J (i,ti)) (J (j,tj)) rfl rfl rfl rfl
end
def Zat.there(x:Zat P w H h a o):∃ob,h.get? a=J ob:=by
 cases o with
 |lst xs=>obtain⟨_,_,_,_,e⟩:=x;exact⟨_,e⟩
 |tup xs=>obtain⟨_,_,_,ob,e,_⟩:=x;exact⟨_,e⟩
 |dK kvs=>obtain⟨_,_,_,_,o,_,_,e,_⟩:=x;exact⟨_,e⟩
 |dT kvs=>obtain⟨_,_,_,_,o,_,_,e,_⟩:=x;exact⟨_,e⟩
 |set S_ n=>obtain⟨o,_,_,_,e,_⟩:=x;exact⟨_,e⟩
 |ins C dx fs=>obtain⟨_,_,_,e,_⟩:=x;exact⟨_,e⟩
 |own y=>obtain⟨_,e⟩:=x;exact⟨_,e⟩
 |xd fs=>obtain⟨_,⟨_,_,_,e,_⟩,_⟩:=x;exact⟨_,e⟩
 |rng lo hi=>obtain⟨_,_,_,e⟩:=x;exact⟨_,e⟩
 |frz ob u=>obtain⟨e,_⟩:=x;exact⟨_,e⟩
 |tbl ps=>exact⟨_,(show h.get? a=J _ from x)⟩
 |met f y=>exact⟨_,(show h.get? a=J _ from x)⟩
 |ext φ=>obtain⟨_,⟨_,e⟩,_⟩:=x;exact⟨_,e⟩
def Kept(fs:List Yi)(H':Hp)(h R B_:YG):Prop:=∀b o,R.get? b=J o->(H' b≠M\/((∃o',h.get? b=J o')/\b ∉ fs))->B_.get? b=J o
def CXF(P:Yh)(w:Yg):CXT:=λouter H s E e s'=>
 ∃(a:Yi) (cls a0:Yj) (H':Hp) (B_:YG),e=.ref a/\s'.os=s.os/\AllBare s'.gens/\Un (frs outer) [] H H' s.heap s'.heap/\HOk P w H' s'.heap /\
  Heap.FlyingW B_ outer a cls a0 s'.heap/\Kept (frs outer) H' s.heap s'.heap B_/\H' a=M/\E cls M H'
def ZeT(un:Un fs [] H H' h R)(hok:HOk P w H' R)(kb:Kept fs H' h R B_)(stay:B_.StaysIn h2)(up:R.UpToSlots h2)
 (hf:∀b∈fs,∃o,R.get? b=J o/\∀vs,o.data≠.fields vs):Un fs [] H H' h h2/\HOk P w H' h2/\Kept fs H' h h2 B_:=by
 have tr:∀b u,H' b=J u->∃o,R.get? b=J o/\h2.get? b=J o/\B_.get? b=J o:=λb u e=>by obtain⟨o,q⟩:=(hok b u e).there;have z:=kb b o q (.inl (by rw[e];simp));exact⟨o,q,stay _ _ z,z⟩
 have old:∀b o,h.get? b=J o->b ∉ fs->∃o1,R.get? b=J o1/\h2.get? b=J o1/\B_.get? b=J o1:=λb o e hb=>by obtain⟨o1,q⟩:=un.there b o e (by simp);have z:=kb b o1 q (.inr ⟨⟨o,e⟩,hb⟩);exact⟨o1,q,stay _ _ z,z⟩
 refine⟨⟨λb o e n hb _=>?_,λb o e n hb _=>?_,λb o e n _=>un.free b o e n (by simp),λb o e _=>?_,un.tups,un.frzs,un.tbls⟩,λb u e=>?_,λb o e hb=>?_⟩
 . obtain⟨o1,q1,q2,_⟩:=old b o e hb;have z:=un.keep b o e n hb (by simp);rw[q1]at z;cases z;exact q2
 . obtain⟨sl,z⟩:=un.slot b o e n hb (by simp);obtain⟨o',z',nf⟩:=hf b hb;rw[z]at z';cases z';obtain⟨bG,q⟩:=up b _ z nf;exact⟨bG,q⟩
 . by_cases hb:b∈fs
   . obtain⟨o',z',nf⟩:=hf b hb;obtain⟨bG,q⟩:=up b _ z' nf;exact⟨_,q⟩
   . obtain⟨o1,_,q2,_⟩:=old b o e hb;exact⟨_,q2⟩
 . refine(hok b u e).stay (λc v hc q=>?_) (λ_ q=>q) λ_ _ q=>q;have cF:∃u',H' c=J u':=by
    rcases hc with rfl|hc
    . exact⟨u,e⟩
    . exact⟨_,hc⟩
   obtain⟨u',e'⟩:=cF;obtain⟨o,q1,q2,_⟩:=tr c u' e';rw[q]at q1;cases q1;exact q2
 . rcases hb with hb|⟨⟨o',e'⟩,hb⟩
   . cases q:H' b with
     |none=>exact absurd q hb
     |some u=>obtain⟨o1,q1,q2,q3⟩:=tr b u q;rw[e]at q2;cases q2;exact q3
   . obtain⟨o1,q1,q2,q3⟩:=old b o' e' hb;rw[e]at q2;cases q2;exact q3
def ZjB(X:Cx)(E:XK):Prop:=∀(aa:List (Yi×Obj)) (Z:St) (H:Hp) (s:Yb) (h':YG) (e:Yi) (cls:Yj) (vs:List Yj),Inv X aa Z H s->Heap.MadeExcOf s.heap h' e cls vs->E cls M H->X.xe (.ref e) {s with heap:=h'}
section
variable {P:Yh}{w:Yg}{K:Yk}{mg:Str->Option Yj}{base:YG}{N:List Str}{ah:Str}{scope:Scope}{f:Yi}{cd:Yj}{A:YH}{outer:List Env}{s0:Yb}{H0:Hp}{E:XK}
def Zo3:ZjB (Zf4 (CXF P w) P w K mg base N ah scope f cd A outer s0 H0 E) E:=by
 intro aa Z H s h' e cls vs I hx hE;have bz:(A.deeper (envOfC ah scope s0.heap.objs.size f cd)).frames=J (envOfC ah scope s0.heap.objs.size f cd::outer):=I.ok.frames;have cW:∀env∈(envOfC ah scope s0.heap.objs.size f cd::outer),∀b,env.frame=J b->b∈(envOfC ah scope s0.heap.objs.size f cd::outer).filterMap (·.frame):=λenv he b hb=>List.mem_filterMap.mpr ⟨env,he,hb⟩;have hst:s.heap.FunFrames base (envOfC ah scope s0.heap.objs.size f cd::outer):=I.stack;show YB (model P w) (A.deeper (envOfC ah scope s0.heap.objs.size f cd)) (leaving (envOfC ah scope s0.heap.objs.size f cd) (.ref e)) _ _ {s with heap:=h'};refine wpAny_leaves_madeW (s:={s with heap:=h'}) (base:=Wa s.heap (frs (envOfC ah scope s0.heap.objs.size f cd::outer))) bz rfl (λb o q=>PySem.W.of_hideAll _ q) (PySem.W.funFrames_hide hst cW) hx λh'' t x1 x2 x3 x4=>?_;have un:Un (frs outer) [] H0 H s0.heap h':=(I.base:Un (frs outer) [] H0 H s0.heap s.heap).trans (Un.kept hx.keeps);have hok:HOk P w H h':=I.hok.kept hx.keeps;have kb:Kept (frs outer) H s0.heap h' (Wa s.heap (frs (envOfC ah scope s0.heap.objs.size f cd::outer))):=λb o e1 hb=>by
  rcases hb with hb|⟨⟨o',e'⟩,hb⟩
  . cases q:H b with
    |none=>exact absurd q hb
    |some u=>
     obtain⟨o1,q1⟩:=(I.hok b u q).there;have q2:=hx.keeps b o1 q1;rw[e1]at q2;cases q2;exact PySem.W.hideAll_get _ q1 λhm=>by have z:H b=M:=I.stkFree b hm;rw[q]at z;cases z
  . obtain⟨o1,q1⟩:=(I.base:Un (frs outer) [] H0 H s0.heap s.heap).there b o' e' (show b ∉ ([]:List Yi)from List.not_mem_nil);have q2:=hx.keeps b o1 q1;rw[e1]at q2;cases q2;refine PySem.W.hideAll_get _ q1 λhm=>?_;have fU:b∈s0.heap.objs.size::frs outer:=I.stkSub b hm;rcases O3.mp fU with z|z
    . rw[z]at e';exact absurd (Ym e') (Yv _)
    . exact hb z
 have dZ:∀b∈frs outer,∃o,h'.get? b=J o/\∀vs,o.data≠.fields vs:=λb hb=>by obtain⟨_,o,q,nf⟩:=I.funs.mem hb;exact⟨o,hx.keeps _ _ q,nf⟩
 obtain⟨r1,r2,r3⟩:=ZeT un hok kb x1.1 x4 dZ;refine⟨e,cls,_,H,_,rfl,I.os,I.bare,r1,r2,x1,r3,?_,hE⟩;cases q:H e with
 |none=>rfl
 |some u=>obtain⟨o1,q1⟩:=(I.hok e u q).there;rw[hx.new]at q1;cases q1
def ZrI(h:∀cls H',E1 cls M H'->E cls M H'):Zbb (CXF P w) (Zf4 (CXF P w) P w K mg base N ah scope f cd A outer s0 H0 E) E1:=by
 intro aa Z H s e s' I hx;obtain⟨a,cls,a0,H',B_,rfl,os,bare,un,hok,fl,kb,ha,hE⟩:=hx;have I':=I.call' (ch:=[]) os un hok bare (λb z=>absurd z (by simp));have bz:(A.deeper (envOfC ah scope s0.heap.objs.size f cd)).frames=J (envOfC ah scope s0.heap.objs.size f cd::outer):=I.ok.frames;show YB (model P w) (A.deeper (envOfC ah scope s0.heap.objs.size f cd)) (leaving (envOfC ah scope s0.heap.objs.size f cd) (.ref a)) _ _ s';refine wpAny_leaves_onW bz rfl fl λh'' x1 x4=>?_;have iR:Kept (frs outer) H' s0.heap s'.heap B_:=λb o e1 hb=>by
  refine kb b o e1 ?_;rcases hb with hb|⟨⟨o',e'⟩,hb⟩
  . exact .inl hb
  . obtain⟨o1,q1⟩:=(I.base:Un (frs outer) [] H0 H s0.heap s.heap).there b o' e' (show b ∉ ([]:List Yi)from List.not_mem_nil);refine .inr ⟨⟨o1,q1⟩,λhm=>?_⟩;have fU:b∈s0.heap.objs.size::frs outer:=I.stkSub b hm;rcases O3.mp fU with z|z
    . rw[z]at e';exact absurd (Ym e') (Yv _)
    . exact hb z
 have dZ:∀b∈frs outer,∃o,s'.heap.get? b=J o/\∀vs,o.data≠.fields vs:=λb hb=>by obtain⟨_,o,q,nf⟩:=I'.funs.mem hb;exact⟨o,q,nf⟩
 obtain⟨r1,r2,r3⟩:=ZeT (I'.base:Un (frs outer) [] H0 H' s0.heap s'.heap) hok iR x1.1 x4 dZ;exact⟨a,cls,a0,H',B_,rfl,I'.os,bare,r1,r2,x1,r3,ha,h _ _ hE⟩
end
def Zii:Zbb (CXF P w) X E0:=λ_ _ _ _ _ _ _ h=>by obtain⟨_,_,_,_,_,_,_,_,_,_,_,_,_,z⟩:=h;exact z.elim
def Zsp{K:Yk}{h:YG}{C:Yi}{gt:List Yj}{bn:String}(X:K.In h)(q:PySem.W.excIn K C gt bn=Wx):
 ∃bm N nm qn bs hdct sn sub ab col dd k0 k1 k2 k3 k5 mN,h.get? C=J (excClassObj nm qn C N bs bm hdct sn sub ab col dd k0 k1 k2 k3 k5 bn)/\h.Ns N mN/\mN "__init__"=M/\OwnTail h gt bm:=by
 unfold PySem.W.excIn at q;split at q
 . rename_i dd cd sl ho;split at q
   . rename_i C' bm k0 k1 k2 k3 n k5 hm hs;simp only[Oa,beq_iff_eq,Bool.not_eq_true']at q;obtain⟨⟨⟨⟨⟨rfl,rfl⟩,f8⟩,ht⟩,hok⟩,gQ⟩:=q;obtain⟨nm,bs,mro,ns,qn,hd,sn,sub,ab,col,del⟩:=cd;dsimp only at hm f8 hok gQ;subst hm f8;have jY:sl=#[k0,k1,k2,k3,J (.builtin n),k5]:=by obtain⟨l⟩:=sl;simp only at hs;rw[hs]
     subst jY;exact⟨bm,ns,nm,qn,bs,hd,sn,sub,ab,col,dd,k0,k1,k2,k3,k5,_,X _ _ ho,.of_isNs (PySem.W.isNs_of_in X hok),PySem.W.nsMap_none_of_in X hok gQ,PySem.W.tail_of_in X ht⟩
   . cases q
 . cases q
section
variable {X:Cx}{x:Str}{C:Yi}{gt:List Yj}{B_ bn dD:String}{np ao pos:Pos}{e:Expr}{es:List Expr}{t:TA}{E:XK}
noncomputable def ZtI(C:Yi)(E:XK)(t:TA):TS:=λ_ Z H=>t Z H λvs H1=>vs.length<=sizeLine/\E (.ref C) M H1
def Zpp(hR:ZjB X E)(hc:X.calm=Wx)(FB:ExcBaseFacts B_ bn dD gt)(hg:Gl X x)(hm:X.mg x=J (.ref C))(hq:PySem.W.excIn X.K C gt bn=Wx)(ha:PA X (e::es) t)
 (bu:(x==("__debug__" : Str))=Wy:=by decide) (he:YA (e::es) X.env=(Wy,eval e X.env)::YA es X.env:=by rfl) (a9:(YS ao (YA es X.env)).any (·.1)=Wy:=by rfl) :
 PS X (.Raise (J (.Call (.Name x np) (e::es) [] ao)) M pos) (ZtI C E t):=by
 intro aa s Z H D I h;obtain⟨tl,N,nm,q,bs,hdct,sn,sub,ab,col,dd,k0,k1,k2,k3,k5,mN,hC,hN,gQ,T⟩:=Zsp I.mod.kin hq;refine wpAny_Raise_call_subT (C:=C) (nm:=nm) (q:=q) (N:=N) (bs:=bs) (bm:=tl) (hdct:=hdct) (sn:=sn) (sub:=sub) (ab:=ab) (col:=col) (dd:=dd) (k0:=k0) (k1:=k1) (k2:=k2) (k3:=k3) (k5:=k5)
  FB (mN:=mN) (T.hasType FB.hasBase) (I.ok.hd hc) (by rw[he];show(Wy||(YS ao (YA es X.env)).any (·.1))=Wy;rw[a9];rfl) gQ (Zdc I hg hm ⟨rfl,?_⟩ bu)
 have R:=ha ao aa s Z H _ I h;rw[he]at R ⊢;refine Calls.evalArgs_plain (thn R λus s2 ⟨vs,H2,I2,r2,hl,hE⟩=>?_);exact⟨rfl,by rw[<-r2.length];exact hl,I2.bk _ _ hC,hN.keeps I2.bk,T.keeps I2.bk,λh' a fT=>hR aa Z H2 s2 h' a _ us I2 fT hE⟩
end
def cxH(X:Cx)(a:Yi)(oe:Obj):Cx:={X with A:=X.A.mark (J (.ref a)),calm:=false,pn:=X.pn++[(a,oe)],xe:=λ_ _=>False}
abbrev cxM(X:Cx)(a:Yi):Cx:={X with A:=X.A.mark (J (.ref a)),calm:=false,xe:=λ_ _=>False}
section
variable {X:Cx}{aa:List (Yi×Obj)}{Z:St}{H:Hp}{s:Yb}{a:Yi}{oe:Obj}
def Inv.toM(I:Inv X aa Z H s)(a:Yi):Inv (cxM X a) aa Z H s:=⟨⟨I.ok.mod,I.ok.kind,I.ok.glob,I.ok.blt,I.ok.above,I.ok.inj,I.ok.has,I.ok.cab,λz=>absurd z Ow,I.ok.frames,I.ok.stk,I.ok.exf,I.ok.bs,I.ok.bsz,I.ok.noex,I.ok.exfs,I.ok.funs,I.ok.frf⟩,I.os,I.bare,I.base,I.loc,I.cell,I.free,I.freeC,I.pin,I.hok,I.len⟩
def Inv.toH(I:Inv X aa Z H s)(R:s.heap.get? a=J oe)(h2:H a=M)(h3:a≠X.env.locals)(h4:a ∉ X.fs)(h5:∀v,oe.data≠.cell v):Inv (cxH X a oe) aa Z H s:=
 ⟨⟨I.ok.mod,I.ok.kind,I.ok.glob,I.ok.blt,I.ok.above,I.ok.inj,I.ok.has,I.ok.cab,λz=>absurd z Ow,I.ok.frames,I.ok.stk,I.ok.exf,I.ok.bs,I.ok.bsz,I.ok.noex,I.ok.exfs,I.ok.funs,I.ok.frf⟩,I.os,I.bare,I.base,I.loc,I.cell,I.free,I.freeC,
  λp hp=>by
   rcases OD.mp (show p∈(X.pn++[(a,oe)])++aa from hp)with z|z
   . rcases OD.mp z with z|z
     . exact I.pin p (Yr _ z)
     . have e:p=(a,oe):=by simpa using z
       subst e;exact⟨R,h2,h3,h4,h5⟩
   . exact I.pin p (Ov _ z),I.hok,I.len⟩
theorem Inv.ofH(I:Inv (cxH X a oe) aa Z H s)(hd:X.calm=Wx->X.A.handled=M):Inv X aa Z H s :=
 ⟨⟨I.ok.mod,I.ok.kind,I.ok.glob,I.ok.blt,I.ok.above,I.ok.inj,I.ok.has,I.ok.cab,hd,I.ok.frames,I.ok.stk,I.ok.exf,I.ok.bs,I.ok.bsz,I.ok.noex,I.ok.exfs,I.ok.funs,I.ok.frf⟩,I.os,I.bare,I.base,I.loc,I.cell,I.free,I.freeC,
   λp hp=>I.pin p (by
     rcases OD.mp hp with z|z
     . exact Yr _ (Yr _ z)
     . exact Ov _ z),I.hok,I.len⟩
end
def Zkn{K:Yk}(X:K.In s.heap)(R:PySem.W.typeIn K (.ref C2)=J (.type "type"))(h0:(PySem.W.clsIn K C2).isSome=Wx)
 (h2:YV K (.ref C2) (.type "BaseException")=J Wx) (h3:YV K (.ref C) (.ref C2)=J Wx) (he:s.heap.get? a=J oe) (hc:oe.cls=.ref C) (q:Q Wx s):YB qd A (excMatches (.ref a) (.ref C2)) Q E s:=by
 have i1:PySem.W.instIn K (.ref C2) (.type "tuple")=J Wy:=by unfold PySem.W.instIn;rw[R];show YV K (.type "type") (.type "tuple")=J Wy;show YV [] (.type "type") (.type "tuple")=J Wy;decide +kernel
 have L1:=PySem.W.looks_instIn (M:=qd) X i1;have L2:=PySem.W.looks_subIn (M:=qd) X h2;have L3:=PySem.W.looks_subIn (M:=qd) X h3;have L0:PySem.W.Looks qd s.heap (isType (.ref C2)) Wx:=by
  unfold PySem.W.clsIn at h0;split at h0
  . rename_i c' d' kC bG ho;intro A' Q' E' s' k q;unfold isType loadHead;exact Ya (wpAny_loadPart (k _ _ (X _ _ ho)) (Yc q))
  . cases h0
 have LT:PySem.W.Looks qd s.heap (typeOf (.ref a)) (.ref C):=by rw[<-hc];exact(PySem.W.Looks.ld he).andThen .now
 unfold excMatches isExcClass
 repeat (any_goals (first|assumption|lk|wp_step))
structure ExcN(K:Yk)(C2:Yi):Prop where
 ty:PySem.W.typeIn K (.ref C2)=J (.type "type")
 cls:(PySem.W.clsIn K C2).isSome=Wx
 exc:YV K (.ref C2) (.type "BaseException")=J Wx
section
variable {X:Cx}{k:Nat}{n:Str}{e:Expr}{p pos:Pos}{ie:Nat}
def ZnS(I:Inv X aa Z H s)(hN:X.N.Nodup)(hi:X.N[ie]?=J n)(hl:X.env.scope.names.lookup n=J .local)
 (h:∀s',Inv X aa (Z.set ie M) H s'->Q () s'):YB qd A (do bindName X.env n .none;unbindBehindTheSuite X.env n pos) Q E s:=by
 obtain⟨m,hn,j1⟩:=id I.loc;have ee:(X.env.scope.kind==.class||(X.env.scope.kind==.module&&X.env.locals != X.env.globals))=Wy:=by rw[I.ok.kind];rfl
 have hiσ:ie<Z.length:=by rw[I.len];exact(Ob.mp hi).1
 refine wpAny_nameGoes_keeps hl hn ee λh' v dX hs=>?_;obtain⟨oL,_,_,fc,_⟩:=id hn;have eX:∀b o,X.s₀.heap.get? b=J o->b≠X.env.locals:=λb o e=>Ou (Ot (Ym e) I.ok.above);have aH:HOk X.prog X.w H h':=λb ob e=>by
  have aC:=I.free;refine(I.hok b ob e).stay (λc w' hc q=>(hs.2 c ?_).trans q) (λ_ q=>q) λ_ _ q=>q;rintro rfl;rcases hc with rfl|hc
  . rw[aC]at e;cases e
  . rw[aC]at hc;cases hc
 refine h {s with heap:=h',toks:=s.toks+1} ⟨I.ok,I.os,I.bare,⟨λb o e n hb hx=>(hs.2 b (eX b o e)).trans (I.base.keep b o e n hb hx),λb o e n hb hx=>?_,I.base.free,λb o e hx=>?_,I.base.tups,I.base.frzs,I.base.tbls⟩,⟨_,dX,λj y v' e1 e2 e3=>?_⟩,λy c e=>?_,I.free,I.freeC,λp hp=>?_,aH,by simpa using I.len⟩
 . obtain⟨sl,e1⟩:=I.base.slot b o e n hb hx;exact⟨sl,(hs.2 b (eX b o e)).trans e1⟩
 . obtain⟨o',e1⟩:=I.base.there b o e hx;exact⟨o',(hs.2 b (eX b o e)).trans e1⟩
 . by_cases hj:j=ie
   . subst hj;rw[Ol hiσ]at e2;cases e2
   . rw[Oc (YL hj)]at e2;obtain⟨u',r',q⟩:=j1 j y v' e1 e2 e3;refine⟨u',r',?_⟩;rcases q with⟨k,e⟩|⟨k,c,e,z⟩
     . refine .inl ⟨k,?_⟩;have:y≠n:=λe=>hj (Zg7 hN e1 (e▸hi));simp[this,e]
     . exact .inr ⟨k,c,e,z.sameBut hs (I.cne y c e)⟩
 . obtain⟨w',z⟩:=I.cell y c e;exact⟨w',z.sameBut hs (I.cne y c e)⟩
 . obtain⟨e,n,ne,nf,d⟩:=I.pin p hp;exact⟨(hs.2 p.1 ne).trans e,n,ne,nf,d⟩
end
def Def(P:Yh)(w:Yg)(K:Yk)(mg:Str->Option Yj)(base:YG)(k:Nat)(x:Str)(ps:List Str)(sp:Sp):Prop:=∃f fd,mg x=J (.ref f)/\Wg K (.ref f)=Wx/\Binds K fd ps []/\FnOk P w K mg base (CXF P w) k f fd ps sp
section
variable {X:Cx}{k:Nat}{x:Str}{ps:List Str}{sp:Sp}{E:XK}{e:Expr}{es:List Expr}{t:TA}{p pos:Pos}
noncomputable def ZxQ(sp:Sp)(E:XK)(t:TA):TE:=λZ H Q=>t Z H λvs H1=>sp vs H1 Q E
def Zuo(D:Def X.prog X.w X.K X.mg X.base k x ps sp)(hr:Room k X.A)(hg:Gl X x)(hx:Zbb (CXF X.prog X.w) X E)(ha:PA X (e::es) t)
 (bu:(x==("__debug__" : Str))=Wy:=by decide) (he:YA (e::es) X.env=(Wy,eval e X.env)::YA es X.env:=by rfl) (a9:(YS pos (YA es X.env)).any (·.1)=Wy:=by rfl) :
 PE X (.Call (.Name x p) (e::es) [] pos) (ZxQ sp E t):=by
 obtain⟨f,fd,R,h2,h3,h4⟩:=D;intro aa s Z H Q I h;refine ZrG h4 hr hg R h2 h3 .nil hx ha bu he a9 aa s Z H Q I ?_;have z:t Z H λvs H1=>sp vs H1 Q E:=h;show t Z H λvs H1=>sp (vs++[]) H1 Q E;simpa only[Ys]using z
end
section
variable {X:Cx}{aa:List (Yi×Obj)}{Z:St}{H:Hp}{s:Yb}{h':YG}
def ZmN{ch:List Yi}(hf:∀b∈ch,Zb7 X aa H b):∀b∈ch,(b∈X.ex\/X.s₀.heap.objs.size<=b)/\b≠X.env.locals/\(∀x c,X.env.cells.lookup x=J c->c≠b)/\∀p∈X.pn++aa,p.1≠b:=λb hb=>by obtain⟨_,f1,_,f3,f4,f5⟩:=hf b hb;exact⟨f3,f1,f4,f5⟩
def Inv.turnL{t':Nat}{ch:List Yi}(I:Inv X aa Z H s)(hf:∀b∈ch,Zb7 X aa H b)(k:∀b o,b ∉ ch->s.heap.get? b=J o->h'.get? b=J o):Inv X aa Z H {s with heap:=h',toks:=t'}:=by
 have cU:∀b u,H b=J u->b ∉ ch:=λb u e z=>by rw[(hf b z).1]at e;cases e
 refine I.step (g':=s.gens) (d':=s.drawn) (ch:=ch) (ZmN hf) (λb o _ _ hc e _=>k b o hc e) (λb o _ _ hc e _=>⟨o.slots,k b o hc e⟩) (λ_ _ _ _ n=>n)
  (λb o hc e=>⟨o,k b o hc e⟩) (λ_ _ e=>e) (λ_ _ _ e=>e) (λb ps e=>⟨#[],by rw[e];simp⟩) (λm hm=>?_) (λb u e=>?_) I.bare
 . obtain⟨o,es,ep,ho,r⟩:=hm;exact⟨o,es,ep,k _ o (λz=>(hf _ z).2.1 rfl) ho,r⟩
 . refine(I.hok b u e).stay (λc v hc q=>k c v ?_ q) (λ_ q=>q) λ_ _ q=>q;rcases hc with z|z
   . rw[z];exact cU b u e
   . exact cU c _ z
def Inv.turnT{t':Nat}{ch:List Yi}{us:List Yj}(I:Inv X aa Z H s)(hf:∀b∈ch,Zb7 X aa H b)(k:∀b o,b ∉ ch->s.heap.get? b=J o->h'.get? b=J o)
 (hT:s.heap.objs.size<=T) (tup:ZbS h' T us.toArray) (rv:Zs vs us) (hz:vs.length<=sizeLine):Inv X aa Z (upd H T (.tup vs)) {s with heap:=h',toks:=t'}:=by
 have cU:∀b u,H b=J u->b ∉ ch:=λb u e z=>by rw[(hf b z).1]at e;cases e
 have neT:∀b o,s.heap.get? b=J o->b≠T:=λb o e=>Ou (Ot (Ym e) hT);have gj:H T=M:=I.hok.fresh hT;refine I.step (g':=s.gens) (d':=s.drawn) (ch:=ch) (ZmN hf) (λb o _ _ hc e _=>k b o hc e) (λb o _ _ hc e _=>⟨o.slots,k b o hc e⟩) (λb o _ e n=>by rw[Zq (neT b o e)];exact n)
  (λb o hc e=>⟨o,k b o hc e⟩) (λb xs e=>by rw[Zq (ZQ e gj)];exact e) (λb o u e=>by rw[Zq (ZQ e gj)];exact e) (λb ps e=>⟨#[],by rw[Zq (ZQ e gj),e];simp⟩) (λm hm=>?_) (λb u e=>?_) I.bare
 . obtain⟨o,es,ep,ho,r⟩:=hm;exact⟨o,es,ep,k _ o (λz=>(hf _ z).2.1 rfl) ho,r⟩
 . by_cases hb:b=T
   . subst hb;rw[Zp]at e;cases e;exact⟨hz,us,rv,tup⟩
   . rw[Zq hb]at e;refine(I.hok b u e).stay (λc v hc q=>k c v ?_ q) (λc q=>by rw[Zq (ZQ q gj)];exact q) λc xs q=>by rw[Zq (ZQ q gj)];exact q
     rcases hc with z|z
     . rw[z];exact cU b u e
     . exact cU c _ z
end
def Ite(K:Yk)(a:Yi):It:=⟨λi H=>∃xs x,SqL K H a xs/\xs[i]?=J x,λi H v H'=>∃p,v=.ref p/\H p=M/\∃x,(∀xs,SqL K H a xs->xs[i]?=J x)/\H'=upd H p (.tup [.int i,x]),λi H=>∃xs,SqL K H a xs/\xs.length=i⟩
def Znj{P:Yh}{w:Yg}{K:Yk}{es:List Expr}{kk:Nat}{tp:Pos}(a it e:Yi)(jm:e≠it)(jv:a≠e)(ju:a≠it):
 Turn P w K (.Tuple es kk tp) (Ite K a) [e,it] e (λi h=>(∃old,IsEnum h e it i old)/\h.IsListIter it a i) where
 mem:=by simp
 obj:=λi h st b hb=>by
  obtain⟨⟨old,he⟩,o,e1,c,d⟩:=st;rcases O3.mp hb with rfl|hb
  . exact⟨_,he,λv z=>by cases z⟩
  . have e2:b=it:=by simpa using hb
    subst e2;exact⟨o,e1,λv z=>by rw[d]at z;cases z⟩
 keep:=λi h h' st k=>by obtain⟨⟨old,he⟩,st⟩:=st;exact⟨⟨old,k e (by simp) _ he⟩,st.at λo z=>k it (by simp) o z⟩
 item:=by
  intro X hP hw hK hc i aa s Z H E I hf st hg;subst hP hw hK;obtain⟨xs,x,hq,hx⟩:=hg;obtain⟨its,rv,p,hz⟩:=I.list hq;have hl:=rv.length;have hi:i<xs.length:=(Ob.mp hx).1;have W:=WalksT.enumerate (prog:=X.prog) (w:=X.w) (I.ok.hd hc) e it a jm jv ju its.toArray;have lC:∀(Q':Option Yj->Yb->Prop) (E':Yj->Yb->Prop),(∀T bp h' tk,(∃t x,its.toArray[i]?=J x/\bp=#[.int i t,x])->s.heap.objs.size<=T->ZbS h' T bp ->
   ((∃x,IsEnumOut h' e it ((i:Int)+1) x T)/\h'.IsListIter it a (i+1)/\h'.IsList a its.toArray/\T≠e/\T≠it)->(∀b o,b ∉ [e,it]->s.heap.get? b=J o->h'.get? b=J o)->Q' (J (.ref T)) {s with heap:=h',toks:=tk}) ->
   YB (model X.prog X.w) X.A (pyNext (.ref e)) Q' E' s:=by
   intro Q' E' hQ;obtain⟨⟨old,he⟩,av⟩:=st;have jW:its.toArray[i]?=J (its.toArray[i]'(by simp;lia)):=Array.getElem?_eq_getElem (by simp;lia);refine wpAny_pyNext_enum_item he av p.isList jW jm λh' ho cO hT hsz hk=>?_;have e1:e<s.heap.objs.size:=Ym he;have e2:it<s.heap.objs.size:=by obtain⟨_,z,_⟩:=av;exact Ym z
   exact hQ s.heap.objs.size _ h' (s.toks+1) ⟨_,_,jW,rfl⟩ (Oq _) ⟨_,hT,rfl,rfl,_,rfl⟩ ⟨⟨_,ho⟩,cO,p.isList.at λo z=>hk a o jv ju z,Nat.ne_of_gt e1,Nat.ne_of_gt e2⟩
    λb o hb z=>hk b o (λe'=>hb (by simp[e'])) (λe'=>hb (by simp[e'])) z
  refine lC _ _ λT bp R tk hP hT tup mid kk=>?_;refine⟨_,rfl,W.go _ _ _ i T {s with heap:=R,toks:=tk} _ _ mid λh2 bF kk2=>?_⟩;obtain⟨t,y,hy,rfl⟩:=hP;have cL:its[i]?=J y:=by simpa using hy
  obtain⟨u,hu,ru⟩:=rv.get hx;rw[cL]at hu;cases hu;have ki:T ∉ [e,it]:=W.apart i T R mid;have iq:ZbS h2 T #[.int i t,y]:=by obtain⟨o,q,r⟩:=tup;exact⟨o,kk2 T o ki q,r⟩
  have I2:Inv X aa Z (upd H T (.tup [.int i,x])) {s with heap:=h2,toks:=tk}:=I.turnT hf (λb o hb q=>kk2 b o hb (kk b o hb q)) hT (us:=[.int i t,y]) iq (.cons ⟨t,rfl⟩ (.cons ru .nil)) (by show 2<=sizeLine;decide);refine⟨.ref T,_,I2,rfl,⟨T,rfl,I.hok.fresh hT,x,λys hy=>by rw[I.list_inj hy hq];exact hx,rfl⟩,⟨bF.1,bF.2.1⟩,λb hb=>?_⟩;have lr:b≠T:=λz=>ki (by rw[<-z];exact hb);rw[Zq lr];exact(hf b hb).1
 done:=by
  intro X hP hw hK hc i aa s Z H E I hf st hg;subst hP hw hK;obtain⟨xs,hq,hx⟩:=hg;obtain⟨its,rv,p,hz⟩:=I.list hq;have hl:=rv.length;have W:=WalksT.enumerate (prog:=X.prog) (w:=X.w) (I.ok.hd hc) e it a jm jv ju its.toArray;have e1:its.toArray.size=i:=by simp;lia
  refine W.done s _ _ ?_ λR tk kk=>⟨rfl,I.turnL hf kk⟩
  rw[e1];exact⟨st.1,st.2,p.isList⟩
 self:=λA i s Q E st h=>by obtain⟨⟨old,he⟩,_⟩:=st;exact wpAny_pyIter_enum he h
def Zw3(K:Yk)(ta:TA):TI:=λZ H qe=>ta Z H λvs H1=>∃a,vs=[.ref a]/\(∃xs,SqL K H1 a xs)/\qe (Ite K a) H1
def ZrA{X:Cx}{es:List Expr}{kk:Nat}{tp:Pos}{l:Expr}{ta:TA}{p pos:Pos}(hg:Gl X "enumerate")(hm:X.mg "enumerate"=M)(ha:PA X [l] ta)(hs:YA [l] X.env=[(Wy,eval l X.env)]:=by rfl):
 PI X (.Tuple es kk tp) (.Call (.Name "enumerate" p) [l] [] pos) (Zw3 X.K ta):=by
 intro aa s Z H qe I h;refine Call_ (Zdd I hg hm boot_enumerate (PyProof.Rows.callWith_type1 (thn (ha pos aa s Z H _ I h) λus s1 ⟨vs,H1,I1,r1,q1⟩=>?_) hs rfl));obtain⟨a,rfl,⟨xs,hq⟩,q⟩:=q1;obtain⟨u,rfl,ru⟩:=vals1 r1;obtain rfl:u=YD a:=ru;obtain⟨its,rv,pl,hz⟩:=I1.list hq;have au:a<s1.heap.objs.size:=by obtain⟨_,_,e,_⟩:=pl;exact Ym e
 refine call_enumerate_list pl.isList λh' he hi hsz kk=>?_;refine wpAny_pyIter_enum he ?_;refine⟨s1.heap.objs.size+1,[s1.heap.objs.size+1,s1.heap.objs.size],_,_,H1,rfl,I1.kept (t':=s1.toks) kk,Znj a s1.heap.objs.size (s1.heap.objs.size+1) (Nat.succ_ne_self _) (Ou (Nat.lt_succ_of_lt au)) (Ou au),⟨⟨_,he⟩,hi⟩,λb hb=>?_,q⟩;rcases O3.mp hb with rfl|hb
 . exact I1.fpOk (Nat.le_succ _) (I1.hok.fresh (Nat.le_succ _))
 . have e:b=s1.heap.objs.size:=by simpa using hb
   subst e;exact I1.fpOk (Oq _) (I1.hok.fresh (Oq _))
end L2
namespace L2
open PySem PySem.Spec PyProof.Rows PySem.Builtin PySem.Builtin.ObjectAttr PySem.Builtin.Getset_descriptor
structure ExcA(K:Yk)(D:Yi):Prop where
 ga:YJ K (.ref D) "__getattribute__"=J (J (.builtin "BaseException.__getattribute__"))
 ga2:YJ K (.ref D) "__getattr__"=J M
 cl:YJ K (.ref D) "__class__"=J (J (.builtin "object.__class__"))
 get:PySem.W.specialIn K (.builtin "object.__class__") "__get__"=J (J (.builtin "getset_descriptor.__get__"))
 takes:PySem.W.takesIn K (.builtin "object.__class__")=J Wx
 obj:PySem.W.mroIn K D (.type "object")=J Wx
 base:YV K (.ref D) (.type "BaseException")=J Wx
 isc:(PySem.W.clsIn K D).isSome=Wx
def Zgy{K:Yk}(X:K.In h)(A:ExcA K D):PySem.W.Looks qd h (find x (.ref D) "__class__") (.bind (.builtin "getset_descriptor.__get__") (.builtin "object.__class__")):=by have L1:=PySem.W.looks_findIn (M:=qd) X A.cl;have L2:=PySem.W.looks_specialIn (M:=qd) X A.get;have L3:=PySem.W.looks_takesIn (M:=qd) X A.takes;refine L1.andThen (PySem.W.Looks.andThen (show PySem.W.Looks qd h (getOf (J (.builtin "object.__class__"))) (J (.builtin "getset_descriptor.__get__"))from L2) ?_);exact(show PySem.W.Looks qd h (dataDescriptor? (J (.builtin "object.__class__")) (J (.builtin "getset_descriptor.__get__"))) (J (.builtin "getset_descriptor.__get__",.builtin "object.__class__"))from L3.andThen .now).andThen (PySem.W.Looks.tag .now)
section
variable {prog:Yh}{w:Yg}{A:YH}{E:Yj->Yb->Prop}{s:Yb}{K:Yk}{x D:Yi}{ox:Obj}
def ZhW(X:K.In s.heap)(hx:s.heap.get? x=J ox)(hc:ox.cls=.ref D)(Z_:ExcA K D)
 (h:qe (.ok (.ret (.ref D))) s):codeAny (model prog w) A (.call (.builtin "getset_descriptor.__get__") ⟨[.builtin "object.__class__",.ref x,tp],[]⟩) qe s:=by
 obtain⟨hh,g,dr,t,os⟩:=s;have L0:PySem.W.Looks (model prog w) hh (typeOf (.ref x)) (.ref D):=hc▸(PySem.W.Looks.ld hx).andThen .now;have L1:=PySem.W.looks_mroIn (M:=model prog w) X Z_.obj;refine codeAny_call_builtin PySem.W.KF.slot_gs.plain PySem.W.KF.entry_gs (PySem.W.KF.slot_gs.check _ _ _ _ _ _ _ _ PySem.W.KF.type_class (PySem.W.KF.args_gs _ _ _) ?_);unfold Builtin.«getset_descriptor.__get__» descrGet;rw[PySem.W.dga_obj];refine Ya (Yc ?_);unfold descrGetter descrCheckInstance descrNameAndClass isInstance;simp only[PySem.W.KF.owner_class]
 repeat lk
 refine⟨Code.quiet_builtin _ (by decide +kernel),codeAny_builtin PySem.W.KF.entry_class ?_⟩;unfold Builtin.«object.__class__» shownTypeOf
 repeat lk
 all_goals (first|exact h|fail)
def Zja{tk:Tok}(X:K.In s.heap)(hx:s.heap.get? x=J ox)(hc:ox.cls=.ref D)(Z_:ExcA K D)(h:Q (.done (.ret (.ref D))) s):
 YB (model prog w) A (Builtin.«object.__getattribute__» ⟨[.ref x,.str "__class__" tk],[]⟩) Q E s:=by
 obtain⟨hh,g,dr,t,os⟩:=s;have L0:PySem.W.Looks (model prog w) hh (typeOf (.ref x)) (.ref D):=hc▸(PySem.W.Looks.ld hx).andThen .now;have L1:=Zgy (qd:=model prog w) (x:=.ref x) X Z_;unfold Builtin.«object.__getattribute__»;refine Ya (Yc (Ya (Yc (Ya (L0.at (Ya (L1.at ?_)))))));show YB _ _ (holding [Value.builtin "object.__class__"] (call (.builtin "getset_descriptor.__get__") [.builtin "object.__class__",.ref x,.ref D]) >>= ret) _ _ _;exact Ya (Wh (wpAny_call (ZhW X hx hc Z_ (Yc h))))
def Zn7(X:K.In s.heap)(hx:s.heap.get? x=J ox)(hc:ox.cls=.ref D)(Z_:ExcA K D)(h:Q (J (.ref D)) {s with toks:=s.toks+1}):
 YB (model prog w) A (getAttr? (.ref x) "__class__") Q E s:=by
 obtain⟨hh,g,dr,t,os⟩:=s;have L0:PySem.W.Looks (model prog w) hh (typeOf (.ref x)) (.ref D):=hc▸(PySem.W.Looks.ld hx).andThen .now;have L1:=PySem.W.looks_findIn (M:=model prog w) X Z_.ga;have L2:=PySem.W.looks_findIn (M:=model prog w) X Z_.ga2;have L3:=PySem.W.looks_subIn (M:=model prog w) X Z_.base;have L4:PySem.W.Looks (model prog w) hh (isInstance (.ref x) (.type "BaseException")) Wx:=L0.andThen L3;unfold getAttr? getAttrBy? getAttrBy;refine Ya (wpAny_mkText (Ya (wpAny_attempt (Wh (Ya (L0.at (Ya (L1.at ?_))))))));show YB _ _ (getAttrByItsOwn _ _ _ _ _ _) _ _ _;unfold getAttrByItsOwn hookBefore;refine Ya (L2.at (Ya (wpAny_attempt (Wh ?_))));show YB _ _ (boundAndCalled (.builtin "BaseException.__getattribute__") (.ref x) _) _ _ _;unfold boundAndCalled;refine Ya (Wp (F.attr_ValueError.ga.bind (.ref x)) (wpAny_call (codeAny_call_builtin F.attr_ValueError.ga.plain F.entry_bexc_ga ?_)));have hk:builtinKind "BaseException.__getattribute__"=J .slot:=by decide +kernel
 have dH:splitId "BaseException.__getattribute__"=J ("BaseException", "__getattribute__"):=by decide +kernel
 have ha:=F.args_bexc_ga (.ref x) (.str (O "__class__") t);simp only[checkBuiltinCall,hk,dH,List.cons_append,OB];refine Ya ?_;refine L4.at ?_;simp only[Bool.not_true,OG,if_false];refine Wp ha ?_;refine Zja (s:=⟨hh,g,dr,t+1,os⟩) X hx hc Z_ ?_;show YB _ _ (handedOut (.ref D)) _ _ _;refine Yc ?_;exact Yc h
def Zp7(Z_:ExcA K D):PySem.W.KitX K (.ref x) (.ref D) (λh=>∃ob,h.get? x=J ob/\ob.cls=.ref D) where
 ty:=λ_ _ _ ⟨ob,R,h2⟩=>h2▸(PySem.W.Looks.ld R).andThen .now
 it:=λ_ _ X _=>by
  have h0:=Z_.isc;unfold PySem.W.clsIn at h0;split at h0
  . rename_i c' d' kC bG ho;intro A' Q' E' s' k q;unfold isType loadHead;exact Ya (wpAny_loadPart (k _ _ (X _ _ ho)) (Yc q))
  . cases h0
 ne:=λh tp dd its n sl X lI=>by
  have h0:=Z_.isc;refine Bool.eq_false_iff.mpr λq=>?_;have e:D=tp:=Value.ref.inj (beq_iff_eq.mp q);subst e;unfold PySem.W.clsIn at h0;split at h0
  . rename_i c' d' kC bG ho;have z:=(X _ _ ho).symm.trans lI;cases z
  . cases h0
 ca:=λX ⟨ob,R,h2⟩ k=>Zn7 X R h2 Z_ k
end
def Zjm:Zcl X (.builtin "isinstance") (λxs H Q=>∃a oe D c v b,xs=[.ref a,c]/\(a,oe)∈X.pn/\oe.cls=.ref D/\ExcA X.K D/\RelV c v/\PySem.W.kitOne X.K (.ref D) v=J b/\Q (.bl b) H):=by
 intro aa s Z H xs us Q I r h;obtain⟨a,oe,D,c,v,b,rfl,hp,hc,Z_,rc,e,q⟩:=h;obtain⟨u,w',rfl,rx,rT⟩:=vals2 r;obtain rfl:u=YD a:=rx;have ev:w'=v:=by
  cases c with
  |ref p=>exact(show w'=YD p from rT).trans (show v=YD p from rc).symm
  |ty n=>exact(show w'=Value.type n from rT).trans (show v=Value.type n from rc).symm
  |non=>exact(show w'=Value.none from rT).trans (show v=Value.none from rc).symm
  |bl z=>exact(show w'=Value.bool z from rT).trans (show v=Value.bool z from rc).symm
  |int z=>obtain⟨_,rfl⟩:=rc;cases e
  |str z=>obtain⟨_,rfl⟩:=rc;cases e
  |byt z=>obtain⟨_,rfl⟩:=rc;cases e
  |flt z=>obtain⟨_,rfl⟩:=rc;cases e
 subst ev;have i9:=(I.pin (a,oe) (Yr _ hp)).1;exact PySem.W.kia_one (Zp7 Z_) I.kIn ⟨oe,i9,hc⟩ e (by intro z;cases z) λtk=>⟨.bl b,H,I.tok tk,rfl,q⟩
end L2
namespace L2
open PySem PySem.Spec PyProof.Rows
def ZsE(h:PSs X b t)(r:t D Z H):∃t,PSs X b t/\t D Z H:=⟨t,h,r⟩
def ZbB:RelV (.str x) (.str x t):=⟨t,rfl⟩
def Zfe:RelV (.int x) (.int x t):=⟨t,rfl⟩
def Zak:RelV (.ref a) (.ref a):=rfl
def isSome_of{K:Yk}(h:PySem.W.isClsIn K C=Wx):(PySem.W.clsIn K C).isSome=Wx:=h
def DkK(P:Yh)(w:Yg)(K:Yk)(a:Yi)(kvs:List (Key×V)):Prop:=∃(o:Obj) (es:Array DictEntry) (ep:Nat) (vs:List (Key×Yj)),K.lookup a=J o/\o.ExactDict/\o.data=.dict es ep/\KeysOf (ZY P w) es/\Pairs (ZY P w) es.toList vs/\(vs.map (·.1)).Nodup/\KV kvs vs/\kvs.length<=sizeLine/\(a==Ye)=Wy
def Dk(P:Yh)(w:Yg)(K:Yk)(H:Hp)(a:Yi)(kvs:List (Key×V)):Prop:=Rd H a (.dK kvs)\/DkK P w K a kvs
section
variable {X:Cx}{aa:List (Yi×Obj)}{Z:St}{H:Hp}{s:Yb}{a:Yi}
def Inv.dk(I:Inv X aa Z H s)(h:Dk X.prog X.w X.K H a kvs):kvs.length<=sizeLine/\(a==Ye)=Wy/\∃vs,KV kvs vs/\s.heap.DictOf (ZY X.prog X.w) a vs:=by
 rcases h with h|⟨o,es,ep,vs,lk,ex,da,ks,ps,nd,kv,z,hm⟩
 . exact Ztm I.hok h
 . exact⟨z,hm,vs,kv,o,es,ep,I.kIn a o lk,ex,da,ks,ps,nd⟩
def Zwi(P:Yh)(w:Yg)(K:Yk)(neg:Bool):R2:=λx y H Q=>∃a kvs k,y=.ref a/\x=kV k/\Dk P w K H a kvs/\Q (.bl (if neg then !(Ze7 kvs k).isSome else(Ze7 kvs k).isSome)) H
def Zuv:OpR X (YM .In) (Zwi X.prog X.w X.K Wy):=by intro aa s Z H x y v u Q I rx ry h;obtain⟨a,kvs,k,rfl,rfl,hd,q⟩:=h;cases ry;obtain⟨z,hm,vs,rel,dd⟩:=I.dk hd;refine wpAny_in_of (Zj9 rx) hm dd.mapOf ?_;rw[<-(rel.val k).isSome_eq];exact⟨.bl _,H,I.tok _,rfl,q⟩
def ZnM:OpR X (YM .NotIn) (Zwi X.prog X.w X.K Wx):=by intro aa s Z H x y v u Q I rx ry h;obtain⟨a,kvs,k,rfl,rfl,hd,q⟩:=h;cases ry;obtain⟨z,hm,vs,rel,dd⟩:=I.dk hd;refine wpAny_notIn_of (Zj9 rx) hm dd.mapOf ?_;rw[<-(rel.val k).isSome_eq];exact⟨.bl _,H,I.tok _,rfl,q⟩
def Zx8(P:Yh)(w:Yg)(K:Yk):R2:=λx y H Q=>∃a kvs k v,x=.ref a/\y=kV k/\Dk P w K H a kvs/\Ze7 kvs k=J v/\Q v H
def Zse:IxR X (Zx8 X.prog X.w X.K):=by intro value slice aa s Z H x y v u Q I rx ry h hs;obtain⟨a,kvs,k,z,rfl,rfl,hd,hv,q⟩:=h;cases rx;obtain⟨_,hm,vs,rel,dd⟩:=I.dk hd;obtain⟨w',hw,aw⟩:=ZfH.some_of (v:=z) (o:=valueAt vs k) (by rw[<-hv];exact rel.val k);exact subscriptTail_builtinR (x:=w') dd.typeIs PySem.F.slot_dict_getitem.lookup (wpAny_getItem_of (Zj9 ry) dd.mapOf hw ⟨rfl,z,H,I.tok _,aw,q⟩) hs
def Zxh(I:Inv X aa Z H s)(e:H a=J (.dK kvs))(l:kvs.length<sizeLine)(ry:RelV (kV k) u)(rv:RelV v r)
 (h:∀s',Inv X aa Z (upd H a (.dK (putK kvs k v))) s'->Q () s'):YB (model X.prog X.w) A (setItem (.ref a) u r) Q E s:=by
 obtain⟨z,hd,vs,rel,dd⟩:=Ztn I.hok e;have hz:vs.length<=sizeLine:=by rw[<-rel.length];exact z
 have hl:(putK kvs k v).length<=sizeLine:=by have:=Zgf kvs k v;lia
 refine wpAny_setItem_pairs (hsz:=hz) (Zj9 ry) dd λh' gq hs=>h _ ?_;have he:∃q,h'.get? a=J q:=let⟨q,_,_,hq,_⟩:=gq;⟨q,hq⟩;exact ZmW I (by rw[e];exact True.intro) hs he (Zqu hl hd (rel.put k rv) gq)
def Zv5:ZsU:=λo i v H Q=>∃a kvs k,o=.ref a/\i=kV k/\H a=J (.dK kvs)/\kvs.length<sizeLine/\Q (upd H a (.dK (putK kvs k v)))
def set_dict:ZsV X Zv5:=by intro aa s Z H o i v ov iv u Q I ro ri rv h;obtain⟨a,kvs,k,rfl,rfl,e,l,q⟩:=h;cases ro;exact Zxh I e l ri rv λs' I'=>⟨_,I',q⟩
end
set_option tactic.hygienic false
section
variable {X:Cx}{aE tg iter:Expr}{be:List Expr}{scope sc:Scope}{pos:Pos}{NC:List Str}{js:List (Option Nat)}{k:Nat}{wi:TI}{g:TG}{tc:TT}{te:TE}
def Zlg(hN:X.N.Nodup)(hy:X.N[i0]?=J y)(hx:Loc X.env.scope y)(hf:X.fn y=Wx\/X.env.scope.names.lookup y=J .local)(S_:CompSc NC X.N js sc scope)(bK:X.env.scope=sc)(hc:X.calm=Wx)(hi:PI X tg iter wi)
 (hb:∀(aa:List (Yi×Obj)) (Z:St) (C:Yi) (s3:Yb) (H3:Hp) (fp:List Yi),Inv X aa Z H3 s3->(∀b∈fp,Zb7 X aa H3 b)->C=s3.heap.objs.size->PG (ZC X NC scope C s3 H3 fp) tg g/\PIf (ZC X NC scope C s3 H3 fp) be tc/\PE (ZC X NC scope C s3 H3 fp) aE te)
 (hk:Zon k g) (fY:∀j,j<k->js[j]?=J M) (hs:∀x,foldedSetIterable iter X.env x=pure x:=by intro _;rfl) (iZ:swapsWith (.ListComp aE [⟨tg,iter,be,0⟩] scope pos) (J (.Name y py)) spos.line X.env=pure Wx:=by rfl) :
 PS X (.Assign [.Name y py] (.ListComp aE [⟨tg,iter,be,0⟩] scope pos) spos) (ZkZ (Zs5 wi js g tc te) (Zdr i0)):=by
 intro aa s Z H D0 I h;have aV:∀y∈scope.names,y.2=.free->∃c,X.env.cells.lookup y.1=J c:=λy hy hf=>I.ok.has y.1 (.inl (show X.env.scope.names.lookup y.1=J .cell by rw[bK];exact S_.free y hy hf));rw[exec_Assign_Name_used _ _ _ _ iZ];refine Ya (wpAny_standAt (Ya ?_));show YB _ X.A (do let _ <- comprehension (.ListComp aE [⟨tg,iter,be,0⟩] scope pos) scope X.env _ (newList []) Wy (eval iter X.env) (J (assign (.Name y py) X.env))) _ _ s;refine Ya (Yf (wpAny_comprehension_free (use:=J (assign (.Name y py) X.env)) (Q:=λ_ s'=>SP X aa D0 .next s') rfl hs (ZeO aV) S_.kind S_.locs (thn (hi aa s Z H _ I h) λxv s1 R=>thn R λgL s2 h2=>?_)) (λ_ s' hq=>Yc (Yc hq)) λ_ _ e=>e);obtain⟨it,fp,tn,qb,H2,e,I2,T,bF,f2,rest⟩:=h2;subst e;have hD:H2 s2.heap.objs.size=M:=I2.hok.fresh (Oq _);obtain⟨W,⟨m0,w0⟩,turn⟩:=rest s2.heap.objs.size hD;refine Yq (wpAny_newFunctionEnv S_.nocell (by intro y hy;simp at hy) (λh4 bM dI=>?_) S_.kind);have I3:Inv X aa Z (upd H2 s2.heap.objs.size (.lst [])) {s2 with heap:=s2.heap.push {cls:=.type "list",dict:=M,data:=.seq ([]:List Yj).toArray}}:=I2.lnew (t':=s2.toks) (ys:=[]) (its:=[]) .nil (Yw _);dsimp only at bM dI ⊢;generalize hs3:({s2 with heap:=s2.heap.push {cls:=.type "list",dict:=M,data:=.seq ([]:List Yj).toArray}}:Yb)=s3 at I3;have eh:s2.heap.push {cls:=.type "list",dict:=M,data:=.seq ([]:List Yj).toArray}=s3.heap:=by rw[<-hs3]
 have eD:s2.heap.objs.size<s3.heap.objs.size:=by rw[<-eh,Heap.size_push];exact OH _
 rw[eh]at bM dI;have keep:∀b o,s3.heap.get? b=J o->h4.get? b=J o:=λb o e=>(dI.2 b (Ou (Ym e))).trans (Od _ e);have eT:∀b∈fp,∃o,s3.heap.get? b=J o:=λb hb=>by obtain⟨o,e,_⟩:=T.obj 0 _ bF b hb;exact⟨o,by rw[<-eh];exact Od _ e⟩
 have iO:∀b∈fp,b≠s2.heap.objs.size:=λb hb=>by obtain⟨o,e,_⟩:=T.obj 0 _ bF b hb;exact Ou (Ym e)
 have f3:∀b∈fp,Zb7 X aa (upd H2 s2.heap.objs.size (.lst [])) b:=λb hb=>⟨by rw[Zq (iO b hb)];exact(f2 b hb).1,(f2 b hb).2⟩
 have I4:=Zkd (tk:=s2.toks+([]:List (Str×Yj)).length) S_ bK hc I3 f3 eT rfl bM keep;have dA:tn 0 h4:=T.keep 0 _ _ bF λb hb o e=>keep b o (by rw[<-eh];exact Od _ e);have eC:(s2.heap.push {cls:=.type "list",dict:=M,data:=.seq ([]:List Yj).toArray}).objs.size=s3.heap.objs.size:=by rw[eh]
 have loop:∀s4:Yb,s4={s3 with heap:=h4,toks:=s2.toks+([]:List (Str×Yj)).length} ->
  codeAny (model X.prog X.w) X.A (.compLoop (.ListComp aE [⟨tg,iter,be,0⟩] scope pos) 0 (.ref it) (.ref s2.heap.objs.size) (compEnvC scope (Zd0 X.env scope.names []) s3.heap.objs.size X.env))
   (compPost (model X.prog X.w) X.A X.xe (J (assign (.Name y py) X.env)) (λ_ s'=>SP X aa D0 .next s') (.ref s2.heap.objs.size) s3.heap.objs.size) s4:=by
  rintro s4 rfl;refine Ziv (Q:=λx H1=>Zdr i0 x Z H1 D0.nx) hb hk fY rfl I3 f3 eT I4 T dA Zp w0 turn (λs6 H5 I6 qn=>?_) (λ_ _ z=>z);obtain⟨m,hm,_⟩:=I6.loc;have Io:Inv X aa Z H5 s6:=I3.comp_out (h'':=s6.heap) f3 rfl I6 ⟨rfl,λ_ _=>rfl⟩;have fC:Zb7 X aa H5 s3.heap.objs.size:=I3.fpOk (Oq _) I6.free;show YB _ X.A (assign (.Name y py) X.env (.ref s2.heap.objs.size)) _ _ _;refine wpAny_assign_Name (Zia Io hN hy hx (v:=.ref s2.heap.objs.size) rfl (λs8 I8 ⟨a8,kP,mO⟩=>?_) hf);have lv:s3.heap.objs.size≠a8:=λz=>by
   rcases mO with e|e
   . exact fC.2.1 (z.trans e)
   . exact fC.2.2.2.2.1 _ _ e z.symm
  refine⟨m,hm.sameBut kP lv,λh' eZ=>?_⟩;exact⟨_,H5,I8.turnL (t':=s8.toks) (ch:=[s3.heap.objs.size]) (λb hb=>by rw[Ox.mp hb];exact fC) (λb o hb e=>(eZ.2 b (λz=>hb (by rw[z];exact List.mem_singleton_self _))).trans e),qn⟩
 have e4:({s2 with heap:=h4,toks:=s2.toks+([]:List (Str×Yj)).length}:Yb)={s3 with heap:=h4,toks:=s2.toks+([]:List (Str×Yj)).length}:=by rw[<-hs3]
 rw[eC];exact codeAny_compStart_list (loop _ e4) (T.self X.A 0 _ _ _ dA (loop _ e4))
end
set_option tactic.hygienic true
mutual
inductive Dp(K:Yk)(H:Hp):V->PyData->Prop
 |non:Dp K H .non .none
 |bl (b:Bool):Dp K H (.bl b) (.bool b)
 |int (i:Int):Dp K H (.int i) (.int i)
 |str (x:Str) (ok:Yo x=Wx):Dp K H (.str x) (.str x)
 |lst {a:Yi}{xs:List V}{ds:List PyData}:SqL K H a xs->Dps K H xs ds->Dp K H (.ref a) (.list ds)
 |tup {a:Yi}{xs:List V}{ds:List PyData}:SqT K H a xs->Dps K H xs ds->Dp K H (.ref a) (.tuple ds)
inductive Dps(K:Yk)(H:Hp):List V->List PyData->Prop
 |nil:Dps K H [] []
 |cons {v:V}{vs:List V}{d:PyData}{ds:List PyData}:Dp K H v d->Dps K H vs ds->Dps K H (v::vs) (d::ds)
end
section
variable {K:Yk}{H:Hp}
mutual
theorem Dp.lay:∀{v:V}{d:PyData},Dp K H v d->d.canLay0=Wx
 |_,_,.non=>rfl
 |_,_,.bl b=>rfl
 |_,_,.int i=>rfl
 |_,_,.str x ok=>ok
 |_,_,.lst h r=>Dps.lay r
 |_,_,.tup h r=>Dps.lay r
theorem Dps.lay:∀{v:List V}{d:List PyData},Dps K H v d->PyData.canLayAll0 d=Wx
 |_,_,.nil=>rfl
 |_,_,.cons h r=>by rw[PyData.canLayAll0,Dp.lay h,Dps.lay r];rfl
end
end
section
variable {X:Cx}{aa:List (Yi×Obj)}{Z:St}{H:Hp}{s:Yb}
mutual
theorem Inv.reads(I:Inv X aa Z H s):∀{v:V}{d:PyData}{u:Yj},Dp X.K H v d->RelV v u->∃as,Reads s.heap u d as
 |_,_,_,.non,r=>by cases r;exact⟨_,.none⟩
 |_,_,_,.bl b,r=>by cases r;exact⟨_,.bool b⟩
 |_,_,_,.int i,r=>by obtain⟨t,rfl⟩:=r;exact⟨_,.int i t⟩
 |_,_,_,.str x ok,r=>by obtain⟨t,rfl⟩:=r;exact⟨_,.str x t⟩
 |_,_,_,.lst h rs,r=>by cases r;obtain⟨its,rv,⟨o,n,e,c,_,dd⟩,_⟩:=I.list h;obtain⟨as,q⟩:=Inv.readsAll I rs rv;exact⟨_,.list e c dd (by simpa using q)⟩
 |_,_,_,.tup h rs,r=>by cases r;obtain⟨its,rv,⟨o,e,c,n,dd⟩,_⟩:=I.tuple h;obtain⟨as,q⟩:=Inv.readsAll I rs rv;exact⟨_,.tuple e c dd (by simpa using q)⟩
theorem Inv.readsAll(I:Inv X aa Z H s):∀{v:List V}{d:List PyData}{u:List Yj},Dps X.K H v d->Zs v u->∃as,ReadsAll s.heap u d as
 |_,_,_,.nil,r=>by cases r;exact⟨_,.nil⟩
 |_,_,_,.cons h rs,r=>by
  cases r with
  |cons r1 r2=>obtain⟨as,q⟩:=Inv.reads I h r1;obtain⟨bs,q2⟩:=Inv.readsAll I rs r2;exact⟨_,.cons q q2⟩
end
end
set_option tactic.hygienic false
namespace Rv
def own:Manifest.owners.lookup (String.ofList ['d','e','s','r','e','v','e','r'].reverse)=J Manifest.sig_reversed:=by kernel_rfl
def next:Slot "reversed" "__next__" "reversed.__next__" :=
 .of (owner := "reversed") (n := "__next__") (by rw[typeLookup_type,builtinLookup_eq_fast]<;>kernel_rfl) (by decide +kernel) (by decide +kernel) (by decide +kernel) (by first|exact .inl (by decide +kernel)|exact .inr (by decide +kernel)) (by rw[isSubtype_type]<;>kernel_rfl)
def Ztl:entryFor table "reversed.__next__"=J Builtin.«reversed.__next__»:=entryFor_of_tree (by kernel_rfl)
def Ztt(a:Yj):argsOk "reversed.__next__" ⟨[a],[]⟩:=by unfold argsOk;rw[signature?_of (id := "reversed.__next__") (n:=['_','_','t','x','e','n','_','_']) (o:=['d','e','s','r','e','v','e','r']) (by kernel_rfl) own];kernel_rfl
def iter:Slot "reversed" "__iter__" "reversed.__iter__" :=
 .of (owner := "reversed") (n := "__iter__") (by rw[typeLookup_type,builtinLookup_eq_fast]<;>kernel_rfl) (by decide +kernel) (by decide +kernel) (by decide +kernel) (by first|exact .inl (by decide +kernel)|exact .inr (by decide +kernel)) (by rw[isSubtype_type]<;>kernel_rfl)
def Zxs(a:Yj):argsOk "reversed.__iter__" ⟨[a],[]⟩:=by unfold argsOk;rw[signature?_of (id := "reversed.__iter__") (n:=['_','_','r','e','t','i','_','_']) (o:=['d','e','s','r','e','v','e','r']) (by kernel_rfl) own];kernel_rfl
def Zxf:entryFor table "reversed.__iter__"=J Builtin.«dict_keyiterator.__iter__» :=entryFor_alias (id' := "dict_keyiterator.__iter__") (by kernel_rfl) (by first|rfl|decide +kernel|(unfold String.splitOn;simp +decide [String.splitOnAux])) (by decide +kernel) (by kernel_rfl)
def ZwF:typeLookup (.type "tuple") "__reversed__"=pure M:=by rw[typeLookup_type,builtinLookup_eq_fast]<;>kernel_rfl
def Zl7:isSubtype (.type "reversed") (.type "reversed")=pure Wx:=by rw[isSubtype_type]<;>kernel_rfl
def init:Slot "reversed" "__init__" "object.__init__" :=
 .of (owner := "object") (n := "__init__") (by rw[typeLookup_type,builtinLookup_eq_fast]<;>kernel_rfl) (by decide +kernel) (by decide +kernel) (by decide +kernel) (by first|exact .inl (by decide +kernel)|exact .inr (by decide +kernel)) (by rw[isSubtype_type]<;>kernel_rfl)
def called:TypeCalled "reversed" "reversed.__new__" "object.__init__" := ⟨by decide +kernel,F.create_reversed,⟨_,_,F.mro_reversed⟩,F.made_reversed,by decide +kernel,Zl7,init⟩
noncomputable def obj(l:Yi)(i:Int):Obj:={cls:=.type "reversed",data:=.fields #[.ref l,rawInt i]}
def Is(h:YG)(a l:Yi)(i:Int):Prop:=∃o,h.get? a=J o/\o.cls=.type "reversed" /\ o.data=.fields #[.ref l,rawInt i]
section
variable {prog:Yh}{w:Yg}{A:YH}{E:Yj->Yb->Prop}{s:Yb}
def Is.typeIs(x:Is s.heap a l i):s.TypeIs (.ref a) "reversed" := let⟨o,ho,hc,_⟩:=x;⟨o,ho,hc⟩
def Is.at(x:Is h a l i)(e:∀o,h.get? a=J o->h'.get? a=J o):Is h' a l i:=let⟨o,ho,r⟩:=x;⟨o,e _ ho,r⟩
def new(hl:IsTup s.heap l items)(hz:items.size<=sizeLine)
 (h:Q (.ref s.heap.objs.size) {s with heap:=s.heap.push (obj l ((items.size:Int)-1)),toks:=s.toks+1+1}) :
 codeAny (model prog w) A (.call (.builtin "reversed.__new__") ⟨[.type "reversed",.ref l],[]⟩) (wants Q E) s:=by
 have d7:(items.size:Int)<2^63:=by have:=Zca;lia
 refine codeAny_of_tree ?_;show YB _ A.in1 (do checkBuiltinCall "reversed.__new__" ⟨[.type "reversed",.ref l],[]⟩;again (.builtin "reversed.__new__" ⟨[.type "reversed",.ref l],[]⟩)) _ _ s;refine Ya (Wp (F.newCall_reversed_1 _) (Yc ⟨plainId_quiet F.plain_reversed_new _,codeAny_builtin F.entry_reversed_new ?_⟩));rw[Around.under_plainId F.plain_reversed_new _];unfold Builtin.«reversed.__new__»;refine Ya (Wp (newClass_reversed _) ?_)
 try dsimp only
 refine Ya (Wp (a:=()) (by first|rfl|kernel_rfl) (Ya (Wp (a:=()) (by first|rfl|kernel_rfl) ?_)))
 try dsimp only
 refine Ya (wpAny_specialOf hl.typeIs ZwF ?_)
 try dsimp only
 refine Ya ?_;show YB _ _ (isInstance (.ref l) (.type "dict") >>= λb=>_) _ _ s;refine Ya (wpAny_isInstance hl.typeIs F.sub_tuple_dict ?_);show YB _ _ (specialOf (.ref l) "__getitem__" >>= λb=>_) _ _ s;refine Ya (wpAny_specialOf hl.typeIs slot_tuple_getitem.lookup ?_);refine Wp (a:=true) (by rfl) ?_;show YB _ _ (call (.builtin "len") [.ref l] >>= λb=>_) _ _ s;refine Ya (len_tuple hl d7 ?_);show YB _ _ (asInt? (.int _ _) >>= λb=>_) _ _ _;refine Ya (Yc ?_);show YB _ _ (newObj (.type "reversed") (.fields #[.ref l,rawInt ((items.size:Int)-1)]) >>= λb=>_) _ _ _;exact Ya (Yq (Yc h))
theorem call(hl:IsTup s.heap l items)(hz:items.size<=sizeLine)
 (h:Q (.ref s.heap.objs.size) {s with heap:=s.heap.push (obj l ((items.size:Int)-1)),toks:=s.toks+1+1}):YB (model prog w) A (PySem.call (.type "reversed") [.ref l]) Q E s:=by
 refine callType_codes called (F.typeCall_reversed_1 _) F.entry_object_init (new (Q:=λo s1=>o=.ref s.heap.objs.size/\s1={s with heap:=s.heap.push (obj l ((items.size:Int)-1)),toks:=s.toks+1+1}) hl hz ⟨rfl,rfl⟩) ?_;rintro _ _ ⟨rfl,rfl⟩;have hT:Shared.TypeIs {s with heap:=s.heap.push (obj l ((items.size:Int)-1)),toks:=s.toks+1+1} (.ref s.heap.objs.size) "reversed" := ⟨_,Oj _ rfl,rfl⟩
 refine⟨hT,F.args_object_init_2 _ _,?_⟩;exact object_init_meets init.lookup F.made_reversed (by decide) prog w _ _ _ ⟨hT,rfl,h⟩
def next_item{it l:Yi}{i:Nat}{Q:Option Yj->Yb->Prop}(av:Is s.heap it l (i:Int))(hl:IsTup s.heap l items)(hz:items.size<=sizeLine)(hx:items[i]?=J x)
 (hQ:∀h' t',Is h' it l ((i:Int)-1)->Heap.SameBut it s.heap h'->Q (J x) {s with heap:=h',toks:=t'}):YB (model prog w) A (pyNext (.ref it)) Q E s:=by
 obtain⟨o,ho,hc,hd⟩:=id av;have hi:i<items.size:=by have:=(Array.getElem?_eq_some_iff.mp hx).1;exact this
 have nL:=Zca;unfold pyNext;refine Ya (wpAny_attempt (We (name:=O "__next__") av.typeIs next (Wi next av.typeIs Ztl ?_ (Ztt _))));unfold Builtin.«reversed.__next__»;refine Ya (Wp (a:=(YD it,[])) rfl ?_)
 try dsimp only
 refine Ya (YR ho hd (x:=.ref l) rfl (Ya (YR ho hd (x:=rawInt (i:Int)) rfl ?_)));show YB _ _ (if (i:Int)<0 then _ else _) _ _ s;rw[if_neg (by lia)];show YB _ _ (specialOf (.ref l) "__getitem__" >>= λb=>_) _ _ s;refine Ya (wpAny_specialOf hl.typeIs slot_tuple_getitem.lookup ?_);show YB _ _ (mkInt (i:Int) >>= λb=>_) _ _ s;refine Ya (wpAny_mkInt ?_);refine Ya (wpAny_attempt (getItem_tuple (s:={s with toks:=s.toks+1}) (j:=i) (x:=x) hl (by lia) (by lia) (seqIndex_of (by lia) (by lia)) hx ?_));show YB _ _ (field (.ref it) 1 >>= λb=>_) _ _ _;refine Ya (YR ho hd (x:=rawInt (i:Int)) rfl ?_);show YB _ _ (setField (.ref it) 1 (rawInt ((i:Int)-1)) >>= λb=>_) _ _ _;refine Ya (wpAny_setField ho hd (by simp) ?_);refine Yc ⟨x,rfl,Yc (hQ _ _ ?_ (Heap.SameBut.update ..))⟩;exact⟨_,YX _ ho (Obj.isFreed_of_fields (YZ hd _)),(Obj.cls_mapFields ..).trans hc,by rw[YZ hd]<;>simp⟩
def next_end(hh:A.handled=M)(av:Is s.heap it l (-1))(hQ:∀h',Heap.ExtBut it s.heap h'->Q M {s with heap:=h'}):YB (model prog w) A (pyNext (.ref it)) Q E s:=by
 obtain⟨o,ho,hc,hd⟩:=id av;unfold pyNext;refine Ya (wpAny_attempt (We (name:=O "__next__") av.typeIs next (Wi next av.typeIs Ztl ?_ (Ztt _))));unfold Builtin.«reversed.__next__»;refine Ya (Wp (a:=(YD it,[])) rfl ?_)
 try dsimp only
 refine Ya (YR ho hd (x:=.ref l) rfl (Ya (YR ho hd (x:=rawInt (-1)) rfl ?_)));show YB _ _ (if (-1:Int)<0 then _ else _) _ _ s;rw[if_pos (by decide)];refine Ya (wpAny_rule ?_);show YB _ _ ((setField (.ref it) 1 (rawInt (-1)) >>= λ_=>setField (.ref it) 0 .none) >>= λb=>_) _ _ _;have e1:=YX (Obj.mapFields (·.setIfInBounds 1 (rawInt (-1)))) ho (Obj.isFreed_of_fields (YZ hd _));refine Ya (Ya (wpAny_setField ho hd (by simp) (wpAny_setField e1 (YZ hd _) (by simp) ?_)));refine Ya ?_;show YB _ _ (newExc (.type "StopIteration") [] >>= λb=>_) _ _ _;refine Ya ?_;simp only[newExc,newTuple];refine Ya (Yq ?_ (by size_fits));refine Ya (m:=firstArgMember _ _) (Wp (a:=Value.none) (by first|rfl|(simp only[firstArgMember]<;>rfl)) (Yq ?_ (by size_fits)));simp only[raiseNew];refine Ya (wpAny_handled ?_);rw[show A.in1.handled=M from hh];refine Ya (Yc (wpAny_throw ?_));refine Ya (wpAny_isInstance (T := "StopIteration") (b:=true) ⟨_,Oj _ rfl,rfl⟩ isSubtype_stop (Yc (hQ _ ?_)));exact((((Heap.ExtBut.refl _ _).trans (Heap.SameBut.update ..).extBut).trans (Heap.SameBut.update ..).extBut).push _).push _
def ZfW(av:Is s.heap it l i)(h:Q (.ref it) s):YB (model prog w) A (pyIter (.ref it)) Q E s:=by refine wpAny_pyIter_slot av.typeIs iter (Wi iter av.typeIs Zxf ?_ (Zxs _));exact Yc ⟨_,rfl, "reversed",_,av.typeIs,next.lookup,h⟩
end
end Rv
noncomputable def Itv(K:Yk)(a:Yi)(n:Nat):It:=⟨λi H=>∃xs x,SqT K H a xs/\xs.length=n/\xs.reverse[i]?=J x,λi H x H'=>H'=H/\∀xs,SqT K H a xs->xs.reverse[i]?=J x,λi H=>∃xs,SqT K H a xs/\xs.length=n/\n=i⟩
def ZoH{P:Yh}{w:Yg}{K:Yk}{tg:Expr}(a it:Yi)(n:Nat):Turn P w K tg (Itv K a n) [it] it (λi h=>i<=n/\Rv.Is h it a ((n:Int)-1-i)) where
 mem:=by simp
 obj:=λi h st b hb=>by
  have e:b=it:=by simpa using hb
  subst e;obtain⟨_,o,e,c,d⟩:=st;exact⟨o,e,λv z=>by rw[d]at z;cases z⟩
 keep:=λi h h' st k=>⟨st.1,st.2.at λo e=>k it (by simp) o e⟩
 item:=by
  intro X hP hw hK hc i aa s Z H E I hf st hg;subst hP hw hK;obtain⟨cW,st⟩:=st;obtain⟨xs,x,hq,fN,hx⟩:=hg;obtain⟨its,rv,p,hz⟩:=I.tuple hq;have hl:=rv.length;have hi:i<xs.length:=by have:=(Ob.mp hx).1;simpa using this
  have bI:xs[n-1-i]?=J x:=by rw[List.getElem?_reverse hi]at hx;rw[<-fN];exact hx
  obtain⟨u,hu,ru⟩:=rv.get bI;obtain⟨f0,f1,f2,f3,f4,f5⟩:=hf it (by simp);have e1:(n:Int)-1-(i:Nat)=((n-1-i:Nat):Int):=by lia
  rw[e1]at st;refine Rv.next_item st p (by simp;lia) (x:=u) (by simpa using hu) λh' t' bi sb=>?_;have I1:Inv X aa Z H {s with heap:=h',toks:=t'}:=I.turned (t':=t') (λb o hb e=>(sb.2 b hb).trans e) f0 f1 f3 f4 f5;obtain⟨o,e,c,d⟩:=id bi;have e2:((n-1-i:Nat):Int)-1=(n:Int)-1-((i+1:Nat):Int):=by lia
  refine⟨u,rfl,Zke (s:={s with heap:=h',toks:=t'}) e c d (by decide) ⟨x,H,I1,ru,⟨rfl,λys hy=>by rw[I.tuple_inj hy hq];exact hx⟩,⟨by lia,by rw[<-e2];exact bi⟩,λb hb=>(hf b hb).1⟩⟩
 done:=by intro X hP hw hK hc i aa s Z H E I hf st hg;subst hP hw hK;obtain⟨xs,hq,fN,hx⟩:=hg;obtain⟨f0,f1,f2,f3,f4,f5⟩:=hf it (by simp);have cz:=st.2;rw[show(n:Int)-1-(i:Nat)=-1 by lia]at cz;exact Rv.next_end (I.ok.hd hc) cz λh' eb=>⟨rfl,I.turned (t':=s.toks) (λb o hb e=>eb b o hb e) f0 f1 f3 f4 f5⟩
 self:=λ_ _ _ _ _ st h=>Rv.ZfW st.2 h
theorem ZfJ:∀{vs:List Yj}{ss:List Str},StrsAre vs ss->Zs (ss.map V.str) vs
 |_,_,.nil=>.nil
 |_,_,.cons y t h=>.cons ⟨t,rfl⟩ (ZfJ h)
section
variable {prog:Yh}{w:Yg}{A:YH}{E:Yj->Yb->Prop}{s:Yb}
def Zk0
 (jq:∀qe:List Yj->Yb->Prop,(∀(h':YG) (tk:Nat) (vs:List Yj),s.heap.objs.size<=h'.objs.size->(∀b o,s.heap.get? b=J o->h'.get? b=J o)->StrsAre vs ss->qe vs {s with heap:=h',toks:=tk})->YB (model prog w) A.in1 (collect (.ref r)) qe E s)
 (kr:ss.length<64)
 (h:∀(D:Yi) (h':YG) (tk:Nat) (out:List Yj) (bj:List Str) (n:Nat),(∀b o,s.heap.get? b=J o->h'.get? b=J o)->s.heap.objs.size<=D->h'.get? D=J {cls:=.type "list",data:=.seq out.toArray n}->StrsAre out bj->bj.Perm ss->sortedS bj=Wx ->
  Q (.ref D) {s with heap:=h',toks:=tk}):YB (model prog w) A (call (.builtin "sorted") [.ref r]) Q E s:=by
 refine Calls.call_function_entry kind_sorted plain_sorted entry_sorted (args_sorted1 _) ?_;unfold Builtin.«sorted»;refine Ya (m:=checkCount "sorted" 1 1 _) (Yc (Ya (jq _ λh' tk vs hsz hk hS=>?_)));have al:vs.length=ss.length:=by have:=(ZfJ hS).length;simpa using this.symm
 have hz:vs.length<=sizeLine:=by rw[YC];lia
 refine Ya (wpAny_newList ?_ hz);have fc:(h'.push (seqObj "list" vs.toArray 0)).get? h'.objs.size=J (seqObj "list" vs.toArray 0):=Oj _ rfl;refine Ya (Wh (Wi slot_list_sort ⟨_,fc,rfl⟩ entry_list_sort (list_sort_treeK strKind_oneLt fc hS.keysOf (λv₁ v₂ rest e=>keyKind_strs (by rw[<-e];exact hS)) (by lia) λbi a1 a2=>⟨_,rfl,?_⟩) (args_list_sort _)));refine Yc ⟨_,rfl,?_⟩;obtain⟨bj,R,h2,h3⟩:=sorted_out_str hS a1 a2;obtain⟨e,he⟩:=sortedHeap_at (out:=(arrOf bi).map (·.2)) fc;have e2:((arrOf bi).map (·.2))=((arrOf bi).map (·.2)).toList.toArray:=Array.toArray_toList.symm;refine h h'.objs.size _ tk ((arrOf bi).map (·.2)).toList bj e (λb o q=>?_) hsz (by rw[<-e2];exact he) R h2 h3;have q':=hk b o q;have au:=Ym q';rw[sortedHeap_old (Ou au) (by rw[size_push'];exact Nat.lt_succ_of_lt au)];exact Od _ q'
def Zkv(K:PySem.W.KdlSrc prog w T r d n P OK)(hh:A.handled=M)(hok:OK s.heap)(hn:n<=sizeLine)
 (h:∀(h':YG) (tk:Nat) (ag:Array Yj),s.heap.objs.size<=h'.objs.size->(∀b o,s.heap.get? b=J o->h'.get? b=J o)->ItemsOf P ag n->qe ag.toList {s with heap:=h',toks:=tk}) :
 YB (model prog w) A (collect (.ref r)) qe E s:=by
 have lt:=K.there _ hok;unfold collect;refine Ya (wpAny_runValue (codeAny_builtin entry_proto_collect' ?_));rw[Around.under_plainId PySem.F.plain_proto_collect _];show YB _ A.in1 (newList [] >>= λx=>again (.builtin "list.__iadd__" ⟨[x,.ref r],[]⟩)) _ _ s;refine Ya (Yq (Yc ⟨plainId_quiet PySem.F.plain_list_iadd _,codeAny_builtin entry_list_iadd' ?_⟩));rw[Around.under_plainId PySem.F.plain_list_iadd _];have e0:(s.heap.push {cls:=.type "list",data:=.seq ([]:List Yj).toArray}).get? s.heap.objs.size=J {cls:=.type "list",data:=.seq #[]}:=Oj _ rfl;show YB _ A.in1 (Builtin.List.listExtendWith (.ref s.heap.objs.size) (.ref r) (.ref s.heap.objs.size)) _ _ _;have key:=PySem.W.kdl_extend (A:=A) (s:={s with heap:=s.heap.push {cls:=.type "list",data:=.seq ([]:List Yj).toArray}})
  (R:=λ(q:Result) (s':Yb)=>∃(h':YG) (tk:Nat) (ag:Array Yj) (c:Nat),q=.ok (.ret (.ref s.heap.objs.size))/\s'={s with heap:=h',toks:=tk}/\(∀b o,s.heap.get? b=J o->h'.get? b=J o)/\h'.get? s.heap.objs.size=J {cls:=.type "list",dict:=M,data:=.seq ag c,slots:=#[]}/\ItemsOf P ag n)
  K hh (K.keep _ _ hok λb _ o e=>Od _ e) s.heap.objs.size (Nat.ne_of_gt lt.1) (Nat.ne_of_gt lt.2) (.ref s.heap.objs.size) 0 e0 (λh' tk ag c hk hS aq=>⟨h',tk,ag,c,rfl,rfl,λb o e=>hk b o (Ou (Ym e)) (Od _ e),hS,aq⟩) hn
 refine Yf key (λfin s' x=>?_) λe s' x=>?_
 . cases fin with
   |done f=>obtain⟨h',tk,ag,c,e,rfl,hk,hS,aq⟩:=x;cases e;exact Ya (wpAny_load hS (Yc (h h' tk ag (Yy (Ym hS)) hk aq)))
   |again c₁=>refine⟨x.1,codeAny_mono x.2 λq s₂ y=>?_⟩;obtain⟨h',tk,ag,c,rfl,rfl,hk,hS,aq⟩:=y;exact Ya (wpAny_load hS (Yc (h h' tk ag (Yy (Ym hS)) hk aq)))
 . obtain⟨_,_,_,_,z,_⟩:=x;cases z
end
theorem Zg4:∀{xs:List α}{ys:List β},Paired qe xs ys->∀{i:Nat}{x:α},xs[i]?=J x->∃y,ys[i]?=J y/\qe x y
 |_,_,.nil,i,x,e=>by simp at e
 |_,_,.cons h r,0,x,e=>by cases e;exact⟨_,rfl,h⟩
 |_,_,.cons h r,i+1,x,e=>by obtain⟨y,R,h2⟩:=Zg4 r (i:=i) (x:=x) (by simpa using e);exact⟨y,by simpa using R,h2⟩
theorem ZgU:∀(ss:List Str) (vs:List Yj),vs.length=ss.length->(∀(j:Nat) (v:Yj),vs[j]?=J v->∃x,ss[j]?=J x/\(ZY P w).is (YE x) v=Wx)->StrsAre vs ss
 |[],[],_,_=>.nil
 |s::ss,v::vs,hl,h=>by obtain⟨x,e,hx⟩:=h 0 v rfl;cases e;obtain⟨t,rfl⟩:=Value.isStrOf_shape (x:=s) (v:=v) hx;exact .cons s t (ZgU ss vs (by simpa using hl) λj u hu=>h (j+1) u (by simpa using hu))
section
variable {X:Cx}
def Zpe(P:Yh)(w:Yg)(K:Yk):List V->Hp->VK->Prop:=λxs H Q=>∃a kvs ss,xs=[.ref a]/\Dk P w K H a kvs/\kvs.map (·.1)=ss.map YE/\ss.length<64/\∀p bj,H p=M->bj.Perm ss->sortedS bj=Wx->Q (.ref p) (upd H p (.lst (bj.map V.str)))
def Zjj(hc:X.A.handled=M):Zcl X (.builtin "sorted") (Zpe X.prog X.w X.K):=by
 intro aa s Z H xs us Q I r h;obtain⟨a,kvs,ss,rfl,hd,jg,kr,q⟩:=h;obtain⟨u,rfl,ru⟩:=vals1 r;cases ru;obtain⟨z,hm,vs,rel,dd⟩:=I.dk hd;obtain⟨ep,jt⟩:=dd.dictAt;have hl:vs.length=kvs.length:=(Paired.length rel).symm;have bN:kvs.length=ss.length:=by have:=congrArg List.length jg;simpa using this
 have dY:∀(j:Nat) k x,vs[j]?=J (k,x)->∃y,ss[j]?=J y/\k=YE y:=λj k x e=>by
  have hj:j<vs.length:=(Ob.mp e).1;have R:kvs[j]?=J kvs[j]:=Og (by lia);obtain⟨u,hu,bW⟩:=Zg4 rel R;rw[e]at hu;cases hu;have h3:(kvs.map (·.1))[j]?=J kvs[j].1:=by rw[O2,R];rfl
  rw[jg,O2]at h3;obtain⟨y,hy,e3⟩:=Oo.mp h3;exact⟨y,hy,bW.1.symm.trans e3.symm⟩
 refine Zk0 (ss:=ss) (λqe hR=>Zkv (PySem.W.kdl_dict (knd:=ZY X.prog X.w) (kvs:=vs) (ep:=ep) hm) hc jt (by lia) λh' tk ag hsz hk aq=>?_) kr λD h' tk out bj n hk hD ho hS hp hs=>?_
 . refine hR h' tk ag.toList hsz hk (ZgU (P:=X.prog) (w:=X.w) ss ag.toList (by rw[Array.length_toList,aq.1];lia) λj v hv=>?_);obtain⟨k,x,e,gT⟩:=aq.2 j v (by rw[<-Array.getElem?_toList];exact hv);obtain⟨y,hy,rfl⟩:=dY j k x e;exact⟨y,hy,gT⟩
 . have al:bj.length<=sizeLine:=by rw[hp.length_eq];lia
   refine⟨.ref D,_,I.laid (a:=D) (o:=.lst (bj.map V.str)) (t':=tk) hk hD ⟨by simpa using al,out,n,ZfJ hS,ho⟩,rfl,q D bj (I.hok.fresh hD) hp hs⟩
end
set_option tactic.hygienic true
theorem ZeG:∀{ns:List Int}{vs:List Yj},Zs (ns.map V.int) vs->IntsAre vs ns
 |[],vs,h=>by cases h;exact .nil
 |s::ss,vs,h=>by
  rw[Op]at h;cases h with
  |cons R h2=>obtain⟨t,rfl⟩:=R;exact .cons s t (ZeG h2)
noncomputable def ZfM(z:Str)(n:Nat):Str:=⟨(YK n z.cps).foldl (·++·) #[]⟩
theorem Zhi(a:Array Nat):∀(n:Nat) (i:Array Nat),((YK n a).foldl (·++·) i).size=i.size+n*a.size
 |0,i=>by simp
 |n+1,i=>by
  rw[List.replicate_succ,Wr,Zhi a n (i++a),Array.size_append,Nat.succ_mul]
  lia
def Zfd(z:Str)(n:Nat):(ZfM z n).length=n*z.length:=by show((YK n z.cps).foldl (·++·) #[]).size=_;rw[Zhi];simp;rfl
section
variable {X:Cx}
def Zoa(hc:X.A.handled=M):Zcl X (.builtin "sum") (λxs H Q=>∃(a:Yi) (ns:List Int),xs=[.ref a]/\SqL X.K H a (ns.map V.int)/\Q (.int ns.sum) H):=by
 intro aa s Z H xs us Q I r h;obtain⟨a,ns,rfl,hq,q⟩:=h;obtain⟨u,rfl,ru⟩:=vals1 r;cases ru;obtain⟨its,rv,pl,hz⟩:=I.list hq;have hi:=ZeG rv;obtain⟨ys,e⟩:=hi.allInts.items;refine sum_intListG (xs:=ys) hc (by rw[<-e];exact pl.isList) λh' tk t' hk=>?_;refine⟨.int ns.sum,H,I.kept (t':=tk) hk,⟨t',?_⟩,q⟩;have e2:=hi.numsOf;have e3:numsOf (intItems ys).toList=ns:=by rw[<-e];exact e2
 rw[nums_intItems]at e3;rw[preSum_eq,List.take_of_length_le (by simp),e3]
def ZrM:OpR X (binaryOp .Mult) (λx y H Q=>∃z n,x=.str z/\y=.int n/\0<=n/\n<=1000/\z.length<=1000/\Q (.str (ZfM z n.toNat)) H):=by
 intro aa s Z H x y v u Q I rx ry h;obtain⟨z,n,rfl,rfl,h0,R,h2,q⟩:=h;obtain⟨t,rfl⟩:=rx;obtain⟨t2,rfl⟩:=ry;have hl:z.length*n.toNat<=1000000:=Nat.mul_le_mul h2 (by lia:n.toNat<=1000);have hs:(1000000:Nat)<=sizeLine:=by decide
 refine PySem.P.mul_str (by rw[decide_eq_false (by lia:¬ n < -(2^63:Int)),decide_eq_false (by lia:¬ n ≥ 2^63)]<;>rfl) (λ_ _=>?_) (λ_ _=>?_) ?_
 . have h3:1<=n:=by lia
   have h4:(9223372036854775807:Int)/n ≥ 1000:=by have:1000<=9223372036854775807/n:=(Int.le_ediv_iff_mul_le (by lia)).mpr (by lia);exact this
   show ¬ ((z.length:Int) > (2^63-1)/n);rw[show(2^63-1:Int)=9223372036854775807 by decide]
   lia
 . unfold Builtin.Str.tooLong;exact decide_eq_false (by lia)
 . by_cases hn:n<1
   . rw[if_pos hn];refine⟨by decide,.str _,H,I.tok _,⟨_,rfl⟩,?_⟩;rw[show n.toNat=0 by lia]at q;exact q
   . rw[if_neg hn];by_cases h5:(n==1||z.length==0)=Wx
     . rw[if_pos h5];refine⟨.str _,H,I,⟨_,rfl⟩,?_⟩;have e:ZfM z n.toNat=z:=by
        rw[Wu]at h5;rcases h5 with h5|h5
        . have e1:n.toNat=1:=by have:=eq_of_beq h5;lia
          rw[e1];unfold ZfM;simp
        . have e1:z.length=0:=eq_of_beq h5;have e2:(ZfM z n.toNat).length=0:=by rw[Zfd,e1];simp
          have f:∀y:Str,y.length=0->y=⟨#[]⟩:=λy hy=>by cases y with|mk c=>rw[show c=#[]from Array.eq_empty_of_size_eq_zero hy]
          exact(f _ e2).trans (f z e1).symm
       rw[e]at q;exact q
     . rw[if_neg h5];refine⟨?_,.str _,H,I.tok _,⟨_,rfl⟩,q⟩;show(ZfM z n.toNat).length<=sizeLine;rw[Zfd,Nat.mul_comm]
       lia
def Zi1(hi:i.natAbs<2^2000)(hj:j.natAbs<2^2000):IntMulOk i j:=by
 have gu:∀k:Int,k.natAbs<2^2000->Builtin.Int.intBits k<=2000:=λk hk=>by
  unfold Builtin.Int.intBits;split
  . lia
  . rename_i h;have h0:k.natAbs≠0:=by simpa using h
    have:=(Nat.log2_lt h0).mpr hk
    lia
 unfold IntMulOk;have R:=gu i hi;have h2:=gu j hj;have h3:Builtin.Int.intTooBig (Builtin.Int.intBits i+Builtin.Int.intBits j:Nat)=Wy:=by
  unfold Builtin.Int.intTooBig;rw[decide_eq_false_iff_not];have:(bitsLine:Nat)=134217728:=by decide
  rw[this]
  lia
 intro q;simp only[Oa]at q;have q2:=q.2;rw[show((Builtin.Int.intBits i:Int)+(Builtin.Int.intBits j:Int))=((Builtin.Int.intBits i+Builtin.Int.intBits j:Nat):Int) by simp]at q2;rw[h3]at q2;cases q2
def ZnN:OpR X (binaryOp .Mult) (rI (λi j=>i.natAbs<2^2000/\j.natAbs<2^2000) λi j=>.int (i*j)):=opI λ_ _ _ _ _ _ _ hc q=>mul_int q (Zi1 hc.1 hc.2)
noncomputable def Zwk(K:Yk):R2:=λx y H Q=>∃a b ys,x=.ref a/\y=.ref b/\SqT K H a []/\SqT K H b ys/\Q (.ref b) H
def ZrP:OpR X (binaryOp .Add) (Zwk X.K):=by
 intro aa s Z H x y v u Q I rx ry h;obtain⟨a,b,ys,rfl,rfl,ha,hb,q⟩:=h;cases rx;cases ry;obtain⟨its,r1,ht,_⟩:=I.tuple ha;obtain⟨ay,r2,hb,_⟩:=I.tuple hb;cases r1;obtain⟨⟨cls,dd,data,sl⟩,ho,hc,n,hd⟩:=id ht;obtain⟨⟨cls2,g9,data2,gC⟩,dR,ge,n2,f9⟩:=id hb;simp only at hc hd ge f9;subst hc hd ge f9;exact concat_meets ⟨_,ho,rfl⟩ ⟨_,dR,rfl⟩ noFill_tuple_add seq_tuple_add PySem.F.slot_tuple_add PySem.F.entry_tuple_add (PySem.F.args_tuple_add_2 _ _)
  (tuple_addW0 a b _ _ n n2 dd g9 sl gC (by simp)) ⟨ho,dR,⟨.ref b,H,I,rfl,q⟩⟩
end
end L2
namespace HT
open PySem PyProof.Rows
section
variable {prog:Yh}{w:Yg}{A:YH}{E:Yj->Yb->Prop}{s:Yb}
def Zez{t sl:Yi}{items:Array Yj}{lo hi:Option Int}{Q:Yj->Yb->Prop}(ht:IsTup s.heap t items)(hs:s.heap.IsSliceOf sl vl vu .none)(pl:IsPart vl lo)(pu:IsPart vu hi)
 (hw:sIx items.size 0 lo=0/\sIx items.size items.size hi=items.size) (h:Q (.ref t) s):YB (model prog w) A (getItem (.ref t) (.ref sl)) Q E s:=by
 obtain⟨os,dN,gV,fZ⟩:=id hs;have jw:s.TypeIs (.ref sl) "slice" := ⟨os,dN,gV⟩
 unfold getItem
 try with_reducible refine Wh ?_
 first|refine Ya (Yc ?_)|skip
 refine Ya (wpAny_sequenceKey ht.typeIs (by decide) ?_);refine Ya (We (name:=O "__getitem__") ht.typeIs Wo
  (Wi Wo ht.typeIs entry_tuple_getitem ?_ (args_tuple_getitem _ _)))
 show YB _ _ (Builtin.Tuple.tupleItemsOf (.ref t) >>= _) _ _ s;refine Ya (tupleItemsOf_ ht ?_);refine Ya (wpAny_typeOf jw ?_);rw[if_pos (by decide)];refine Ya (ZcU hs pl pu ?_);have iS:(((sIx items.size 0 lo:Nat):Int)==0&&(1:Int)==1&&(sIx items.size items.size hi-sIx items.size 0 lo)==items.size)=Wx:=by rw[hw.1,hw.2];simp
 show YB _ _ (if (((sIx items.size 0 lo:Nat):Int)==0&&(1:Int)==1&&(sIx items.size items.size hi-sIx items.size 0 lo)==items.size)=Wx then _ else _) _ _ s;rw[if_pos iS];unfold Builtin.Tuple.tupleIsExact;refine Ya (Ya (wpAny_typeOf ht.typeIs (Yc ?_)));rw[if_pos (by decide)];exact Ya (wpAny_rule (Yc ⟨_,rfl,Yc h⟩))
end
end HT
namespace L2
open PySem PySem.Spec PyProof.Rows
section
variable {X:Cx}
def Zx0(K:Yk):V->Option Int->Option Int->Hp->VK->Prop:=λx lo hi H Q=>∃a xs,x=.ref a/\SqT K H a xs /\
 (HT.sIx xs.length 0 lo=0/\HT.sIx xs.length xs.length hi=xs.length)/\Q (.ref a) H
def ZoW:SlR X (Zx0 X.K):=by
 intro aa s Z H x v vl vu lo hi sl Q I rx hs pl pu h;obtain⟨a,xs,rfl,hx,hw,q⟩:=h;cases rx;obtain⟨its,r,ht,hz⟩:=I.tuple hx;have al:its.toArray.size=xs.length:=by rw[Of];exact r.length.symm
 refine⟨"tuple",_,PyProof.Rows.slot_tuple_getitem.lookup,ht.typeIs,?_⟩;exact HT.Zez ht hs pl pu (by rw[al];exact hw) ⟨.ref a,H,I,rfl,q⟩
end
end L2
namespace L2
set_option tactic.hygienic false
namespace Mx
open PySem PyProof.Rows
def nm:(toString "max" ++ toString ".loop" : String)="max.loop" := by decide
section
variable {prog:Yh}{w:Yg}{A:YH}{Z_:Result->Yb->Prop}{qb:Yi}{fo wo:List Yi}{m:Nat}{P:Nat->Yj->Prop}{S_:Nat->YG->Prop}
theorem loop(W:Walks prog w A.in1 qb fo wo m P S_)(bt:Nat->Nat->Bool)(hb:CmpOf prog w A.in1 .Gt P bt)(C:Yi)(hC:C ∉ fo)(kw:List (Str×Yj)):∀(d j:Nat) (s:Yb) (u:Yj) (c:Nat),
 m-(j+1)=d->j+1<=m->S_ (j+1) s.heap->P (argBest bt j) u->s.heap.get? C=J {cls:=.type "list",dict:=M,data:=.seq #[u,u] c,slots:=#[]} ->
 (∀v hp tk,P (argBest bt (m-1)) v->(∀b o,b ∉ wo->b≠C->s.heap.get? b=J o->hp.get? b=J o)->Z_ (.ok (.ret v)) {s with heap:=hp,toks:=tk}) ->
 codeAny (model prog w) A (.builtin "max.loop" ⟨[.ref qb,.none,.ref C],kw⟩) Z_ s:=by
 have gY:C ∉ wo:=λz=>hC (W.sub _ z);intro d;induction d with
 |zero=>
  intro j s u c e1 e2 st pu hc hz;have em:j+1=m:=by omega
  refine codeAny_builtin PySem.F.entry_max_loop ?_;rw[Around.under_plainId YU _];show YB (model prog w) A.in1 (seqItems? (YD C) >>= _) _ _ s;refine Ya (wpAny_seqItems hc rfl ?_);show YB (model prog w) A.in1 (tryCatch (pyNext (YD qb)) _ >>= _) _ _ s;refine Ya (wpAny_tryCatch (W.done s _ _ (em▸st) λhp tk kp=>?_));have cY:=kp C _ gY hc;show YB (model prog w) A.in1 (updateSeq C (λ_=>#[]) >>= _) _ _ _;exact Ya (wpAny_updateSeq cY rfl (Ya (wpAny_letGo (Yc (hz u _ tk (by rw[<-em];exact pu) λb o b1 b2 e=>(YN _ _ (YL b2)).trans (kp b o b1 e))))))
 |succ d ih=>
  intro j s u c e1 e2 st pu hc hz;have lt:j+1<m:=by omega
  refine codeAny_builtin PySem.F.entry_max_loop ?_;rw[Around.under_plainId YU _];show YB (model prog w) A.in1 (seqItems? (YD C) >>= _) _ _ s;refine Ya (wpAny_seqItems hc rfl ?_);show YB (model prog w) A.in1 (tryCatch (pyNext (YD qb)) _ >>= _) _ _ s;refine Ya (wpAny_tryCatch (W.item (j+1) s _ _ lt st λv hp tk pv cz kp=>?_));have cY:=kp C _ gY hc;show YB (model prog w) A.in1 (tryCatch (holding [v,v] (richCompare CmpOp.Gt v u >>= _)) _ >>= _) _ _ _;refine Ya (wpAny_tryCatch (Wh (Ya (hb (j+1) (argBest bt j) v u _ _ _ pv pu (Ya (Wh (wpAny_truthy_bool (Ya (wpAny_letGo (Yc ?_))))))))));cases q:bt (j+1) (argBest bt j)with
  |true=>
   simp only[if_true];refine Ya (wpAny_updateSeq cY rfl (Ya (wpAny_letGo ?_)));rw[nm];refine Yc ⟨plainId_quiet YU _,ih (j+1) _ v _ (by omega) lt (W.frame _ _ _ cz λb b1 o e=>?_) (by simp only[argBest,q,if_true];exact pv) (YX _ cY rfl) λv2 fS fA fE fJ=>?_⟩
   . exact(YN _ _ (λz:C=b=>hC (by rw[z];exact b1))).trans e
   . exact hz v2 fS fA fE λb o b1 b2 e=>fJ b o b1 b2 ((YN _ _ (YL b2)).trans (kp b o b1 e))
  |false=>simp only[OG,if_false];refine Ya (wpAny_letGo ?_);rw[nm];exact Yc ⟨plainId_quiet YU _,ih (j+1) _ u c (by omega) lt cz (by simp only[argBest,q,OG,if_false];exact pu) cY λv2 fS fA fE fJ=>hz v2 fS fA fE λb o b1 b2 e=>fJ b o b1 b2 (kp b o b1 e)⟩
def first(W:Walks prog w A.in1 qb fo wo m P S_)(bt:Nat->Nat->Bool)(hb:CmpOf prog w A.in1 .Gt P bt)(C:Yi)(hC:C ∉ fo)(dn:Str)(dv:Yj)(st:S_ 0 s.heap)
 (hc:s.heap.get? C=J {cls:=.type "list",dict:=M,data:=.seq #[] c,slots:=#[]})
 (hz:∀v hp tk,(m=0->v=dv)->(0<m->P (argBest bt (m-1)) v)->(∀b o,b ∉ wo->b≠C->s.heap.get? b=J o->hp.get? b=J o)->Z_ (.ok (.ret v)) {s with heap:=hp,toks:=tk}) :
 codeAny (model prog w) A (.builtin "max.loop" ⟨[.ref qb,.none,.ref C],[(dn,dv)]⟩) Z_ s:=by
 have gY:C ∉ wo:=λz=>hC (W.sub _ z);refine codeAny_builtin PySem.F.entry_max_loop ?_;rw[Around.under_plainId YU _];show YB (model prog w) A.in1 (seqItems? (YD C) >>= _) _ _ s;refine Ya (wpAny_seqItems hc rfl ?_);show YB (model prog w) A.in1 (tryCatch (pyNext (YD qb)) _ >>= _) _ _ s;by_cases hm:0<m
 . refine Ya (wpAny_tryCatch (W.item 0 s _ _ hm st λv hp tk pv cz kp=>?_));have cY:=kp C _ gY hc;show YB (model prog w) A.in1 (updateSeq C (λ_=>#[v,v]) >>= _) _ _ _;refine Ya (wpAny_updateSeq cY rfl ?_);rw[nm];refine Yc ⟨plainId_quiet YU _,loop W bt hb C hC _ _ 0 _ v _ rfl hm (W.frame _ _ _ cz λb b1 o e=>?_) pv (YX _ cY rfl) λv2 fS fA fE fJ=>?_⟩
   . exact(YN _ _ (λz:C=b=>hC (by rw[z];exact b1))).trans e
   . exact hz v2 fS fA (λz=>by omega) (λ_=>fE) λb o b1 b2 e=>fJ b o b1 b2 ((YN _ _ (YL b2)).trans (kp b o b1 e))
 . have h0:m=0:=by omega
   refine Ya (wpAny_tryCatch (W.done s _ _ (h0▸st) λhp tk kp=>?_));exact Ya (wpAny_rule (Yc (hz dv hp tk (λ_=>rfl) (λz=>absurd z hm) λb o b1 _ e=>kp b o b1 e)))
end
section
variable {prog:Yh}{w:Yg}{A:YH}{E:Yj->Yb->Prop}{s:Yb}
def args(a d:Yj):argsOk "max" ⟨[a],[("default",d)]⟩:=by unfold argsOk;kernel_rfl
theorem call
 (h:YB (model prog w) A.in1 (pyIter x) (λit s2=>∃qb fo wo m P S_ bt,it=.ref qb/\Walks prog w A.in1 qb fo wo m P S_/\S_ 0 s2.heap/\(∀b∈fo,b<s2.heap.objs.size)/\CmpOf prog w A.in1 .Gt P bt /\
  ∀v hp tk,(m=0->v=dv)->(0<m->P (argBest bt (m-1)) v)->(∀b o,b ∉ wo->s2.heap.get? b=J o->hp.get? b=J o)->Q v {s2 with heap:=hp,toks:=tk}) E s) :
 YB (model prog w) A (PySem.call (.builtin "max") [x] [("default",dv)]) Q E s:=by
 refine wpAny_call (codeAny_call_builtin PySem.F.plain_max PySem.F.entry_max ?_);simp only[checkBuiltinCall,PySem.F.kind_max];have go:YB (model prog w) A.in1 (Builtin.«max» ⟨[x],[("default",dv)]⟩) (λfin s'=>match fin with
  |.done f=>(match (Except.ok f:Result)with|.ok (.ret v)=>Q v s'|.ok _=>False|.error e=>E e s')
  |.again c'=>c'.quiet=Wx/\codeAny (model prog w) A c' (λr s'=>match r with|.ok (.ret v)=>Q v s'|.ok _=>False|.error e=>E e s') s') E s:=by
  show YB (model prog w) A.in1 (Builtin.Builtins.bindParams "max" ["key", "default"] 0 ⟨[],[("default",dv)]⟩ >>= _) _ _ s;refine Ya (Wp (show Builtin.Builtins.bindParams "max" ["key", "default"] 0 ⟨[],[("default",dv)]⟩=pure [M,J dv]from rfl) (Ya (Yc (Ya (Yf h (λit s2 q=>?_) λ_ _ e=>e)))));obtain⟨qb,fo,wo,m,P,S_,bt,rfl,W,st,dZ,hb,hQ⟩:=q;refine Ya (Yq ?_);have hC:s2.heap.objs.size ∉ fo:=λz=>Yv _ (dZ _ z);rw[nm];exact Yc ⟨plainId_quiet YU _,first W bt hb s2.heap.objs.size hC _ dv (W.frame _ _ _ st λb _ o e=>Od _ e) (Oj _ rfl) λv hp tk a1 a2 kp=>hQ v hp tk a1 a2 λb o b1 e=>kp b o b1 (Ou (Ym e)) (Od _ e)⟩
 cases hs:Manifest.signature? "max" with
 |none=>exact Yc go
 |some sig=>have ha:=args x dv;simp only[argsOk,hs]at ha;have h2:Bind.checkArgs "max" sig ⟨[x],[("default",dv)]⟩=pure ():=ha;show YB _ A.in1 (Bind.checkArgs "max" sig ⟨[x],[("default",dv)]⟩) _ _ s;rw[h2];exact Yc go
end
end Mx
end L2
namespace L2
open PySem PySem.Spec PyProof.Rows
set_option tactic.hygienic false
noncomputable def ZdQ:List Int->Int->Int
 |[],d=>d
 |x::r,_=>r.foldl (λm y=>if y > m then y else m) x
theorem ZiD(ns:List Int):∀k,k<ns.length->(argBest (λi j=>Wz (ns.getD i 0 > ns.getD j 0)) k)<ns.length/\ns.getD (argBest (λi j=>Wz (ns.getD i 0 > ns.getD j 0)) k) 0=ZdQ (ns.take (k+1)) 0
 |0,h=>by
  cases ns with
  |nil=>simp at h
  |cons x r=>exact⟨by simp[argBest],by simp[argBest,ZdQ]⟩
 |k+1,h=>by
  obtain⟨R,h2⟩:=ZiD ns k (by omega);have e:ZdQ (ns.take (k+1+1)) 0=if ns.getD (k+1) 0 > ZdQ (ns.take (k+1)) 0 then ns.getD (k+1) 0 else ZdQ (ns.take (k+1)) 0:=by
   cases ns with
   |nil=>simp at h
   |cons x r=>
    have hk:k<r.length:=by simpa using h
    show((r.take (k+1)).foldl _ x)=_;rw[List.take_succ_eq_append_getElem hk,List.foldl_append];simp only[Wr,List.foldl_nil];have:(x::r).getD (k+1) 0=r[k]:=by simp[List.getD_eq_getElem?_getD,Og hk]
    rw[this];rfl
  rw[e,<-h2];have ea:argBest (λi j=>Wz (ns.getD i 0 > ns.getD j 0)) (k+1)=if Wz (ns.getD (k+1) 0 > ns.getD (argBest (λi j=>Wz (ns.getD i 0 > ns.getD j 0)) k) 0)=Wx then k+1 else argBest (λi j=>Wz (ns.getD i 0 > ns.getD j 0)) k:=rfl;rw[ea];by_cases q:ns.getD (k+1) 0 > ns.getD (argBest (λi j=>Wz (ns.getD i 0 > ns.getD j 0)) k) 0
  . rw[if_pos (decide_eq_true q),if_pos q];exact⟨h,rfl⟩
  . rw[if_neg (by simpa using q),if_neg q];exact⟨R,rfl⟩
section
variable {X:Cx}
def ZpU(hc:X.calm=Wx)(I:Inv X aa Z H s)(hx:SqL X.K H a (ns.map V.int))(q:Q (.int (ZdQ ns d)) H):
 YB (model X.prog X.w) X.A (PySem.call (.builtin "max") [.ref a] [("default",.int d t)]) (EP X aa Z Q) X.xe s:=by
 obtain⟨its,rv,pl,hz⟩:=I.list hx;have au:a<s.heap.objs.size:=by obtain⟨_,_,e,_⟩:=pl;exact Ym e
 have hl:its.length=ns.length:=by have:=rv.length;rw[Yt]at this;exact this.symm
 have val:∀{i:Nat}{v:Yj},its.toArray[i]?=J v->i<ns.length/\∃t,v=.int (ns.getD i 0) t:=λ{i v} hv=>by
  have gN:its[i]?=J v:=by simpa using hv
  have hi:i<ns.length:=by rw[<-hl];exact(Ob.mp gN).1
  have hb:(ns.map V.int)[i]?=J (.int ns[i]):=by rw[O2,Og hi]<;>rfl
  obtain⟨u',e',r'⟩:=rv.get hb;rw[gN]at e';cases e';obtain⟨t,rfl⟩:=r';exact⟨hi,t,by simp[List.getD_eq_getElem?_getD,Og hi]⟩
 refine Mx.call (wpAny_pyIter_list pl.isList ?_);refine⟨s.heap.objs.size,_,_,_,_,_,λi j=>Wz (ns.getD i 0 > ns.getD j 0),rfl,Walks.list (A:=X.A.in1) (show X.A.in1.handled=M from I.ok.hd hc) s.heap.objs.size a (Ou au) its.toArray,⟨⟨_,Oj _ rfl,rfl,rfl⟩,pl.isList.push _⟩,?_,?_,λv hp tk a1 a2 kp=>?_⟩
 . intro b hb;have lO:b<s.heap.objs.size+1:=by
    simp at hb;rcases hb with rfl|rfl
    . exact OH _
    . exact Nat.lt_succ_of_lt au
   simpa[Heap.push]using lO
 . exact CmpOf.ints_gt (λi=>ns.getD i 0) λi v hv=>(val hv).2
 . refine⟨.int (ZdQ ns d),H,I.kept λb o e=>kp b o (λz=>?_) (Od _ e),?_,q⟩
   . have:b=s.heap.objs.size:=by simpa using z
     subst this;exact absurd (Ym e) (Yv _)
   . have hsz:its.toArray.size=ns.length:=by rw[Of,hl]
     by_cases h0:ns=[]
     . subst h0;have:=a1 (by rw[hsz];rfl);subst this;exact⟨t,rfl⟩
     . have lP:0<ns.length:=List.length_pos_iff.mpr h0;obtain⟨_,t3,ev⟩:=val (a2 (by rw[hsz];exact lP));refine⟨t3,?_⟩;rw[ev,hsz,(ZiD ns (ns.length-1) (by omega)).2,List.take_of_length_le (by omega)];cases ns with
       |nil=>exact absurd rfl h0
       |cons x r=>rfl
def ZvU(K:Yk)(ta tb:TE):TE:=λZ H Q=>ta Z H λv H1=>tb Z H1 λu H2=>∃a ns d,v=.ref a/\u=.int d/\SqL K H2 a (ns.map V.int)/\Q (.int (ZdQ ns d)) H2
def ZrC(hg:Gl X "max")(hm:X.mg "max"=M)(hc:X.calm=Wx)(ha:PE X x ta)(hb:PE X y tb)(he:YA [x] X.env=[(Wy,eval x X.env)]):
 PE X (.Call (.Name "max" p) [x] [⟨J "default",y,kp⟩] pos) (ZvU X.K ta tb):=by
 intro aa s Z H Q I h;refine YY (Zdd I hg hm boot_max ?_);refine PyProof.Rows.callWith_kw ?_ (by rw[he];rfl) (by rw[he];rfl);rw[he];refine Calls.spliced_cons (thn (ha aa s Z H _ I h) λv s1 ⟨vv,H1,I1,r1,q1⟩=>Calls.spliced_nil ?_);refine kws_cons (thn (hb aa s1 Z H1 _ I1 q1) λu s2 ⟨uu,H2,I2,r2,q2⟩=>kws_nil ?_);obtain⟨a,ns,d,rfl,rfl,hq,q⟩:=q2;cases r1;obtain⟨t,rfl⟩:=r2;exact ZpU hc I2 hq q
end
end L2
namespace L2
open PySem PySem.Spec PyProof PyProof.Rows PySem.AutoSeq1
set_option maxRecDepth 8000 in
def ZlG(l:Yi)(items:Array Yj)(n:Nat)(b:Yi)(aQ:Array Yj)(n2:Nat)(od:Option Yi)(sl:Array (Option Yj))(nN:¬(!items.isEmpty&&Wq (items.size+aQ.size))=Wx)(lM:items.size<=sizeLine)(gO:items.size+aQ.size<=sizeLine+1):
 Meets (Builtin.«list.extend» ⟨[.ref l,.ref b],[]⟩) (λ_ qe s=>s.heap.get? l=J {cls:=.type "list",dict:=M,data:=.seq items n,slots:=#[]}/\s.heap.get? b=J {cls:=.type "tuple",dict:=od,data:=.seq aQ n2,slots:=sl}/\qe (.ok (.ret Value.none)) {s with heap:=s.heap.update l (Obj.mapSeq λx=>x++aQ),toks:=s.toks}):=
 .of_wp λprog w A qe s h=>by
  obtain⟨hp,g,d,tk,os⟩:=s;obtain⟨hl,hb,h⟩:=h;have f1:=idx_int;have f2:=AutoSeq1.sub_tuple_tuple;have f3:=AutoSeq1.sub_list_list;have f4:=AutoSeq1.sub_tuple_list;have f5:=AutoSeq1.sub_list_tuple;have eY:(items++aQ).size<=sizeLine+1:=by rw[Array.size_append];exact gO
  wp_walk using (wpAny_updateSeq hl rfl (hz:=lM) (_hz':=eY)),wpAny_loadPart' hl,wpAny_loadPart' hb;exact⟨_,rfl,h⟩
section
variable {X:Cx}
def Zpg(K:Yk):V->List V->Hp->VK->Prop:=λx vs H Q=>∃l b xs zs,x=.ref l/\vs=[.ref b]/\H l=J (.lst xs)/\SqT K H b zs/\xs.length+zs.length<=sizeLine/\Q .non (upd H l (.lst (xs++zs)))
def Zls:MtM X "list.extend" (Zpg X.K):=by
 intro aa s Z H x vs v us Q I rx rv h;obtain⟨l,b,xs,zs,rfl,rfl,hH,hB,hz,q⟩:=h;cases rx;obtain⟨u,rfl,ru⟩:=rv.one;cases ru;obtain⟨z,its,n,r,hl,e⟩:=I.lstM hH;obtain⟨ay,r2,⟨o,e2,oc,n2,od⟩,z2⟩:=I.tuple hB;obtain⟨cls,dc,oi,sl⟩:=o;simp only at oc od;subst oc;subst od;have bN:=r2.length;have hsz:its.toArray.size+ay.toArray.size<=sizeLine:=by rw[Of,Of];lia
 have cf:¬ (!its.toArray.isEmpty&&Wq (its.toArray.size+ay.toArray.size))=Wx:=by rw[Zj0 hsz,Bool.and_false];exact Ow
 refine call_meets F.slot_list_extend ⟨_,e,rfl⟩ F.entry_list_extend (F.args_list_extend_2 _ _)
  (ZlG l its.toArray n b ay.toArray n2 dc sl cf (by rw[Of];lia) (by lia)) ⟨e,e2,?_⟩
 refine⟨.non,_,I.lset (its':=its++ay) hH e (by simp) (r.append r2) ?_,rfl,q⟩;rw[OA]
 lia
end
end L2
namespace L2
open PySem PySem.Spec PyProof.Rows
noncomputable def Zvv(K:Yk)(a:Yi)(n:Nat):It:=⟨λi H=>∃xs x,SqL K H a xs/\xs.length=n/\xs.reverse[i]?=J x,λi H x H'=>H'=H/\∀xs,SqL K H a xs->xs.reverse[i]?=J x,λi H=>∃xs,SqL K H a xs/\xs.length=n/\n=i⟩
def Znh{P:Yh}{w:Yg}{K:Yk}{tg:Expr}(a it:Yi)(n:Nat):Turn P w K tg (Zvv K a n) [it] it (λi h=>i<=n/\h.IsRevIter it a ((n:Int)-1-i)) where
 mem:=by simp
 obj:=λi h st b hb=>by
  have e:b=it:=by simpa using hb
  subst e;obtain⟨_,o,e,c,d⟩:=st;exact⟨o,e,λv z=>by rw[d]at z;cases z⟩
 keep:=λi h h' st k=>⟨st.1,st.2.at λo e=>k it (by simp) o e⟩
 item:=by
  intro X hP hw hK hc i aa s Z H E I hf st hg;subst hP hw hK;obtain⟨cW,st⟩:=st;obtain⟨xs,x,hq,fN,hx⟩:=hg;obtain⟨its,rv,p,hz⟩:=I.list hq;have hl:=rv.length;have hi:i<xs.length:=by have:=(Ob.mp hx).1;simpa using this
  have bI:xs[n-1-i]?=J x:=by rw[List.getElem?_reverse hi]at hx;rw[<-fN];exact hx
  obtain⟨u,hu,ru⟩:=rv.get bI;obtain⟨f0,f1,f2,f3,f4,f5⟩:=hf it (by simp);have e1:(n:Int)-1-(i:Nat)=((n-1-i:Nat):Int):=by lia
  rw[e1]at st;refine wpAny_pyNext_rev_item st p.isList (x:=u) (by simpa using hu) λh' bi sb=>?_;have I1:Inv X aa Z H {s with heap:=h'}:=I.turned (t':=s.toks) (λb o hb e=>(sb.2 b hb).trans e) f0 f1 f3 f4 f5;obtain⟨o,e,c,d⟩:=id bi;have e2:((n-1-i:Nat):Int)-1=(n:Int)-1-((i+1:Nat):Int):=by lia
  exact⟨u,rfl,Zke (s:={s with heap:=h'}) e c d (by decide) ⟨x,H,I1,ru,⟨rfl,λys hy=>by rw[I.list_inj hy hq];exact hx⟩,⟨by lia,by rw[<-e2];exact bi⟩,λb hb=>(hf b hb).1⟩⟩
 done:=by intro X hP hw hK hc i aa s Z H E I hf st hg;subst hP hw hK;obtain⟨xs,hq,fN,hx⟩:=hg;obtain⟨f0,f1,f2,f3,f4,f5⟩:=hf it (by simp);have cz:=st.2;rw[show(n:Int)-1-(i:Nat)=-1 by lia]at cz;exact wpAny_pyNext_rev_end (I.ok.hd hc) cz λh' eb=>⟨rfl,I.turned (t':=s.toks) (λb o hb e=>eb b o hb e) f0 f1 f3 f4 f5⟩
 self:=λ_ _ _ _ _ st h=>wpAny_pyIter_revIter st.2 h
def Zw2(K:Yk)(ta:TA):TI:=λZ H qe=>ta Z H λvs H1=>∃a xs,vs=[.ref a]/\((SqT K H1 a xs/\qe (Itv K a xs.length) H1)\/(SqL K H1 a xs/\qe (Zvv K a xs.length) H1))
def Zrz{X:Cx}{tg l:Expr}{ta:TA}{p pos:Pos}(hg:Gl X "reversed")(hm:X.mg "reversed"=M)(ha:PA X [l] ta)(hs:YA [l] X.env=[(Wy,eval l X.env)]:=by rfl):
 PI X tg (.Call (.Name "reversed" p) [l] [] pos) (Zw2 X.K ta):=by
 intro aa s Z H qe I h;refine Call_ (Zdd I hg hm boot_reversed (PyProof.Rows.callWith_type1 (thn (ha pos aa s Z H _ I h) λus s1 ⟨vs,H1,I1,r1,q1⟩=>?_) hs rfl));obtain⟨a,xs,rfl,q⟩:=q1;obtain⟨u,rfl,ru⟩:=vals1 r1;obtain rfl:u=YD a:=ru;rcases q with⟨hq,q⟩|⟨hq,q⟩
 . obtain⟨its,rv,pl,hz⟩:=I1.tuple hq;have hl:=rv.length;refine Rv.call pl (by simp;lia) ?_;have e1:((its.toArray.size:Nat):Int)-1=(xs.length:Int)-1-((0:Nat):Int):=by simp;lia
   have st:Rv.Is (s1.heap.push (Rv.obj a (((its.toArray.size:Nat):Int)-1))) s1.heap.objs.size a ((xs.length:Int)-1-((0:Nat):Int)):=⟨_,Oj _ rfl,rfl,by rw[<-e1];rfl⟩
   refine Rv.ZfW st ?_;refine⟨s1.heap.objs.size,[s1.heap.objs.size],_,_,H1,rfl,I1.kept (t':=s1.toks+1+1) λb o e=>Od _ e,ZoH a _ xs.length,⟨Yw _,st⟩,λb hb=>?_,q⟩;have e:b=s1.heap.objs.size:=by simpa using hb
   subst e;exact I1.fpOk (Oq _) (I1.hok.fresh (Oq _))
 . obtain⟨its,rv,pl,hz⟩:=I1.list hq;have hl:=rv.length;refine call_reversed_list pl.isList ?_;have e1:((its.toArray.size:Nat):Int)-1=(xs.length:Int)-1-((0:Nat):Int):=by simp;lia
   have st:(s1.heap.push (revObj a (((its.toArray.size:Nat):Int)-1))).IsRevIter s1.heap.objs.size a ((xs.length:Int)-1-((0:Nat):Int)):=⟨_,Oj _ rfl,rfl,by rw[<-e1];rfl⟩
   refine wpAny_pyIter_revIter st ?_;refine⟨s1.heap.objs.size,[s1.heap.objs.size],_,_,H1,rfl,I1.kept (t':=s1.toks) λb o e=>Od _ e,Znh a _ xs.length,⟨Yw _,st⟩,λb hb=>?_,q⟩;have e:b=s1.heap.objs.size:=by simpa using hb
   subst e;exact I1.fpOk (Oq _) (I1.hok.fresh (Oq _))
set_option tactic.hygienic false
namespace Rv
def Zu5:Slot "reversed" "__length_hint__" "reversed.__length_hint__" :=
 .of (owner := "reversed") (n := "__length_hint__") (by rw[typeLookup_type,builtinLookup_eq_fast]<;>kernel_rfl) (by decide +kernel) (by decide +kernel) (by decide +kernel) (by first|exact .inl (by decide +kernel)|exact .inr (by decide +kernel)) (by rw[isSubtype_type]<;>kernel_rfl)
def Zxg:entryFor table "reversed.__length_hint__"=J Builtin.«reversed.__length_hint__»:=entryFor_of_tree (by kernel_rfl)
def Zxt(a:Yj):argsOk "reversed.__length_hint__" ⟨[a],[]⟩:=by unfold argsOk;rw[signature?_of (id := "reversed.__length_hint__") (n:=['_','_','t','n','i','h','_','h','t','g','n','e','l','_','_']) (o:=['d','e','s','r','e','v','e','r']) (by kernel_rfl) own];kernel_rfl
def ZwG:typeLookup (.type "reversed") "__len__"=pure M:=by rw[typeLookup_type,builtinLookup_eq_fast]<;>kernel_rfl
section
variable {prog:Yh}{w:Yg}{A:YH}{E:Yj->Yb->Prop}{s:Yb}
def walks(hh:A.handled=M)(I l:Yi)(dU:l≠I)(items:Array Yj)(hz:items.size<=sizeLine):
 Walks prog w A I [I,l] [I] items.size (λi v=>items[items.size-1-i]?=J v) (λi h=>i<=items.size/\Is h I l ((items.size:Int)-1-(i:Int))/\IsTup h l items) where
 sub:=λb hb=>by simp at hb;simp[hb]
 frame:=λ_ _ _ x hk=>⟨x.1,x.2.1.at λo e=>hk I (by simp) o e,let⟨o,e,r⟩:=x.2.2;⟨o,hk l (by simp) o e,r⟩⟩
 item:=λi s Q E hi x hQ=>by have av:=x.2.1;rw[show(items.size:Int)-1-(i:Int)=((items.size-1-i:Nat):Int) by lia]at av;have hx:items[items.size-1-i]?=J (items[items.size-1-i]'(by lia)):=Array.getElem?_eq_getElem (by lia);refine next_item av x.2.2 hz hx λh' t' cO eZ=>?_;rw[show((items.size-1-i:Nat):Int)-1=(items.size:Int)-1-((i+1:Nat):Int) by lia]at cO;exact hQ _ h' t' hx ⟨hi,cO,let⟨o,e,r⟩:=x.2.2;⟨o,(eZ.2 l dU).trans e,r⟩⟩ λb o hb eo=>eZ.extBut b o (λh=>hb (by simp[h])) eo
 done:=λs Q E x hQ=>by have av:=x.2.1;rw[show(items.size:Int)-1-(items.size:Int)=-1 by lia]at av;exact next_end hh av λh' mD=>hQ h' s.toks λb o hb eo=>mD b o (λh=>hb (by simp[h])) eo
 self:=λ_ _ _ _ x hQ=>ZfW x.2.1 hQ
def Zsj(av:Is s.heap it l ((items.size:Int)-1))(hl:IsTup s.heap l items)(hz:items.size<=sizeLine)
 (hQ:∀u tk,s.toks<=tk->Q (.int (items.size:Int) u) {s with toks:=tk}):YB (model prog w) A (PySem.call (.builtin "reversed.__length_hint__") [.ref it]) Q E s:=by
 have d7:(items.size:Int)<2^63:=by have:=Zca;lia
 obtain⟨o,ho,hc,hd⟩:=id av;refine Wi Zu5 av.typeIs Zxg ?_ (Zxt _);unfold Builtin.«reversed.__length_hint__»;refine Ya (Wp (a:=YD it) rfl ?_);refine Ya (YR ho hd (x:=.ref l) rfl ?_);rw[if_neg (by simp)];refine Ya (len_tuple hl d7 ?_);refine Ya (m:=asInt? (.int _ _)) (Yc ?_);dsimp only;refine Ya (YR ho hd (x:=rawInt ((items.size:Int)-1)) rfl ?_);show YB _ _ (if (items.size:Int)<(items.size:Int)-1+1 then _ else _) _ _ _;rw[if_neg (by lia),show(items.size:Int)-1+1=items.size by lia];unfold retInt;refine Ya (wpAny_mkInt ?_);exact Yc ⟨_,rfl,hQ _ _ (by simp only;lia)⟩
def Zu4:typeLookup (.type "reversed") "__length_hint__"=pure (J (.builtin "reversed.__length_hint__")):=Zu5.lookup
def collects(hh:A.handled=M)(av:Is s.heap I l ((items.size:Int)-1))(hl:IsTup s.heap l items)(dU:l≠I)(hz:items.size<=sizeLine)(h0:0<items.size)
 (hQ:∀s' ag,Moved [I] (λa b=>b=a) s s'->ItemsOf (λi v=>items[items.size-1-i]?=J v) ag items.size->Q ag.toList s'):YB (model prog w) A (collect (.ref I)) Q E s:=by
 have W:=(walks (prog:=prog) (w:=w) (A:=A.in1) hh I l dU items hz).toS;have hst:0<=items.size/\Is s.heap I l ((items.size:Int)-1-((0:Nat):Int))/\IsTup s.heap l items:=⟨Yw _,by simpa using av,hl⟩
 have mz:∀b∈[I,l],b<s.heap.objs.size:=λb hb=>by
  rcases O3.mp hb with rfl|hb
  . obtain⟨o,ho,_⟩:=av;exact Ym ho
  . rw[Ox.mp hb];obtain⟨o,ho,_⟩:=hl;exact Ym ho
 have jx:s.heap.objs.size ∉ [I,l]:=λhm=>absurd (mz _ hm) (Yv _);have mQ:s.heap.objs.size≠I:=λe=>jx (by rw[e];simp);unfold collect;refine Ya (wpAny_runValue ?_);refine codeAny_builtin F.entry_proto_collect ?_;rw[Around.under_plainId F.plain_proto_collect _];show YB _ A.in1 (newList [] >>= λk=>again (.builtin "list.__iadd__" ⟨[k,.ref I],[]⟩)) _ _ s;refine Ya (Yq (Yc ⟨plainId_quiet F.plain_list_iadd _,?_⟩));refine codeAny_builtin F.entry_list_iadd ?_;rw[Around.under_plainId F.plain_list_iadd _];generalize hob:({cls:=.type "list",data:=.seq ([]:List Yj).toArray}:Obj)=ob;have bX:=W.frame 0 s (s.heap.push ob) s.toks hst (Oq _) λb _ o e=>Od _ e;have km:(s.heap.push ob).get? s.heap.objs.size=J ob:=Oj _ (by rw[<-hob];rfl);have e1:Builtin.List.listSameRef (.ref s.heap.objs.size) (.ref I)=Wy:=by simp[Builtin.List.listSameRef,mQ]
 have hT:Shared.TypeIs {s with heap:=s.heap.push ob} (.ref I) "reversed" := bX.2.1.typeIs;show YB _ A.in1 (Builtin.List.listExtendWith (.ref s.heap.objs.size) (.ref I) (.ref s.heap.objs.size)) _ _ _;unfold Builtin.List.listExtendWith;refine Ya (wpAny_typeOf hT ?_);rw[if_neg (by rw[e1];decide)];refine Ya (W.self 0 _ _ _ bX (Ya (Wh ?_)));unfold Builtin.List.listLengthHint;refine Ya (wpAny_specialOf hT ZwG ?_);show YB _ A.in1 (specialOf (YD I) (O "__length_hint__") >>= _) _ _ _;refine Ya (wpAny_specialOf hT Zu4 ?_);have bJ:splitId "reversed.__length_hint__"=J ("reversed", "__length_hint__"):=by decide +kernel
 dsimp only;rw[bJ];dsimp only;refine Ya (wpAny_isInstance (b:=true) hT Zl7 ?_);rw[if_neg (by decide),if_neg (by decide +kernel)];refine Ya (wpAny_rule (Ya (Wp (Zu5.bind _) ?_)));dsimp only;refine Ya (wpAny_attempt (Zsj (by simpa using bX.2.1) bX.2.2 hz λu tk jX=>?_));dsimp only;have ea:asInt? (Value.int (items.size:Int) u)=pure (J (items.size:Int)):=rfl;rw[ea];clear ea;generalize hk:(items.size:Int)=kk;refine Ya ?_;refine Yc ?_;dsimp only;have l1:Builtin.List.listFitsIndex kk=Wx:=by
  have:=Zca;unfold Builtin.List.listFitsIndex;rw[Oa,decide_eq_true_iff,decide_eq_true_iff]
  lia
 have l2:Wq kk.toNat=Wy:=by
  unfold Wq;rw[decide_eq_false_iff_not]
  lia
 rw[if_neg (by rw[l1];decide),if_neg (by lia),if_neg (by rw[l2];decide)];refine Yc ?_;rw[if_pos (by rw[Wu];left;rw[bne_iff_ne];lia)];subst hob;refine Ya (wpAny_rule (Ya ?_));show YB _ A.in1 (updateSeq s.heap.objs.size (·.push .none) >>= λ_=>updateSeq s.heap.objs.size (·.pop)) _ _ _;refine Ya (wpAny_updateSeq km rfl ?_);have kj:=YX (Obj.mapSeq (·.push Value.none)) km rfl;refine wpAny_updateSeq kj rfl ?_;have mS:=YX (Obj.mapSeq (·.pop)) kj rfl;generalize hob:({cls:=.type "list",data:=.seq ([]:List Yj).toArray}:Obj)=ob at *;have jN:∀b o,b≠s.heap.objs.size->(s.heap.push ob).get? b=J o->(((s.heap.push ob).update s.heap.objs.size (Obj.mapSeq (·.push Value.none))).update s.heap.objs.size (Obj.mapSeq (·.pop))).get? b=J o:=λb o hb e=>(YN _ _ (YL hb)).trans ((YN _ _ (YL hb)).trans e)
 have i5:=W.frame 0 ({s with heap:=s.heap.push ob}:Yb) _ tk bX jX λb hb o e=>jN b o (λh=>jx (h▸hb)) e;obtain⟨c,mR⟩:∃c,(((s.heap.push ob).update s.heap.objs.size (Obj.mapSeq (·.push Value.none))).update s.heap.objs.size (Obj.mapSeq (·.pop))).get? s.heap.objs.size=J {cls:=.type "list",dict:=M,data:=.seq #[] c,slots:=#[]}:=by subst hob;exact⟨_,mS⟩
 refine Yc ⟨plainId_quiet F.plain_extend_loop _,?_⟩;refine codeAny_extend_loopS W hz _ jx _ items.size 0 _ #[] _ rfl (Yw _) i5 mR (ItemsOf.nil _) λs' jH c' hm mT aq=>?_;show YB _ A (load s.heap.objs.size >>= _) _ _ s';refine Ya (wpAny_load mT (Yc (hQ s' jH ?_ aq)));refine Moved.drop_new (o:=ob) (tk:=tk) (Moved.trans W.gtrans ?_ hm) jX;exact⟨λb o hb e=>jN b o (λh=>hb (h▸Oi)) e,rfl,rfl,rfl,Oq _⟩
def ZtB(hh:A.handled=M)(av:Is s.heap I l ((items.size:Int)-1))(hl:IsTup s.heap l items)(dU:l≠I)(hz:items.size<=sizeLine)(h0:0<items.size)
 (h:∀s' ag,Moved [I] (λa b=>b=a) s s'->ItemsOf (λi v=>items[items.size-1-i]?=J v) ag items.size->Q (.ref s'.heap.objs.size) {s' with heap:=s'.heap.push {cls:=.type "tuple",data:=.seq ag}}) :
 codeAny (model prog w) A (.call (.builtin "tuple.__new__") ⟨[.type "tuple",.ref I],[]⟩) (wants Q E) s:=by
 refine codeAny_of_tree ?_;show YB _ A.in1 (checkBuiltinCall "tuple.__new__" ⟨[.type "tuple",.ref I],[]⟩ >>= λ_=>again (.builtin "tuple.__new__" ⟨[.type "tuple",.ref I],[]⟩)) _ _ s;refine Ya (Wp (F.newCall_tuple_1 _) (Yc ⟨plainId_quiet F.plain_tuple_new _,?_⟩));refine codeAny_builtin F.entry_tuple_new ?_;rw[Around.under_plainId F.plain_tuple_new _];have fP:=sub_tuple_self;have j9:=init_tuple_lookup;have nR:=madeHere_tuple;have mP:=av.typeIs
 wp_walk using wpAny_typeOf mP,collects (A:=A.in1) hh av hl dU hz h0
 intro s' ag hm aq;show YB _ _ (Builtin.Tuple.tupleExact ag.toList.toArray >>= λv=>ret v) _ _ _;have e:ag.toList.toArray=ag:=by simp
 rw[e];unfold Builtin.Tuple.tupleExact;refine Ya (Yq (Yc (h s' ag hm aq)) (by show ag.size<=sizeLine;rw[aq.1];exact hz))
def Zq4(hh:A.handled=M)(av:Is s.heap I l ((items.size:Int)-1))(hl:IsTup s.heap l items)(dU:l≠I)(hz:items.size<=sizeLine)(h0:0<items.size)
 (h:∀s' ag,Moved [I] (λa b=>b=a) s s'->ItemsOf (λi v=>items[items.size-1-i]?=J v) ag items.size->Q (.ref s'.heap.objs.size) {s' with heap:=s'.heap.push {cls:=.type "tuple",data:=.seq ag}}) :
 YB (model prog w) A (PySem.call (.type "tuple") [.ref I]) Q E s:=by
 refine callType_codes (Q₁:=λobj s1=>s1.TypeIs obj "tuple" /\ Q obj s1) F.called_tuple (F.typeCall_tuple_1 _) F.entry_object_init (ZtB hh av hl dU hz h0 λs' ag hm aq=>⟨⟨_,Oj _ rfl,rfl⟩,h s' ag hm aq⟩) λobj s1 R=>?_;exact⟨R.1,F.args_object_init_2 obj _,object_init_meets F.called_tuple.init.lookup F.called_tuple.made (by decide) prog w A.in1 _ s1 ⟨R.1,rfl,R.2⟩⟩
end
end Rv
def Zq8(K:Yk)(ta:TA):TE:=λZ H Q=>ta Z H λvs H1=>∃a xs,vs=[.ref a]/\SqT K H1 a xs/\xs≠[]/\∀p,H1 p=M->Q (.ref p) (upd H1 p (.tup xs.reverse))
theorem ZnJ (hc:X.calm=Wx) (mw:Gl X "tuple") (l7:X.mg "tuple"=M) (my:Gl X "reversed") (l9:X.mg "reversed"=M) (ha:PA X [l] ta)
   (hs:YA [l] X.env=[(Wy,eval l X.env)]:=by rfl):PE X (.Call (.Name "tuple" p) [.Call (.Name "reversed" p2) [l] [] pos2] [] pos) (Zq8 X.K ta):=by
 intro aa s Z H Q I h;refine Call_ (Zdd I mw l7 boot_tuple (PyProof.Rows.callWith_type1 ?_ rfl rfl));show YB _ _ (spliced ((Wy,eval (.Call (.Name "reversed" p2) [l] [] pos2) X.env)::[])) _ _ s;refine Calls.spliced_cons ?_;refine Call_ (Zdd I my l9 boot_reversed (PyProof.Rows.callWith_type1 (thn (ha pos2 aa s Z H _ I h) λus s1 ⟨vs,H1,I1,r1,q1⟩=>?_) hs rfl));obtain⟨a,xs,rfl,hq,lE,q⟩:=q1;obtain⟨u,rfl,ru⟩:=vals1 r1;obtain rfl:u=YD a:=ru;obtain⟨its,rv,pl,hz⟩:=I1.tuple hq;have ma:=rv.length;have bC:0<its.toArray.size:=by
   cases xs with
   |nil=>exact absurd rfl lE
   |cons x r=>simp at ma ⊢;lia
 have jV:its.toArray.size<=sizeLine:=by simp;lia
 refine Rv.call pl jV (Calls.spliced_nil ?_);have au:a<s1.heap.objs.size:=by obtain⟨o,ho,_⟩:=pl;exact Ym ho
 refine Rv.Zq4 (I.ok.hd hc) (l:=a) (items:=its.toArray) ⟨_,Oj _ rfl,rfl,rfl⟩ (pl.push _) (Ou au) jV bC λs' ag hm aq=>?_;obtain⟨hk,hg,hd,ho,ht⟩:=hm;have kp:∀ b o,s1.heap.get? b=J o->s'.heap.get? b=J o:=λb o e=>hk b o (λhb=>by
   rw [Ox.mp hb] at e;exact absurd (Ym e) (Yv _)) (Od _ e)
 have es:s'={s1 with heap:=s'.heap,toks:=s'.toks}:=by
   obtain⟨a1,a2,a3,a4,a5⟩:=s';simp only at hg hd ho;simp only [hg,hd,ho]
 have ea:ag.toList=its.reverse:=by
   apply List.ext_getElem?;intro j;rcases Nat.lt_or_ge j its.length with hj|hj
   . have j8:j<ag.size:=by rw [aq.1];simpa using hj
     have e1:=aq.2 j ag[j] (Array.getElem?_eq_getElem j8);rw [List.getElem?_reverse hj,Array.getElem?_toList,Array.getElem?_eq_getElem j8,<-e1];simp
   . rw [List.getElem?_eq_none (by have:=aq.1;simp at this ⊢;lia),List.getElem?_eq_none (by simpa using hj)]
 have I2:Inv X aa Z H1 s':=by
   rw [es];exact I1.kept (t':=s'.toks) kp
 have ev:ag=its.reverse.toArray:=by rw [<-ea]
 have rr:Zs xs.reverse its.reverse:=rv.reverse;have I3:Inv X aa Z (upd H1 s'.heap.objs.size (.tup xs.reverse)) {s' with heap:=s'.heap.push {cls:=.type "tuple",data:=.seq ag}}:=by
   rw [ev];exact I2.laid (t':=s'.toks) (λb o e=>Od _ e) (Oq _) (show Zat X.prog X.w _ _ _ (.tup xs.reverse) from⟨by simpa using hz,its.reverse,rr,ZbS.fresh _ _⟩)
 exact⟨.ref s'.heap.objs.size,_,I3,rfl,q _ (I2.hok.fresh (Oq _))⟩
set_option tactic.hygienic true
namespace Tx
noncomputable def place(x:Str):List Str->Option Nat
 |[]=>M
 |y::r=>if y=x then J 0 else(place x r).map (·+1)
theorem ZjX:∀{ys:List Str}{j:Nat},place x ys=J j->ys[j]?=J x/\∀m,m<j->∀y,ys[m]?=J y->y≠x
 |[],j,h=>by cases h
 |y::r,j,h=>by
  unfold place at h;by_cases e:y=x
  . rw[if_pos e]at h;cases h;exact⟨by simp[e],λm hm=>absurd hm (Nat.not_lt_zero _)⟩
  . rw[if_neg e]at h;obtain⟨k,hk,rfl⟩:=Oo.mp h;obtain⟨R,h2⟩:=ZjX hk;refine⟨by simpa using R,λm hm z hz=>?_⟩;cases m with
    |zero=>simp at hz;rw[<-hz];exact e
    |succ m=>exact h2 m (by lia) z (by simpa using hz)
section
variable {prog:Yh}{w:Yg}{A:YH}{E:Yj->Yb->Prop}{s:Yb}
def ZlJ(hl:IsTup s.heap t items)(hn:items.size=ys.length)(hi:∀(i:Nat) (y:Str),ys[i]?=J y->∃t,items[i]?=J (Value.str y t))(hj:place x ys=J j)
 (hQ:∀u tk,Q (.int (j:Int) u) {s with toks:=tk}):YB (model prog w) A (PySem.call (.builtin "tuple.index") [.ref t,.str x tx]) Q E s:=by
 obtain⟨o,ho,hc,n,hd⟩:=id hl;refine Wi F.slot_tuple_index hl.typeIs F.entry_tuple_index ?_ (F.args_tuple_index_2 _ _);unfold Builtin.«tuple.index»;refine Ya (Wp (a:=(YD t,[Value.str x tx])) rfl ?_);dsimp only;unfold Builtin.Tuple.tupleItemsOf;refine Ya (Ya (wpAny_seqItems ho hd (Yc ?_)))
 try dsimp only
 refine Ya (Yc ?_);refine Ya (Yc ?_);rw[Std.Legacy.Range.forIn_eq_forIn_range'];obtain⟨p1,p2⟩:=ZjX hj;have nT:j<ys.length:=(Ob.mp p1).1;have e0:List.range' [:min items.size items.size].start [:min items.size items.size].size [:min items.size items.size].step=List.range' 0 (items.size-0):=by show List.range' 0 ((min items.size items.size-0+1-1)/1) 1=_;simp
 rw[e0];refine Ya (wpAny_forIn_list _ (λl b s'=>∃i,l=List.range' i (items.size-i)/\b=(M,())/\s'=s/\i<=j) _ ?_ ?_ _ _ ⟨0,rfl,rfl,rfl,Yw _⟩)
 . rintro i rest b s' ⟨k,hk,rfl,rfl,hkj⟩;have jg:k<items.size:=by lia
   rw[show items.size-k=(items.size-(k+1))+1 by lia,List.range'_succ]at hk;obtain⟨rfl,rfl⟩:=List.cons.inj hk;obtain⟨y,hy⟩:∃y,ys[i]?=J y:=⟨ys[i]'(by lia),Og (by lia)⟩
   obtain⟨ty,ht⟩:=hi i y hy;rw[ht];dsimp only;refine Ya (eqBool_str ?_);by_cases e:i=j
   . subst e;rw[p1]at hy;cases hy;rw[if_pos (by simp)];unfold retInt;refine Ya (Ya (wpAny_mkInt (Yc (Yc ?_))));exact Yc ⟨_,rfl,hQ _ _⟩
   . rw[if_neg (by have:=p2 i (by lia) y hy;simpa using this)];exact Yc ⟨i+1,rfl,rfl,rfl,by lia⟩
 . rintro b s' ⟨k,hk,rfl,rfl,hkj⟩;have:=congrArg List.length hk;simp at this
   lia
end
end Tx
def Zle(K:Yk):V->List V->Hp->VK->Prop:=λx vs H Q=>∃a ys y j,x=.ref a/\vs=[.str y]/\SqT K H a (ys.map .str)/\Tx.place y ys=J j/\Q (.int (j:Int)) H
def ZpR:MtR X "tuple.index" (Zle X.K):=by
 intro aa s Z H x vs v us Q I rx rv h;obtain⟨a,ys,y,j,rfl,rfl,hq,hp,q⟩:=h;cases rx;obtain⟨u,rfl,ru⟩:=rv.one;obtain⟨t,rfl⟩:=ru;obtain⟨its,rs,pl,hz⟩:=I.tuple hq;have hl:=rs.length;refine Tx.ZlJ pl (by simpa using hl.symm) (λi z hi=>?_) hp λu tk=>?_
 . obtain⟨u,hu,ru⟩:=rs.get (i:=i) (x:=.str z) (by simp[hi]);obtain⟨t2,rfl⟩:=ru;exact⟨t2,by simpa using hu⟩
 . exact⟨.int j,H,I.kept (h':=s.heap) (t':=tk) (λb o e=>e),⟨u,rfl⟩,q⟩
noncomputable def ZcS(K:Yk):Bool:=K.all λp=>!Wz (p.2.cls=.type "tuple")||p.2.dict.isNone
def ZsL{K:Yk}(h:ZcS K=Wx)(e:K.lookup a=J o)(hc:o.cls=.type "tuple"):o.dict=M:=by
 have hm:∃b,(b,o)∈K:=by
  induction K with
  |nil=>cases e
  |cons p r ih=>
   rw[OF]at e;split at e
   . cases e;exact⟨p.1,Oi⟩
   . obtain⟨b,hb⟩:=ih (by unfold ZcS at h ⊢;rw[List.all_cons,Oa]at h;exact h.2) e;exact⟨b,Oh _ hb⟩
 obtain⟨b,hb⟩:=hm;have:=OC.mp h _ hb;simp only[hc,decide_true,Bool.not_true,Bool.false_or]at this;simpa using this
noncomputable def ZxH(K:Yk)(to:TE)(t:TA):TE:=λZ H Q=>to Z H λx H1=>(∃a ys,x=.ref a/\SqT K H1 a ys)/\t Z H1 λxs H2=>Zle K x xs H2 Q
def Zuj{X:Cx}(hK:ZcS X.K=Wx)(ho:PE X o to)(ha:PA X [e] t)
 (aY:attributeBase o "index" X.env (eval o X.env)=eval o X.env)
 (d9:((YS ao (YA [e] X.env)).all (λx=>!x.1)&&(backToKw ao (Wc [] X.env)).all (λx=>x.1.isSome)&&Wz ([e].length+([]:List Keyword).length+(if ([]:List Keyword).isEmpty then 0 else 1)<30))=Wx)
 (aR:(apos.endLine==ao.line)=Wx) (hs:YA [e] X.env=[(Wy,eval e X.env)]) :
 PE X (.Call (.Attribute o "index" apos) [e] [] ao) (ZxH X.K to t):=by
 intro aa s Z H Q I h;refine wpAny_Call_method_late aY d9 aR rfl (thn (ho aa s Z H _ I h) λv s1 ⟨x,H1,I1,r1,ty,q1⟩=>?_);obtain⟨a,ys,rfl,hq⟩:=ty;cases r1;have ht:∃ob,s1.heap.get? a=J ob/\ob.cls=.type "tuple" /\ ob.dict=M:=by
  rcases hq with hq|⟨ob,its,n,hk,hc,hs,hz,r⟩
  . obtain⟨z,its,r,ob,e1,e2,e3,_⟩:=hq.ok I1.hok;exact⟨ob,e1,e2,e3⟩
  . exact⟨ob,I1.kIn a ob hk,hc,ZsL hK hk hc⟩
 obtain⟨ob,e1,e2,e3⟩:=ht;refine⟨"tuple", "tuple.index",F.plainAttrs_tuple,F.slot_tuple_index,F.type_tuple_index,⟨ob,e1,e2⟩,λb hb=>by cases hb;exact⟨ob,e1,e3⟩,?_⟩;have hA:=ha ao aa s1 Z H1 _ I1 q1;rw[hs]at hA ⊢;refine Calls.callWith_builtin rfl (Calls.evalArgs_plain ?_);exact thn hA λus s2 ⟨vs,H2,I2,r2,q2⟩=>ZpR aa s2 Z H2 (.ref a) vs (.ref a) us Q I2 rfl r2 q2
def ZnR(h:env.frame=env'.frame):noteFrame e env=noteFrame e env':=by unfold noteFrame PySem.frameOf;rw[h]
structure Fly(B_:YG)(l:List Env)(a:Yi)(cls a0 fl:Yj)(h:YG):Prop where
 stay:B_.StaysIn h
 new:B_.get? a=M
 fr:h.FunFrames B_ l
 tr:h.TracedAtW B_ a cls a0 fl
section
variable {qd:Model}{A:YH}{E:Yj->Yb->Prop}{s:Yb}{B_:YG}{l:List Env}{a:Yi}{cls a0 fl:Yj}{Q:Unit->Yb->Prop}
def ZoD(x:Fly B_ l a cls a0 fl h)(t1:h.get? T=J oT)(t2:oT.data=.fields ts)(t3:B_.get? T=M):
 (∀b,b≠T->(h.update T (Obj.mapFields (·.setIfInBounds 3 v))).get? b=h.get? b)/\B_.StaysIn (h.update T (Obj.mapFields (·.setIfInBounds 3 v)))/\(h.update T (Obj.mapFields (·.setIfInBounds 3 v))).FunFrames B_ l/\h.UpToSlots (h.update T (Obj.mapFields (·.setIfInBounds 3 v))):=by
 have o:∀b,b≠T->(h.update T (Obj.mapFields (·.setIfInBounds 3 v))).get? b=h.get? b:=λb hb=>YN _ _ (YL hb);have nr:∀b ob,h.get? b=J ob->(∀vs,ob.data≠.fields vs)->b≠T:=λb ob hb hn z=>by subst z;cases t1.symm.trans hb;exact hn _ t2
 exact⟨o,λb ob hb=>(o b λz=>by subst z;cases t3.symm.trans hb).trans (x.stay b ob hb),x.fr.of_keeps λb ob hb hn=>⟨ob,(o b (nr b ob hb hn)).trans hb,rfl⟩,λb ob hb hn=>⟨ob.slots,(o b (nr b ob hb hn)).trans hb⟩⟩
def Zhj(x:Fly B_ l a cls a0 fl s.heap)(q:∀h',Fly B_ l a cls a0 (f.elim .none λz=>rawInt z) h'->s.heap.UpToSlots h'->Q () {s with heap:=h'}):YB qd A (setFlight (.ref a) f) Q E s:=by obtain⟨oe,us,T,oT,ts,b1,b2,b3,b4,b5,b6,b7,b8,b9⟩:=x.tr;have z3:3<ts.size:=(Array.getElem?_eq_some_iff.mp b9).1;obtain⟨o,k1,k2,k3⟩:=ZoD (v:=f.elim .none λz=>rawInt z) x b7 b8 b5;unfold setFlight;refine Ya (YR b1 b3 b4 ?_);rw[if_pos (by simp)];refine wpAny_setField b7 b8 z3 (q _ ⟨k1,x.new,k2,oe,us,T,_,_,(o a (YL b6)).trans b1,b2,b3,b4,b5,b6,YX _ b7 (Obj.isFreed_of_fields (YZ b8 _)),YZ b8 _,by simp[z3]⟩ k3)
def Zly(bz:A.frames=J (env::outer))(hf:env.frame=J L)(x:Fly B_ (env::outer) a cls a0 fl s.heap)(q:∀h',Heap.FlyingW B_ outer a cls a0 h'->s.heap.UpToSlots h'->Q () {s with heap:=h'}):YB qd A (leaving env (.ref a)) Q E s:=by
 have fin:∀(s1:Yb),Fly B_ (env::outer) a cls a0 (rawInt L) s1.heap->s.heap.UpToSlots s1.heap->(∀h',{s1 with heap:=h'}={s with heap:=h'})->YB qd A (setFlight (.ref a) M) Q E s1:=λs1 x1 u e=>Zhj x1 λh' x2 u2=>by rw[e];exact q h' ⟨x2.stay,x2.new,x2.fr.2.2,x2.tr⟩ (u.trans u2)
 unfold leaving;refine Ya ?_;by_cases hL:fl=rawInt L
 . subst hL;exact wpAny_noteFrame_againW hf x.tr (fin s x (Heap.UpToSlots.refl _) λ_=>rfl)
 . obtain⟨oe,us,T,oT,ts,b1,b2,b3,b4,b5,b6,b7,b8,b9⟩:=x.tr;obtain⟨c1,c2⟩:=b2;subst c1;obtain⟨o,k1,k2,k3⟩:=ZoD (v:=.none) x b7 b8 b5;unfold noteFrame;simp only[hf];refine Ya (YR b1 b3 b4 ?_);rw[if_pos (by simp)];refine Ya (YR b7 b8 b9 ?_);rw[if_neg (by simpa using hL)];refine Ya (wpAny_setField b7 b8 (Array.getElem?_eq_some_iff.mp b9).1 ?_);refine wpAny_entryW bz k2 hf ((o a (YL b6)).trans b1) k1 x.new b3 (Array.getElem?_eq_some_iff.mp b4).1 c2 λh' ⟨x1,x2,x3,x4⟩=>?_;exact fin _ ⟨x1,x.new,x2,x3⟩ (k3.trans x4) λ_=>rfl
end
def Zj8(un:Un fs [] H H' h R)(hok:HOk P w H' R)(kb:Kept fs H' h R B_)(stay:B_.StaysIn h2)
 (hf:∀b∈fs,∀o,R.get? b=J o->∃sl,h2.get? b=J {o with slots:=sl}):Un fs [] H H' h h2/\HOk P w H' h2/\Kept fs H' h h2 B_:=by
 have tr:∀b u,H' b=J u->∃o,R.get? b=J o/\h2.get? b=J o/\B_.get? b=J o:=λb u e=>by obtain⟨o,q⟩:=(hok b u e).there;have z:=kb b o q (.inl (by rw[e];simp));exact⟨o,q,stay _ _ z,z⟩
 have old:∀b o,h.get? b=J o->b ∉ fs->∃o1,R.get? b=J o1/\h2.get? b=J o1/\B_.get? b=J o1:=λb o e hb=>by obtain⟨o1,q⟩:=un.there b o e (by simp);have z:=kb b o1 q (.inr ⟨⟨o,e⟩,hb⟩);exact⟨o1,q,stay _ _ z,z⟩
 refine⟨⟨λb o e n hb _=>?_,λb o e n hb _=>?_,λb o e n _=>un.free b o e n (by simp),λb o e _=>?_,un.tups,un.frzs,un.tbls⟩,λb u e=>?_,λb o e hb=>?_⟩
 . obtain⟨o1,q1,q2,_⟩:=old b o e hb;cases (un.keep b o e n hb (by simp)).symm.trans q1;exact q2
 . obtain⟨sl,z⟩:=un.slot b o e n hb (by simp);obtain⟨bG,q⟩:=hf b hb _ z;exact⟨bG,q⟩
 . by_cases hb:b∈fs
   . obtain⟨o1,q1⟩:=un.there b o e (by simp);obtain⟨bG,q⟩:=hf b hb _ q1;exact⟨_,q⟩
   . obtain⟨o1,_,q2,_⟩:=old b o e hb;exact⟨_,q2⟩
 . refine(hok b u e).stay (λc v hc q=>?_) (λ_ q=>q) λ_ _ q=>q;have cF:∃u',H' c=J u':=by
    rcases hc with rfl|hc
    . exact⟨u,e⟩
    . exact⟨_,hc⟩
   obtain⟨u',e'⟩:=cF;obtain⟨o,q1,q2,_⟩:=tr c u' e';cases q.symm.trans q1;exact q2
 . rcases hb with hb|⟨⟨o',e'⟩,hb⟩
   . cases q:H' b with
     |none=>exact absurd q hb
     |some u=>obtain⟨o1,q1,q2,q3⟩:=tr b u q;cases e.symm.trans q2;exact q3
   . obtain⟨o1,q1,q2,q3⟩:=old b o' e' hb;cases e.symm.trans q2;exact q3
def Fly.hide(x:Fly B_ l a cls a0 fl h)(hn:h.Ns C m)(sb:Heap.SameBut C h h')(hl:∀b∈l.filterMap (·.frame),b≠C):Fly (Wa B_ [C]) l a cls a0 fl h':=by
 obtain⟨oC,es,ep,lS,mF,_⟩:=hn;have nf:∀b o vs,h.get? b=J o->o.data=.fields vs->b≠C:=λb o vs e d z=>by subst z;cases lS.symm.trans e;rw[mF]at d;cases d
 have bQ:∀b,B_.get? b=M->(Wa B_ [C]).get? b=M:=λb e=>by
  cases q:(Wa B_ [C]).get? b with
  |none=>rfl
  |some o=>rw[PySem.W.of_hideAll _ q]at e;cases e
 obtain⟨oe,us,T,oT,ts,b1,b2,b3,b4,b5,b6,b7,b8,b9⟩:=x.tr;refine⟨λb o e=>?_,bQ _ x.new,?_,oe,us,T,oT,ts,(sb.2 a (nf _ _ _ b1 b3)).trans b1,b2,b3,b4,bQ _ b5,b6,(sb.2 T (nf _ _ _ b7 b8)).trans b7,b8,b9⟩
 . have hb:b≠C:=λz=>by rw[z,PySem.W.hideAll_none [C] (by simp)]at e;cases e
   exact(sb.2 b hb).trans (x.stay b o (PySem.W.of_hideAll _ e))
 . have go:∀l:List Env,h.FunFrames B_ l->(∀b∈l.filterMap (·.frame),b≠C)->h'.FunFrames (Wa B_ [C]) l:=by
    intro l;induction l with
    |nil=>exact λ_ _=>trivial
    |cons e r ih=>rintro ⟨k,⟨L,o,f1,f2,f3,f4⟩,k2⟩ hb;have hL:L≠C:=hb L (List.mem_filterMap.mpr ⟨e,Oi,f1⟩);refine⟨k,⟨L,o,f1,bQ _ f2,(sb.2 L hL).trans f3,f4⟩,ih k2 λb gX=>hb b ?_⟩;obtain⟨y,hy,ey⟩:=List.mem_filterMap.mp gX;exact List.mem_filterMap.mpr ⟨y,Oh _ hy,ey⟩
   exact go l x.fr hl
section
variable {P:Yh}{w:Yg}{K:Yk}{mg:Str->Option Yj}{base:YG}{N:List Str}{ah:Str}{scope:Scope}{f:Yi}{cd:Yj}{A:YH}{outer:List Env}{s0:Yb}{H0:Hp}{E:XK}
def ZnL(I3:Inv (Zf4 (CXF P w) P w K mg base N ah scope f cd A outer s0 H0 E) pins3 σ3 H3 s3)
 (f3:∀b∈fp,Zb7 (Zf4 (CXF P w) P w K mg base N ah scope f cd A outer s0 H0 E) pins3 H3 b) (hC:C=s3.heap.objs.size) (hE:∀cls H',E1 cls M H'->E cls M H'):Zbb (CXF P w) (ZC (Zf4 (CXF P w) P w K mg base N ah scope f cd A outer s0 H0 E) NC sc C s3 H3 fp) E1:=by
 intro aa Z H s e s' I hx;obtain⟨a,cls,a0,H',B_,rfl,os,bare,un,hok,fl,kb,ha,mV⟩:=hx;have I':=I.call' (ch:=[]) os un hok bare (λb z=>absurd z (by simp));have I0:Inv (ZC (Zf4 (CXF P w) P w K mg base N ah scope f cd A outer s0 H0 E) NC sc C s3 H3 fp) [] Z H' s':=I'.pins_of λp hp=>by cases hp
 have Io:=I3.comp_out (h'':=s'.heap) f3 hC I0 ⟨rfl,λ_ _=>rfl⟩;have bz:(A.deeper (envOfC ah scope s0.heap.objs.size f cd)).frames=J (envOfC ah scope s0.heap.objs.size f cd::outer):=I3.ok.frames;have jU:s0.heap.objs.size<s3.heap.objs.size:=I3.lt;have kt:∀b∈frs (envOfC ah scope s0.heap.objs.size f cd::outer),b≠C:=λb hb z=>by
  have hm:b∈s0.heap.objs.size::frs outer:=I3.stkSub b hb;subst z;rw[hC]at hm;rcases O3.mp hm with q|q
  . exact absurd q (Nat.ne_of_gt jU)
  . obtain⟨_,o,q1,_⟩:=I3.funs.mem q;exact absurd (Ym q1) (Yv _)
 show YB (model P w) (A.deeper (envOfC ah scope s0.heap.objs.size f cd)) (noteFrame (.ref a) _) _ _ s';rw[ZnR (env:=compEnvC sc (Zd0 (Zf4 (CXF P w) P w K mg base N ah scope f cd A outer s0 H0 E).env sc.names []) C (Zf4 (CXF P w) P w K mg base N ah scope f cd A outer s0 H0 E).env) (env':=envOfC ah scope s0.heap.objs.size f cd) rfl];refine wpAny_looks_onW bz rfl fl λh4 bf fu=>?_;obtain⟨m,hn,_⟩:=I'.loc;have j0:h4.Ns C m:=fu.ns hn;refine⟨m,j0,λh5 sb bD hc=>?_⟩;have x5:Fly (Wa B_ [C]) (envOfC ah scope s0.heap.objs.size f cd::outer) a cls a0 (rawInt s0.heap.objs.size) h5:=Fly.hide ⟨bf.1,bf.2.1,bf.2.2.1,bf.2.2.2⟩ j0 sb kt;have ht:=x5.tr;obtain⟨oe,us,T,oT,ts,b1,b2,b3,b4,b5,b6,b7,b8,b9⟩:=ht;unfold PySem.passOn;refine Ya (YR b1 b3 b4 ?_);rw[if_neg (by simp)];refine Ya (Zhj (s:={s' with heap:=h5}) x5 λh6 x6 io=>wpAny_throw ?_);show YB (model P w) (A.deeper (envOfC ah scope s0.heap.objs.size f cd)) (leaving (envOfC ah scope s0.heap.objs.size f cd) (.ref a)) _ _ {s' with heap:=h6};refine Zly bz rfl x6 λh7 x7 kL=>?_;have iR:Kept (frs outer) H' s0.heap s'.heap (Wa B_ [C]):=λb o e1 hb=>by
  have nC:b≠C:=λz=>by
   subst z;rcases hb with hb|⟨⟨o',e'⟩,hb⟩
   . exact hb I'.free
   . rw[hC]at e';exact absurd (Ym e') (Nat.not_lt.mpr (Yy jU))
  refine PySem.W.hideAll_get _ (kb b o e1 ?_) (by simpa using nC);rcases hb with hb|⟨⟨o',e'⟩,hb⟩
  . exact .inl hb
  . obtain⟨o1,q1⟩:=(I3.base:Un (frs outer) [] H0 H3 s0.heap s3.heap).there b o' e' (show b ∉ ([]:List Yi)from List.not_mem_nil);have lq:b ∉ fp:=λhm=>by
     rcases(f3 b hm).2.2.2.1 with z|z
     . cases z
     . exact absurd (Ym e') (Nat.not_lt.mpr z)
    obtain⟨o2,q2⟩:=I.base.there b o1 q1 lq;refine .inr ⟨⟨o2,q2⟩,λhm=>?_⟩;have fU:b∈s0.heap.objs.size::frs outer:=I3.stkSub b hm;rcases O3.mp fU with z|z
    . rw[z]at e';exact absurd (Ym e') (Yv _)
    . exact hb z
 have mB:∀b∈frs outer,∀o,s'.heap.get? b=J o->∃sl,h7.get? b=J {o with slots:=sl}:=λb hb o e1=>by
  obtain⟨_,o',q1,nf⟩:=Io.funs.mem hb;cases e1.symm.trans q1;obtain⟨nJ,q4⟩:=fu b o e1 nf;have hm:b∈frs (envOfC ah scope s0.heap.objs.size f cd::outer):=by obtain⟨y,hy,ey⟩:=List.mem_filterMap.mp hb;exact List.mem_filterMap.mpr ⟨y,Oh _ hy,ey⟩
  have q5:=(sb.2 b (kt b hm)).trans q4;obtain⟨nI,q6⟩:=io b _ q5 nf;obtain⟨kO,q7⟩:=kL b _ q6 nf;exact⟨kO,q7⟩
 obtain⟨r1,r2,r3⟩:=Zj8 (Io.base:Un (frs outer) [] H0 H' s0.heap s'.heap) hok iR x7.1 mB;exact⟨a,cls,a0,H',_,rfl,Io.os,bare,r1,r2,x7,r3,ha,hE _ _ mV⟩
end
noncomputable def Znp(d:PyData):Bool:=isDisplay d&&(PyData.showable d&&(PyData.intsShort 13 d&&(Wz (PyData.weight d<=2^20)&&Wz (PyData.depth d<=1000))))
def Zmm(K:Yk):List V->Hp->VK->Prop:=λvs H Q=>∃v d,vs=[v]/\Dp K H v d/\Znp d=Wx/\Q (.str d.shown) H
def Zob(hr:Room k X.A):Zcl X (.builtin "repr") (Zmm X.K):=by
 intro aa s Z H vs us Q I r h;obtain⟨v,d,rfl,hd,ho,q⟩:=h;obtain⟨u,rfl,ru⟩:=vals1 r;obtain⟨as,r1⟩:=I.reads hd ru;unfold Znp at ho;simp only[Oa,decide_eq_true_eq]at ho;obtain⟨R,h2,h3,h4,h5⟩:=ho;obtain⟨a,rfl⟩:=isRef_of_reads r1 R;have hz:d.shown.length<=sizeLine:=by
  have:=PyData.shown_le 13 (by decide) d (PyData.leavesShort_of_canLay0 13 d hd.lay h3);have e:(2:Nat)^20=1048576:=by decide
  rw[YC]
  lia
 have:=hr.un;refine repr_of_reads' r1 h2 (PyData.noDict_hsm (PyData.hasDict_of_canLay d hd.lay)) hr.gd (by lia) (λ_ _ e=>e) (λh' t tk hk=>?_) hz;exact⟨.str d.shown,H,I.kept hk,⟨t,rfl⟩,q⟩
noncomputable def Zwh:R2:=λx y H Q=>∃a b,x=.str a/\y=.str b/\Q (.bl (!Wz (a=b))) H
def ZpH:OpR X (YM .NotEq) Zwh:=by intro aa s Z H x y v u Q I rx ry h;obtain⟨a,b,rfl,rfl,q⟩:=h;obtain⟨t,rfl⟩:=rx;obtain⟨t',rfl⟩:=ry;exact ne_str (ZlE I q (congrArg not (by by_cases e:a=b<;>simp[e])))
noncomputable def ZoP(K:Yk)(sp:Sp)(C2:Yi)(i ie:Nat)(ts:Yi->Obj->TS)(t:TA):TS:=λD Z H=>t Z H λvs H1=>sp vs H1 (λv H2=>D.nx (Z.set i (J v)) H2) (λcls _ H2=>∃C,cls=.ref C/\YV K (.ref C) (.ref C2)=J Wx /\
 ∀a oe σ1,oe.cls=.ref C->σ1=Z.set ie (J (.ref a))->σ1[ie]?=J (J (.ref a))->ts a oe {nx:=λσ' H'=>D.nx (σ'.set ie M) H',rt:=λ_ _=>False} σ1 H2)
def Zpo{X:Cx}{k:Nat}{x cx n m:Str}{ps:List Str}{sp:Sp}{e:Expr}{es:List Expr}{t:TA}{p np ao apos bC pos px:Pos}{C2:Yi}{i ie:Nat}{b0:Stmt}{bP:List Stmt}{ts:Yi->Obj->TS}
 (F:Def X.prog X.w X.K X.mg X.base k x ps sp) (hr:Room k X.A) (hg:Gl X x) (ha:PA X.nox (e::es) t)
 (mv:Gl X cx) (lZ:X.mg cx=J (.ref C2)) (hC:ExcN X.K C2) (hN:X.N.Nodup) (hi:X.N[i]?=J n) (hx:Loc X.env.scope n) (hf:X.fn n=Wx\/X.env.scope.names.lookup n=J .local) (cX:X.N[ie]?=J m) (hl:X.env.scope.names.lookup m=J .local) (fQ:X.stack=X.env::X.outer) (jk:X.env.frame=J X.env.locals)
 (dG:∀a oe,PSs (cxH X a oe) (b0::bP) (ts a oe)) (bu:(x==("__debug__" : Str))=Wy) (jo:(cx==("__debug__" : Str))=Wy) (he:YA (e::es) X.env=(Wy,eval e X.env)::YA es X.env) (a9:(YS ao (YA es X.env)).any (·.1)=Wy)
 (iZ:swapsWith (.Call (.Name x p) (e::es) [] ao) (J (.Name n px)) apos.line X.env=pure Wy:=by rfl) :
 PS X (.Try [.Assign [.Name n px] (.Call (.Name x p) (e::es) [] ao) apos] [.ExceptHandler (J (.Name cx np)) (J m) (b0::bP) bC] [] [] pos) (ZoP X.K sp C2 i ie ts t):=by
 obtain⟨f,fd,hm,hk,hb,F⟩:=F;intro aa s Z H D I h;refine wpAny_Try_except (wpAny_execs_cons (wpAny_Assign_Name (YY (Zdc I hg hm ?_ bu)) iZ));refine PySem.W.callWith_K (h₀:=X.base) I.ok.mod.kin hk (Yf (ha ao aa s Z H _ (I.wish _) h) (λus s1 ⟨vs,H1,nF,r,q⟩=>?_) λ_ _ z=>z.elim) he a9;have I1:Inv X aa Z H1 s1:=nF.unwish;refine⟨I1.kIn,?_⟩;have al:(us++[]).length=ps.length:=by rw[Ys,<-r.length];exact F.len _ _ _ _ q
 have ke:=hb s1 us I1.kIn al;rw[Ys]at ke;refine wpAny_call (codeAny_mono (F.run X.A X.stack s1 H1 ⟨us,[]⟩ us vs _ _ hr I1.env0 ke r q) λr s' hq=>?_);cases r with
 |ok fl=>
  cases fl with
  |ret u=>obtain⟨v,H',I',rv,q'⟩:=I1.after hq;exact ZdL I' hN hi hx rv (λs2 I2=>wpAny_execs_nil (wpAny_execs_nil ⟨_,H',I2,q'⟩)) hf
  |_=>exact False.elim hq
 |error ev=>
  obtain⟨a,cls,a0,H',B_,rfl,os,bare,un,hok,fl,kb,lW,C,rfl,fP,lG⟩:=hq;have bz:X.A.frames=J (X.env::X.outer):=by rw[<-fQ];exact I1.ok.frames
  have m6:Heap.FlyingW B_ (X.env::X.outer) a (.ref C) a0 s'.heap:=by rw[<-fQ];exact fl
  have I':=I1.call' (ch:=[]) os un hok bare (λb z=>absurd z (by simp));have dZ:∀b∈frs X.stack,∃o,s'.heap.get? b=J o/\∀vs,o.data≠.fields vs:=λb hb=>by obtain⟨_,o,q,nf⟩:=I'.stack.mem hb;exact⟨o,q,nf⟩
  have kF:∀h2:YG,B_.StaysIn h2->s'.heap.UpToSlots h2->∀tk,Inv X aa Z H' {s' with heap:=h2,toks:=tk}:=λh2 st up tk=>by obtain⟨r1,r2,_⟩:=ZeT un hok kb st up dZ;exact I1.call' (s':={s' with heap:=h2,toks:=tk}) (ch:=[]) os r1 r2 bare (λb z=>absurd z (by simp))
  refine wpAny_looks_onW bz jk m6 λh4 bf fu=>?_;refine wpAny_landsW bf λh5 jF jJ=>?_;have I5:Inv X aa Z H' {s' with heap:=h5}:=kF h5 jF.1 (fu.trans jJ) s'.toks;refine wpAny_handleBy_cons (codeAny_handlers_test (Zdc (X:=cxM X a) (I5.toM a) mv lZ ?_ jo)) (by intro q;cases q);obtain⟨oe,lQ,gP⟩:=jF.there;refine Zkn (s:={s' with heap:=h5}) I5.kIn hC.ty hC.cls hC.exc fP lQ gP (codeAny_handlers_suite_as ?_);refine lands_againW jF λh6 ky io=>?_;have I6:Inv X aa Z H' {s' with heap:=h6}:=kF h6 ky.1 ((fu.trans jJ).trans io) s'.toks;obtain⟨gF,ws,dO,jd,dP,_⟩:=ky.first;have lU:a≠X.env.locals:=λz=>by obtain⟨m,⟨o,g6,ep,ho,hd,_⟩,_⟩:=I6.loc;rw[<-z,dO]at ho;cases ho;rw[dP]at hd;cases hd
  have lV:a ∉ X.fs:=λz=>by obtain⟨_,o,q,nf⟩:=I6.funs.mem z;rw[dO]at q;cases q;exact nf _ dP
  have IH:Inv (cxH X a gF) aa Z H' {s' with heap:=h6}:=I6.toH dO lW lU lV (λv z=>by rw[dP]at z;cases z);refine ZdL (X:=cxH X a gF) IH hN cX (.inl hl) (v:=.ref a) rfl (λs7 I7=>?_) (.inr hl);refine Yf (dG a gF aa s7 _ H' _ I7 (lG a gF _ jd rfl (Ol (by rw[I.len];exact(Ob.mp cX).1)))) (λfl s8 q8=>?_) λ_ _ z=>z.elim;cases fl with
  |next=>obtain⟨σ',H8,I8,q8⟩:=q8;exact ZnS (I8.ofH I.ok.hd) hN cX hl λs9 I9=>⟨_,H8,I9,q8⟩
  |ret v=>obtain⟨y,σ',H8,I8,r8,q8⟩:=q8;exact q8.elim
  |_=>obtain⟨σ',H8,I8,q8⟩:=q8;exact q8.elim
structure XAs(K:Yk)(a b:Yi):Prop extends ExcN K a where
 sub:YV K (.ref b) (.ref a)=J Wx
 at':ExcA K b
 one:PySem.W.kitOne K (.ref b) (.ref b)=J Wx
def ZkT{X:Cx}{i ie:Nat}{cw n m w:Str}{C a:Yi}{oe:Obj}(mn:Gl X cw)(lX:X.mg cw=J (.ref C))(hA:ExcA X.K C)(ja:PySem.W.kitOne X.K (.ref C) (.ref C)=J Wx)(mq:Gl X (O "isinstance"))(lY:X.mg (O "isinstance")=M)(hN:X.N.Nodup)(hi:X.N[i]?=J n)(hx:Loc X.env.scope n)(hf:X.fn n=Wx\/X.env.scope.names.lookup n=J .local)(cX:X.N[ie]?=J m)(hl:X.env.scope.names.lookup m=J .local)(jn:(cw==("__debug__" : Str))=Wy)(ka:(m==("__debug__" : Str))=Wy)(mG:(m==("__classdict__" : Str))=Wy):
 PSs (cxH X a oe) [.Assign [.Name n px] (.List [.Constant (.str w) j kp,.Call (.Name (O "isinstance") ip) [.Name m mp,.Name cw wp] [] cp] lp) ap] (λ(D:Ends) (Z:St) (H:Hp)=>Z[ie]?=J (J (.ref a))/\oe.cls=.ref C/\∀p,H p=M->D.nx (Z.set i (J (.ref p))) (upd H p (.lst [.str w,.bl Wx]))):=by
 have h:=Zrq (Zlh (X:=cxH X a oe) (i:=i) (pos:=ap) (pos':=px) hN hi hx (ZpC (pos:=lp) (ZaC (Zpx (x:=w) (j:=j) (pos:=kp)) (ZaC (ZcV (X:=cxH X a oe) (p:=ip) (pos:=cp) Zjm mq lY (by decide +kernel) (ZaC (Zpw (pos:=mp) cX (.inl hl) ka mG) (ZaC (Zmt (pos:=wp) (v:=.ref C) mn lX rfl jn) Zcy))) Zcy))) rfl hf);intro aa s Z H D I q;refine h aa s Z H D I ?_;obtain⟨R,h2,h3⟩:=q;exact⟨_,R,a,oe,C,.ref C,.ref C,Wx,rfl,Ov _ (Ox.mpr rfl),h2,hA,rfl,ja,by show 2<=sizeLine;decide,h3⟩
end L2
namespace IV
open PySem PySem.Spec PyProof.Rows L2
set_option tactic.hygienic false
inductive D where
 |non|bl (b:Bool)|int (i:Int)|str (x:Str)|tup (xs:List D)|ref (i:Nat)|ty (n:String)
 |ro (xs:List D)|kd (x:Str)
inductive DO where
 |lst (xs:List D)|dic (kvs:List (Key×D))|ins (C:Str) (fs:List (Str×D))
 |fdic (kvs:List (Key×D))
noncomputable abbrev Hd:=List DO
inductive qe(α:Type) where
 |bad|ok (a:α) (h:Hd)|exc (c:Str) (h:Hd)
noncomputable def qe.bind(r:qe α)(k:α->Hd->qe β):qe β:=match r with
 |.bad=>.bad
 |.ok a h=>k a h
 |.exc c h=>.exc c h
def qe.bind_ok:(qe.ok a h).bind k=k a h:=rfl
def qe.bind_bad:(qe.bad:qe α).bind k=.bad:=rfl
noncomputable def qe.ofO(o:Option α)(h:Hd):qe α:=match o with
 |some a=>.ok a h
 |none=>.bad
def qe.ofO_some:qe.ofO (J a) h=.ok a h:=rfl
noncomputable abbrev Ev:=List (Option D)
inductive Bf where
 |len|isi|int|tup|lst|sum|all|srt|mx
 deriving DecidableEq
inductive Mf where
 |app|ext|pop|rev|clr
 deriving DecidableEq
mutual
inductive Ex where
 |var (i:Nat)|cst (d:D)|glo (x:Str)
 |bin (op:Operator) (a b:Ex)|cmp (op:CmpOp) (a b:Ex)|cmp2 (op cT:CmpOp) (a b c:Ex)
 |neg (a:Ex)|nt (a:Ex)|ands (es:Exs)|ors (es:Exs)|ite (c:Tx) (a b:Ex)
 |tupl (es:Exs)|lstl (es:Exs)|ix (a i:Ex)|sl (a:Ex) (lo hi:Option Ex)
 |blt (f:Bf) (es:Exs)|call (f:Str) (es:Exs)|meth (m:Mf) (o:Ex) (es:Exs)
 |comp (NC:List Str) (js:List (Option Nat)) (it:Ix) (g:Tg) (c:Option Tx) (e:Ex)
 |sorts (e:Ex)|dictl (ps:Exs)|maxd (e d:Ex)
 |att (Cs:List Str) (o:Ex) (f:Str)|mk (C:Str) (es:Exs)|mcl (C m:Str) (o:Ex) (es:Exs)|any
 |trev (e:Ex)|tix (o e:Ex)|lrv (e:Ex)|lix (o e:Ex)|lin (a b:Ex)
 |rpn (a b:Ex)
inductive Exs where
 |nil|cons (e:Ex) (es:Exs)
inductive Ix where
 |pl (e:Ex)|rng (e:Ex)|rng2 (a b:Ex)|enu (e:Ex)|rev (e:Ex)
 |en1 (e:Ex)|en0 (e:Ex)|dk (e:Ex)
inductive Tg where
 |nm (i:Nat)|two (i j:Nat)|many (is:List Nat)
inductive Tx where
 |ex (e:Ex)|ands (ts:Txs)|ors (ts:Txs)|nt (a:Tx)
inductive Txs where
 |one (t:Tx)|cons (t:Tx) (ts:Txs)
end
noncomputable abbrev Ex.ci(i:Int):Ex:=.cst (.int i)
noncomputable abbrev Ex.Ci_(x:String):Ex:=.cst (.str (O x))
mutual
inductive Sx where
 |ret (e:Ex)|set (g:Tg) (e:Ex)|put (o i e:Ex)|aug (i:Nat) (op:Operator) (e:Ex)|drp (e:Ex)
 |iff (c:Tx) (a b:Sxs)|whl (c:Tx) (b:Sxs)|forr (g:Tg) (it:Ix) (b:Sxs)|pas|brk|cnt
 |seta (Cs:List Str) (o:Ex) (f:Str) (e:Ex)|auga (Cs:List Str) (o:Ex) (f:Str) (e:Ex)|any
 |rai (C:Str) (e:Ex)|trs (i:Nat) (f:Str) (es:Exs) (C:Str)
 |unl (i j:Nat) (e:Ex)
 |trw (i n:Nat) (f:Str) (es:Exs) (C W w:Str)
inductive Sxs where
 |nil|cons (s:Sx) (r:Sxs)
end
noncomputable abbrev Ex.v:=Ex.var
noncomputable abbrev Exs.c:=Exs.cons
noncomputable abbrev Exs.n:=Exs.nil
noncomputable abbrev Sxs.c:=Sxs.cons
noncomputable abbrev Sxs.n:=Sxs.nil
noncomputable abbrev Txs.c:=Txs.cons
noncomputable abbrev K0:=Ex.ci 0
noncomputable abbrev K1:=Ex.ci 1
noncomputable abbrev K10:=Ex.ci 10
noncomputable abbrev K12:=Ex.ci 12
noncomputable abbrev K15:=Ex.ci 15
noncomputable abbrev K2:=Ex.ci 2
noncomputable abbrev K20:=Ex.ci 20
noncomputable abbrev K26:=Ex.ci 26
noncomputable abbrev K29:=Ex.ci 29
noncomputable abbrev K3:=Ex.ci 3
noncomputable abbrev K30:=Ex.ci 30
noncomputable abbrev K4:=Ex.ci 4
noncomputable abbrev K5:=Ex.ci 5
noncomputable abbrev K6:=Ex.ci 6
noncomputable abbrev K7:=Ex.ci 7
noncomputable abbrev K8:=Ex.ci 8
noncomputable abbrev V0:=Ex.var 0
noncomputable abbrev V1:=Ex.var 1
noncomputable abbrev V10:=Ex.var 10
noncomputable abbrev V2:=Ex.var 2
noncomputable abbrev V3:=Ex.var 3
noncomputable abbrev V4:=Ex.var 4
noncomputable abbrev V5:=Ex.var 5
noncomputable abbrev V6:=Ex.var 6
noncomputable abbrev V7:=Ex.var 7
noncomputable abbrev V8:=Ex.var 8
noncomputable abbrev V9:=Ex.var 9
noncomputable abbrev Exs.o(a:Ex):Exs:=.cons a .nil
noncomputable abbrev Sxs.o(a:Sx):Sxs:=.cons a .nil
noncomputable abbrev Exs.w(a b:Ex):Exs:=.cons a (.cons b .nil)
noncomputable abbrev Sxs.w(a b:Sx):Sxs:=.cons a (.cons b .nil)
noncomputable abbrev Exs.u(a b c:Ex):Exs:=.cons a (.cons b (.cons c .nil))
noncomputable abbrev Sxs.u(a b c:Sx):Sxs:=.cons a (.cons b (.cons c .nil))
noncomputable abbrev Exs.z(a b c d:Ex):Exs:=.cons a (.cons b (.cons c (.cons d .nil)))
noncomputable abbrev Sxs.z(a b c d:Sx):Sxs:=.cons a (.cons b (.cons c (.cons d .nil)))
noncomputable abbrev Exs.y(a b c d e:Ex):Exs:=.cons a (.cons b (.cons c (.cons d (.cons e .nil))))
noncomputable abbrev Sxs.y(a b c d e:Sx):Sxs:=.cons a (.cons b (.cons c (.cons d (.cons e .nil))))
noncomputable abbrev Tx.q(a b:Ex):Tx:=.ex (.cmp .Eq a b)
noncomputable abbrev Tx.nq(a b:Ex):Tx:=.ex (.cmp .NotEq a b)
noncomputable abbrev Tx.x(o:PySem.CmpOp)(a b:Ex):Tx:=.ex (.cmp o a b)
noncomputable abbrev Sx.s(i:Nat)(e:Ex):Sx:=.set (.nm i) e
noncomputable abbrev Ex.f(f:String)(e:Exs):Ex:=.call (O f) e
noncomputable abbrev Ex.a(c:String)(x:Ex)(f:String):Ex:=.att [O c] x (O f)
noncomputable abbrev Ex.m(c f:String)(x:Ex)(e:Exs):Ex:=.mcl (O c) (O f) x e
noncomputable abbrev Sx.sa(c:String)(x:Ex)(f:String)(e:Ex):Sx:=.seta [O c] x (O f) e
noncomputable instance:DecidableEq D:=λa b=>Classical.propDecidable (a=b)
noncomputable instance:DecidableEq DO:=λa b=>Classical.propDecidable (a=b)
mutual
def D.py(rd:Nat->Option PyData):D->Option PyData
 |.non=>J .none
 |.bl b=>J (.bool b)
 |.int i=>J (.int i)
 |.str x=>J (.str x)
 |.tup xs=>(D.pys rd xs).map .tuple
 |.ro xs=>(D.pys rd xs).map .list
 |.ref i=>rd i
 |_=>M
def D.pys(rd:Nat->Option PyData):List D->Option (List PyData)
 |[]=>J []
 |x::xs=>(D.py rd x).bind λd=>(D.pys rd xs).map λds=>d::ds
end
def Zgu(h:Hd):Nat->Nat->Option PyData
 |0,_=>M
 |n+1,i=>match h[i]? with
  |some (.lst xs)=>(D.pys (Zgu h n) xs).map .list
  |_=>M
def Zgv(h:Hd)(d:D):Option PyData:=D.py (Zgu h 4) d
noncomputable def Zda(o:DO)(h:Hd):qe D:=.ok (.ref h.length) (h++[o])
noncomputable def lstOf(d:D)(h:Hd):Option (List D):=match d with
 |.ref i=>match h[i]? with
  |some (.lst xs)=>J xs
  |_=>M
 |.ro xs=>J xs
 |_=>M
noncomputable def dicOf(GD:Str->Option (List (Key×D)))(d:D)(h:Hd):Option (List (Key×D)):=match d with
 |.ref i=>match h[i]? with
  |some (.dic kvs)=>J kvs
  |some (.fdic kvs)=>J kvs
  |_=>M
 |.kd x=>GD x
 |_=>M
noncomputable def keyOf:D->Option Key
 |.int i=>J (.inl i)
 |.str x=>J (.inr x)
 |_=>M
noncomputable def ZbA(kvs:List (Key×D))(k:Key):Option D:=(kvs.find? λp=>Wz (p.1=k)).map (·.2)
noncomputable def putD(kvs:List (Key×D))(k:Key)(v:D):List (Key×D):=if (kvs.any λkv=>Wz (kv.1=k))=Wx then kvs.map (λkv=>if kv.1=k then(kv.1,v)else kv)else kvs++[(k,v)]
def cutD(xs:List D)(lo hi:Option Int):List D:=(xs.drop (HT.sIx xs.length 0 lo)).take (HT.sIx xs.length xs.length hi-HT.sIx xs.length 0 lo)
noncomputable def D.flat:D->Bool
 |.int _|.str _|.bl _|.non=>Wx
 |_=>Wy
noncomputable def eqF:D->D->Bool
 |.int i,.int j=>i==j
 |.str i,.str j=>i==j
 |.non,.non=>Wx
 |.bl i,.bl j=>i==j
 |.int i,.bl j=>i==(if j then 1 else 0)
 |.bl i,.int j=>(if i then 1 else 0)==j
 |_,_=>Wy
noncomputable def ZfI(GD:Str->Option (List (Key×D)))(d:D)(h:Hd):Option Bool:=match d with
 |.non=>J Wy
 |.bl b=>J b
 |.int i=>J (i != 0)
 |.str x=>if x.length<=sizeLine then J (!(x.length==0))else M
 |.tup xs=>J (!xs.isEmpty)
 |.ref i=>match h[i]? with
  |some (.lst xs)=>J (!xs.isEmpty)
  |some (.dic xs)=>J (!xs.isEmpty)
  |_=>M
 |.ro xs=>J (!xs.isEmpty)
 |_=>M
noncomputable def int2(x y:D)(k:Int->Int->qe D):qe D:=match x with
 |.int i=>match y with
  |.int j=>k i j
  |_=>.bad
 |_=>.bad
def ZsS(x y:D)(h:Hd):qe D:=match x with
 |.int i=>match y with
  |.int j=>.ok (.int (i+j)) h
  |_=>.bad
 |.str i=>match y with
  |.str j=>if i.length+j.length<=sizeLine then .ok (.str (i++j)) h else .bad
  |_=>.bad
 |.tup xs=>match y with
  |.tup ys=>if xs.length+ys.length<=sizeLine then .ok (.tup (xs++ys)) h else .bad
  |_=>.bad
 |.ref i=>match y with
  |.ref j=>match h[i]? with
   |some (.lst xs)=>match h[j]? with
    |some (.lst ys)=>if xs.length+ys.length<=sizeLine then Zda (.lst (xs++ys)) h else .bad
    |_=>.bad
   |_=>.bad
  |_=>.bad
 |_=>.bad
def ZwK(x y:D)(h:Hd):qe D:=match x with
 |.str z=>match y with
  |.int n=>if 0<=n/\n<=1000/\z.length<=1000 then .ok (.str (ZfM z n.toNat)) h else .bad
  |_=>.bad
 |x=>int2 x y λi j=>if i.natAbs<2^2000/\j.natAbs<2^2000 then .ok (.int (i*j)) h else .bad
def opB(op:Operator)(x y:D)(h:Hd):qe D:=match op with
 |.Add=>ZsS x y h
 |.Sub=>int2 x y λi j=>.ok (.int (i-j)) h
 |.Mult=>ZwK x y h
 |.Mod=>int2 x y λi j=>if 0<j then .ok (.int (i%j)) h else .bad
 |.FloorDiv=>int2 x y λi j=>if 0<j/\j<1073741824 then .ok (.int (i/j)) h else .bad
 |.Pow=>int2 x y λi j=>if 0<=j/\j<=1000000/\i.natAbs<2^64 then .ok (.int (i^j.toNat)) h else .bad
 |_=>.bad
def Zc8(neg:Bool)(x y:D)(h:Hd):qe D:=match Zgv h x,Zgv h y with
 |some a,J b=>if min a.depth b.depth<=1100 then .ok (.bl (if neg then !YQ a b else YQ a b)) h else .bad
 |_,_=>.bad
def seqOf(d:D)(h:Hd):Option (List D):=match d with
 |.tup xs=>J xs
 |d=>lstOf d h
def Zdq(GD:Str->Option (List (Key×D)))(neg:Bool)(x y:D)(h:Hd):qe D:=match seqOf y h with
 |some xs=>if x.flat&&xs.all D.flat then .ok (.bl (if neg then !xs.any (λz=>eqF z x)else xs.any λz=>eqF z x)) h else .bad
 |none=>match dicOf GD y h,keyOf x with
  |some kvs,J k=>.ok (.bl (if neg then !(ZbA kvs k).isSome else(ZbA kvs k).isSome)) h
  |_,_=>.bad
noncomputable def ZiX(f:Int->Int->Bool)(x y:D)(h:Hd):qe D:=match x,y with
 |.int i,.int j=>.ok (.bl (f i j)) h
 |_,_=>.bad
noncomputable def opN(neg:Bool)(x y:D)(h:Hd):qe D:=match y with
 |.non=>.ok (.bl (if neg then !Wz (x=.non)else Wz (x=.non))) h
 |_=>.bad
def opC(GD:Str->Option (List (Key×D)))(op:CmpOp)(x y:D)(h:Hd):qe D:=match op with
 |.Eq=>Zc8 Wy x y h
 |.NotEq=>Zc8 Wx x y h
 |.Lt=>ZiX (λi j=>Wz (i<j)) x y h
 |.LtE=>ZiX (λi j=>Wz (i<=j)) x y h
 |.Gt=>ZiX (λi j=>Wz (j<i)) x y h
 |.GtE=>ZiX (λi j=>Wz (j<=i)) x y h
 |.In=>Zdq GD Wy x y h
 |.NotIn=>Zdq GD Wx x y h
 |.Is=>opN Wy x y h
 |.IsNot=>opN Wx x y h
def ZbD(GD:Str->Option (List (Key×D)))(x y:D)(h:Hd):qe D:=match y with
 |.int i=>match seqOf x h with
  |some xs=>qe.ofO (atI xs i) h
  |none=>match x with
   |.str z=>if z.length<=sizeLine then qe.ofO ((atI z.cps.toList i).map λc=>.str ⟨#[c]⟩) h else .bad
   |_=>match dicOf GD x h with
    |some kvs=>qe.ofO (ZbA kvs (.inl i)) h
    |none=>.bad
 |.str z=>match dicOf GD x h with
  |some kvs=>qe.ofO (ZbA kvs (.inr z)) h
  |none=>.bad
 |_=>.bad
def Zgw(x:D)(l u:Option Int)(h:Hd):qe D:=match x with
 |.tup xs=>.ok (.tup (cutD xs l u)) h
 |.str y=>if y.length<=sizeLine then .ok (.str (Yp y l u)) h else .bad
 |d=>match lstOf d h with
  |some xs=>Zda (.lst (cutD xs l u)) h
  |none=>.bad
def ZtA(d:D)(h:Hd):Option String:=match d with
 |.int _=>J "int"
 |.str _=>J "str"
 |.bl _=>J "bool"
 |.non=>J "NoneType"
 |.tup _=>J "tuple"
 |d=>(lstOf d h).map λ_ => "list"
noncomputable def ZlB(t T:String):Option Bool:=if T∈["int", "str", "bool", "tuple", "list"]/\t∈["int", "str", "bool", "tuple", "list", "NoneType"]then J (t==T||(t == "bool" && T == "int"))else M
noncomputable def intsOf:List D->Option (List Int)
 |[]=>J []
 |.int i::r=>(intsOf r).map λz=>i::z
 |_=>M
noncomputable def Ztr:List D->Option (List Bool)
 |[]=>J []
 |.bl i::r=>(Ztr r).map λz=>i::z
 |_=>M
noncomputable def strsOf:List D->Option (List Str)
 |[]=>J []
 |.str i::r=>(strsOf r).map λz=>i::z
 |_=>M
noncomputable def Zep:List (Key×D)->Option (List Str)
 |[]=>J []
 |(.inr x,_)::r=>(Zep r).map λz=>x::z
 |_=>M
noncomputable def ZnD(x:Str):List Str->List Str
 |[]=>[x]
 |y::r=>if ltCps y.cps.toList x.cps.toList then y::ZnD x r else x::y::r
def ZcT:List Str->List Str
 |[]=>[]
 |x::r=>ZnD x (ZcT r)
def ZlS(xs:List D)(h:Hd):qe D:=match xs with
 |[.str y]=>if y.length<=sizeLine then .ok (.int y.length) h else .bad
 |[d]=>qe.ofO ((seqOf d h).map λxs=>.int xs.length) h
 |_=>.bad
def ZsQ(xs:List D)(h:Hd):qe D:=match xs with
 |[d,.ty T]=>qe.ofO ((ZtA d h).bind λt=>(ZlB t T).map .bl) h
 |_=>.bad
noncomputable def Zyr(xs:List D)(h:Hd):qe D:=match xs with
 |[.int i]=>.ok (.int i) h
 |[.bl b]=>.ok (.int (if b then 1 else 0)) h
 |_=>.bad
def ZsP(xs:List D)(h:Hd):qe D:=match xs with
 |[.tup xs]=>.ok (.tup xs) h
 |[d]=>qe.ofO ((lstOf d h).map .tup) h
 |_=>.bad
def Zyn(xs:List D)(h:Hd):qe D:=match xs with
 |[d]=>match seqOf d h with
  |some xs=>Zda (.lst xs) h
  |none=>.bad
 |_=>.bad
def Zom(xs:List D)(h:Hd):qe D:=match xs with
 |[d]=>qe.ofO (((lstOf d h).bind intsOf).map λns=>.int ns.sum) h
 |_=>.bad
def Zys(xs:List D)(h:Hd):qe D:=match xs with
 |[d]=>qe.ofO (((lstOf d h).bind Ztr).map λbs=>.bl (bs.all id)) h
 |_=>.bad
def ZfF(GD:Str->Option (List (Key×D)))(xs:List D)(h:Hd):qe D:=match xs with
 |[d]=>match (dicOf GD d h).bind Zep with
  |some ss=>if ss.length<64/\ss.all Yo=Wx then Zda (.lst ((ZcT ss).map .str)) h else .bad
  |none=>.bad
 |_=>.bad
def Znc(x d:D)(h:Hd):qe D:=match d with
 |.int d=>qe.ofO (((lstOf x h).bind intsOf).map λns=>.int (ZdQ ns d)) h
 |_=>.bad
def bMx(xs:List D)(h:Hd):qe D:=match xs with
 |[.int i,.int j]=>.ok (.int (if j > i then j else i)) h
 |[d]=>match (lstOf d h).bind intsOf with
  |some ns=>if ns≠[]then .ok (.int (ZdQ ns 0)) h else .bad
  |none=>.bad
 |_=>.bad
def ZbO(GD:Str->Option (List (Key×D))):Bf->List D->Hd->qe D
 |.len=>ZlS
 |.isi=>ZsQ
 |.int=>Zyr
 |.tup=>ZsP
 |.lst=>Zyn
 |.sum=>Zom
 |.all=>Zys
 |.srt=>ZfF GD
 |.mx=>bMx
noncomputable def ZqQ(x:D)(h:Hd):qe D:=match x with
 |.tup (y::ys)=>.ok (.tup (y::ys).reverse) h
 |_=>.bad
def Zyo(x:D)(h:Hd):qe D:=match x with
 |.tup ys=>Zda (.lst ys.reverse) h
 |_=>.bad
noncomputable def ZwY:D->Bool
 |.tup _=>Wx
 |_=>Wy
def Zol(x y:D)(h:Hd):qe D:=match x,y with
 |.tup xs,.str z=>match strsOf xs with
  |some ss=>qe.ofO ((Tx.place z ss).map λ(j:Nat)=>.int (j:Int)) h
  |none=>.bad
 |_,_=>.bad
def Zyp(x y:D)(h:Hd):qe D:=match lstOf x h,y with
 |some xs,.str z=>match strsOf xs with
  |some ss=>qe.ofO ((Tx.place z ss).map λ(j:Nat)=>.int (j:Int)) h
  |none=>.bad
 |_,_=>.bad
def Zyq(x y:D)(h:Hd):qe D:=match Zgv h x,Zgv h y with
 |some a,J (.list bs)=>if min (PyData.depthAll bs) a.depth<=1000 then .ok (.bl (bs.any λb=>YQ b a)) h else .bad
 |_,_=>.bad
def ZdN:List D->Option (List (Key×D))
 |[]=>J []
 |k::v::r=>match keyOf k,ZdN r with
  |some k,J r=>J ((k,v)::r)
  |_,_=>M
 |_=>M
def ZeR(kvs more:List (Key×D)):List (Key×D):=more.foldl (λag kv=>putD ag kv.1 kv.2) kvs
noncomputable def ZuJ(i:Nat)(ys xs:List D)(h:Hd):qe D:=match xs with
 |[d]=>if ys.length<sizeLine then .ok .non (h.set i (.lst (ys++[d])))else .bad
 |_=>.bad
noncomputable def Zr6(i:Nat)(ys xs:List D)(h:Hd):qe D:=match xs with
 |[.ref j]=>match h[j]? with
  |some (.lst zs)=>if ys.length+zs.length<=sizeLine then .ok .non (h.set i (.lst (ys++zs)))else .bad
  |_=>.bad
 |[.tup zs]=>if ys.length+zs.length<=sizeLine then .ok .non (h.set i (.lst (ys++zs)))else .bad
 |_=>.bad
noncomputable def ZuI(i:Nat)(ys xs:List D)(h:Hd):qe D:=match xs with
 |[]=>match ys[ys.length-1]? with
  |some y=>.ok y (h.set i (.lst ys.dropLast))
  |none=>.bad
 |_=>.bad
noncomputable def ZwN(i:Nat)(ys xs:List D)(h:Hd):qe D:=match xs with
 |[]=>.ok .non (h.set i (.lst ys.reverse))
 |_=>.bad
noncomputable def ZwO(i:Nat)(ys xs:List D)(h:Hd):qe D:=match xs with
 |[]=>.ok .non (h.set i (.lst []))
 |_=>.bad
def shD(x:D)(h:Hd):qe Str:=match Zgv h x with
 |some d=>if L2.Znp d=Wx then .ok d.shown h else .bad
 |none=>.bad
def ZhT:Mf->Nat->List D->List D->Hd->qe D
 |.app=>ZuJ
 |.ext=>Zr6
 |.pop=>ZuI
 |.rev=>ZwN
 |.clr=>ZwO
def Zcm(m:Mf)(o:D)(xs:List D)(h:Hd):qe D:=match o with
 |.ref i=>match h[i]? with
  |some (.lst ys)=>ZhT m i ys xs h
  |_=>.bad
 |_=>.bad
noncomputable def Zhb(o:D)(h:Hd):Bool:=match o with
 |.ref i=>match h[i]? with
  |some (.lst _)=>Wx
  |_=>Wy
 |_=>Wy
def ZbT(o i v:D)(h:Hd):qe Unit:=match o with
 |.ref a=>match h[a]? with
  |some (.lst xs)=>match i with
   |.int k=>match ixN xs.length k with
    |some j=>.ok () (h.set a (.lst (xs.set j v)))
    |none=>.bad
   |_=>.bad
  |some (.dic kvs)=>match keyOf i with
   |some k=>if kvs.length<sizeLine then .ok () (h.set a (.dic (putD kvs k v)))else .bad
   |none=>.bad
  |_=>.bad
 |_=>.bad
structure Wk where
 src:Option (Nat×List D)
 xs:List D
noncomputable def Wk.stays(src:Option (Nat×List D))(h:Hd):Bool:=match src with
 |none=>Wx
 |some (i,xs)=>Wz (h[i]?=J (.lst xs))
noncomputable def Zbg(d:D)(h:Hd):Option Wk:=match d with
 |.tup xs=>J ⟨M,xs⟩
 |.ro xs=>J ⟨M,xs⟩
 |.ref i=>match h[i]? with
  |some (.lst xs)=>J ⟨J (i,xs),xs⟩
  |_=>M
 |_=>M
noncomputable def Zh8(d:D)(h:Hd):Option Wk:=match d with
 |.ro xs=>J ⟨M,xs⟩
 |.ref i=>match h[i]? with
  |some (.lst xs)=>J ⟨J (i,xs),xs⟩
  |_=>M
 |_=>M
noncomputable def Zoz(d:D)(h:Hd):Option Wk:=match d with
 |.tup xs=>J ⟨M,xs⟩
 |.ref i=>match h[i]? with
  |some (.lst xs)=>J ⟨J (i,xs),xs⟩
  |_=>M
 |_=>M
noncomputable def ZP(lo:Int)(n:Nat):List D:=(List.range n).map λ(k:Nat)=>.int (lo+(k:Int))
noncomputable def ZdZ(xs:List D):List D:=xs.mapIdx λk x=>.tup [.int (k:Int),x]
noncomputable def Zvk(xs:List D):List D:=xs.mapIdx λk x=>.tup [.int ((k+1:Nat):Int),x]
noncomputable def ZwT:Key->D
 |.inl i=>.int i
 |.inr x=>.str x
def Zyg(x:D)(h:Hd):qe Wk:=match x with
 |.ref i=>match h[i]? with
  |some (.dic kvs)=>.ok ⟨M,kvs.map λp=>ZwT p.1⟩ (h.set i (.fdic kvs))
  |some (.fdic kvs)=>.ok ⟨M,kvs.map λp=>ZwT p.1⟩ h
  |_=>.bad
 |_=>.bad
noncomputable def ZbW(i:Int):Bool:=Wz (-(2^62)<=i)&&Wz (i<2^62)
noncomputable def Zk3:List Nat->List D->Ev->Ev
 |i::is,x::xs,S=>Zk3 is xs (S.set i (J x))
 |_,_,S=>S
def ZbV(g:Tg)(d:D)(S:Ev):Option Ev:=match g with
 |.nm i=>J (S.set i (J d))
 |.two i j=>match d with
  |.tup [a,b]=>J ((S.set i (J a)).set j (J b))
  |_=>M
 |.many is=>match d with
  |.tup xs=>if xs.length=is.length then J (Zk3 is xs S)else M
  |_=>M
def Zc2(js:List (Option Nat))(S:Ev):Ev:=js.map λo=>o.bind λj=>(S[j]?).join
inductive Fl where
 |nx|bk|ct|rt (d:D)
def ZJ(src:Option (Nat×List D))(g:Tg)(body:Ev->Hd->qe (Fl×Ev)):List D->Ev->Hd->qe (Fl×Ev)
 |[],S,h=>if Wk.stays src h then .ok (.nx,S) h else .bad
 |d::ds,S,h=>if Wk.stays src h then match ZbV g d S with
  |none=>.bad
  |some ρ1=>(body ρ1 h).bind λp h2=>match p with
   |(.nx,ρ2)=>ZJ src g body ds ρ2 h2
   |(.ct,ρ2)=>ZJ src g body ds ρ2 h2
   |(.bk,ρ2)=>.ok (.nx,ρ2) h2
   |(.rt d,ρ2)=>.ok (.rt d,ρ2) h2
  else .bad
noncomputable def Zaj(test:Ev->Hd->qe Bool)(body:Ev->Hd->qe (Fl×Ev)):Nat->Ev->Hd->qe (Fl×Ev)
 |0,_,_=>.bad
 |n+1,S,h=>(test S h).bind λb R=>if b then(body S R).bind λp h2=>match p with
  |(.nx,ρ2)=>Zaj test body n ρ2 h2
  |(.ct,ρ2)=>Zaj test body n ρ2 h2
  |(.bk,ρ2)=>.ok (.nx,ρ2) h2
  |(.rt d,ρ2)=>.ok (.rt d,ρ2) h2
  else .ok (.nx,S) R
noncomputable def qe.plain:qe α->qe α
 |.exc _ _=>.bad
 |r=>r
def ZV(src:Option (Nat×List D))(g:Tg)(test:Ev->Hd->qe Bool)(aE:Ev->Hd->qe D):List D->Ev->List D->Hd->qe (List D)
 |[],_,ag,h=>if Wk.stays src h then .ok ag h else .bad
 |d::ds,S,ag,h=>if Wk.stays src h/\ag.length<sizeLine then match ZbV g d S with
  |none=>.bad
  |some ρ1=>(test ρ1 h).bind λb R=>if b then(aE ρ1 R).bind λx h2=>ZV src g test aE ds S (ag++[x]) h2 else ZV src g test aE ds S ag R
  else .bad
noncomputable def Zvp(C:Str)(i:Nat)(S:Ev)(r:qe D):qe (Fl×Ev):=match r with
 |.bad=>.bad
 |.ok v h=>.ok (.nx,S.set i (J v)) h
 |.exc c h=>if c=C then .ok (.nx,S.set i (J .non)) h else .bad
noncomputable def Zjh(W w:Str)(i n:Nat)(S:Ev)(r:qe D):qe (Fl×Ev):=match r with
 |.bad=>.bad
 |.ok v h=>.ok (.nx,S.set i (J v)) h
 |.exc c h=>if c=W then .ok (.nx,((S.set n M).set i (J (.ref h.length))).set n M) (h++[.lst [.str w,.bl Wx]])else .bad
noncomputable def mnm(C m:Str):Str:=C++(O "." ++ m)
def Zai(d:D)(h:Hd):Option (Str×List (Str×D)):=match d with
 |.ref i=>match h[i]? with
  |some (.ins C fs)=>J (C,fs)
  |_=>M
 |_=>M
def ZfX(Cs:List Str)(f:Str)(x:D)(h:Hd):qe D:=match Zai x h with
 |some (C,fs)=>if C∈Cs then qe.ofO (fs.lookup f) h else .bad
 |none=>.bad
noncomputable def Zg1(f:Str)(v:D):List (Str×D)->List (Str×D)
 |[]=>[(f,v)]
 |(g,x)::r=>if g=f then(g,v)::r else(g,x)::Zg1 f v r
def ZfL(Cs:List Str)(f:Str)(x d:D)(h:Hd):qe D:=match x with
 |.ref i=>match h[i]? with
  |some (.ins C fs)=>if C∈Cs/\fs.length<1000 then .ok .non (h.set i (.ins C (Zg1 f d fs)))else .bad
  |_=>.bad
 |_=>.bad
def Zgx(Cf:Str->List D->Hd->qe D)(C:Str)(xs:List D)(h:Hd):qe D:=(Cf (mnm C (O "__init__")) (.ref h.length::xs) (h++[.ins C []])).bind λd h2=>match d with
 |.non=>.ok (.ref h.length) h2
 |_=>.bad
structure Tb where
 G:Str->Option D
 GD:Str->Option (List (Key×D))
 C:Str->List D->Hd->qe D
 L:Nat
mutual
def ev(T:Tb):Ex->Ev->Hd->qe D
 |.var i,S,h=>qe.ofO (S[i]?).join h
 |.cst d,_,h=>.ok d h
 |.glo x,_,h=>qe.ofO (T.G x) h
 |.bin op a b,S,h=>(ev T a S h).bind λx R=>(ev T b S R).bind λy h2=>opB op x y h2
 |.cmp op a b,S,h=>(ev T a S h).bind λx R=>(ev T b S R).bind λy h2=>opC T.GD op x y h2
 |.cmp2 op cT a b c,S,h=>(ev T a S h).bind λx R=>(ev T b S R).bind λy h2=>(opC T.GD op x y h2).bind λr h3=>match r with
  |.bl Wx=>(ev T c S h3).bind λz h4=>opC T.GD cT y z h4
  |.bl Wy=>.ok (.bl Wy) h3
  |_=>.bad
 |.neg a,S,h=>(ev T a S h).bind λx R=>match x with
  |.int i=>.ok (.int (-i)) R
  |_=>.bad
 |.nt a,S,h=>(ev T a S h).bind λx R=>match x with
  |.bl b=>.ok (.bl (!b)) R
  |_=>.bad
 |.ands es,S,h=>evAnd T es S h
 |.ors es,S,h=>evOr T es S h
 |.ite c a b,S,h=>(tst T c S h).bind λc R=>if c then ev T a S R else ev T b S R
 |.tupl es,S,h=>(evs T es S h).bind λxs R=>if xs.length<=sizeLine then .ok (.tup xs) R else .bad
 |.lstl es,S,h=>(evs T es S h).bind λxs R=>if xs.length<=sizeLine then Zda (.lst xs) R else .bad
 |.ix a i,S,h=>(ev T a S h).bind λx R=>(ev T i S R).bind λy h2=>ZbD T.GD x y h2
 |.sl a lo hi,S,h=>(ev T a S h).bind λx R=>(evo T lo S R).bind λl h2=>(evo T hi S h2).bind λu h3=>Zgw x l u h3
 |.blt f es,S,h=>(evs T es S h).bind λxs R=>ZbO T.GD f xs R
 |.call f es,S,h=>(evs T es S h).bind λxs R=>T.C f xs R
 |.meth m o es,S,h=>(ev T o S h).bind λx R=>if Zhb x R then(evs T es S R).bind λxs h2=>Zcm m x xs h2 else .bad
 |.comp _ js it g c e,S,h=>(evi T it S h).bind λw R=>(ZV w.src g (tsto T c) (ev T e) w.xs (Zc2 js S) [] R).bind λxs h2=>Zda (.lst xs) h2
 |.sorts e,S,h=>(ev T e S h).bind λx R=>match (lstOf x R).bind strsOf with
  |some ss=>if ss.length<64 then Zda (.lst ((ZcT ss.eraseDups).map .str)) R else .bad
  |none=>.bad
 |.maxd e d,S,h=>(ev T e S h).bind λx R=>(ev T d S R).bind λy h2=>Znc x y h2
 |.dictl ps,S,h=>(evs T ps S h).bind λxs R=>match ZdN xs with
  |some kvs=>if kvs.length<=15 then Zda (.dic (ZeR [] kvs)) R else .bad
  |none=>.bad
 |.att Cs o f,S,h=>(ev T o S h).bind λx R=>ZfX Cs f x R
 |.mk C es,S,h=>(evs T es S h).bind λxs R=>Zgx T.C C xs R
 |.mcl C m o es,S,h=>(ev T o S h).bind λx R=>match Zai x R with
  |some (C',fs)=>if C'=C/\fs.lookup m=M then(evs T es S R).bind λxs h2=>T.C (mnm C m) (x::xs) h2 else .bad
  |none=>.bad
 |.any,_,_=>.bad
 |.trev e,S,h=>(ev T e S h).bind λx R=>ZqQ x R
 |.lrv e,S,h=>(ev T e S h).bind λx R=>Zyo x R
 |.tix o e,S,h=>(ev T o S h).bind λx R=>if ZwY x then(ev T e S R).bind λy h2=>Zol x y h2 else .bad
 |.lix o e,S,h=>(ev T o S h).bind λx R=>if Zhb x R then(ev T e S R).bind λy h2=>Zyp x y h2 else .bad
 |.lin a b,S,h=>(ev T a S h).bind λx R=>(ev T b S R).bind λy h2=>Zyq x y h2
 |.rpn a b,S,h=>(ev T a S h).bind λx R=>(shD x R).bind λp R=>(ev T b S R).bind λy h2=>(shD y h2).bind λq h3=>.ok (.bl (!Wz (p=q))) h3
def evs(T:Tb):Exs->Ev->Hd->qe (List D)
 |.nil,_,h=>.ok [] h
 |.cons e es,S,h=>(ev T e S h).bind λx R=>(evs T es S R).bind λxs h2=>.ok (x::xs) h2
def evAnd(T:Tb):Exs->Ev->Hd->qe D
 |.nil,_,_=>.bad
 |.cons e es,S,h=>match es with
  |.nil=>ev T e S h
  |.cons _ _=>(ev T e S h).bind λx R=>match x with
   |.bl Wx=>evAnd T es S R
   |.bl Wy=>.ok (.bl Wy) R
   |_=>.bad
def evOr(T:Tb):Exs->Ev->Hd->qe D
 |.nil,_,_=>.bad
 |.cons e es,S,h=>match es with
  |.nil=>ev T e S h
  |.cons _ _=>(ev T e S h).bind λx R=>match x with
   |.bl Wx=>.ok (.bl Wx) R
   |.bl Wy=>evOr T es S R
   |_=>.bad
def evo(T:Tb):Option Ex->Ev->Hd->qe (Option Int)
 |none,_,h=>.ok M h
 |some e,S,h=>(ev T e S h).bind λx R=>match x with
  |.int i=>.ok (J i) R
  |_=>.bad
def tst(T:Tb):Tx->Ev->Hd->qe Bool
 |.ex e,S,h=>(ev T e S h).bind λx R=>qe.ofO (ZfI T.GD x R) R
 |.ands ts,S,h=>tstAnd T ts S h
 |.ors ts,S,h=>tstOr T ts S h
 |.nt a,S,h=>(tst T a S h).bind λc R=>.ok (!c) R
def tstAnd(T:Tb):Txs->Ev->Hd->qe Bool
 |.one t,S,h=>tst T t S h
 |.cons t ts,S,h=>(tst T t S h).bind λc R=>if c then tstAnd T ts S R else .ok Wy R
def tstOr(T:Tb):Txs->Ev->Hd->qe Bool
 |.one t,S,h=>tst T t S h
 |.cons t ts,S,h=>(tst T t S h).bind λc R=>if c then .ok Wx R else tstOr T ts S R
def tsto(T:Tb):Option Tx->Ev->Hd->qe Bool
 |none,_,h=>.ok Wx h
 |some e,S,h=>tst T e S h
def evi(T:Tb):Ix->Ev->Hd->qe Wk
 |.pl e,S,h=>(ev T e S h).bind λx R=>qe.ofO (Zbg x R) R
 |.rng e,S,h=>(ev T e S h).bind λx R=>match x with
  |.int j=>if ZbW j then .ok ⟨M,ZP 0 j.toNat⟩ R else .bad
  |_=>.bad
 |.rng2 a b,S,h=>(ev T a S h).bind λx R=>(ev T b S R).bind λy h2=>match x,y with
  |.int i,.int j=>if ZbW i&&ZbW j then .ok ⟨M,ZP i (j-i).toNat⟩ h2 else .bad
  |_,_=>.bad
 |.enu e,S,h=>(ev T e S h).bind λx R=>qe.ofO ((Zh8 x R).map λw=>⟨w.src,ZdZ w.xs⟩) R
 |.rev e,S,h=>(ev T e S h).bind λx R=>qe.ofO ((Zoz x R).map λw=>⟨w.src,w.xs.reverse⟩) R
 |.en1 e,S,h=>(ev T e S h).bind λx R=>match x with
  |.tup xs=>.ok ⟨M,Zvk xs⟩ R
  |_=>.bad
 |.en0 e,S,h=>(ev T e S h).bind λx R=>match x with
  |.tup xs=>.ok ⟨M,ZdZ xs⟩ R
  |_=>.bad
 |.dk e,S,h=>(ev T e S h).bind λx R=>Zyg x R
end
def ZxD(i j:Nat)(S:Ev)(x:D)(h:Hd):qe (Fl×Ev):=match lstOf x h with
 |some [a,b]=>.ok (.nx,(S.set i (J a)).set j (J b)) h
 |_=>.bad
mutual
def xs1(T:Tb):Sx->Ev->Hd->qe (Fl×Ev)
 |.ret e,S,h=>(ev T e S h).bind λx R=>.ok (.rt x,S) R
 |.set g e,S,h=>(ev T e S h).bind λx R=>(qe.ofO (ZbV g x S) R).bind λρ1 h2=>.ok (.nx,ρ1) h2
 |.put o i e,S,h=>(ev T e S h).bind λx R=>(ev T o S R).bind λy h2=>(ev T i S h2).bind λz h3=>(ZbT y z x h3).bind λ_ h4=>.ok (.nx,S) h4
 |.aug i op e,S,h=>(qe.ofO (S[i]?).join h).bind λx R=>(ev T e S R).bind λy h2=>match op,x,y with
  |.Add,.int a,.int b=>.ok (.nx,S.set i (J (.int (a+b)))) h2
  |_,_,_=>.bad
 |.drp e,S,h=>(ev T e S h).bind λ_ R=>.ok (.nx,S) R
 |.iff c a b,S,h=>(tst T c S h).bind λt R=>if t then xs2 T a S R else xs2 T b S R
 |.whl c b,S,h=>Zaj (tst T c) (xs2 T b) T.L S h
 |.forr g it b,S,h=>(evi T it S h).bind λw R=>ZJ w.src g (xs2 T b) w.xs S R
 |.pas,S,h=>.ok (.nx,S) h
 |.brk,S,h=>.ok (.bk,S) h
 |.cnt,S,h=>.ok (.ct,S) h
 |.seta Cs o f e,S,h=>(ev T e S h).bind λd R=>(ev T o S R).bind λx h2=>(ZfL Cs f x d h2).bind λ_ h3=>.ok (.nx,S) h3
 |.auga Cs o f e,S,h=>(ev T o S h).bind λx R=>(ZfX Cs f x R).bind λv h2=>(ev T e S h2).bind λy h3=>match v,y with
  |.int a,.int b=>if (Zai x R).map (·.1)=(Zai x h3).map (·.1)then(ZfL Cs f x (.int (a+b)) h3).bind λ_ h4=>.ok (.nx,S) h4 else .bad
  |_,_=>.bad
 |.any,_,_=>.bad
 |.rai C e,S,h=>(ev T e S h).bind λ_ R=>.exc C R
 |.trs i f es C,S,h=>(evs T es S h).plain.bind λxs R=>Zvp C i S (T.C f xs R)
 |.unl i j e,S,h=>(ev T e S h).bind λx R=>ZxD i j S x R
 |.trw i n f es _ W w,S,h=>(evs T es S h).plain.bind λxs R=>Zjh W w i n S (T.C f xs R)
def xs2(T:Tb):Sxs->Ev->Hd->qe (Fl×Ev)
 |.nil,S,h=>.ok (.nx,S) h
 |.cons s r,S,h=>(xs1 T s S h).bind λp R=>match p with
  |(.nx,ρ1)=>xs2 T r ρ1 R
  |p=>.ok p R
end
structure Fd where
 ps:List Str
 N:List Str
 body:Sxs
noncomputable abbrev fd_(n:Nat)(l:List String)(b:Sxs):Fd:=⟨(l.map O).take n,l.map O,b⟩
structure Pg where
 tb:List (Str×Fd)
 G:Str->Option D
 GD:Str->Option (List (Key×D))
 L:Nat
 ms:List (Str×Fd):=[]
noncomputable def Pg.look(P:Pg)(f:Str):Option Fd:=match P.tb.lookup f with
 |some fd=>J fd
 |none=>P.ms.lookup f
noncomputable def ZE(N:List Str)(ds:List D):Ev:=ds.map J++YK (N.length-ds.length) M
noncomputable def Ze:qe (Fl×Ev)->qe D
 |.ok (.rt d,_) h=>.ok d h
 |.ok (.nx,_) h=>.ok .non h
 |.exc c h=>.exc c h
 |_=>.bad
def run(P:Pg):Nat->Str->List D->Hd->qe D
 |0,_,_,_=>.bad
 |n+1,f,ds,h=>match P.look f with
  |none=>.bad
  |some fd=>if ds.length=fd.ps.length then Ze (xs2 ⟨P.G,P.GD,run P n,P.L⟩ fd.body (ZE fd.N ds) h)else .bad
def Pg.tbl(P:Pg)(n:Nat):Tb:=⟨P.G,P.GD,run P n,P.L⟩
def FzL(K:Yk)(H:Hp)(a:Yi)(xs:List V):Prop:=(∃o,H a=J (.frz o (.lst xs)))\/∃(o:Obj) (its:Array Yj) (n:Nat),K.lookup a=J o/\o.cls=.type "list" /\ o.dict=M/\o.data=.seq its n/\its.size<=sizeLine/\Zs xs its.toList
def FzL.sq{K:Yk}(h:FzL K H a xs):SqL K H a xs:=h.elim (λ⟨o,h⟩=>.inl (.inr ⟨o,h⟩)) .inr
structure Yx where
 K:Yk
 mg:Str->Option Yj
mutual
inductive RD(Y:Yx)(H:Hp)(B:List Yi):D->V->Prop
 |non:RD Y H B .non .non
 |bl (b:Bool):RD Y H B (.bl b) (.bl b)
 |int (i:Int):RD Y H B (.int i) (.int i)
 |str (x:Str) (ok:Yo x=Wx):RD Y H B (.str x) (.str x)
 |tup {a:Yi}{vs:List V}{ds:List D}:SqT Y.K H a vs->RDs Y H B ds vs->RD Y H B (.tup ds) (.ref a)
 |ref {i:Nat}{a:Yi}:B[i]?=J a->RD Y H B (.ref i) (.ref a)
 |ty (n:String):RD Y H B (.ty n) (.ty n)
 |ro {a:Yi}{vs:List V}{ds:List D}:FzL Y.K H a vs->RDs Y H B ds vs->RD Y H B (.ro ds) (.ref a)
 |kd {x:Str}{a:Yi}:Y.mg x=J (.ref a)->RD Y H B (.kd x) (.ref a)
inductive RDs(Y:Yx)(H:Hp)(B:List Yi):List D->List V->Prop
 |nil:RDs Y H B [] []
 |cons {d:D}{v:V}{ds:List D}{vs:List V}:RD Y H B d v->RDs Y H B ds vs->RDs Y H B (d::ds) (v::vs)
end
inductive RKs(Y:Yx)(H:Hp)(B:List Yi){κ:Type}:List (κ×D)->List (κ×V)->Prop
 |nil:RKs Y H B [] []
 |cons {k:κ}{d:D}{v:V}{ds:List (κ×D)}{vs:List (κ×V)}:RD Y H B d v->RKs Y H B ds vs->RKs Y H B ((k,d)::ds) ((k,v)::vs)
def RO(Y:Yx)(H:Hp)(B:List Yi)(a:Yi):DO->Prop
 |.lst ds=>∃vs,H a=J (.lst vs)/\RDs Y H B ds vs
 |.dic kvs=>∃aj,H a=J (.dK aj)/\RKs Y H B kvs aj
 |.ins C fs=>∃Ca dx bh,H a=J (.ins Ca dx bh)/\Y.mg C=J (.ref Ca)/\RKs Y H B fs bh
 |.fdic kvs=>∃o aj,H a=J (.frz o (.dK aj))/\RKs Y H B kvs aj
def Zdp(kvs:List (Key×D)):Prop:=∀p∈kvs,∀x,p.1=.inr x->Yo x=Wx
def DOk:DO->Prop
 |.dic kvs=>Zdp kvs
 |.fdic kvs=>Zdp kvs
 |_=>True
structure RH(Y:Yx)(H:Hp)(B:List Yi)(h:Hd):Prop where
 len:h.length=B.length
 nd:B.Nodup
 ob:∀(i:Nat) (o:DO) (a:Yi),h[i]?=J o->B[i]?=J a->RO Y H B a o
 ks:∀(i:Nat) (o:DO),h[i]?=J o->DOk o
structure Gr(H:Hp)(B:List Yi)(H':Hp)(μ':List Yi):Prop where
 pre:∀(i:Nat) (a:Yi),B[i]?=J a->μ'[i]?=J a
 new:∀a∈μ',a∈B\/H a=M
 keep:∀b o,b ∉ B->H b=J o->H' b=J o
 fz:∀b o u,H b=J (.frz o u)->H' b=J (.frz o u)
def Gr.refl:Gr H B H B:=⟨λ_ _ h=>h,λ_ h=>.inl h,λ_ _ _ h=>h,λ_ _ _ h=>h⟩
def Gr.trans(a:Gr H B H1 μ1)(b:Gr H1 μ1 H2 μ2):Gr H B H2 μ2:=by
 refine⟨λi x h=>b.pre i x (a.pre i x h),λx hx=>?_,λx o hx h=>?_,λx o u h=>b.fz x o u (a.fz x o u h)⟩
 . rcases b.new x hx with h|h
   . exact a.new x h
   . by_cases hm:x∈B
     . exact .inl hm
     . cases q:H x with
       |none=>exact .inr rfl
       |some o=>rw[a.keep x o hm q]at h;cases h
 . refine b.keep x o (λhm=>?_) (a.keep x o hx h);rcases a.new x hm with z|z
   . exact hx z
   . rw[h]at z;cases z
def Mu:Option HO->Prop
 |some (.lst _)|some (.dK _)|some (.ins _ _ _)|some (.frz _ (.dK _))=>True
 |_=>False
def RO.mut(h:RO Y H B a o):Mu (H a):=by
 cases o with
 |lst ds=>obtain⟨vs,e,_⟩:=h;rw[e];trivial
 |dic ds=>obtain⟨vs,e,_⟩:=h;rw[e];trivial
 |ins C ds=>obtain⟨_,_,_,e,_⟩:=h;rw[e];trivial
 |fdic ds=>obtain⟨_,_,e,_⟩:=h;rw[e];trivial
def RH.mem(r:RH Y H B h)(ha:a∈B):∃(i:Nat) (o:DO),B[i]?=J a/\h[i]?=J o/\RO Y H B a o:=by
 obtain⟨i,hi⟩:=List.mem_iff_getElem?.mp ha;have hl:i<h.length:=by rw[r.len];exact(Ob.mp hi).1
 exact⟨i,h[i],hi,Og hl,r.ob i _ a (Og hl) hi⟩
theorem RH.mut(r:RH Y H B h)(ha:a∈B):Mu (H a):=let⟨_,_,_,_,q⟩:=r.mem ha;q.mut
def Gr.rdT(r:RH Y H B h)(g:Gr H B H' μ')(t:SqT Y.K H a xs):SqT Y.K H' a xs:=by
 rcases t with t|t
 . rcases t with t|⟨o,t⟩
   . exact .inl (.inl (g.keep a _ (λhm=>by have:=r.mut hm;rw[t]at this;exact this) t))
   . exact .inl (.inr ⟨o,g.fz a _ _ t⟩)
 . exact .inr t
def Gr.rdF(r:RH Y H B h)(g:Gr H B H' μ')(t:FzL Y.K H a xs):FzL Y.K H' a xs:=by
 rcases t with⟨o,t⟩|t
 . exact .inl ⟨o,g.fz a _ _ t⟩
 . exact .inr t
section
variable {Y:Yx}{H H':Hp}{B μ':List Yi}{h:Hd}
structure Tr(Y:Yx)(H:Hp)(B:List Yi)(H':Hp)(μ':List Yi):Prop where
 t:∀{a xs},SqT Y.K H a xs->SqT Y.K H' a xs
 f:∀{a xs},FzL Y.K H a xs->FzL Y.K H' a xs
 m:∀{i:Nat}{a},B[i]?=J a->μ'[i]?=J a
mutual
theorem RD.tr(T:Tr Y H B H' μ'):∀{d:D}{v:V},RD Y H B d v->RD Y H' μ' d v
 |_,_,.non=>.non
 |_,_,.bl b=>.bl b
 |_,_,.int i=>.int i
 |_,_,.str x ok=>.str x ok
 |_,_,.tup t s=>.tup (T.t t) (RDs.tr T s)
 |_,_,.ref e=>.ref (T.m e)
 |_,_,.ty n=>.ty n
 |_,_,.ro t s=>.ro (T.f t) (RDs.tr T s)
 |_,_,.kd e=>.kd e
theorem RDs.tr(T:Tr Y H B H' μ'):∀{d:List D}{v:List V},RDs Y H B d v->RDs Y H' μ' d v
 |_,_,.nil=>.nil
 |_,_,.cons a s=>.cons (RD.tr T a) (RDs.tr T s)
end
theorem RKs.tr(T:Tr Y H B H' μ'):∀{d:List (κ×D)}{v:List (κ×V)},RKs Y H B d v->RKs Y H' μ' d v
 |_,_,.nil=>.nil
 |_,_,.cons a s=>.cons (a.tr T) (RKs.tr T s)
theorem RO.tr(T:Tr Y H B H' μ')(q:RO Y H B a o)(e:H' a=H a):RO Y H' μ' a o:=by
 cases o with
 |lst ds=>obtain⟨vs,z,s⟩:=q;exact⟨vs,e.trans z,s.tr T⟩
 |dic ds=>obtain⟨vs,z,s⟩:=q;exact⟨vs,e.trans z,s.tr T⟩
 |ins C ds=>obtain⟨a1,a2,a3,z,m,s⟩:=q;exact⟨a1,a2,a3,e.trans z,m,s.tr T⟩
 |fdic ds=>obtain⟨o,vs,z,s⟩:=q;exact⟨o,vs,e.trans z,s.tr T⟩
def Gr.tr(r:RH Y H B h)(g:Gr H B H' μ'):Tr Y H B H' μ':=⟨g.rdT r,g.rdF r,g.pre _ _⟩
def RD.mono(r:RH Y H B h)(g:Gr H B H' μ')(q:RD Y H B d v):RD Y H' μ' d v:=q.tr (g.tr r)
def RDs.mono(r:RH Y H B h)(g:Gr H B H' μ')(q:RDs Y H B d v):RDs Y H' μ' d v:=q.tr (g.tr r)
def RKs.mono{d:List (κ×D)}(r:RH Y H B h)(g:Gr H B H' μ')(q:RKs Y H B d v):RKs Y H' μ' d v:=q.tr (g.tr r)
theorem RDs.length:∀{d:List D}{v:List V},RDs Y H B d v->d.length=v.length
 |_,_,.nil=>rfl
 |_,_,.cons a s=>by rw[Os,Os,s.length]
theorem RKs.length:∀{d:List (κ×D)}{v:List (κ×V)},RKs Y H B d v->d.length=v.length
 |_,_,.nil=>rfl
 |_,_,.cons a s=>by rw[Os,Os,s.length]
theorem RDs.get:∀{ds:List D}{vs:List V},RDs Y H B ds vs->∀{i:Nat}{d:D},ds[i]?=J d->∃v,vs[i]?=J v/\RD Y H B d v
 |_,_,.nil,i,d,e=>by simp at e
 |_,_,.cons a s,0,d,e=>by cases e;exact⟨_,rfl,a⟩
 |_,_,.cons a s,i+1,d,e=>by obtain⟨v,R,h2⟩:=RDs.get s (i:=i) (d:=d) (by simpa using e);exact⟨v,by simpa using R,h2⟩
theorem RDs.append:∀{ds es:List D}{vs ws:List V},RDs Y H B ds vs->RDs Y H B es ws->RDs Y H B (ds++es) (vs++ws)
 |_,_,_,_,.nil,s=>s
 |_,_,_,_,.cons a r,s=>.cons a (r.append s)
theorem RDs.take:∀{ds:List D}{vs:List V} (n:Nat),RDs Y H B ds vs->RDs Y H B (ds.take n) (vs.take n)
 |_,_,0,_=>.nil
 |_,_,_+1,.nil=>.nil
 |_,_,n+1,.cons a s=>.cons a (s.take n)
theorem RDs.drop:∀{ds:List D}{vs:List V} (n:Nat),RDs Y H B ds vs->RDs Y H B (ds.drop n) (vs.drop n)
 |_,_,0,s=>s
 |_,_,_+1,.nil=>.nil
 |_,_,n+1,.cons a s=>s.drop n
theorem RDs.reverse(s:RDs Y H B ds vs):RDs Y H B ds.reverse vs.reverse:=by
 have gen:∀{ds es:List D}{vs ws:List V},RDs Y H B ds vs->RDs Y H B es ws->RDs Y H B (ds.reverseAux es) (vs.reverseAux ws):=by
  intro ds;induction ds with
  |nil=>intro es vs ws a b;cases a;exact b
  |cons d ds ih=>
   intro es vs ws a b;cases a with
   |cons a s=>have z:=ih s (RDs.cons a b);exact z
 exact gen s .nil
theorem RDs.dropLast(s:RDs Y H B ds vs):RDs Y H B ds.dropLast vs.dropLast:=by rw[List.dropLast_eq_take,List.dropLast_eq_take,s.length];exact s.take _
theorem RDs.set(r:RD Y H B d v):∀{ds:List D}{vs:List V} (i:Nat),RDs Y H B ds vs->RDs Y H B (ds.set i d) (vs.set i v)
 |_,_,_,.nil=>.nil
 |_,_,0,.cons _ s=>.cons r s
 |_,_,i+1,.cons a s=>.cons a (RDs.set r i s)
def RDs.cut(s:RDs Y H B ds vs)(lo hi:Option Int):RDs Y H B (cutD ds lo hi) (Zks vs lo hi):=by unfold cutD Zks;rw[s.length];exact(s.drop _).take _
theorem RDs.isEmpty(s:RDs Y H B ds vs):ds.isEmpty=vs.isEmpty:=by cases s<;>rfl
theorem RDs.atI(s:RDs Y H B ds vs)(e:L2.atI ds i=J d):∃v,L2.atI vs i=J v/\RD Y H B d v:=by
 unfold L2.atI at e ⊢;rw[s.length]at e;cases q:ixN vs.length i with
 |none=>rw[q]at e;cases e
 |some j=>rw[q]at e;exact s.get (i:=j) e
theorem RKs.val[DecidableEq κ]:∀{ds:List (κ×D)}{vs:List (κ×V)},RKs Y H B ds vs->∀(k:κ),((ds.find? λp=>Wz (p.1=k))=M/\(vs.find? λp=>Wz (p.1=k))=M)\/∃d v,(ds.find? λp=>Wz (p.1=k))=J (k,d)/\(vs.find? λp=>Wz (p.1=k))=J (k,v)/\RD Y H B d v
 |_,_,.nil,k=>.inl ⟨rfl,rfl⟩
 |_,_,.cons (k:=k') (d:=d) (v:=v) a s,k=>by
  by_cases e:k'=k
  . subst e;exact .inr ⟨d,v,by simp,by simp,a⟩
  . rcases s.val k with⟨R,h2⟩|⟨d,v,R,h2,h3⟩
    . exact .inl ⟨by simp[e,R],by simp[e,h2]⟩
    . exact .inr ⟨d,v,by simp[e,R],by simp[e,h2],h3⟩
end
def Zu0{α:Type}{l:List α}(hl:l.Nodup){i j:Nat}{x:α}(a:l[i]?=J x)(b:l[j]?=J x):i=j:=by obtain⟨R,e1⟩:=Ob.mp a;obtain⟨h2,e2⟩:=Ob.mp b;exact(List.getElem_inj hl).mp (e1.trans e2.symm)
section
variable {Y:Yx}{H:Hp}{B:List Yi}{h:Hd}
def Gr.add(g:Gr H0 μ0 H B)(hp:H0 p=M):Gr H0 μ0 H (B++[p]):=⟨λi a e=>by have e:=g.pre i a e;rw[Oe (Ob.mp e).1];exact e,λa ha=>(OD.mp ha).elim (g.new a) λz=>by rw[Ox.mp z];exact .inr hp,g.keep,g.fz⟩
def ZoC{H0 H:Hp}(hp:H0 p=M)(e:H0 b=J u):upd H p o b=H b:=Zq λz=>by rw[z,hp]at e;cases e
def Gr.put(g:Gr H0 μ0 H B)(hp:H0 p=M):Gr H0 μ0 (upd H p o) B:=⟨g.pre,g.new,λb u hb e=>(ZoC hp e).trans (g.keep b u hb e),λb u v e=>(ZoC hp e).trans (g.fz b u v e)⟩
def Gr.lay0(hp:H p=M):Gr H B (upd H p o) B:=Gr.refl.put hp
def Gr.lay(hp:H p=M):Gr H B (upd H p o) (B++[p]):=(Gr.lay0 hp).add hp
def NF:Option HO->Prop
 |some (.frz _ _)=>False
 |_=>True
def Gr.write(hp:p∈B)(nf:NF (H p)):Gr H B (upd H p o) B:=⟨λ_ _ e=>e,λa ha=>.inl ha,λb u hb e=>by rw[Zq (show b≠p from λz=>hb (by rw[z];exact hp))];exact e,λb u v e=>by rw[Zq (λz=>by rw[z]at e;rw[e]at nf;exact nf)];exact e⟩
def RO.mono(r:RH Y H B h)(g:Gr H B H' μ')(q:RO Y H B a o)(e:H' a=H a):RO Y H' μ' a o:=q.tr (g.tr r) e
theorem RH.tr(r:RH Y H B h)(T:Tr Y H B H' B)(k:∀a∈B,H' a=H a):RH Y H' B h:=⟨r.len,r.nd,λi o a e1 e2=>(r.ob i o a e1 e2).tr T (k a (O1 e2)),r.ks⟩
def RH.keep(r:RH Y H B h)(g:Gr H B H' B)(k:∀a∈B,H' a=H a):RH Y H' B h:=r.tr (g.tr r) k
def Tr.more:Tr Y H B H (B++[p]):=⟨id,id,λe=>by rw[Oe (Ob.mp e).1];exact e⟩
def ZuU(k:∀(i:Nat) (o:DO),h[i]?=J o->DOk o)(dk:DOk o):∀(i:Nat) (o':DO),(h++[o])[i]?=J o'->DOk o':=by
 intro i o' e1;by_cases hi:i<h.length
 . rw[Oe hi]at e1;exact k i o' e1
 . have gU:i=h.length:=by
    have:=(Ob.mp e1).1;simp at this
    lia
   subst gU;rw[Om (Oq _)]at e1;simp at e1;subst e1;exact dk
def RH.add(r:RH Y H B h)(np:p ∉ B)(n:RO Y H (B++[p]) p o)(dk:DOk o:=by trivial):RH Y H (B++[p]) (h++[o]):=by
 refine⟨by simp[r.len],?_,λi o' a e1 e2=>?_,ZuU r.ks dk⟩
 . rw[List.nodup_append];refine⟨r.nd,by simp,λa ha b hb=>?_⟩;rw[Ox.mp hb];intro z;exact np (z▸ha)
 . by_cases hi:i<h.length
   . rw[Oe hi]at e1;rw[Oe (by rw[<-r.len];exact hi)]at e2;exact(r.ob i o' a e1 e2).tr .more rfl
   . have gU:i=h.length:=by
      have:=(Ob.mp e1).1;simp at this
      lia
     subst gU;rw[Om (Oq _)]at e1;rw[Om (by rw[r.len];exact Oq _)]at e2;simp[r.len]at e1 e2;subst e1;subst e2;exact n
def RH.fr(r:RH Y H B h)(hp:H p=M):p ∉ B:=λz=>by have:=r.mut z;rw[hp]at this;exact this
theorem RH.lay0(r:RH Y H B h)(hp:H p=M):RH Y (upd H p u) B h:=r.keep (Gr.lay0 hp) λa ha=>Zq λz=>r.fr hp (z▸ha)
def RH.lay(r:RH Y H B h)(hp:H p=M)(n:RO Y (upd H p u) (B++[p]) p o)(dk:DOk o:=by trivial):RH Y (upd H p u) (B++[p]) (h++[o]):=(r.lay0 hp).add (r.fr hp) n dk
theorem RH.write{p:Yi}{i:Nat}{u:HO}{o:DO}(r:RH Y H B h)(hp:B[i]?=J p)(n:RO Y (upd H p u) B p o)(nf:NF (H p))(dk:DOk o:=by trivial):RH Y (upd H p u) B (h.set i o):=by
 have hm:p∈B:=O1 hp;refine⟨by simp[r.len],r.nd,λj o' a e1 e2=>?_,λj o' e1=>?_⟩
 rotate_right
 . by_cases hj:j=i
   . subst hj;have hl:j<h.length:=by rw[r.len];exact(Ob.mp hp).1
     rw[Ol hl]at e1;cases e1;exact dk
   . rw[Oc (YL hj)]at e1;exact r.ks j o' e1
 by_cases hj:j=i
 . subst hj;rw[hp]at e2;cases e2;have hl:j<h.length:=by rw[r.len];exact(Ob.mp hp).1
   rw[Ol hl]at e1;cases e1;exact n
 . rw[Oc (YL hj)]at e1;refine(r.ob j o' a e1 e2).mono r (Gr.write hm nf) (Zq λz=>hj ?_);subst z;exact Zu0 r.nd e2 hp
end
def Fin(Y:Yx)(rel:Hp->List Yi->α->β->Prop)(H:Hp)(B:List Yi)(r:qe α)(Q:β->Hp->Prop)(E:XK):Prop:=match r with
 |.bad=>False
 |.ok a h'=>∀b H' μ',Gr H B H' μ'->RH Y H' μ' h'->rel H' μ' a b->Q b H'
 |.exc c h'=>∀H' μ' C,Gr H B H' μ'->RH Y H' μ' h'->Y.mg c=J (.ref C)->E (.ref C) M H'
section
variable {Y:Yx}{α β α' β':Type}{rel:Hp->List Yi->α->β->Prop}{ba:Hp->List Yi->α'->β'->Prop}{H H1:Hp}{B μ1:List Yi}{E:XK}
def Fin.mono(g:Gr H B H1 μ1)(f:Fin Y rel H B r Q E):Fin Y rel H1 μ1 r Q E:=by
 cases r with
 |bad=>exact f
 |ok a h=>exact λb H' μ' g'=>f b H' μ' (g.trans g')
 |exc c h=>exact λH' μ' C g'=>f H' μ' C (g.trans g')
theorem Fin.bind(f:Fin Y ba H B (r.bind k) Q E)
 (hk:∀a R b H1 μ1,r=.ok a R->Gr H B H1 μ1->RH Y H1 μ1 R->rel H1 μ1 a b->Fin Y ba H1 μ1 (k a R) Q E->Q1 b H1):Fin Y rel H B r Q1 E:=by
 cases r with
 |bad=>exact f
 |ok a h=>exact λb H' μ' g' rh rl=>hk a h b H' μ' rfl g' rh rl (Fin.mono g' f)
 |exc c h=>exact f
theorem Fin.ok(f:Fin Y rel H B (.ok a h) Q E)(rh:RH Y H B h)(r:rel H B a b):Q b H:=f b H B Gr.refl rh r
def Fin.at(f:Fin Y rel H B (.ok a h) Q E)(g:Gr H B H1 μ1)(rh:RH Y H1 μ1 h)(r:rel H1 μ1 a b):Q b H1:=f b H1 μ1 g rh r
theorem Fin.ofO(f:Fin Y rel H B (qe.ofO o h) Q E):∃a,o=J a/\Fin Y rel H B (.ok a h) Q E:=by
 cases o with
 |none=>exact f.elim
 |some a=>exact⟨a,rfl,f⟩
def Fin.iff[Decidable c](f:Fin Y rel H B (if c then r else .bad) Q E):c/\Fin Y rel H B r Q E:=by
 by_cases h:c
 . rw[if_pos h]at f;exact⟨h,f⟩
 . rw[if_neg h]at f;exact f.elim
def Fin.new(f:Fin Y (RD Y) H B (Zda o h) Q E)(rh:RH Y H B h)(hp:H p=M)(n:RO Y (upd H p u) (B++[p]) p o)(dk:DOk o:=by trivial):Q (.ref p) (upd H p u):=f.at (Gr.lay hp) (rh.lay hp n dk) (.ref (by rw[rh.len];simp))
theorem Fin.tup(f:Fin Y (RD Y) H B (.ok (.tup ds) h) Q E)(rh:RH Y H B h)(hp:H p=M)(r:RDs Y H B ds vs):Q (.ref p) (upd H p (.tup vs)):=f.at (Gr.lay0 hp) (rh.lay0 hp) (.tup (.inl (.inl Zp)) (r.mono rh (Gr.lay0 hp)))
def Fin.wrote(f:Fin Y rel H B (.ok a (h.set i o)) Q E)(rh:RH Y H B h)(hp:B[i]?=J p)(n:RO Y (upd H p u) B p o)(r:rel (upd H p u) B a b)(nf:NF (H p))(dk:DOk o:=by trivial):Q b (upd H p u):=f.at (Gr.write (O1 hp) nf) (rh.write hp n nf dk) r
end
section
variable {Y:Yx}{H:Hp}{B:List Yi}{h:Hd}
theorem RD.lst(rh:RH Y H B h)(r:RD Y H B (.ref i) v)(e:h[i]?=J (.lst xs)):∃a vs,v=.ref a/\B[i]?=J a/\H a=J (.lst vs)/\RDs Y H B xs vs:=by
 cases r with
 |ref q=>obtain⟨vs,R,h2⟩:=rh.ob i _ _ e q;exact⟨_,vs,rfl,q,R,h2⟩
theorem RD.dic(rh:RH Y H B h)(r:RD Y H B (.ref i) v)(e:h[i]?=J (.dic xs)):∃a vs,v=.ref a/\B[i]?=J a/\H a=J (.dK vs)/\RKs Y H B xs vs:=by
 cases r with
 |ref q=>obtain⟨vs,R,h2⟩:=rh.ob i _ _ e q;exact⟨_,vs,rfl,q,R,h2⟩
theorem RD.lstOf(rh:RH Y H B h)(r:RD Y H B d v)(e:lstOf d h=J xs):∃a vs,v=.ref a/\SqL Y.K H a vs/\RDs Y H B xs vs:=by
 cases d with
 |ref i=>
  unfold IV.lstOf at e;simp only at e;split at e
  . cases e;rename_i q;obtain⟨a,vs,R,h2,h3,h4⟩:=r.lst rh q;exact⟨a,vs,R,.of h3,h4⟩
  . cases e
 |ro ys=>
  cases e;cases r with
  |ro q s=>exact⟨_,_,rfl,q.sq,s⟩
 |_=>cases e
theorem RD.seqOf(rh:RH Y H B h)(r:RD Y H B d v)(e:seqOf d h=J xs):∃a vs,v=.ref a/\(SqL Y.K H a vs\/SqT Y.K H a vs)/\RDs Y H B xs vs:=by
 by_cases ht:∃ys,d=.tup ys
 . obtain⟨ys,rfl⟩:=ht;cases e;cases r with
   |tup q s=>exact⟨_,_,rfl,.inr q,s⟩
 . have e':IV.lstOf d h=J xs:=by
    cases d with
    |tup ys=>exact absurd ⟨ys,rfl⟩ ht
    |_=>exact e
   obtain⟨a,vs,R,h2,h3⟩:=r.lstOf rh e';exact⟨a,vs,R,.inl h2,h3⟩
def RD.int_inv(r:RD Y H B (.int i) v):v=.int i:=by cases r;rfl
def RD.str_inv(r:RD Y H B (.str i) v):v=.str i/\Yo i=Wx:=by cases r with|str x ok=>exact⟨rfl,ok⟩
def RD.tup_inv(r:RD Y H B (.tup ds) v):∃a vs,v=.ref a/\SqT Y.K H a vs/\RDs Y H B ds vs:=by cases r with|tup q s=>exact⟨_,_,rfl,q,s⟩
def Zij(hx:Yo x=Wx)(hy:Yo y=Wx):Yo (x++y)=Wx:=by show(x.cps++y.cps).all _=Wx;rw[Array.all_append];unfold Yo at hx hy;rw[hx,hy];rfl
def ZpM(hx:Yo x=Wx)(n:Nat):Yo (ZfM x n)=Wx:=by
 have gen:∀(n:Nat) (a:Array Nat),a.all (·<0x110000)=Wx->((YK n x.cps).foldl (·++·) a).all (·<0x110000)=Wx:=by
  intro n;induction n with
  |zero=>intro a h;exact h
  |succ n ih=>intro a h;rw[List.replicate_succ,Wr];refine ih _ ?_;rw[Array.all_append,h];exact hx
 exact gen n #[] (by simp)
def ZpN(hx:Yo x=Wx)(h:c∈x.cps.toList):Yo ⟨#[c]⟩=Wx:=by unfold Yo at hx ⊢;rw[Array.all_eq_true']at hx;have:=hx c (by simpa using h);simpa using this
def Zr4(h:atI xs i=J x):x∈xs:=by
 unfold atI at h;cases q:ixN xs.length i with
 |none=>rw[q]at h;cases h
 |some j=>rw[q]at h;exact O1 (i:=j) h
end
section
variable {X:Cx}{Y:Yx}{E:XK}
noncomputable def rB(Y:Yx)(E:XK)(f:D->D->Hd->qe D):R2:=λx y H Q=>∃dx dy h B,RH Y H B h/\RD Y H B dx x/\RD Y H B dy y/\Fin Y (RD Y) H B (f dx dy h) Q E
theorem Fin.int2(f:Fin Y (RD Y) H B (int2 x y k) Q E):∃i j,x=.int i/\y=.int j/\Fin Y (RD Y) H B (k i j) Q E:=by
 cases x with
 |int i=>
  cases y with
  |int j=>exact⟨i,j,rfl,rfl,f⟩
  |_=>exact f.elim
 |_=>exact f.elim
def ZuA(hY:Y.K=X.K)(op:Operator):OpR X (binaryOp op) (rB Y E (opB op)):=by
 intro aa s Z H x y v u Q I rx ry hh;obtain⟨dx,dy,h,B,rh,r1,r2,f⟩:=hh;cases op with
 |Add=>
  have f:Fin Y (RD Y) H B (ZsS dx dy h) Q E:=f;cases dx with
  |int i=>
   cases dy with
   |int j=>cases r1;cases r2;exact Zux aa s Z H _ _ v u Q I rx ry ⟨_,_,rfl,rfl,f.ok rh (.int _)⟩
   |_=>exact f.elim
  |str i=>
   cases dy with
   |str j=>
    obtain⟨hz,f⟩:=Fin.iff f;cases r1 with|str _ o1=>
    cases r2 with|str _ o2=>
    exact Zll aa s Z H _ _ v u Q I rx ry ⟨_,_,rfl,rfl,hz,f.ok rh (.str _ (Zij o1 o2))⟩
   |_=>exact f.elim
  |tup xs=>
   cases dy with
   |tup ys=>
    obtain⟨hz,f⟩:=Fin.iff f;obtain⟨a,vs,rfl,t1,s1⟩:=r1.tup_inv;obtain⟨b,ws,rfl,t2,s2⟩:=r2.tup_inv;rw[s1.length,s2.length]at hz;by_cases h0:vs=[]
    . subst h0;cases s1;exact ZrP aa s Z H _ _ v u Q I rx ry ⟨a,b,ws,rfl,rfl,hY▸t1,hY▸t2,f.ok rh (.tup t2 s2)⟩
    . refine ZrO aa s Z H _ _ v u Q I rx ry ⟨a,b,vs,ws,rfl,rfl,hY▸t1,hY▸t2,h0,hz,λe=>?_,λe p hp=>f.tup rh hp (s1.append s2)⟩;subst e;cases s2;rw[Ys]at f;exact f.ok rh (.tup t1 s1)
   |_=>exact f.elim
  |ref i=>
   cases dy with
   |ref j=>
    unfold ZsS at f;simp only at f;split at f
    . rename_i e1;split at f
      . rename_i e2;obtain⟨hz,f⟩:=f.iff;obtain⟨a,vs,rfl,_,R,s1⟩:=r1.lst rh e1;obtain⟨b,ws,rfl,_,h2,s2⟩:=r2.lst rh e2;rw[s1.length,s2.length]at hz;exact Zuw aa s Z H _ _ v u Q I rx ry ⟨a,b,vs,ws,rfl,rfl,R,h2,hz,λp hp=>f.new rh hp ⟨_,Zp,(s1.append s2).mono rh (Gr.lay hp)⟩⟩
      . exact f.elim
    . exact f.elim
   |_=>exact f.elim
  |_=>exact f.elim
 |Sub=>obtain⟨i,j,rfl,rfl,f⟩:=Fin.int2 f;cases r1;cases r2;exact Zur aa s Z H _ _ v u Q I rx ry ⟨_,_,rfl,rfl,f.ok rh (.int _)⟩
 |Mult=>
  have f:Fin Y (RD Y) H B (ZwK dx dy h) Q E:=f;cases dx with
  |str z=>
   cases dy with
   |int n=>
    obtain⟨hz,f⟩:=Fin.iff f;cases r1 with|str _ o1=>
    cases r2;exact ZrM aa s Z H _ _ v u Q I rx ry ⟨_,_,rfl,rfl,hz.1,hz.2.1,hz.2.2,f.ok rh (.str _ (ZpM o1 _))⟩
   |_=>exact f.elim
  |int i=>obtain⟨i,j,e1,rfl,f⟩:=Fin.int2 (show Fin Y (RD Y) H B (IV.int2 (.int i) dy λi j=>if i.natAbs<2^2000/\j.natAbs<2^2000 then .ok (.int (i*j)) h else .bad) Q E from f);cases e1;obtain⟨hz,f⟩:=f.iff;cases r1;cases r2;exact ZnN aa s Z H _ _ v u Q I rx ry ⟨_,_,rfl,rfl,hz,f.ok rh (.int _)⟩
  |_=>exact f.elim
 |Mod=>obtain⟨i,j,rfl,rfl,f⟩:=Fin.int2 f;obtain⟨hz,f⟩:=f.iff;cases r1;cases r2;exact Zut aa s Z H _ _ v u Q I rx ry ⟨_,_,rfl,rfl,hz,f.ok rh (.int _)⟩
 |FloorDiv=>obtain⟨i,j,rfl,rfl,f⟩:=Fin.int2 f;obtain⟨hz,f⟩:=f.iff;cases r1;cases r2;exact ZrN aa s Z H _ _ v u Q I rx ry ⟨_,_,rfl,rfl,hz,f.ok rh (.int _)⟩
 |Pow=>obtain⟨i,j,rfl,rfl,f⟩:=Fin.int2 f;obtain⟨hz,f⟩:=f.iff;cases r1;cases r2;exact Zus aa s Z H _ _ v u Q I rx ry ⟨_,_,rfl,rfl,hz,f.ok rh (.int _)⟩
 |_=>exact f.elim
end
set_option tactic.hygienic true
structure Gk(X:Cx)(Y:Yx)(T:Tb):Prop where
 K:Y.K=X.K
 mg:Y.mg=X.mg
 gd:∀x kvs,T.GD x=J kvs->∃a aj,X.mg x=J (.ref a)/\DkK X.prog X.w X.K a aj/\∀H B,RKs Y H B kvs aj
 g:∀x d,T.G x=J d->∃v u,X.mg x=J u/\RelV v u/\∀H B,RD Y H B d v
 bare:ZcS X.K=Wx
section
variable {X:Cx}{Y:Yx}{E:XK}{T:Tb}{H:Hp}{B:List Yi}{h:Hd}
theorem RD.dicOf(G:Gk X Y T)(rh:RH Y H B h)(r:RD Y H B d v)(e:dicOf T.GD d h=J kvs):∃a aj,v=.ref a/\Dk X.prog X.w X.K H a aj/\RKs Y H B kvs aj:=by
 cases d with
 |ref i=>
  unfold IV.dicOf at e;simp only at e;split at e
  . cases e;rename_i q;obtain⟨a,vs,R,_,h3,h4⟩:=r.dic rh q;exact⟨a,vs,R,.inl (.inl h3),h4⟩
  . cases e;rename_i q;cases r with
    |ref qm=>obtain⟨o,vs,R,h2⟩:=rh.ob i _ _ q qm;exact⟨_,vs,rfl,.inl (.inr ⟨o,R⟩),h2⟩
  . cases e
 |kd x=>
  obtain⟨a,aj,R,h2,h3⟩:=G.gd x kvs e;cases r with
  |kd q=>rw[G.mg,R]at q;cases q;exact⟨a,aj,rfl,.inr h2,h3 H B⟩
 |_=>cases e
def Zp8(r:RD Y H B d v)(e:keyOf d=J k):∀x,k=.inr x->Yo x=Wx:=by
 cases d with
 |int i=>cases e;intro x z;cases z
 |str i=>
  cases e;intro x z;cases z;cases r with
  |str _ ok=>exact ok
 |_=>cases e
def Zha(h:Zdp kvs)(hk:∀x,k=.inr x->Yo x=Wx):Zdp (putD kvs k c):=by
 intro p hp x e;unfold putD at hp;split at hp
 . obtain⟨q,hq,rfl⟩:=List.mem_map.mp hp;refine h q hq x ?_;split at e<;>exact e
 . rcases OD.mp hp with hp|hp
   . exact h p hp x e
   . rw[Ox.mp hp]at e;exact hk x e
def Zeq(r:RD Y H B d v)(e:keyOf d=J k):v=kV k:=by
 cases d with
 |int i=>cases e;cases r;rfl
 |str i=>cases e;cases r;rfl
 |_=>cases e
def RKs.valV_rel(s:RKs Y H B ds vs)(k:Key):(ZbA ds k=M/\Ze7 vs k=M)\/∃d v,ZbA ds k=J d/\Ze7 vs k=J v/\RD Y H B d v:=by
 unfold ZbA Ze7;rcases s.val k with⟨R,h2⟩|⟨d,v,R,h2,h3⟩
 . exact .inl ⟨by rw[R];rfl,by rw[h2];rfl⟩
 . exact .inr ⟨d,v,by rw[R];rfl,by rw[h2];rfl,h3⟩
theorem RKs.any_rel(k:Key):∀{ds:List (Key×D)}{vs:List (Key×V)},RKs Y H B ds vs->(ds.any λkv=>Wz (kv.1=k))=(vs.any λkv=>Wz (kv.1=k))
 |_,_,.nil=>rfl
 |_,_,.cons a s=>by rw[Wf,Wf,s.any_rel k]
theorem RKs.map_rel(k:Key)(r:RD Y H B d v):∀{ds:List (Key×D)}{vs:List (Key×V)},RKs Y H B ds vs->RKs Y H B (ds.map λkv=>if kv.1=k then(kv.1,d)else kv) (vs.map λkv=>if kv.1=k then(kv.1,v)else kv)
 |_,_,.nil=>.nil
 |_,_,.cons (k:=k') a s=>by
  rw[Op,Op];by_cases e:k'=k
  . rw[if_pos e,if_pos e];exact .cons r (s.map_rel k r)
  . rw[if_neg e,if_neg e];exact .cons a (s.map_rel k r)
theorem RKs.append:∀{ds es:List (κ×D)}{vs ws:List (κ×V)},RKs Y H B ds vs->RKs Y H B es ws->RKs Y H B (ds++es) (vs++ws)
 |_,_,_,_,.nil,s=>s
 |_,_,_,_,.cons a r,s=>.cons a (r.append s)
def RKs.put(s:RKs Y H B ds vs)(k:Key)(r:RD Y H B d v):RKs Y H B (putD ds k d) (putK vs k v):=by
 unfold putD putK;rw[s.any_rel k];split
 . exact s.map_rel k r
 . exact s.append (.cons r .nil)
mutual
theorem RD.dp(rh:RH Y H B h)(rd:Nat->Option PyData)(hr:∀i p a,rd i=J p->B[i]?=J a->Dp Y.K H (.ref a) p):∀{d:D}{v:V}{p:PyData},RD Y H B d v->D.py rd d=J p->Dp Y.K H v p
 |_,_,_,.non,e=>by cases e;exact .non
 |_,_,_,.bl b,e=>by cases e;exact .bl b
 |_,_,_,.int i,e=>by cases e;exact .int i
 |_,_,_,.str x ok,e=>by cases e;exact .str x ok
 |_,_,_,.tup t s,e=>by rw[D.py]at e;obtain⟨ps,e1,rfl⟩:=Oo.mp e;exact .tup t (RDs.dps rh rd hr s e1)
 |_,_,_,.ref q,e=>hr _ _ _ e q
 |_,_,_,.ty n,e=>by cases e
 |_,_,_,.ro t s,e=>by rw[D.py]at e;obtain⟨ps,e1,rfl⟩:=Oo.mp e;exact .lst t.sq (RDs.dps rh rd hr s e1)
 |_,_,_,.kd q,e=>by cases e
theorem RDs.dps(rh:RH Y H B h)(rd:Nat->Option PyData)(hr:∀i p a,rd i=J p->B[i]?=J a->Dp Y.K H (.ref a) p):∀{d:List D}{v:List V}{p:List PyData},RDs Y H B d v->D.pys rd d=J p->Dps Y.K H v p
 |_,_,_,.nil,e=>by cases e;exact .nil
 |_,_,_,.cons a s,e=>by rw[D.pys]at e;obtain⟨q,e1,e2⟩:=Option.bind_eq_some_iff.mp e;obtain⟨qs,e3,rfl⟩:=Oo.mp e2;exact .cons (RD.dp rh rd hr a e1) (RDs.dps rh rd hr s e3)
end
theorem Zme(rh:RH Y H B h):∀(n i:Nat) (p:PyData) (a:Yi),Zgu h n i=J p->B[i]?=J a->Dp Y.K H (.ref a) p
 |0,i,p,a,e,q=>by cases e
 |n+1,i,p,a,e,q=>by
  rw[Zgu]at e;split at e
  . rename_i xs he;obtain⟨ps,e1,rfl⟩:=Oo.mp e;obtain⟨vs,z,s⟩:=rh.ob i _ a he q;exact .lst (.of z) (RDs.dps rh _ (Zme rh n) s e1)
  . cases e
def Zff(rh:RH Y H B h)(r:RD Y H B d v)(e:Zgv h d=J p):Dp Y.K H v p:=r.dp rh _ (Zme rh 4) e
def Zhk(r:RD Y H B d v)(f:d.flat=Wx):ZeJ v=Wx:=by cases r<;>first|rfl|cases f
theorem Zf0:∀{ds:List D}{vs:List V},RDs Y H B ds vs->ds.all D.flat=Wx->vs.all ZeJ=Wx
 |_,_,.nil,_=>rfl
 |_,_,.cons a s,f=>by rw[List.all_cons,Oa]at f;rw[List.all_cons,Zhk a f.1,Zf0 s f.2];rfl
def Zvi(r:RD Y H B d v)(q:RD Y H B e w)(f:d.flat=Wx)(g:e.flat=Wx):eqF d e=eqV v w:=by cases r<;>cases q<;>first|rfl|exact absurd f (by simp[D.flat])|exact absurd g (by simp[D.flat])
theorem any_rel(q:RD Y H B e w)(g:e.flat=Wx):∀{ds:List D}{vs:List V},RDs Y H B ds vs->ds.all D.flat=Wx->(ds.any λz=>eqF z e)=vs.any λy=>eqV y w
 |_,_,.nil,_=>rfl
 |_,_,.cons a s,f=>by rw[List.all_cons,Oa]at f;rw[Wf,Wf,Zvi a q f.1 g,any_rel q g s f.2]
def ZrW(hr:Room k X.A)(h60:60<=k)(hY:Y.K=X.K):OpR X (YM .Eq) (rB Y E (Zc8 Wy)):=by
 intro aa s Z H x y v u Q I rx ry hh;obtain⟨dx,dy,h,B,rh,r1,r2,f⟩:=hh;unfold Zc8 at f;split at f
 . rename_i e1 e2;obtain⟨hz,f⟩:=f.iff;have d1:=Zff rh r1 e1;have d2:=Zff rh r2 e2;rw[hY]at d1 d2;obtain⟨as,q1⟩:=I.reads d1 rx;obtain⟨bs,q2⟩:=I.reads d2 ry;have:=hr.un;exact SeqAt.compareEq_reads q1 q2 d1.lay d2.lay (by lia) ⟨.bl _,H,I,rfl,f.ok rh (.bl _)⟩
 . exact f.elim
def ZrR(hr:Room k X.A)(h60:60<=k)(hY:Y.K=X.K):OpR X (YM .NotEq) (rB Y E (Zc8 Wx)):=by
 intro aa s Z H x y v u Q I rx ry hh;obtain⟨dx,dy,h,B,rh,r1,r2,f⟩:=hh;unfold Zc8 at f;split at f
 . rename_i e1 e2;obtain⟨hz,f⟩:=f.iff;have d1:=Zff rh r1 e1;have d2:=Zff rh r2 e2;rw[hY]at d1 d2;obtain⟨as,q1⟩:=I.reads d1 rx;obtain⟨bs,q2⟩:=I.reads d2 ry;have:=hr.un;exact SeqAt.compareNe_reads q1 q2 d1.lay d2.lay (by lia) ⟨.bl _,H,I,rfl,f.ok rh (.bl _)⟩
 . exact f.elim
def ZgM(ho:OpR X (YM op) (rI0 λi j=>.bl (g i j))):OpR X (YM op) (rB Y E (ZiX g)):=by
 intro aa s Z H x y v u Q I rx ry hh;obtain⟨dx,dy,h,B,rh,r1,r2,f⟩:=hh;unfold ZiX at f;split at f
 . cases r1;cases r2;exact ho aa s Z H _ _ v u Q I rx ry ⟨_,_,rfl,rfl,f.ok rh (.bl _)⟩
 . exact f.elim
def Zmx(r:RD Y H B d v):Wz (d=.non)=Wz (v=.non):=by cases r<;>simp
def ZrU:OpR X (YM .Is) (rB Y E (opN Wy)):=by
 intro aa s Z H x y v u Q I rx ry hh;obtain⟨dx,dy,h,B,rh,r1,r2,f⟩:=hh;unfold opN at f;split at f
 . cases r2;have z:=Zmx r1;simp only[OG,if_false,z]at f;exact Zuu aa s Z H _ _ v u Q I rx ry ⟨rfl,f.ok rh (.bl _)⟩
 . exact f.elim
def ZnP:OpR X (YM .IsNot) (rB Y E (opN Wx)):=by
 intro aa s Z H x y v u Q I rx ry hh;obtain⟨dx,dy,h,B,rh,r1,r2,f⟩:=hh;unfold opN at f;split at f
 . cases r2;have z:=Zmx r1;simp only[if_true,z]at f;exact ZrL aa s Z H _ _ v u Q I rx ry ⟨rfl,f.ok rh (.bl _)⟩
 . exact f.elim
def ZrV(G:Gk X Y T):OpR X (YM .In) (rB Y E (Zdq T.GD Wy)):=by
 intro aa s Z H x y v u Q I rx ry hh;obtain⟨dx,dy,h,B,rh,r1,r2,f⟩:=hh;unfold Zdq at f;split at f
 . rename_i xs e1;obtain⟨hz,f⟩:=f.iff;rw[Oa]at hz;obtain⟨a,vs,rfl,hs,rs⟩:=r2.seqOf rh e1;have q:=f.ok rh (.bl _);simp only[OG,if_false,any_rel r1 hz.1 rs hz.2]at q;exact ZnO aa s Z H _ _ v u Q I rx ry ⟨a,vs,rfl,G.K▸hs,Zhk r1 hz.1,Zf0 rs hz.2,q⟩
 . split at f
   . rename_i kvs k e1 e2;obtain⟨a,aj,rfl,hd,rk⟩:=r2.dicOf G rh e1;have q:=f.ok rh (.bl _);have z:(ZbA kvs k).isSome=(Ze7 aj k).isSome:=by rcases rk.valV_rel k with⟨R,h2⟩|⟨d,v,R,h2,_⟩<;>rw[R,h2]<;>rfl
     rw[z]at q;exact Zuv aa s Z H _ _ v u Q I rx ry ⟨a,aj,k,rfl,Zeq r1 e2,hd,q⟩
   . exact f.elim
def Zlm(G:Gk X Y T):OpR X (YM .NotIn) (rB Y E (Zdq T.GD Wx)):=by
 intro aa s Z H x y v u Q I rx ry hh;obtain⟨dx,dy,h,B,rh,r1,r2,f⟩:=hh;unfold Zdq at f;split at f
 . rename_i xs e1;obtain⟨hz,f⟩:=f.iff;rw[Oa]at hz;obtain⟨a,vs,rfl,hs,rs⟩:=r2.seqOf rh e1;have q:=f.ok rh (.bl _);simp only[if_true,any_rel r1 hz.1 rs hz.2]at q;exact ZiW aa s Z H _ _ v u Q I rx ry ⟨a,vs,rfl,G.K▸hs,Zhk r1 hz.1,Zf0 rs hz.2,q⟩
 . split at f
   . rename_i kvs k e1 e2;obtain⟨a,aj,rfl,hd,rk⟩:=r2.dicOf G rh e1;have q:=f.ok rh (.bl _);have z:(ZbA kvs k).isSome=(Ze7 aj k).isSome:=by rcases rk.valV_rel k with⟨R,h2⟩|⟨d,v,R,h2,_⟩<;>rw[R,h2]<;>rfl
     rw[z]at q;exact ZnM aa s Z H _ _ v u Q I rx ry ⟨a,aj,k,rfl,Zeq r1 e2,hd,q⟩
   . exact f.elim
def ZfQ(hr:Room k X.A)(h60:60<=k)(G:Gk X Y T)(op:CmpOp):OpR X (YM op) (rB Y E (opC T.GD op)):=by
 cases op with
 |Eq=>exact ZrW hr h60 G.K
 |NotEq=>exact ZrR hr h60 G.K
 |Lt=>exact ZgM Zwy
 |LtE=>exact ZgM Zwz
 |Gt=>exact ZgM ZwA
 |GtE=>exact ZgM ZwB
 |Is=>exact ZrU
 |IsNot=>exact ZnP
 |In=>exact ZrV G
 |NotIn=>exact Zlm G
def ZrS(G:Gk X Y T):IxR X (rB Y E (ZbD T.GD)):=by
 intro value slice aa s Z H x y v u Q I rx ry hh hs;obtain⟨dx,dy,h,B,rh,r1,r2,f⟩:=hh;have dict:∀(kvs:List (Key×D)) (k:Key),dicOf T.GD dx h=J kvs->y=kV k->Fin Y (RD Y) H B (qe.ofO (ZbA kvs k) h) Q E->YB (model X.prog X.w) X.A (subscriptTail value slice v u) (EP X aa Z Q) X.xe s:=by
  intro kvs k e1 ey f;obtain⟨d,e2,f⟩:=f.ofO;obtain⟨a,aj,rfl,hd,rk⟩:=r1.dicOf G rh e1;rcases rk.valV_rel k with⟨R,h2⟩|⟨d',w,R,h2,h3⟩
  . rw[R]at e2;cases e2
  . rw[R]at e2;cases e2;exact Zse value slice aa s Z H _ _ v u Q I rx ry ⟨a,aj,k,w,rfl,ey,hd,h2,f.ok rh h3⟩ hs
 unfold ZbD at f;split at f
 . rename_i i;cases r2;split at f
   . rename_i xs e1;obtain⟨d,e2,f⟩:=f.ofO;obtain⟨a,vs,rfl,hq,rs⟩:=r1.seqOf rh e1;obtain⟨w,e3,aw⟩:=rs.atI e2;rcases hq with hq|hq
     . exact Zsd value slice aa s Z H _ _ v u Q I rx ry ⟨a,vs,i,w,rfl,rfl,G.K▸hq,e3,f.ok rh aw⟩ hs
     . exact ZcB value slice aa s Z H _ _ v u Q I rx ry ⟨a,vs,i,w,rfl,rfl,G.K▸hq,e3,f.ok rh aw⟩ hs
   . split at f
     . obtain⟨hz,f⟩:=f.iff;obtain⟨d,e2,f⟩:=f.ofO;obtain⟨c,e3,rfl⟩:=Oo.mp e2;obtain⟨rfl,ok⟩:=r1.str_inv;exact ZuZ value slice aa s Z H _ _ v u Q I rx ry ⟨_,i,c,rfl,rfl,hz,e3,f.ok rh (.str _ (ZpN ok (Zr4 e3)))⟩ hs
     . split at f
       . rename_i kvs e1;exact dict kvs (.inl i) e1 rfl f
       . exact f.elim
 . rename_i z;obtain⟨rfl,ok⟩:=r2.str_inv;split at f
   . rename_i kvs e1;exact dict kvs (.inr z) e1 rfl f
   . exact f.elim
 . exact f.elim
def ZpL(hx:Yo x=Wx)(h:∀c∈y.cps.toList,c∈x.cps.toList):Yo y=Wx:=by unfold Yo at hx ⊢;rw[Array.all_eq_true']at hx ⊢;intro c hc;exact hx c (by simpa using h c (by simpa using hc))
def Zq6(hY:Y.K=X.K)(rh:RH Y H B h)(r:RD Y H B d v)(e:ZfI T.GD d h=J b):Zvu X.K v H b:=by
 cases d with
 |non=>cases r;cases e;rfl
 |bl c=>cases r;cases e;rfl
 |int c=>cases r;cases e;rfl
 |str c=>
  cases r;unfold ZfI at e;simp only at e;split at e
  . rename_i hz;cases e;refine⟨hz,?_⟩;by_cases h0:c.length=0
    . simp[h0]
    . have R:((c.length:Int) != 0)=Wx:=by
       simp
       lia
      rw[R];simp[h0]
  . cases e
 |tup xs=>obtain⟨a,vs,rfl,t,s⟩:=r.tup_inv;cases e;exact .inr (.inl ⟨vs,hY▸t,by rw[s.isEmpty]⟩)
 |ref i=>
  unfold ZfI at e;simp only at e;split at e
  . rename_i q;cases e;obtain⟨a,vs,rfl,_,h3,s⟩:=r.lst rh q;exact .inl ⟨vs,.of h3,by rw[s.isEmpty]⟩
  . rename_i q;cases e;obtain⟨a,vs,rfl,_,h3,s⟩:=r.dic rh q;exact .inr (.inr ⟨vs,h3,by cases s<;>rfl⟩)
  . cases e
 |ro xs=>
  cases e;cases r with
  |ro q s=>exact .inl ⟨_,hY▸q.sq,by rw[s.isEmpty]⟩
 |ty n=>cases e
 |kd x=>cases e
end
section
variable {X:Cx}{Y:Yx}{E:XK}{T:Tb}{H:Hp}{B:List Yi}{h:Hd}
def rS(Y:Yx)(E:XK):V->Option Int->Option Int->Hp->VK->Prop:=λx l u H Q=>∃d h B,RH Y H B h/\RD Y H B d x/\Fin Y (RD Y) H B (Zgw d l u h) Q E
def ZgX(y:Str)(l u:Option Int):∀c∈(Yp y l u).cps.toList,c∈y.cps.toList:=by
 intro c hc;unfold Yp at hc;split at hc
 . exact hc
 . simp only[List.mem_filterMap]at hc;obtain⟨i,_,hi⟩:=hc;have:=Array.mem_of_getElem? hi;simpa using this
def Zn8{xs:List D}{lo hi:Option Int}(h:HT.sIx xs.length 0 lo=0/\HT.sIx xs.length xs.length hi=xs.length):cutD xs lo hi=xs:=by unfold cutD;rw[h.1,h.2];simp
def ZrQ(hY:Y.K=X.K):SlR X (rS Y E):=by
 intro aa s Z H x v vl vu lo hi sl Q I rx hs pl pu hh;obtain⟨d,h,B,rh,r,f⟩:=hh;unfold Zgw at f;split at f
 . rename_i xs;obtain⟨a,vs,rfl,t,rs⟩:=r.tup_inv;by_cases hw:HT.sIx vs.length 0 lo=0/\HT.sIx vs.length vs.length hi=vs.length
   . rw[Zn8 (by rw[rs.length];exact hw)]at f;exact ZoW aa s Z H _ v vl vu lo hi sl Q I rx hs pl pu ⟨a,vs,rfl,hY▸t,hw,f.ok rh (.tup t rs)⟩
   . exact ZtM aa s Z H _ v vl vu lo hi sl Q I rx hs pl pu ⟨a,vs,rfl,hY▸t,hw,λp hp=>f.tup rh hp (rs.cut lo hi)⟩
 . obtain⟨hz,f⟩:=f.iff;obtain⟨rfl,ok⟩:=r.str_inv;exact ZtN aa s Z H _ v vl vu lo hi sl Q I rx hs pl pu ⟨_,rfl,hz,f.ok rh (.str _ (ZpL ok (ZgX _ _ _)))⟩
 . split at f
   . rename_i xs e1;obtain⟨a,vs,rfl,hl,rs⟩:=r.lstOf rh e1;exact Zrc aa s Z H _ v vl vu lo hi sl Q I rx hs pl pu ⟨a,vs,rfl,hY▸hl,λp hp=>f.new rh hp ⟨_,Zp,(rs.cut lo hi).mono rh (Gr.lay hp)⟩⟩
   . exact f.elim
def rF(Y:Yx)(E:XK)(f:List D->Hd->qe D):List V->Hp->VK->Prop:=λxs H Q=>∃ds h B,RH Y H B h/\RDs Y H B ds xs/\Fin Y (RD Y) H B (f ds h) Q E
def RDs.one(r:RDs Y H B [d] xs):∃x,xs=[x]/\RD Y H B d x:=by
 cases r with
 |cons a s=>cases s;exact⟨_,rfl,a⟩
def RDs.two(r:RDs Y H B [d,e] xs):∃x y,xs=[x,y]/\RD Y H B d x/\RD Y H B e y:=by
 cases r with
 |cons a s=>obtain⟨y,rfl,b⟩:=s.one;exact⟨_,_,rfl,a,b⟩
def ZsI(hY:Y.K=X.K):Zcl X (.builtin "len") (rF Y E ZlS):=by
 intro aa s Z H xs us Q I r hh;obtain⟨ds,h,B,rh,rs,f⟩:=hh;unfold ZlS at f;split at f
 . obtain⟨hz,f⟩:=f.iff;obtain⟨x,rfl,rd⟩:=rs.one;obtain⟨rfl,ok⟩:=rd.str_inv;exact Zjk aa s Z H _ us Q I r ⟨_,rfl,hz,f.ok rh (.int _)⟩
 . obtain⟨e,e1,f⟩:=f.ofO;obtain⟨zs,e2,rfl⟩:=Oo.mp e1;obtain⟨x,rfl,rd⟩:=rs.one;obtain⟨a,vs,rfl,hq,rv⟩:=rd.seqOf rh e2;refine Zjl aa s Z H _ us Q I r ⟨a,vs,rfl,hY▸hq,?_⟩;rw[<-rv.length];exact f.ok rh (.int _)
 . exact f.elim
def Zsc{K:Yk}{t T:String}{b:Bool}(e:ZlB t T=J b):PySem.W.kitOne K (.type t) (.type T)=J b:=by
 have all:(["int", "str", "bool", "tuple", "list"].all λT=>["int", "str", "bool", "tuple", "list", "NoneType"].all λt=>Wz (PySem.W.kitOne [] (.type t) (.type T)=J (t==T||(t == "bool" && T == "int"))))=Wx:=by decide +kernel
 unfold ZlB at e;split at e
 . rename_i hm;cases e;rw[OC]at all;have R:=all T hm.1;rw[OC]at R;exact Zn1 (of_decide_eq_true (R t hm.2))
 . cases e
def ZvL(hY:Y.K=X.K)(rh:RH Y H B h)(r:RD Y H B d v)(e:ZtA d h=J t):TyN X.K v H t:=by
 have lst:(IV.lstOf d h).map (λ_ => "list")=J t->TyN X.K v H t:=λe=>by obtain⟨xs,e1,rfl⟩:=Oo.mp e;obtain⟨a,vs,rfl,hl,rs⟩:=r.lstOf rh e1;exact .inl ⟨rfl,vs,hY▸hl⟩
 cases d with
 |int i=>cases e;cases r;rfl
 |str i=>cases e;cases r;rfl
 |bl i=>cases e;cases r;rfl
 |non=>cases e;cases r;rfl
 |tup xs=>cases e;obtain⟨a,vs,rfl,t,rs⟩:=r.tup_inv;exact .inr ⟨rfl,vs,hY▸t⟩
 |ref i=>exact lst e
 |ro xs=>exact lst e
 |ty n=>exact lst e
 |kd x=>exact lst e
def ZsJ(hY:Y.K=X.K):Zcl X (.builtin "isinstance") (rF Y E ZsQ):=by
 intro aa s Z H xs us Q I r hh;obtain⟨ds,h,B,rh,rs,f⟩:=hh;unfold ZsQ at f;split at f
 . obtain⟨e,e1,f⟩:=f.ofO;obtain⟨t,e2,e3⟩:=Option.bind_eq_some_iff.mp e1;obtain⟨b,e4,rfl⟩:=Oo.mp e3;obtain⟨x,y,rfl,r1,r2⟩:=rs.two;cases r2;exact ZqH aa s Z H _ us Q I r ⟨x,t,_,b,rfl,ZvL hY rh r1 e2,Zsc e4,f.ok rh (.bl _)⟩
 . exact f.elim
def ZsF(hY:Y.K=X.K):Zcl X (.type "tuple") (rF Y E ZsP):=by
 intro aa s Z H xs us Q I r hh;obtain⟨ds,h,B,rh,rs,f⟩:=hh;unfold ZsP at f;split at f
 . obtain⟨x,rfl,r1⟩:=rs.one;obtain⟨a,vs,rfl,t,rv⟩:=r1.tup_inv;exact ZeP aa s Z H _ us Q I r ⟨a,vs,rfl,.inr ⟨hY▸t,f.ok rh (.tup t rv)⟩⟩
 . obtain⟨e,e1,f⟩:=f.ofO;obtain⟨zs,e2,rfl⟩:=Oo.mp e1;obtain⟨x,rfl,r1⟩:=rs.one;obtain⟨a,vs,rfl,hl,rv⟩:=r1.lstOf rh e2;exact ZeP aa s Z H _ us Q I r ⟨a,vs,rfl,.inl ⟨hY▸hl,λp hp=>f.tup rh hp rv⟩⟩
 . exact f.elim
theorem Zhd:∀{ds:List D}{vs:List V}{ns:List Int},RDs Y H B ds vs->intsOf ds=J ns->vs=ns.map V.int
 |_,_,_,.nil,e=>by cases e;rfl
 |_,_,_,.cons (d:=d) a s,e=>by
  cases d with
  |int i=>rw[intsOf]at e;obtain⟨z,e1,rfl⟩:=Oo.mp e;cases a;rw[Zhd s e1];rfl
  |_=>cases e
def ZsG(hc:X.A.handled=M)(hY:Y.K=X.K):Zcl X (.builtin "sum") (rF Y E Zom):=by
 intro aa s Z H xs us Q I r hh;obtain⟨ds,h,B,rh,rs,f⟩:=hh;unfold Zom at f;split at f
 . obtain⟨e,e1,f⟩:=f.ofO;obtain⟨ns,e2,rfl⟩:=Oo.mp e1;obtain⟨zs,e3,e4⟩:=Option.bind_eq_some_iff.mp e2;obtain⟨x,rfl,r1⟩:=rs.one;obtain⟨a,vs,rfl,hl,rv⟩:=r1.lstOf rh e3;rw[Zhd rv e4]at hl;exact Zoa hc aa s Z H _ us Q I r ⟨a,ns,rfl,hY▸hl,f.ok rh (.int _)⟩
 . exact f.elim
def rM(Y:Yx)(E:XK)(m:Mf):V->List V->Hp->VK->Prop:=λx xs H Q=>∃d ds h B,RH Y H B h/\RD Y H B d x/\RDs Y H B ds xs/\Fin Y (RD Y) H B (Zcm m d ds h) Q E
noncomputable def mid:Mf->String
 |.app => "list.append"
 |.ext => "list.extend"
 |.pop => "list.pop"
 |.rev => "list.reverse"
 |.clr => "list.clear"
def ZmA(hY:Y.K=X.K)(m:Mf):MtM X (mid m) (rM Y E m):=by
 intro aa s Z H x xs v us Q I rx rs hh;obtain⟨d,ds,h,B,rh,r1,r2,f⟩:=hh;unfold Zcm at f;split at f
 . split at f
   . rename_i i ys e;obtain⟨a,vs,rfl,hi,hl,rv⟩:=r1.lst rh e;cases m with
     |app=>
      unfold ZhT ZuJ at f;simp only at f;split at f
      . obtain⟨hz,f⟩:=f.iff;obtain⟨y,rfl,ry⟩:=r2.one;have g:Gr H B (upd H a (.lst (vs++[y]))) B:=Gr.write (O1 hi) (by rw[hl];trivial);exact Zik aa s Z H _ _ v us Q I rx rs ⟨a,vs,y,rfl,rfl,hl,by rw[<-rv.length];exact hz,f.wrote rh hi ⟨_,Zp,(rv.append (.cons ry .nil)).mono rh g⟩ .non (by rw[hl];trivial)⟩
      . exact f.elim
     |ext=>
      unfold ZhT Zr6 at f;simp only at f;split at f
      . split at f
        . rename_i zs e2;obtain⟨hz,f⟩:=f.iff;obtain⟨y,rfl,ry⟩:=r2.one;obtain⟨b,ws,rfl,hj,bN,aw⟩:=ry.lst rh e2;have g:Gr H B (upd H a (.lst (vs++ws))) B:=Gr.write (O1 hi) (by rw[hl];trivial);exact ZnT aa s Z H _ _ v us Q I rx rs ⟨a,b,vs,ws,rfl,rfl,hl,bN,by rw[<-rv.length,<-aw.length];exact hz,f.wrote rh hi ⟨_,Zp,(rv.append aw).mono rh g⟩ .non (by rw[hl];trivial)⟩
        . exact f.elim
      . obtain⟨hz,f⟩:=f.iff;obtain⟨y,rfl,ry⟩:=r2.one;obtain⟨b,ws,rfl,t,aw⟩:=ry.tup_inv;have g:Gr H B (upd H a (.lst (vs++ws))) B:=Gr.write (O1 hi) (by rw[hl];trivial);exact Zls aa s Z H _ _ v us Q I rx rs ⟨a,b,vs,ws,rfl,rfl,hl,hY▸t,by rw[<-rv.length,<-aw.length];exact hz,f.wrote rh hi ⟨_,Zp,(rv.append aw).mono rh g⟩ .non (by rw[hl];trivial)⟩
      . exact f.elim
     |pop=>
      unfold ZhT ZuI at f;simp only at f;split at f
      . split at f
        . rename_i y e2;cases r2;rw[rv.length]at e2;obtain⟨w,e3,aw⟩:=rv.get e2;have g:Gr H B (upd H a (.lst vs.dropLast)) B:=Gr.write (O1 hi) (by rw[hl];trivial);exact ZuF aa s Z H _ _ v us Q I rx rs ⟨a,vs,w,rfl,rfl,hl,e3,f.wrote rh hi ⟨_,Zp,rv.dropLast.mono rh g⟩ (aw.mono rh g) (by rw[hl];trivial)⟩
        . exact f.elim
      . exact f.elim
     |rev=>
      unfold ZhT ZwN at f;simp only at f;split at f
      . cases r2;have g:Gr H B (upd H a (.lst vs.reverse)) B:=Gr.write (O1 hi) (by rw[hl];trivial);exact Zlr aa s Z H _ _ v us Q I rx rs ⟨a,vs,rfl,rfl,hl,f.wrote rh hi ⟨_,Zp,rv.reverse.mono rh g⟩ .non (by rw[hl];trivial)⟩
      . exact f.elim
     |clr=>
      unfold ZhT ZwO at f;simp only at f;split at f
      . cases r2;exact ZpS aa s Z H _ _ v us Q I rx rs ⟨a,vs,rfl,rfl,hl,f.wrote rh hi ⟨_,Zp,.nil⟩ .non (by rw[hl];trivial)⟩
      . exact f.elim
   . exact f.elim
 . exact f.elim
def rP(Y:Yx)(E:XK):ZsU:=λo i v H Q=>∃a b c h B,RH Y H B h/\RD Y H B a o/\RD Y H B b i/\RD Y H B c v/\Fin Y (λ_ _ (_:Unit) (_:Unit)=>True) H B (ZbT a b c h) (λ_ H'=>Q H') E
def Zt8:ZsV X (rP Y E):=by
 intro aa s Z H o i v ov iv u Q I ro ri rv hh;obtain⟨a,b,c,h,B,rh,ra,rb,rc,f⟩:=hh;unfold ZbT at f;split at f
 . split at f
   . rename_i j xs e;split at f
     . split at f
       . rename_i j' e2;obtain⟨p,vs,rfl,hi,hl,rs⟩:=ra.lst rh e;have hb:=rb.int_inv;subst hb;rw[rs.length]at e2;have g:Gr H B (upd H p (.lst (vs.set j' v))) B:=Gr.write (O1 hi) (by rw[hl];trivial);exact set_list aa s Z H _ _ v ov iv u Q I ro ri rv ⟨p,vs,_,j',rfl,rfl,hl,e2,f.wrote (b:=()) rh hi ⟨_,Zp,(RDs.set rc j' rs).mono rh g⟩ trivial (by rw[hl];trivial)⟩
       . exact f.elim
     . exact f.elim
   . rename_i j kvs e;split at f
     . rename_i k e2;obtain⟨hz,f⟩:=f.iff;obtain⟨p,vs,rfl,hi,hl,rs⟩:=ra.dic rh e;have g:Gr H B (upd H p (.dK (putK vs k v))) B:=Gr.write (O1 hi) (by rw[hl];trivial);exact set_dict aa s Z H _ _ v ov iv u Q I ro ri rv ⟨p,vs,k,rfl,Zeq rb e2,hl,by rw[<-rs.length];exact hz,f.wrote (b:=()) rh hi ⟨_,Zp,(rs.put k rc).mono rh g⟩ trivial (by rw[hl];trivial) (Zha (rh.ks _ _ e) (Zp8 rb e2))⟩
     . exact f.elim
   . exact f.elim
 . exact f.elim
end
def rW(K:Yk)(x:V)(H1:Hp)(qe:It->Hp->Prop):Prop:=(∃a,x=.ref a/\(∃xs,SqL K H1 a xs)/\qe (Itl K a) H1)\/(∃a,x=.ref a/\(∃xs,SqT K H1 a xs)/\qe (Itt K a) H1)
def Zug(hl:PE X l tl):PI X tg l (λZ H qe=>tl Z H λx H1=>rW X.K x H1 qe):=by
 intro aa s Z H qe I h;refine thn (hl aa s Z H _ I h) λv s1 ⟨x,H1,I1,r1,q1⟩=>?_;have ku:∀b∈[s1.heap.objs.size],Zb7 X aa H1 b:=λb hb=>by
  have e:b=s1.heap.objs.size:=by simpa using hb
  subst e;exact I1.fpOk (Oq _) (I1.hok.fresh (Oq _))
 rcases q1 with⟨a,rfl,⟨xs,hq⟩,q⟩|⟨a,rfl,⟨xs,hq⟩,q⟩
 . cases r1;obtain⟨its,rv,p,hz⟩:=I1.list hq;exact wpAny_pyIter_list p.isList ⟨s1.heap.objs.size,[s1.heap.objs.size],_,_,H1,rfl,I1.kept (t':=s1.toks) λb o e=>Od _ e,Zni a _,⟨_,Oj _ rfl,rfl,rfl⟩,ku,q⟩
 . cases r1;obtain⟨its,rv,p,hz⟩:=I1.tuple hq;exact wpAny_pyIter_tuple (show s1.heap.IsTuple a its.toArray from p) ⟨s1.heap.objs.size,[s1.heap.objs.size],_,_,H1,rfl,I1.kept (t':=s1.toks) λb o e=>Od _ e,ZkW a _,⟨_,Oj _ rfl,rfl,rfl⟩,ku,q⟩
def WJ(Y:Yx)(H0:Hp)(μ0:List Yi)(w:Wk)(qb:It):Prop:=∀H B h,Gr H0 μ0 H B->RH Y H B h->Wk.stays w.src h=Wx ->
 (∀i d,w.xs[i]?=J d->qb.go i H/\∀x H',qb.yld i H x H'->Gr H B H' B/\RH Y H' B h/\RD Y H' B d x)/\qb.stop w.xs.length H
section
variable {X:Cx}{Y:Yx}{H:Hp}{B:List Yi}{h:Hd}
def Ztu(hY:Y.K=X.K)(rh:RH Y H B h)(t:SqT Y.K H a vs)(s:RDs Y H B xs vs):WJ Y H B ⟨M,xs⟩ (Itt X.K a):=by intro H1 μ1 R g ac st;have t1:=g.rdT rh t;have s1:=s.mono rh g;rw[hY]at t1;refine⟨λi d e=>?_,⟨vs,t1,by rw[s.length];exact Oq _⟩⟩;obtain⟨v,e1,r1⟩:=s1.get e;refine⟨⟨vs,v,t1,e1⟩,λx H' ⟨eH,q⟩=>?_⟩;subst eH;have:=q vs t1;rw[e1]at this;cases this;exact⟨Gr.refl,ac,r1⟩
def ZsX(hY:Y.K=X.K)(rh:RH Y H B h)(t:FzL Y.K H a vs)(s:RDs Y H B xs vs):WJ Y H B ⟨M,xs⟩ (Itl X.K a):=by intro H1 μ1 R g ac st;have t1:=(g.rdF rh t).sq;have s1:=s.mono rh g;rw[hY]at t1;refine⟨λi d e=>?_,⟨vs,t1,by rw[s.length];exact Oq _⟩⟩;obtain⟨v,e1,r1⟩:=s1.get e;refine⟨⟨vs,v,t1,e1⟩,λx H' ⟨eH,q⟩=>?_⟩;subst eH;have:=q vs t1;rw[e1]at this;cases this;exact⟨Gr.refl,ac,r1⟩
def ZgV(st:Wk.stays (J (i,xs)) h=Wx):h[i]?=J (.lst xs):=of_decide_eq_true st
def Zow(hi:B[i]?=J a):WJ Y H B ⟨J (i,xs),xs⟩ (Itl X.K a):=by intro H1 μ1 R g ac st;obtain⟨vs,hl,s1⟩:=ac.ob i _ a (ZgV st) (g.pre i a hi);have t1:SqL X.K H1 a vs:=.of hl;refine⟨λi d e=>?_,⟨vs,t1,by rw[s1.length];exact Oq _⟩⟩;obtain⟨v,e1,r1⟩:=s1.get e;refine⟨⟨vs,v,t1,e1⟩,λx H' ⟨eH,q⟩=>?_⟩;subst eH;have:=q vs t1;rw[e1]at this;cases this;exact⟨Gr.refl,ac,r1⟩
def Ztv{lo:Int}:WJ Y H B ⟨M,ZP lo n⟩ (Itr lo n):=by
 intro H1 μ1 R g ac st;have hl:(ZP lo n).length=n:=by simp[ZP]
 refine⟨λi d e=>?_,by show n<=(ZP lo n).length;rw[hl];exact Oq _⟩;have hi:i<n:=by have:=(Ob.mp e).1;rw[hl]at this;exact this
 refine⟨hi,λx H' ⟨eH,q⟩=>?_⟩;subst eH q;have:d=.int (lo+i):=by unfold ZP at e;rw[O2,List.getElem?_range hi]at e;exact(YF e).symm
 subst this;exact⟨Gr.refl,ac,.int _⟩
def Zqt{xs:List D}{i:Nat}{d:D}(e:(ZdZ xs)[i]?=J d):∃x,xs[i]?=J x/\d=.tup [.int i,x]:=by unfold ZdZ at e;rw[List.getElem?_mapIdx]at e;obtain⟨x,e1,e2⟩:=Oo.mp e;exact⟨x,e1,e2.symm⟩
def ZlY{a:Yi}{src:Option (Nat×List D)}{xs:List D}(hw:WJ Y H B ⟨src,xs⟩ (Itl X.K a))(sq:∀H1 μ1 R,Gr H B H1 μ1->RH Y H1 μ1 R->Wk.stays src R=Wx->∃vs,SqL X.K H1 a vs/\RDs Y H1 μ1 xs vs):WJ Y H B ⟨src,ZdZ xs⟩ (Ite X.K a):=by
 intro H1 μ1 R g ac st;obtain⟨vs,t1,s1⟩:=sq H1 μ1 R g ac st;have hl:(ZdZ xs).length=xs.length:=by simp[ZdZ]
 refine⟨λi d e=>?_,⟨vs,t1,by rw[hl,s1.length]⟩⟩;obtain⟨x0,e0,rfl⟩:=Zqt e;obtain⟨v,e1,r1⟩:=s1.get e0;refine⟨⟨vs,v,t1,e1⟩,λx H' ⟨p,ex,hp,y,q,eH⟩=>?_⟩;subst ex eH;have:=q vs t1;rw[e1]at this;cases this;exact⟨Gr.lay0 hp,ac.lay0 hp,.tup (.inl (.inl Zp)) (.cons (.int _) (.cons (r1.mono ac (Gr.lay0 hp)) .nil))⟩
def Ztw(hY:Y.K=X.K)(rh:RH Y H B h)(t:SqT Y.K H a vs)(s:RDs Y H B xs vs):WJ Y H B ⟨M,xs.reverse⟩ (Itv X.K a vs.length):=by intro H1 μ1 R g ac st;have t1:=g.rdT rh t;have s1:=(s.mono rh g).reverse;rw[hY]at t1;refine⟨λi d e=>?_,⟨vs,t1,rfl,by simp[s.length]⟩⟩;obtain⟨v,e1,r1⟩:=s1.get e;refine⟨⟨vs,v,t1,rfl,e1⟩,λx H' ⟨eH,q⟩=>?_⟩;subst eH;have:=q vs t1;rw[e1]at this;cases this;exact⟨Gr.refl,ac,r1⟩
def ZqX(hi:B[i]?=J a):WJ Y H B ⟨J (i,xs),xs.reverse⟩ (Zvv X.K a xs.length):=by intro H1 μ1 R g ac st;obtain⟨vs,hl,s0⟩:=ac.ob i _ a (ZgV st) (g.pre i a hi);have t1:SqL X.K H1 a vs:=.of hl;have s1:=s0.reverse;refine⟨λi d e=>?_,⟨vs,t1,s0.length.symm,by simp⟩⟩;obtain⟨v,e1,r1⟩:=s1.get e;refine⟨⟨vs,v,t1,s0.length.symm,e1⟩,λx H' ⟨eH,q⟩=>?_⟩;subst eH;have:=q vs t1;rw[e1]at this;cases this;exact⟨Gr.refl,ac,r1⟩
def ZqZ{d:D}{qe:It->Hp->Prop}(hY:Y.K=X.K)(rh:RH Y H B h)(r:RD Y H B d x)(e:Zbg d h=J w)(q:∀qb,WJ Y H B w qb->qe qb H):rW X.K x H qe:=by
 cases d with
 |tup xs=>cases e;obtain⟨a,vs,rfl,t,s⟩:=r.tup_inv;exact .inr ⟨a,rfl,⟨vs,hY▸t⟩,q _ (Ztu hY rh t s)⟩
 |ro xs=>
  cases e;cases r with
  |ro t s=>exact .inl ⟨_,rfl,⟨_,hY▸t.sq⟩,q _ (ZsX hY rh t s)⟩
 |ref i=>
  unfold Zbg at e;simp only at e;split at e
  . rename_i xs he;cases e;obtain⟨a,vs,rfl,hi,hl,s⟩:=r.lst rh he;exact .inl ⟨a,rfl,⟨vs,.of hl⟩,q _ (Zow hi)⟩
  . cases e
 |_=>cases e
end
structure Kl where
 cs:List Str
 ats:List Str
 ms:List (Str×Str)
 is:List Str
 xs:List Str:=[]
 xa:List (Str×Str):=[]
structure Gm where
 N:List Str
 sc:Scope
 fs:List Str
 top:Bool
 kl:Kl
noncomputable def glb(Γ:Gm)(x:Str):Bool:=Wz (Γ.sc.names.lookup x=J .globalImplicit)&&!(x==("__debug__" : Str))
noncomputable def Zq1(sc:Scope)(x:Str):Bool:=Wz (sc.names.lookup x=J .local)||Wz (sc.names.lookup x=J .cell)||Wz (sc.names.lookup x=J .free)
noncomputable def Zm4:Bf->Str
 |.len => "len" |.isi => "isinstance" |.int => "int" |.tup => "tuple" |.lst => "list" |.sum => "sum" |.all => "all" |.srt => "sorted" |.mx => "max"
noncomputable def bok:Bf->Bool
 |.mx=>Wy
 |.lst=>Wy
 |.int=>Wy
 |.all=>Wy
 |_=>Wx
noncomputable def ZpT:Mf->Str
 |.app => "append" |.ext => "extend" |.pop => "pop" |.rev => "reverse" |.clr => "clear"
noncomputable def Zm5:List Str:=["len", "isinstance", "int", "tuple", "list", "sum", "all", "sorted", "range", "enumerate", "reversed", "str", "bool", "max", "repr", "zip", "set", "dict", "any"]
noncomputable def Zl2:List String:=["int", "str", "bool", "tuple", "list"]
structure Pt where
 a:Expr:=default
 b:Expr:=default
 c:Expr:=default
 xs:List Expr:=[]
 s:Str:=⟨#[]⟩
 op:Operator:=.Add
 cs:List CmpOp:=[]
 u:UnaryOp:=.Not
 bo:BoolOp:=.And
 p:Pos:=default
 kw:List Keyword:=[]
 l:Option Expr:=M
 h:Option Expr:=M
 st:Option Expr:=M
 ks:List (Option Expr):=[]
 gs:List Comprehension:=[]
 sc:Scope:=default
 k:Nat:=0
 v:Const:=.none
noncomputable def tgE:Expr->Nat
 |.Starred _ _=>0|.BoolOp _ _ _=>1|.UnaryOp _ _ _=>2|.IfExp _ _ _ _=>3|.Compare _ _ _ _=>4|.Slice _ _ _ _=>5|.Name _ _=>6|.BinOp _ _ _ _=>7|.Tuple _ _ _=>8|.List _ _=>9
 |.Subscript _ _ _=>10|.Call _ _ _ _=>11|.Attribute _ _ _=>12|.ListComp _ _ _ _=>13|.Dict _ _ _=>14|.Constant _ _ _=>15|.NamedExpr _ _ _=>17|.Set _ _ _=>18|.SetComp _ _ _ _=>19|.DictComp _ _ _ _ _=>19|_=>16
noncomputable def prt(e:Expr):Pt:=match e with
 |.BoolOp o xs p=>{bo:=o,xs:=xs,p:=p}
 |.UnaryOp o x p=>{a:=x,u:=o,p:=p}
 |.IfExp t x y p=>{a:=t,b:=x,c:=y,p:=p}
 |.Compare l os rs p=>{a:=l,cs:=os,xs:=rs,p:=p}
 |.Slice l u s p=>{l:=l,h:=u,st:=s,p:=p}
 |.Name x p=>{s:=x,p:=p}
 |.BinOp l o r p=>{a:=l,b:=r,op:=o,p:=p}
 |.Tuple xs k p=>{xs:=xs,k:=k,p:=p}
 |.List xs p=>{xs:=xs,p:=p}
 |.Subscript x y p=>{a:=x,b:=y,p:=p}
 |.Call f xs kw p=>{a:=f,xs:=xs,kw:=kw,p:=p}
 |.Attribute x n p=>{a:=x,s:=n,p:=p}
 |.ListComp x gs sc p=>{a:=x,gs:=gs,p:=p,sc:=sc}
 |.Dict ks vs p=>{ks:=ks,xs:=vs,p:=p}
 |.Constant c k p=>{v:=c,k:=k,p:=p}
 |_=>{a:=e}
noncomputable def mkE(n:Nat)(p:Pt):Expr:=match n with
 |1=>.BoolOp p.bo p.xs p.p|2=>.UnaryOp p.u p.a p.p|3=>.IfExp p.a p.b p.c p.p|4=>.Compare p.a p.cs p.xs p.p|5=>.Slice p.l p.h p.st p.p|6=>.Name p.s p.p|7=>.BinOp p.a p.op p.b p.p
 |8=>.Tuple p.xs p.k p.p|9=>.List p.xs p.p|10=>.Subscript p.a p.b p.p|11=>.Call p.a p.xs p.kw p.p|12=>.Attribute p.a p.s p.p
 |13=>.ListComp p.a p.gs p.sc p.p|14=>.Dict p.ks p.xs p.p|15=>.Constant p.v p.k p.p|_=>p.a
def rb(e:Expr):mkE (tgE e) (prt e)=e:=by cases e<;>rfl
def bL{a b:Bool}(h:(a&&b)=Wx):a=Wx:=by cases a with|true=>rfl|false=>cases h
def bR{a b:Bool}(h:(a&&b)=Wx):b=Wx:=by cases a with|true=>exact h|false=>cases h
def bO{a b:Bool}{P:Prop}(h:(a||b)=Wx)(l:a=Wx->P)(r:b=Wx->P):P:=by cases a with|true=>exact l rfl|false=>exact r h
def ff{P:Prop}(h:Wy=Wx):P:=by cases h
def dS{α:Type}{P:α->Prop}{a b:α}[Decidable (a=b)](h:Wz (a=b)=Wx)(k:P b):P a:=of_decide_eq_true h▸k
def an(n:Nat)(e:Expr)(f:Pt->Bool):Bool:=Wz (tgE e=n)&&f (prt e)
section
variable {P:Expr->Prop}{e:Expr}
def Zba(h:an n e f=Wx)(k:∀p,f p=Wx->P (mkE n p)):P e:=rb e▸dS (P:=λm=>P (mkE m (prt e))) (bL h) (k _ (bR h))
noncomputable def l1{α:Type}(xs:List α)(f:α->Bool):Bool:=match xs with
 |[y]=>f y
 |_=>Wy
@[elab_as_elim] theorem Zaw{α:Type}{P:List α->Prop}{xs:List α}{f:α->Bool}(h:l1 xs f=Wx)(k:∀y,f y=Wx->P [y]):P xs:=by
 cases xs with
 |nil=>cases h
 |cons y r=>
  cases r with
  |nil=>exact k y h
  |cons _ _=>cases h
noncomputable def l2{α:Type}(xs:List α)(f:α->α->Bool):Bool:=match xs with
 |[x,y]=>f x y
 |_=>Wy
@[elab_as_elim] theorem ZmG{α:Type}{P:List α->Prop}{xs:List α}{f:α->α->Bool}(h:l2 xs f=Wx)(k:∀x y,f x y=Wx->P [x,y]):P xs:=by
 cases xs with
 |nil=>cases h
 |cons x r=>
  cases r with
  |nil=>cases h
  |cons y r=>
   cases r with
   |nil=>exact k x y h
   |cons _ _=>cases h
noncomputable def l0{α:Type}(xs:List α)(b:Bool):Bool:=xs.isEmpty&&b
def Zin{α:Type}{P:List α->Prop}{xs:List α}(h:l0 xs b=Wx)(k:b=Wx->P []):P xs:=by
 cases xs with
 |nil=>exact k h
 |cons _ _=>cases h
@[irreducible] def aN(e:Expr)(f:Str->Bool):Bool:=an 6 e λp=>f p.s
@[elab_as_elim] theorem ZwJ(h:aN e f=Wx)(k:∀x q,f x=Wx->P (.Name x q)):P e:=by unfold aN at h;exact Zba h λ_ h=>k _ _ h
@[irreducible] def aX(x:Str)(e:Expr)(b:Bool):Bool:=an 6 e λp=>Wz (p.s=x)&&b
@[elab_as_elim] theorem ZkR(h:aX x e b=Wx)(k:∀q,b=Wx->P (.Name x q)):P e:=by unfold aX at h;exact Zba h λp h=>dS (P:=λs=>P (.Name s p.p)) (bL h) (k _ (bR h))
@[irreducible] def aB2(o:Operator)(e:Expr)(f:Expr->Expr->Bool):Bool:=an 7 e λp=>Wz (p.op=o)&&f p.a p.b
@[elab_as_elim] theorem Zxo(h:aB2 o e f=Wx)(k:∀l r q,f l r=Wx->P (.BinOp l o r q)):P e:=by unfold aB2 at h;exact Zba h λp h=>dS (P:=λs=>P (.BinOp p.a s p.b p.p)) (bL h) (k _ _ _ (bR h))
@[irreducible] def aC1(o:CmpOp)(e:Expr)(f:Expr->Expr->Bool):Bool:=an 4 e λp=>Wz (p.cs=[o])&&l1 p.xs λr=>f p.a r
@[elab_as_elim] theorem Zm3(h:aC1 o e f=Wx)(k:∀l r q,f l r=Wx->P (.Compare l [o] [r] q)):P e:=by unfold aC1 at h;exact Zba h λp h=>dS (P:=λs=>P (.Compare p.a s p.xs p.p)) (bL h) (Zaw (P:=λs=>P (.Compare p.a [o] s p.p)) (bR h) λ_ h=>k _ _ _ h)
@[irreducible] def aC2(o o':CmpOp)(e:Expr)(f:Expr->Expr->Expr->Bool):Bool:=an 4 e λp=>Wz (p.cs=[o,o'])&&l2 p.xs λm r=>f p.a m r
@[elab_as_elim] theorem Ztq(h:aC2 o o' e f=Wx)(k:∀l m r q,f l m r=Wx->P (.Compare l [o,o'] [m,r] q)):P e:=by unfold aC2 at h;exact Zba h λp h=>dS (P:=λs=>P (.Compare p.a s p.xs p.p)) (bL h) (ZmG (P:=λs=>P (.Compare p.a [o,o'] s p.p)) (bR h) λ_ _ h=>k _ _ _ _ h)
@[irreducible] def aU(u:UnaryOp)(e:Expr)(f:Expr->Bool):Bool:=an 2 e λp=>Wz (p.u=u)&&f p.a
@[elab_as_elim] theorem Ztz(h:aU u e f=Wx)(k:∀x q,f x=Wx->P (.UnaryOp u x q)):P e:=by unfold aU at h;exact Zba h λp h=>dS (P:=λs=>P (.UnaryOp s p.a p.p)) (bL h) (k _ _ (bR h))
@[irreducible] def aO(o:BoolOp)(e:Expr)(f:List Expr->Bool):Bool:=an 1 e λp=>Wz (p.bo=o)&&f p.xs
@[elab_as_elim] theorem Zr0(h:aO o e f=Wx)(k:∀xs q,f xs=Wx->P (.BoolOp o xs q)):P e:=by unfold aO at h;exact Zba h λp h=>dS (P:=λs=>P (.BoolOp s p.xs p.p)) (bL h) (k _ _ (bR h))
@[irreducible] def aI(e:Expr)(f:Expr->Expr->Expr->Bool):Bool:=an 3 e λp=>f p.a p.b p.c
@[elab_as_elim] theorem Zye(h:aI e f=Wx)(k:∀t x y q,f t x y=Wx->P (.IfExp t x y q)):P e:=by unfold aI at h;exact Zba h λ_ h=>k _ _ _ _ h
@[irreducible] def aT(e:Expr)(f:List Expr->Bool):Bool:=an 8 e λp=>f p.xs
@[elab_as_elim] theorem ZjG(h:aT e f=Wx)(k:∀xs j q,f xs=Wx->P (.Tuple xs j q)):P e:=by unfold aT at h;exact Zba h λ_ h=>k _ _ _ h
@[irreducible] def aLs(e:Expr)(f:List Expr->Bool):Bool:=an 9 e λp=>f p.xs
@[elab_as_elim] theorem Ztd(h:aLs e f=Wx)(k:∀xs q,f xs=Wx->P (.List xs q)):P e:=by unfold aLs at h;exact Zba h λ_ h=>k _ _ h
@[irreducible] def aS(e:Expr)(f:Expr->Expr->Bool):Bool:=an 10 e λp=>f p.a p.b
@[elab_as_elim] theorem ZtP(h:aS e f=Wx)(k:∀x y q,f x y=Wx->P (.Subscript x y q)):P e:=by unfold aS at h;exact Zba h λ_ h=>k _ _ _ h
@[irreducible] def aSl(e:Expr)(f:Expr->Option Expr->Option Expr->Bool):Bool:=aS e λx y=>an 5 y λp=>p.st.isNone&&f x p.l p.h
@[elab_as_elim] theorem Zv3(h:aSl e f=Wx)(k:∀x l u q r,f x l u=Wx->P (.Subscript x (.Slice l u M q) r)):P e:=by
 unfold aSl at h;exact ZtP h λx _ r h=>Zba (P:=λy=>P (.Subscript x y r)) h λp h=>by show P (.Subscript x (.Slice p.l p.h p.st p.p) r);rw[Option.isNone_iff_eq_none.mp (bL h)];exact k _ _ _ _ _ (bR h)
@[irreducible] def aCN(n:Str)(e:Expr)(f:List Expr->Bool):Bool:=an 11 e λp=>aX n p.a (l0 p.kw (f p.xs))
@[elab_as_elim] theorem Zce(h:aCN n e f=Wx)(k:∀p ys q,f ys=Wx->P (.Call (.Name n p) ys [] q)):P e:=by unfold aCN at h;exact Zba h λp h=>ZkR (P:=λa=>P (.Call a p.xs p.kw p.p)) h λq h=>Zin (P:=λw=>P (.Call (.Name n q) p.xs w p.p)) h λh=>k _ _ _ h
@[irreducible] def aCk(n w:Str)(e:Expr)(f:List Expr->Expr->Bool):Bool:=an 11 e λp=>aX n p.a (l1 p.kw λy=>match y with|⟨a,z,_⟩=>Wz (a=J w)&&f p.xs z)
@[elab_as_elim] theorem Zxj(h:aCk n w e f=Wx)(k:∀p ys z r q,f ys z=Wx->P (.Call (.Name n p) ys [⟨J w,z,r⟩] q)):P e:=by
 unfold aCk at h;exact Zba h λp h=>ZkR (P:=λa=>P (.Call a p.xs p.kw p.p)) h λq h=>Zaw (P:=λw=>P (.Call (.Name n q) p.xs w p.p)) h λy h=>match y,h with
  |⟨_,z,r⟩,h=>dS (P:=λs=>P (.Call (.Name n q) p.xs [⟨s,z,r⟩] p.p)) (bL h) (k _ _ _ _ _ (bR h))
@[irreducible] def aA(n:Str)(e:Expr)(f:Expr->Pos->Bool):Bool:=an 12 e λp=>Wz (p.s=n)&&f p.a p.p
@[elab_as_elim] theorem ZsT(h:aA n e f=Wx)(k:∀x q,f x q=Wx->P (.Attribute x n q)):P e:=by unfold aA at h;exact Zba h λp h=>dS (P:=λs=>P (.Attribute p.a s p.p)) (bL h) (k _ _ (bR h))
@[irreducible] def aCA(n:Str)(e:Expr)(f:Expr->Pos->List Expr->Pos->Bool):Bool:=an 11 e λp=>aA n p.a λx ap=>l0 p.kw (f x ap p.xs p.p)
@[elab_as_elim] theorem ZqI(h:aCA n e f=Wx)(k:∀x ap ys cp,f x ap ys cp=Wx->P (.Call (.Attribute x n ap) ys [] cp)):P e:=by unfold aCA at h;exact Zba h λp h=>ZsT (P:=λa=>P (.Call a p.xs p.kw p.p)) h λx q h=>Zin (P:=λw=>P (.Call (.Attribute x n q) p.xs w p.p)) h λh=>k _ _ _ _ h
@[irreducible] def aLC(e:Expr)(f:Expr->Expr->Expr->List Expr->Scope->Bool):Bool:=an 13 e λp=>l1 p.gs λg=>match g with|⟨t,i,c,n⟩=>Wz (n=0)&&f p.a t i c p.sc
@[elab_as_elim] theorem Ztf(h:aLC e f=Wx)(k:∀x t i c sc q,f x t i c sc=Wx->P (.ListComp x [⟨t,i,c,0⟩] sc q)):P e:=by
 unfold aLC at h;exact Zba h λp h=>Zaw (P:=λg=>P (.ListComp p.a g p.sc p.p)) h λg h=>match g,h with
  |⟨t,i,c,_⟩,h=>dS (P:=λs=>P (.ListComp p.a [⟨t,i,c,s⟩] p.sc p.p)) (bL h) (k _ _ _ _ _ _ (bR h))
@[irreducible] def aD(e:Expr)(f:List (Option Expr)->List Expr->Bool):Bool:=an 14 e λp=>f p.ks p.xs
@[elab_as_elim] theorem Zyk(h:aD e f=Wx)(k:∀ks vs q,f ks vs=Wx->P (.Dict ks vs q)):P e:=by unfold aD at h;exact Zba h λ_ h=>k _ _ _ h
@[irreducible] def aK(e:Expr)(f:Const->Bool):Bool:=an 15 e λp=>f p.v
@[elab_as_elim] theorem ZwU(h:aK e f=Wx)(k:∀c j q,f c=Wx->P (.Constant c j q)):P e:=by unfold aK at h;exact Zba h λ_ h=>k _ _ _ h
end
noncomputable def Zym:D->Const->Bool
 |.int i,.int j=>Wz (i=j)
 |.str x,.str y=>Wz (x=y)&&Yo y
 |.bl b,.bool c=>Wz (b=c)
 |.non,.none=>Wx
 |_,_=>Wy
def Zxm(Γ:Gm)(d:D)(e:Expr):Bool:=(aK e λc=>Zym d c)||match d with
 |.ty n=>aX (Str.ofString n) e (Wz (n∈Zl2)&&glb Γ (Str.ofString n))
 |_=>Wy
noncomputable def ZqC(NC N:List Str)(js:List (Option Nat))(sc scope:Scope):Bool:=
 Wz (scope.kind=.function)&&Wz (sc.kind=.function)&&(scope.names.all λy=>Wz (y.2≠.cell))&&(scope.names.all λy=>!Wz (y.2=.local)||Wz (scope.names.lookup y.1=J .local)) &&
  (scope.names.all λy=>!Wz (y.2=.free)||Wz (sc.names.lookup y.1=J .cell))&&decide NC.Nodup&&Wz (js.length=NC.length) &&
  ((NC.zip js).all λp=>p.2.all λj=>Wz (N[j]?=J p.1)&&Wz (scope.names.lookup p.1=J .free))
def Zkt(h:ZqC NC N js sc scope=Wx):CompSc NC N js sc scope:=by
 unfold ZqC at h;rw[Oa,Oa,Oa,Oa,Oa,Oa,Oa]at h;obtain⟨⟨⟨⟨⟨⟨⟨a,b⟩,c⟩,d⟩,e⟩,f⟩,g⟩,i⟩:=h;rw[OC]at c d e;refine⟨of_decide_eq_true a,of_decide_eq_true b,λy hy=>of_decide_eq_true (c y hy),λy hy e1=>?_,λy hy e1=>?_,of_decide_eq_true f,of_decide_eq_true g,i⟩
 . have:=d y hy;rw[decide_eq_true e1]at this;simpa using this
 . have:=e y hy;rw[decide_eq_true e1]at this;simpa using this
noncomputable def Zlp(N:List Str)(own:Str->Bool)(i:Nat)(e:Expr):Bool:=aN e λx=>Wz (N[i]?=J x)&&own x
def ZmZ(N:List Str)(own:Str->Bool):List Nat->List Expr->Bool
 |[],es=>es.isEmpty
 |i::is,es=>match es with
  |e::es=>Zlp N own i e&&ZmZ N own is es
  |[]=>Wy
def Zm1(N:List Str)(own:Str->Bool)(i j:Nat)(e:Expr):Bool:=aT e λes=>l2 es λa b=>Zlp N own i a&&Zlp N own j b
def Zm0(N:List Str)(own:Str->Bool)(is:List Nat)(e:Expr):Bool:=aT e λes=>ZmZ N own is es
def ZsB(N:List Str)(own:Str->Bool)(g:Tg)(e:Expr):Bool:=match g with
 |.nm i=>Zlp N own i e
 |.two i j=>Zm1 N own i j e
 |.many is=>Zm0 N own is e
@[elab_as_elim] theorem ZbZ{P:Expr->Prop}(h:Zlp N own i e=Wx)(k:∀x p,N[i]?=J x->own x=Wx->P (.Name x p)):P e:=ZwJ h λ_ _ h=>k _ _ (of_decide_eq_true (bL h)) (bR h)
def isTup(e:Expr):Bool:=Wz (tgE e=8)
@[elab_as_elim] theorem Zth{P:Expr->Prop}(h:isTup e=Wx)(k:∀xs j q,P (.Tuple xs j q)):P e:=ZjG (P:=P) (f:=λ_=>Wx) (by unfold aT an;rw[show Wz (tgE e=8)=Wx from h];rfl) λ_ _ _ _=>k _ _ _
noncomputable def tgk:Tg->Nat
 |.nm i=>i+1
 |.two i j=>max i j+1
 |.many is=>is.foldr max 0+1
noncomputable def Zwx(sc:Scope)(x:Str):Bool:=Wz (sc.names.lookup x=J .local)
noncomputable def ownD(sc:Scope)(x:Str):Bool:=Wz (sc.names.lookup x=J .local)||Wz (sc.names.lookup x=J .cell)
def Zcz(e:Expr):Bool:=Wz (tgE e≠18)
def Zg6(e:Expr):Bool:=Wz (tgE e≠5)
def Zag(e:Expr):Bool:=Wz (tgE e≠0)
def Zb9(e:Expr):Bool:=!(Wz (tgE e=11)&&(prt e).xs.isEmpty)
def Zli(e:Expr):Bool:=Wz (6<=tgE e)&&Wz (tgE e<=16)
mutual
def chk(Γ:Gm):Ex->Expr->Bool
 |.var i,e=>aN e λx=>Wz (Γ.N[i]?=J x)&&(Zq1 Γ.sc x&&(!(x==("__debug__" : Str))&&!(x==("__classdict__" : Str))))
 |.cst d,e=>Zxm Γ d e
 |.glo x,e=>aX x e (glb Γ x)
 |.bin op a b,e=>aB2 op e λl r=>chk Γ a l&&chk Γ b r
 |.cmp op a b,e=>aC1 op e λl r=>chk Γ a l&&(chk Γ b r&&Zcz r)
 |.cmp2 o1 o2 a b c,e=>aC2 o1 o2 e λl m r=>chk Γ a l&&(chk Γ b m&&(chk Γ c r&&Zcz r))
 |.neg a,e=>aU .USub e λx=>chk Γ a x
 |.nt a,e=>aU .Not e λx=>chk Γ a x
 |.ands es,e=>aO .And e λxs=>chks Γ es xs
 |.ors es,e=>aO .Or e λxs=>chks Γ es xs
 |.ite c a b,e=>aI e λt x y=>chkt Γ c t&&(chk Γ a x&&chk Γ b y)
 |.tupl es,e=>aT e λxs=>chks Γ es xs
 |.lstl es,e=>aLs e λxs=>chks Γ es xs
 |.ix a i,e=>aS e λx y=>chk Γ a x&&(chk Γ i y&&Zg6 y)
 |.sl a lo hi,e=>aSl e λx l u=>chk Γ a x&&(chko Γ lo l&&chko Γ hi u)
 |.blt f es,e=>aCN (Zm4 f) e λys=>(bok f&&glb Γ (Zm4 f))&&(chks Γ es ys&&!ys.isEmpty)
 |.call f es,e=>aCN f e λys=>Wz (f∈Γ.fs)&&(glb Γ f&&(chks Γ es ys&&!ys.isEmpty))
 |.meth m o es,e=>aCA (ZpT m) e λx ap ys cp=>chk Γ o x&&(Zb9 x&&(chks Γ es ys&&(Wz (ys.length<29)&&(ap.endLine==cp.line))))
 |.trev e,x=>aCN "tuple" x λys=>l1 ys λz=>aCN "reversed" z λys=>l1 ys λy=>glb Γ "tuple" && (glb Γ "reversed" && (chk Γ e y&&Zag y))
 |.lrv _,_=>Wy
 |.tix o e,x=>aCA "index" x λx ap ys cp=>l1 ys λy=>chk Γ o x&&(Zb9 x&&(chk Γ e y&&(Zag y&&(ap.endLine==cp.line))))
 |.lix _ _,_=>Wy
 |.lin _ _,_=>Wy
 |.rpn a b,e=>aC1 .NotEq e λl r=>aCN "repr" l λys=>l1 ys λy=>aCN "repr" r λzs=>l1 zs λz=>glb Γ "repr" && (chk Γ a y&&(Zag y&&(chk Γ b z&&Zag z)))
 |.comp NC js it g c e,x=>aLC x λaE tg iter be scope=>Γ.top&&(ZqC NC Γ.N js Γ.sc scope&&(chki Γ it tg iter&&(Zcz iter&&(ZsB NC (Zwx scope) g tg&&(((List.range (tgk g)).all λj=>Wz (js[j]?=J M)) &&
  (chkf ⟨NC,scope,Γ.fs,Wy,Γ.kl⟩ c be&&chk ⟨NC,scope,Γ.fs,Wy,Γ.kl⟩ e aE))))))
 |.sorts _,_=>Wy
 |.maxd a d,e=>aCk "max" "default" e λys z=>l1 ys λy=>glb Γ "max" && (chk Γ a y&&(Zag y&&chk Γ d z))
 |.dictl ps,e=>aD e λkeys values=>Wz (keys.length<=15)&&chkp Γ ps keys values
 |.att Cs o f,e=>aA f e λx _=>chk Γ o x&&(Zb9 x&&((Cs.all λC=>Wz (C∈Γ.kl.cs))&&Wz (f∈Γ.kl.ats)))
 |.mk C es,e=>aCN C e λys=>Wz (C∈Γ.kl.is)&&(glb Γ C&&chks Γ es ys)
 |.mcl C m o es,e=>aCA m e λx ap ys cp=>chk Γ o x&&(Zb9 x&&(chks Γ es ys&&(Wz ((C,m)∈Γ.kl.ms)&&(Wz (ys.length<29)&&(ap.endLine==cp.line)))))
 |.any,_=>Wx
def chks(Γ:Gm):Exs->List Expr->Bool
 |.nil,es=>es.isEmpty
 |.cons e r,es=>match es with
  |x::xs=>chk Γ e x&&(Zag x&&chks Γ r xs)
  |[]=>Wy
def chkp(Γ:Gm):Exs->List (Option Expr)->List Expr->Bool
 |.nil,ks,vs=>ks.isEmpty&&vs.isEmpty
 |.cons k r,ks,vs=>match r with
  |.cons v r'=>match ks,vs with
   |some kx::ks,vx::vs=>chk Γ k kx&&(chk Γ v vx&&chkp Γ r' ks vs)
   |_,_=>Wy
  |.nil=>Wy
def chko(Γ:Gm):Option Ex->Option Expr->Bool
 |none,x=>x.isNone
 |some a,x=>match x with
  |some x=>chk Γ a x
  |none=>Wy
def chkf(Γ:Gm):Option Tx->List Expr->Bool
 |none,x=>x.isEmpty
 |some a,x=>l1 x λx=>chkt Γ a x
def Zyl(Γ:Gm):Ex->Expr->Bool
 |.cmp op a b,e=>aC1 op e λl r=>chk Γ a l&&(chk Γ b r&&Zcz r)
 |.cmp2 o1 o2 a b c,e=>aC2 o1 o2 e λl m r=>chk Γ a l&&(chk Γ b m&&(chk Γ c r&&Zcz r))
 |.rpn a b,e=>aC1 .NotEq e λl r=>aCN "repr" l λys=>l1 ys λy=>aCN "repr" r λzs=>l1 zs λz=>glb Γ "repr" && (chk Γ a y&&(Zag y&&(chk Γ b z&&Zag z)))
 |_,_=>Wy
def chkt(Γ:Gm):Tx->Expr->Bool
 |.ex e,x=>(Zli x&&chk Γ e x)||Zyl Γ e x
 |.ands ts,x=>aO .And x λxs=>chkts Γ ts xs
 |.ors ts,x=>aO .Or x λxs=>chkts Γ ts xs
 |.nt t,x=>aU .Not x λy=>chkt Γ t y
def chkts(Γ:Gm):Txs->List Expr->Bool
 |.one t,xs=>l1 xs λx=>chkt Γ t x
 |.cons t ts,xs=>match xs with
  |x::r=>chkt Γ t x&&(!r.isEmpty&&chkts Γ ts r)
  |_=>Wy
def chki(Γ:Gm):Ix->Expr->Expr->Bool
 |.pl e,_,x=>chk Γ e x
 |.rng e,_,x=>aCN "range" x λys=>l1 ys λy=>glb Γ "range" && (chk Γ e y&&Zag y)
 |.rng2 _ _,_,_=>Wy
 |.enu e,tg,x=>aCN "enumerate" x λys=>l1 ys λy=>glb Γ "enumerate" && (chk Γ e y&&(Zag y&&isTup tg))
 |.rev e,_,x=>aCN "reversed" x λys=>l1 ys λy=>glb Γ "reversed" && (chk Γ e y&&Zag y)
 |.en1 _,_,_=>Wy
 |.en0 _,_,_=>Wy
 |.dk _,_,_=>Wy
end
def leS(a b:Str):Prop:=¬ b.cps.toList<a.cps.toList
def Zim(h:leS a b)(q:leS b c):leS a c:=by unfold leS at *;rw[List.not_lt]at *;exact List.le_trans h q
def ZpZ(h:leS a b)(q:leS b a):a=b:=by unfold leS at *;rw[List.not_lt]at *;have e:=List.le_antisymm h q;obtain⟨⟨a⟩⟩:=a;obtain⟨⟨b⟩⟩:=b;simp at e;subst e;rfl
def ZjI:∀{ss:List Str},sortedS ss=Wx->ss.Pairwise leS:=by
 have gen:∀(r:List Str) (p:Str),risingS p r=Wx->(∀x∈r,leS p x)/\r.Pairwise leS:=by
  intro r;induction r with
  |nil=>intro p _;exact⟨by simp,.nil⟩
  |cons x r ih=>
   intro p h;rw[risingS,Oa]at h;obtain⟨R,h2⟩:=ih x h.2;have hx:leS p x:=by have:=h.1;rw[ltCps_eq]at this;unfold leS;simpa using this
   refine⟨λy hy=>?_,.cons R h2⟩;rcases O3.mp hy with rfl|hy
   . exact hx
   . exact Zim hx (R y hy)
 intro ss h;cases ss with
 |nil=>exact .nil
 |cons x r=>obtain⟨R,h2⟩:=gen r x h;exact .cons R h2
theorem Zg0(x:Str):∀r:List Str,(ZnD x r).Perm (x::r)
 |[]=>.refl _
 |y::r=>by
  unfold ZnD;split
  . exact((Zg0 x r).cons y).trans (.swap x y r)
  . exact .refl _
theorem Zel:∀r:List Str,(ZcT r).Perm r
 |[]=>.refl _
 |x::r=>(Zg0 x _).trans ((Zel r).cons x)
theorem ZjS(x:Str):∀r:List Str,r.Pairwise leS->(ZnD x r).Pairwise leS
 |[],_=>.cons (by simp) .nil
 |y::r,h=>by
  cases h with
  |cons R h2=>
   unfold ZnD;split
   . rename_i au;rw[ltCps_eq]at au;have au:=of_decide_eq_true au;refine .cons (λz hz=>?_) (ZjS x r h2);rcases O3.mp ((Zg0 x r).mem_iff.mp hz)with rfl|hz
     . unfold leS;rw[List.not_lt];exact List.le_of_lt au
     . exact R z hz
   . rename_i au;have gM:leS x y:=by unfold leS;rw[ltCps_eq]at au;simpa using au
     refine .cons (λz hz=>?_) (.cons R h2);rcases O3.mp hz with rfl|hz
     . exact gM
     . exact Zim gM (R z hz)
theorem Zib:∀r:List Str,(ZcT r).Pairwise leS
 |[]=>.nil
 |x::r=>ZjS x _ (Zib r)
def Zno(hp:bj.Perm ss)(hs:sortedS bj=Wx):bj=ZcT ss:=(hp.trans (Zel ss).symm).eq_of_pairwise (λ_ _ _ _ h q=>ZpZ h q) (ZjI hs) (Zib ss)
section
variable {X:Cx}{Y:Yx}{E:XK}{T:Tb}{H:Hp}{B:List Yi}{h:Hd}
theorem Zgh:∀{ds:List (Key×D)}{vs:List (Key×V)}{ss:List Str},RKs Y H B ds vs->Zep ds=J ss->vs.map (·.1)=ss.map YE
 |_,_,_,.nil,e=>by cases e;rfl
 |_,_,_,.cons (k:=k) a s,e=>by
  cases k with
  |inl i=>cases e
  |inr x=>rw[Zep]at e;obtain⟨z,e1,rfl⟩:=Oo.mp e;rw[Op,Op,Zgh s e1]
theorem Zl9:∀(ss:List Str),(∀x∈ss,Yo x=Wx)->RDs Y H B (ss.map D.str) (ss.map V.str)
 |[],_=>.nil
 |x::r,h=>.cons (.str x (h x (by simp))) (Zl9 r λy hy=>h y (by simp[hy]))
def ZsH(hc:X.A.handled=M)(G:Gk X Y T):Zcl X (.builtin "sorted") (rF Y E (ZfF T.GD)):=by
 intro aa s Z H xs us Q I r hh;obtain⟨ds,h,B,rh,rs,f⟩:=hh;unfold ZfF at f;split at f
 . split at f
   . rename_i ss e2;obtain⟨hz,f⟩:=f.iff;obtain⟨kvs,e3,e4⟩:=Option.bind_eq_some_iff.mp e2;obtain⟨x,rfl,r1⟩:=rs.one;obtain⟨a,aj,rfl,hd,rk⟩:=r1.dicOf G rh e3;obtain⟨hz,hok⟩:=hz;refine Zjj hc aa s Z H _ us Q I r ⟨a,aj,ss,rfl,hd,Zgh rk e4,hz,λp bj hp R h2=>?_⟩;rw[Zno R h2];refine f.new rh hp ⟨_,Zp,Zl9 _ λy hy=>?_⟩;rw[OC]at hok;exact hok y ((Zel ss).mem_iff.mp hy)
   . exact f.elim
 . exact f.elim
end
set_option tactic.hygienic false
def RS(Y:Yx)(H:Hp)(B:List Yi)(S:Ev)(Z:L2.St):Prop:=Z.length=S.length/\∀(i:Nat) (d:D),S[i]?=J (J d)->∃v,Z[i]?=J (J v)/\RD Y H B d v
section
variable {Y:Yx}{H H':Hp}{B μ':List Yi}{h:Hd}{S:Ev}{Z:L2.St}
theorem RS.mono(rh:RH Y H B h)(g:Gr H B H' μ')(r:RS Y H B S Z):RS Y H' μ' S Z:=⟨r.1,λi d e=>let⟨v,R,h2⟩:=r.2 i d e;⟨v,R,h2.mono rh g⟩⟩
def RS.var(r:RS Y H B S Z){i:Nat}{d:D}(e:(S[i]?).join=J d):∃v,Z[i]?=J (J v)/\RD Y H B d v:=by
 refine r.2 i d ?_;cases q:S[i]? with
 |none=>rw[q]at e;cases e
 |some o=>rw[q]at e;cases o with
  |none=>cases e
  |some d'=>cases e;rfl
theorem RS.set(r:RS Y H B S Z){i:Nat}{d:D}{v:V}(q:RD Y H B d v):RS Y H B (S.set i (J d)) (Z.set i (J v)):=by
 refine⟨by simp[r.1],λj e he=>?_⟩;by_cases hj:i=j
 . subst hj;have hl:i<S.length:=by have:=(Ob.mp he).1;simpa using this
   rw[Ol hl]at he;cases he;exact⟨v,by rw[Ol (by rw[r.1];exact hl)],q⟩
 . rw[Oc hj]at he;obtain⟨w,R,h2⟩:=r.2 j e he;exact⟨w,by rw[Oc hj];exact R,h2⟩
theorem RS.capt(r:RS Y H B S Z)(js:List (Option Nat)):RS Y H B (Zc2 js S) (capt js Z):=by
 refine⟨by simp[Zc2,L2.capt],λi d e=>?_⟩;unfold Zc2 at e;unfold L2.capt;rw[O2]at e ⊢;cases q:js[i]? with
 |none=>rw[q]at e;cases e
 |some o=>
  rw[q]at e;cases o with
  |none=>cases e
  |some j=>
   have e':(S[j]?).join=J d:=by simpa using e
   obtain⟨v,R,h2⟩:=r.var e';exact⟨v,by simp[R],h2⟩
end
inductive Sm(Y:Yx)(E:XK){α β:Type}(rel:Hp->List Yi->α->β->Prop)(m:Ev->Hd->qe α)(Z:L2.St)(H:Hp)(Q:β->Hp->Prop):Prop
 |mk (S:Ev) (h:Hd) (B:List Yi) (rh:RH Y H B h) (rs:RS Y H B S Z) (f:Fin Y rel H B (m S h) Q E):Sm Y E rel m Z H Q
def eqR{α:Type}:Hp->List Yi->α->α->Prop:=λ_ _ a b=>a=b
theorem Sm.bind{α β γ δ:Type}{Q:β->Hp->Prop}{rel:Hp->List Yi->γ->δ->Prop}{ba:Hp->List Yi->α->β->Prop}{m:Ev->Hd->qe γ}{k:Ev->γ->Hd->qe α}(s:Sm Y E ba (λS h=>(m S h).bind (k S)) Z H Q)
 {Q1:δ->Hp->Prop}
 (hk:∀S d R v H1 μ1,RH Y H1 μ1 R->RS Y H1 μ1 S Z->rel H1 μ1 d v->Fin Y ba H1 μ1 (k S d R) Q E->Q1 v H1):Sm Y E rel m Z H Q1:=by
 cases s with
 |mk S h B rh rs f=>exact⟨S,h,B,rh,rs,f.bind λd R x H1 μ1 _ g ac rd f1=>hk S d R x H1 μ1 ac (rs.mono rh g) rd f1⟩
section
variable (T:Tb)(Y:Yx)(E:XK)
def Zac(e:Ex):TE:=Sm Y E (RD Y) (ev T e)
def Zk5(e:Exs):TA:=Sm Y E (RDs Y) (evs T e)
def Zk4(e:Tx):TT:=Sm Y E eqR (tst T e)
def ZxV(e:Option Ex):TO:=Sm Y E eqR (evo T e)
def ZxW(e:Ix):TI:=Sm Y E (WJ Y) (evi T e)
noncomputable def ZfK(f:Str):Sp:=λvs H Q E=>∃ds h B,RH Y H B h/\RDs Y H B ds vs/\Fin Y (RD Y) H B (T.C f ds h) Q E
end
structure Gd(T:Tb)(Γ:Gm)(X:Cx)(Y:Yx)(E:XK)(k:Nat):Prop where
 gk:Gk X Y T
 N:X.N=Γ.N
 sc:Γ.top=Wx->X.env.scope=Γ.sc
 vis:∀x,Zq1 Γ.sc x=Wx->Vis X.env.scope x
 glo:∀x,Γ.sc.names.lookup x=J .globalImplicit->Gl X x
 nd:X.N.Nodup
 calm:X.calm=Wx
 room:Room k X.A
 h60:60<=k
 pass:Zbb (CXF X.prog X.w) X E
 defs:∀f∈Γ.fs,∃ps,Def X.prog X.w X.K X.mg X.base k f ps (ZfK T Y f)
 blt:∀x∈Zm5,X.mg x=M
 room1:Room (k+1) X.A
 passC:Γ.top=Wx->∀(aa:List (Yi×Obj)) (Z:L2.St) (NC:List Str) (scope:Scope) (C:Yi) (s3:Yb) (H3:Hp) (fp:List Yi),Inv X aa Z H3 s3->(∀b∈fp,Zb7 X aa H3 b)->C=s3.heap.objs.size->Zbb (CXF X.prog X.w) (ZC X NC scope C s3 H3 fp) E
 cls:∀C∈Γ.kl.cs,∃a,X.mg C=J (.ref a)/\Cls X.K a/\∀f∈Γ.kl.ats,Zbt X.K a f
 mts:∀p∈Γ.kl.ms,∃a f fd ps,X.mg p.1=J (.ref a)/\Cls X.K a/\Meth X.K a p.2 f/\FnOk X.prog X.w X.K X.mg X.base (CXF X.prog X.w) k f fd ps (ZfK T Y (mnm p.1 p.2))/\Binds X.K fd ps []
 mks:∀C∈Γ.kl.is,∃a f fd ps,X.mg C=J (.ref a)/\Mk X.K a f/\FnOk X.prog X.w X.K X.mg X.base (CXF X.prog X.w) k f fd ps (ZfK T Y (mnm C (O "__init__")))/\Binds X.K fd ps []
def _root_.L2.PE.imp(h:PE X e t)(i:∀Z H Q,t' Z H Q->t Z H Q):PE X e t':=λaa s Z H Q I q=>h aa s Z H Q I (i Z H Q q)
def _root_.L2.PT.imp(h:PT X e t)(i:∀Z H Q,t' Z H Q->t Z H Q):PT X e t':=λaa s Z H Q I q=>h aa s Z H Q I (i Z H Q q)
def _root_.L2.PW.imp(h:PW X e t)(i:∀Z H Q,t' Z H Q->t Z H Q):PW X e t':=λw aa s Z H Q I q=>h w aa s Z H Q I (i Z H Q q)
def _root_.L2.PA.imp(h:PA X e t)(i:∀Z H Q,t' Z H Q->t Z H Q):PA X e t':=λp aa s Z H Q I q=>h p aa s Z H Q I (i Z H Q q)
def _root_.L2.PO.imp(h:PO X e t)(i:∀Z H Q,t' Z H Q->t Z H Q):PO X e t':=λaa s Z H Q I q=>h aa s Z H Q I (i Z H Q q)
def _root_.L2.PI.imp(h:PI X tg e t)(i:∀Z H Q,t' Z H Q->t Z H Q):PI X tg e t':=λaa s Z H Q I q=>h aa s Z H Q I (i Z H Q q)
structure Kd(x:Expr):Prop where
 star:tgE x≠0->∀xs env,YA (x::xs) env=(Wy,eval x env)::YA xs env
 set:tgE x≠18->∀env v,foldedSetIterable x env v=pure v
 mark:tgE x≠18->∀op,behindInMarks op x=Wy
 ix:tgE x≠5->ZjC x
 put:tgE x≠5->∀o pos env v,assign (.Subscript o x pos) env v=(do
  let ov <- holding [v] (eval o env);let iv <- holding [v,ov] (eval x env)
  standAt pos
  holding [v,ov,iv] (setItem ov iv v)
  release [v,ov,iv] [])
 tr:Zli x=Wx->∀env aP,isTrue x env aP=(do let v <- aP;standAt x.pos;holding [v] (truthy v))
 sw:tgE x≠13->tgE x≠19->∀t n env,swapsWith x t n env=pure Wy
 st:tgE x≠8->∀es j q env,swappedStores [.Tuple es j q] x env=pure M
def kdE(x:Expr):Kd x:=by
 cases x<;>exact⟨by first|exact λ_ _ _=>rfl|exact λh=>absurd rfl h,by first|exact λ_ _ _=>rfl|exact λh=>absurd rfl h,by first|exact λ_ _=>rfl|exact λh=>absurd rfl h,by first|exact λ_ _ _=>rfl|exact λh=>absurd rfl h,
  by first|exact λ_ _ _ _ _=>rfl|exact λh=>absurd rfl h,
  by first|exact λ_ _ _=>rfl|exact λh=>ff h,by first|exact λ_ _ _ _ _=>rfl|exact λh=>absurd rfl h|exact λ_ h=>absurd rfl h,by first|exact λ_ _ _ _ _=>rfl|exact λh=>absurd rfl h⟩
def Zw(env:Env)(h:Zag x=Wx):YA (x::xs) env=(Wy,eval x env)::YA xs env:=(kdE x).star (of_decide_eq_true h) _ _
def Zk2(env:Env)(h:Zcz x=Wx):∀v,foldedSetIterable x env v=pure v:=(kdE x).set (of_decide_eq_true h) _
def ZgP(h:Zcz x=Wx):behindInMarks op x=Wy:=(kdE x).mark (of_decide_eq_true h) _
def ZoV(h:Zg6 x=Wx):ZjC x:=(kdE x).ix (of_decide_eq_true h)
def ZfB(h:Zb9 x=Wx):attributeBase x n env (eval x env)=eval x env:=by
 cases x with
 |Call f as ks p=>
  cases as with
  |nil=>cases h
  |cons a as=>cases f<;>rfl
 |_=>rfl
theorem Zfb(Γ:Gm)(env:Env):∀(es:Exs) (xs:List Expr),chks Γ es xs=Wx->∀pos,(YS pos (YA xs env)).any (·.1)=Wy/\(YS pos (YA xs env)).all (λx=>!x.1)=Wx
 |.nil,[],_,_=>⟨rfl,rfl⟩
 |.nil,_::_,h,_=>ff h
 |.cons _ _,[],h,_=>ff h
 |.cons _ r,x::xs,h,pos=>by rw[Zw env (bL (bR h))];exact Zfb Γ env r xs (bR (bR h)) pos
def Zdu(env:Env)(h:chks Γ es (y::r)=Wx):YA (y::r) env=(Wy,eval y env)::YA r env/\∀pos,(YS pos (YA r env)).any (·.1)=Wy:=by
 cases es with
 |nil=>exact ff h
 |cons e s=>exact⟨Zw env (bL (bR h)),λpos=>(Zfb Γ env s r (bR (bR h)) pos).1⟩
@[elab_as_elim] theorem ZqA{P:List Expr->Prop}(h:chks Γ es ys=Wx)(R:(!ys.isEmpty)=Wx)(k:∀y r,chks Γ es (y::r)=Wx->P (y::r)):P ys:=by
 cases ys with
 |nil=>exact ff R
 |cons y r=>exact k y r h
def Gd.gl{T:Tb}{Γ:Gm}{X:Cx}{Y:Yx}{E:XK}{k:Nat}(G:Gd T Γ X Y E k){x:Str}(h:glb Γ x=Wx):Gl X x/\(x==("__debug__" : Str))=Wy:=by unfold glb at h;rw[Oa]at h;exact⟨G.glo x (of_decide_eq_true h.1),by simpa using h.2⟩
theorem Zg8{f:Str->NameKind->NameKind}(x:Str):∀names:List (Str×NameKind),(names.map λp=>(p.1,f p.1 p.2)).lookup x=(names.lookup x).map (f x)
 |[]=>rfl
 |(n,k)::r=>by
  rw[Op,OF,OF];by_cases e:x=n
  . subst e;simp
  . have:(x==n)=Wy:=by simpa using e
    simp only[this];exact Zg8 x r
def Zb8(scope:Scope)(env:Env)(x:Str):(relabel scope env).names.lookup x=(scope.names.lookup x).map λk=>if (k==Yn&&env.scope.kind==.function&&env.kindOf x==J .cell)then NameKind.cell else k:=by
 have e:(relabel scope env).names=scope.names.map λp=>(p.1,(λ(n:Str) (k:NameKind)=>if (k==Yn&&env.scope.kind==.function&&env.kindOf n==J .cell)then NameKind.cell else k) p.1 p.2):=by unfold relabel;simp only;refine List.map_congr_left λp _=>?_;obtain⟨n,k⟩:=p;simp only;split<;>rfl
 rw[e];exact Zg8 (f:=λ(n:Str) (k:NameKind)=>if (k==Yn&&env.scope.kind==.function&&env.kindOf n==J .cell)then NameKind.cell else k) x scope.names
def Gd.comp{T:Tb}{Γ:Gm}{X:Cx}{Y:Yx}{E:XK}{k:Nat}(G:Gd T Γ X Y E k)(NC:List Str)(scope:Scope)(C:Yi)(s3:Yb)(H3:Hp)(fp:List Yi)(nd:NC.Nodup)(hp:Zbb (CXF X.prog X.w) (ZC X NC scope C s3 H3 fp) E):Gd T ⟨NC,scope,Γ.fs,Wy,Γ.kl⟩ (ZC X NC scope C s3 H3 fp) Y E k:=by
 refine⟨⟨G.gk.K,G.gk.mg,G.gk.gd,G.gk.g,G.gk.bare⟩,rfl,(λh=>by cases h),λx hx=>?_,λx hx=>?_,nd,rfl,G.room,G.h60,hp,G.defs,G.blt,G.room1,(λh=>by cases h),G.cls,G.mts,G.mks⟩
 . show Vis (relabel scope X.env) x;unfold Vis;rw[Zb8];unfold Zq1 at hx;rw[Wu,Wu]at hx;rcases hx with (hx|hx)|hx
   . rw[of_decide_eq_true hx];exact .inl rfl
   . rw[of_decide_eq_true hx];exact .inr (.inl rfl)
   . rw[of_decide_eq_true hx];by_cases q:(X.env.scope.kind==.function&&X.env.kindOf x==J .cell)=Wx
     . refine .inr (.inl ?_);have:(Yn==Yn&&X.env.scope.kind==.function&&X.env.kindOf x==J .cell)=Wx:=by simpa using q
       simp only[Yu,this,if_true]
     . refine .inr (.inr ?_);have:¬ ((Yn==Yn&&X.env.scope.kind==.function&&X.env.kindOf x==J .cell)=Wx):=by simpa using q
       simp only[Yu,this,if_false];rfl
 . show(relabel scope X.env).names.lookup x=J .globalImplicit;rw[Zb8,hx];rfl
section
variable {T:Tb}{Y:Yx}{E:XK}{Z:L2.St}{H:Hp}{Q:VK}
def Zre{a b:Ex}{f:D->D->Hd->qe D}(s:Sm Y E (RD Y) (λS h=>(ev T a S h).bind λx R=>(ev T b S R).bind λy h2=>f x y h2) Z H Q):Zac T Y E a Z H λx H1=>Zac T Y E b Z H1 λy H2=>rB Y E f x y H2 Q:=s.bind λS d R x H1 μ1 ac ai rd f1=>⟨S,R,μ1,ac,ai,f1.bind λe h2 y H2 μ2 _ g2 ak re f2=>⟨d,e,h2,μ2,ak,rd.mono ac g2,re,f2⟩⟩
end
def Zvq{T:Tb}{Γ:Gm}{X:Cx}{Y:Yx}{E:XK}{k:Nat}(G:Gd T Γ X Y E k)(f:Bf)(hb:bok f=Wx){e:Expr}{es:List Expr}{t:TA}{p pos:Pos}(hg:Gl X (Zm4 f))(ha:PA X (e::es) t)
 (he:YA (e::es) X.env=(Wy,eval e X.env)::YA es X.env) (a9:(YS pos (YA es X.env)).any (·.1)=Wy):PE X (.Call (.Name (Zm4 f) p) (e::es) [] pos) (tCB (rF Y E (ZbO T.GD f)) t):=by
 have hY:=G.gk.K;cases f with
 |len=>exact ZcV (ZsI hY) hg (G.blt _ (by decide)) (by decide +kernel) ha (by decide) (by decide) he a9
 |isi=>exact ZcV (ZsJ hY) hg (G.blt _ (by decide)) (by decide +kernel) ha (by decide) (by decide) he a9
 |int=>cases hb
 |tup=>exact ZnK (ZsF hY) hg (G.blt _ (by decide)) (by decide +kernel) ha (by decide) (by decide) he a9
 |lst=>cases hb
 |sum=>exact ZcV (ZsG G.room.hd hY) hg (G.blt _ (by decide)) (by decide +kernel) ha (by decide) (by decide) he a9
 |all=>cases hb
 |mx=>cases hb
 |srt=>exact ZcV (ZsH G.room.hd G.gk) hg (G.blt _ (by decide)) (by decide +kernel) ha (by decide) (by decide) he a9
set_option tactic.hygienic true
def Zhz{v:V}(rd:∀H B,RD Y H B d v)(p:PE X x (tC v)):PE X x (Zac T Y E (.cst d)):=PE.imp p λZ H Q s=>by
 cases s with
 |mk S h B rh rs f=>exact Fin.ok (r:=rd H B) (show Fin Y (RD Y) H B (.ok d h) Q E from f) rh
def ZqB(G:Gd T Γ X Y E k)(h:Zxm Γ d x=Wx):PE X x (Zac T Y E (.cst d)):=by
 refine bO h (λh=>ZwU (P:=λx=>PE X x _) h λc j q h=>?_) λh=>?_
 . cases d with
   |int i=>cases c with
    |int j=>exact dS (P:=λi=>PE X _ (Zac T Y E (.cst (.int i)))) h (Zhz (λ_ _=>.int _) Zum)
    |_=>exact ff h
   |str i=>cases c with
    |str j=>exact dS (P:=λi=>PE X _ (Zac T Y E (.cst (.str i)))) (bL h) (Zhz (λ_ _=>.str _ (bR h)) Zpx)
    |_=>exact ff h
   |bl i=>cases c with
    |bool j=>exact dS (P:=λi=>PE X _ (Zac T Y E (.cst (.bl i)))) h (Zhz (λ_ _=>.bl _) Zww)
    |_=>exact ff h
   |non=>cases c with
    |none=>exact Zhz (λ_ _=>.non) Zul
    |_=>exact ff h
   |_=>exact ff h
 . cases d with
   |ty n=>
    refine ZkR (P:=λx=>PE X x _) h λp h=>?_;obtain⟨g1,g2⟩:=G.gl (bR h);have all:(Zl2.all λn=>Wz (bootBuiltins (Str.ofString n)=J (.type n))&&(Wz (Str.ofString n ≠ "__name__")&&Wz (Str.ofString n∈Zm5)))=Wx:=by decide +kernel
    have a:=OC.mp all n (of_decide_eq_true (bL h));exact Zhz (λ_ _=>.ty _) (ZrH g1 (G.blt _ (of_decide_eq_true (bR (bR a)))) (of_decide_eq_true (bL a)) rfl (of_decide_eq_true (bL (bR a))) g2)
   |_=>exact ff h
def qe.bind_eq{α β:Type}{r:qe α}{k:α->Hd->qe β}{b:β}{h:Hd}(e:r.bind k=.ok b h):∃a R,r=.ok a R/\k a R=.ok b h:=by
 cases r with
 |bad=>cases e
 |ok a R=>exact⟨a,R,rfl,e⟩
 |exc c R=>cases e
def qe.bind_assoc{α β γ:Type}{r:qe α}{k:α->Hd->qe β}{l:β->Hd->qe γ}:(r.bind k).bind l=r.bind λa h=>(k a h).bind l:=by cases r<;>rfl
def ZpK(e:opC GD op x y h=.ok r h'):∃b,r=.bl b:=by
 have i2:∀{f:Int->Int->Bool},ZiX f x y h=.ok r h'->∃b,r=.bl b:=λe=>by
  unfold ZiX at e;split at e
  . cases e;exact⟨_,rfl⟩
  . cases e
 have eq:∀{n:Bool},Zc8 n x y h=.ok r h'->∃b,r=.bl b:=λe=>by
  unfold IV.Zc8 at e;split at e
  . split at e
    . cases e;exact⟨_,rfl⟩
    . cases e
  . cases e
 have inn:∀{n:Bool},Zdq GD n x y h=.ok r h'->∃b,r=.bl b:=λe=>by
  unfold Zdq at e;split at e
  . split at e
    . cases e;exact⟨_,rfl⟩
    . cases e
  . split at e
    . cases e;exact⟨_,rfl⟩
    . cases e
 have n1:∀{n:Bool},opN n x y h=.ok r h'->∃b,r=.bl b:=λe=>by
  unfold opN at e;split at e
  . cases e;exact⟨_,rfl⟩
  . cases e
 unfold opC at e;split at e
 . exact eq e
 . exact eq e
 . exact i2 e
 . exact i2 e
 . exact i2 e
 . exact i2 e
 . exact inn e
 . exact inn e
 . exact n1 e
 . exact n1 e
def ZwL(m:Mf):Slot "list" (ZpT m) (mid m)/\typeOf (.builtin (mid m))=pure (.type "method_descriptor"):=by
 cases m with
 |app=>exact⟨PySem.F.slot_list_append,PySem.F.type_list_append⟩
 |ext=>exact⟨PySem.F.slot_list_extend,PySem.F.type_list_extend⟩
 |pop=>exact⟨PySem.F.slot_list_pop,PySem.F.type_list_pop⟩
 |rev=>exact⟨PySem.F.slot_list_reverse,PySem.F.type_list_reverse⟩
 |clr=>exact⟨PySem.F.slot_list_clear,PySem.F.type_list_clear⟩
section
variable {Y:Yx}{α β α' β':Type}{rel:Hp->List Yi->α->β->Prop}{ba:Hp->List Yi->α'->β'->Prop}{H0 H H1:Hp}{μ0 B μ1:List Yi}{E:XK}
def Fin.bindB(g0:Gr H0 μ0 H B)(f:Fin Y ba H0 μ0 (r.bind k) Q E)
 (hk:∀a R b H1 μ1,r=.ok a R->Gr H B H1 μ1->RH Y H1 μ1 R->rel H1 μ1 a b->Fin Y ba H0 μ0 (k a R) Q E->Q1 b H1):Fin Y rel H B r Q1 E:=by
 cases r with
 |bad=>exact f
 |ok a h=>exact λb H' μ' g' rh rl=>hk a h b H' μ' rfl g' rh rl f
 |exc c h=>exact λH' μ' C g'=>f H' μ' C (g0.trans g')
def Fin.bindAt(g0:Gr H0 μ0 H B)(f:Fin Y ba H0 μ0 (r.bind k) Q E)
 (hk:∀a R b H1 μ1,r=.ok a R->Gr H B H1 μ1->RH Y H1 μ1 R->rel H1 μ1 a b->Fin Y ba H0 μ0 (k a R) Q E->Q1 b H1):Fin Y rel H B r Q1 E:=by
 cases r with
 |bad=>exact f
 |ok a h=>exact λb H' μ' g' rh rl=>hk a h b H' μ' rfl g' rh rl f
 |exc c h=>exact λH' μ' C g'=>f H' μ' C (g0.trans g')
end
def Zkf:List Nat->TGs
 |[]=>Zsm
 |i::is=>Zkg (Zdr i) (Zkf is)
def tgR(K:Yk):Tg->TG
 |.nm i=>Zdr i
 |.two i j=>Zsl K 2 (Zkg (Zdr i) (Zkg (Zdr j) Zsm))
 |.many is=>Zsl K is.length (Zkf is)
theorem ZjF:∀is:List Nat,is.foldr max 0<k->ZkP k (Zkf is)
 |[],_=>Zl5
 |i::is,h=>by simp only[List.foldr_cons]at h;exact ZgT (by lia) (ZjF is (by lia))
def ZvR(K:Yk)(g:Tg):Zon (tgk g) (tgR K g):=by
 cases g with
 |nm i=>exact Zq7 (OH i)
 |two i j=>exact ZoL (ZgT (show i<max i j+1 by lia) (ZgT (show j<max i j+1 by lia) Zl5))
 |many is=>exact ZoL (ZjF is (OH _))
theorem Zf3:∀(is:List Nat) (es:List Expr),ZmZ N own is es=Wx->(assignEach es env).length=is.length/\List.findIdx? (λx=>x.fst) (assignEach es env)=M
 |[],[],_=>⟨rfl,rfl⟩
 |i::is,e::es,h=>by
  obtain⟨a,b⟩:=Zf3 (env:=env) is _ (bR h);refine ZbZ (P:=λe=>(assignEach (e::es) env).length=_/\List.findIdx? (λx=>x.fst) (assignEach (e::es) env)=M) (bL h) λx p _ _=>⟨congrArg (·+1) a,?_⟩
  simp only[assignEach,List.findIdx?_cons,b];rfl
 |[],_::_,h=>ff h
 |_::_,[],h=>ff h
theorem ZjY(hN:X.N=N)(nd:X.N.Nodup)(ho:∀x,own x=Wx->Loc X.env.scope x/\(X.fn x=Wx\/X.env.scope.names.lookup x=J .local)):∀(is:List Nat) (es:List Expr),ZmZ N own is es=Wx->PGs X es (Zkf is)
 |[],[],_=>Zmq
 |i::is,e::es,h=>ZbZ (P:=λe=>PGs X (e::es) _) (bL h) λx p e1 e2=>Zg3 (Zms nd (by rw[hN];exact e1) (ho _ e2).1 (ho _ e2).2) (ZjY hN nd ho is _ (bR h))
 |[],_::_,h=>ff h
 |_::_,[],h=>ff h
def Zmr(hN:X.N=N)(nd:X.N.Nodup)(hc:X.calm=Wx)(ho:∀x,own x=Wx->Loc X.env.scope x/\(X.fn x=Wx\/X.env.scope.names.lookup x=J .local))(h:ZsB N own g tg=Wx):PG X tg (tgR X.K g):=by
 have nm:∀{i x p},N[i]?=J x->own x=Wx->PG X (.Name x p) (Zdr i):=λe1 e2=>Zms nd (by rw[hN];exact e1) (ho _ e2).1 (ho _ e2).2;cases g with
 |nm i=>exact ZbZ (P:=λt=>PG X t _) h λx p e1 e2=>nm e1 e2
 |two i j=>exact ZjG (P:=λt=>PG X t _) (show Zm1 N own i j tg=Wx from h) λxs k q h=>ZmG (P:=λxs=>PG X (.Tuple xs k q) _) h λa b h=>ZbZ (P:=λa=>PG X (.Tuple [a,b] k q) _) (bL h) λx p e1 e2=>ZbZ (P:=λb=>PG X (.Tuple [_,b] k q) _) (bR h) λy r e3 e4=>Zpv hc (Zg3 (nm e1 e2) (Zg3 (nm e3 e4) Zmq))
 |many is=>exact ZjG (P:=λt=>PG X t _) (show Zm0 N own is tg=Wx from h) λxs k q h=>Zpv (hn:=(Zf3 _ _ h).1) (hst:=(Zf3 _ _ h).2) hc (ZjY hN nd ho _ _ h)
theorem ZmB:∀(is:List Nat) {ds:List D}{vs:List V}{S:Ev}{Z:L2.St},RDs Y H B ds vs->RS Y H B S Z->ds.length=is.length->(∀σ1,RS Y H B (Zk3 is ds S) σ1->Q σ1 H)->Zkf is vs Z H Q
 |[],ds,vs,S,Z,r,rs,hl,q=>by
  cases r with
  |nil=>exact⟨rfl,q _ rs⟩
  |cons a s=>simp at hl
 |i::is,ds,vs,S,Z,r,rs,hl,q=>by
  cases r with
  |nil=>simp at hl
  |cons a s=>exact⟨_,_,rfl,ZmB is s (rs.set a) (by simpa using hl) q⟩
def Zjn{Y:Yx}{K:Yk}{Q:L2.St->Hp->Prop}(hY:Y.K=K)(r:RD Y H B d v)(rs:RS Y H B S Z)(e:ZbV g d S=J ρ1)(q:∀σ1,RS Y H B ρ1 σ1->Q σ1 H):tgR K g v Z H Q:=by
 cases g with
 |nm i=>cases e;exact q _ (rs.set r)
 |two i j=>
  unfold ZbV at e;simp only at e;split at e
  . cases e;obtain⟨a,vs,rfl,t,s⟩:=r.tup_inv;obtain⟨x,y,rfl,r1,r2⟩:=s.two;exact⟨a,_,rfl,hY▸t,rfl,x,_,rfl,y,_,rfl,rfl,q _ ((rs.set r1).set r2)⟩
  . cases e
 |many is=>
  unfold ZbV at e;simp only at e;split at e
  . split at e
    . rename_i hl;cases e;obtain⟨a,vs,rfl,t,s⟩:=r.tup_inv;exact⟨a,vs,rfl,hY▸t,by rw[<-s.length,hl],ZmB is s rs hl q⟩
    . cases e
  . cases e
section
variable {Y:Yx}{H:Hp}{B:List Yi}{h:Hd}{Dd:Yi}{ys zs:List V}
def ZoT{K:Yk}(hD:H Dd=J (.lst ys))(t:SqT K H a vs):SqT K (upd H Dd (.lst zs)) a vs:=by
 rcases t with t|t
 . rcases t with t|⟨o,t⟩
   . exact .inl (.inl (by rw[Zq (λz=>by rw[z,hD]at t;cases t)];exact t))
   . exact .inl (.inr ⟨o,by rw[Zq (λz=>by rw[z,hD]at t;cases t)];exact t⟩)
 . exact .inr t
def Zqg{K:Yk}(hD:H Dd=J (.lst ys))(t:FzL K H a vs):FzL K (upd H Dd (.lst zs)) a vs:=by
 rcases t with⟨o,t⟩|t
 . exact .inl ⟨o,by rw[Zq (λz=>by rw[z,hD]at t;cases t)];exact t⟩
 . exact .inr t
def Tr.swap(hD:H Dd=J (.lst ys)):Tr Y H B (upd H Dd (.lst zs)) B:=⟨ZoT hD,Zqg hD,id⟩
theorem RH.swap(hD:H Dd=J (.lst ys))(hn:Dd ∉ B)(r:RH Y H B h):RH Y (upd H Dd (.lst zs)) B h:=r.tr (.swap hD) λ_ ha=>Zq λz=>hn (z▸ha)
def Gr.out(g:Gr H B H' μ')(hD:H Dd=J o)(hn:Dd ∉ B):H' Dd=J o/\Dd ∉ μ':=⟨g.keep _ _ hn hD,λhm=>(g.new _ hm).elim hn λz=>by rw[hD]at z;cases z⟩
end
inductive CwS(Y:Yx)(H1:Hp)(μ1:List Yi)(xs:List D)(Dd:Yi)(F:List D->List D->Hd->Prop)(i m:Nat)(ys:List V)(H:Hp):Prop
 |mk (ag:List D) (h:Hd) (B:List Yi) (hi:i<=xs.length) (hm:m=xs.length-i) (g:Gr H1 μ1 H B) (rh:RH Y H B h) (ra:RDs Y H B ag ys) (nd:Dd ∉ B) (f:F (xs.drop i) ag h):CwS Y H1 μ1 xs Dd F i m ys H
def ZmX{T:Tb}{Y:Yx}{E:XK}{K:Yk}(hY:Y.K=K){js:List (Option Nat)}{g:Tg}{c:Option Tx}{e:Ex}{tc:TT}{qb:It}{w:Wk}{H1:Hp}{μ1:List Yi}{R:Hd}{S:Ev}{Z:L2.St}{Q:VK}{Dd:Yi}
 (lJ:∀Z H Q,Sm Y E eqR (tsto T c) Z H Q->tc Z H Q)
 (rh:RH Y H1 μ1 R) (rs:RS Y H1 μ1 S Z) (wj:WJ Y H1 μ1 w qb) (f:Fin Y (RD Y) H1 μ1 ((ZV w.src g (tsto T c) (ev T e) w.xs (Zc2 js S) [] R).bind λxs h2=>Zda (.lst xs) h2) Q E) (hD:H1 Dd=M) :
 ∃W:Nat->Nat->List V->Hp->Prop,(∃m,W 0 m [] (upd H1 Dd (.lst []))) /\
  ∀i m ys H,W i m ys H->H Dd=J (.lst ys)->(qb.stop i H/\Q (.ref Dd) H) \/
   (qb.go i H/\ys.length<sizeLine/\∀x H',qb.yld i H x H'->tgR K g x (capt js Z) H' λσ2 H2=>tc σ2 H2 λb H3=>
    if b=Wx then Zac T Y E e σ2 H3 λy H4=>H4 Dd=J (.lst ys)/\∃m',m'<m/\W (i+1) m' (ys++[y]) (upd H4 Dd (.lst (ys++[y])))
    else H3 Dd=J (.lst ys)/\∃m',m'<m/\W (i+1) m' ys H3):=by
 have n1:=rh.fr hD;refine⟨CwS Y H1 μ1 w.xs Dd λxs ag h=>Fin Y (RD Y) H1 μ1 ((ZV w.src g (tsto T c) (ev T e) xs (Zc2 js S) ag h).bind λxs h2=>Zda (.lst xs) h2) Q E,⟨w.xs.length,[],R,μ1,Yw _,(Nat.sub_zero _).symm,Gr.lay0 hD,rh.lay0 hD,.nil,n1,f⟩,?_⟩;rintro i m ys H ⟨ag,h,B,hi,rfl,g1,ac,ra,nD,f1⟩ hl;by_cases au:i<w.xs.length
 . obtain⟨d,hd⟩:∃d,w.xs[i]?=J d:=⟨_,Og au⟩
   have f6:w.xs.drop i=d::w.xs.drop (i+1):=by rw[List.drop_eq_getElem_cons au];have:=Og au;rw[hd]at this;rw[<-YF this]
   rw[f6,ZV]at f1;by_cases hs:Wk.stays w.src h=Wx/\ag.length<sizeLine
   . rw[if_pos hs]at f1;obtain⟨go,yl⟩:=(wj H B h g1 ac hs.1).1 i d hd;refine .inr ⟨go,by rw[<-ra.length];exact hs.2,λx H' hy=>?_⟩;obtain⟨g2,ak,rx⟩:=yl x H' hy;obtain⟨bN,ly⟩:=g2.out hl nD;have jE:=g1.trans g2;split at f1
     . exact f1.elim
     . rename_i ρ1 hb;refine Zjn hY rx ((rs.mono rh jE).capt js) hb λσ1 ai=>lJ σ1 H' _ ⟨ρ1,h,B,ak,ai,?_⟩;rw[qe.bind_assoc]at f1;refine Fin.bindAt jE f1 λb h3 b' H3 μ3 _ g3 aJ eb f3=>?_;subst eb;obtain⟨j5,jT⟩:=g3.out bN ly;have jD:=jE.trans g3;cases b with
       |true=>rw[if_pos rfl]at f3 ⊢;rw[qe.bind_assoc]at f3;refine⟨ρ1,h3,μ3,aJ,ai.mono ak g3,Fin.bindAt jD f3 λy h4 y' H4 μ4 _ g4 dC ry f4=>?_⟩;obtain⟨jf,jS⟩:=g4.out j5 jT;refine⟨jf,_,Nat.sub_lt_sub_left au (OH i),ag++[y],h4,μ4,au,rfl,(jD.trans g4).put hD,dC.swap jf jS,((((ra.mono ac g2).mono ak g3).mono aJ g4).append (.cons ry .nil)).tr (.swap jf),jS,f4⟩
       |false=>rw[if_neg (by decide)]at f3 ⊢;exact⟨j5,_,Nat.sub_lt_sub_left au (OH i),ag,h3,μ3,au,rfl,jD,aJ,(ra.mono ac g2).mono ak g3,jT,f3⟩
   . rw[if_neg hs]at f1;exact f1.elim
 . have he:i=w.xs.length:=by lia
   subst he;rw[List.drop_eq_nil_of_le (Oq _),ZV]at f1;by_cases hs:Wk.stays w.src h=Wx
   . rw[if_pos hs]at f1;refine .inl ⟨(wj H B h g1 ac hs).2,?_⟩;have f2:Fin Y (RD Y) H1 μ1 (.ok (.ref h.length) (h++[.lst ag])) Q E:=f1;exact f2.at (g1.add hD) (ac.add nD ⟨ys,hl,ra.tr .more⟩) (.ref (by rw[ac.len];simp))
   . rw[if_neg hs]at f1;exact f1.elim
section
variable {Y:Yx}{H:Hp}{B:List Yi}{h:Hd}
theorem RKs.look:∀{fs:List (Str×D)}{gs:List (Str×V)},RKs Y H B fs gs->(∀d,fs.lookup f=J d->∃v,gs.lookup f=J v/\RD Y H B d v)/\(fs.lookup f=M->gs.lookup f=M)
 |_,_,.nil=>⟨λd e=>by simp at e,λ_=>rfl⟩
 |_,_,.cons (k:=k) (d:=d0) (v:=v0) a s=>by
  by_cases e:f=k
  . subst e;exact⟨λd z=>by simp at z;subst z;exact⟨_,by simp,a⟩,λz=>by simp at z⟩
  . have b:(f==k)=Wy:=by simpa using e
    obtain⟨q1,q2⟩:=RKs.look (f:=f) s;refine⟨λd z=>?_,λz=>?_⟩
    . rw[OF,b]at z ⊢;exact q1 d z
    . rw[OF,b]at z ⊢;exact q2 z
theorem RKs.putAF(r:RD Y H B d v):∀{fs:List (Str×D)}{gs:List (Str×V)},RKs Y H B fs gs->RKs Y H B (Zg1 f d fs) (Zcx f v gs)
 |_,_,.nil=>.cons r .nil
 |_,_,.cons (k:=k) a s=>by
  unfold Zg1 Zcx;by_cases e:k=f
  . rw[if_pos e,if_pos e];exact .cons r s
  . rw[if_neg e,if_neg e];exact .cons a (RKs.putAF r s)
def Zhe(rh:RH Y H B h)(r:RD Y H B d v)(e:Zai d h=J (C,fs)):∃i a Ca dx gs,d=.ref i/\v=.ref a/\B[i]?=J a/\h[i]?=J (.ins C fs)/\H a=J (.ins Ca dx gs)/\Y.mg C=J (.ref Ca)/\RKs Y H B fs gs:=by
 unfold Zai at e;split at e
 . rename_i i;split at e
   . rename_i C' bh hi;cases e;cases r with
     |ref q=>rename_i a;obtain⟨Ca,dx,gs,z,m,s⟩:=rh.ob i _ a hi q;exact⟨i,a,Ca,dx,gs,rfl,rfl,q,hi,z,m,s⟩
   . cases e
 . cases e
def Zr5(rh:RH Y H B h)(hx:H x=M)(hd:H dx=M)(ne:dx≠x)(m:Y.mg C=J (.ref Ca)):RH Y (upd (upd H dx (.own x)) x (.ins Ca dx [])) (B++[x]) (h++[.ins C []])/\Gr H B (upd (upd H dx (.own x)) x (.ins Ca dx [])) (B++[x]):=by
 have bI:upd H dx (.own x) x=M:=by rw[Zq (λz=>ne z.symm)];exact hx
 exact⟨(rh.lay0 hd).lay bI ⟨Ca,dx,[],Zp,m,.nil⟩,(Gr.lay0 hd).trans (Gr.lay bI)⟩
end
def ZnU(aY:attributeBase o name env (eval o env)=eval o env)
 (cj:methodCallForm (args.length+([]:List Keyword).length) (YS pos (YA args env)) (backToKw pos (Wc [] env))=Wx) (aR:(apos.endLine==pos.line)=Wx) :
 eval (.Call (.Attribute o name apos) args [] pos) env=(do
  let ov <- eval o env
  standAt apos.atName
  let (f,first) <- holding [ov] (getMethod ov name (do return (<- importBound o env).getD Wx))
  callWith pos f first (YS pos (YA args env)) (backToKw pos (Wc [] env))):=by
 have bC:methodCallPos Wx o env apos pos=pure pos:=by unfold methodCallPos;simp[aR]
 rw[arm_eval_Call,aY];unfold methodCall;simp only[cj,bC];rfl
section
variable {T:Tb}{Γ:Gm}{X:Cx}{Y:Yx}{E:XK}{k:Nat}
def Zvt(G:Gd T Γ X Y E k)(hc:(Cs.all λC=>Wz (C∈Γ.kl.cs))=Wx)(hf:f∈Γ.kl.ats)(rh:RH Y H B h)(rd:RD Y H B d x)(ff:Fin Y (RD Y) H B (ZfX Cs f d h) Q E):
 ∃a C dx fs v,x=.ref a/\H a=J (.ins C dx fs)/\Cls X.K C/\Zbt X.K C f/\fs.lookup f=J v/\Q v H:=by
 unfold ZfX at ff;split at ff
 . rename_i C fs e;obtain⟨hC,ff⟩:=ff.iff;obtain⟨i,a,Ca,dx,gs,rfl,rfl,q,hi,z,m,s⟩:=Zhe rh rd e;obtain⟨w,e1,ff⟩:=ff.ofO;obtain⟨v,l,rv⟩:=(s.look (f:=f)).1 w e1;rw[OC]at hc;obtain⟨kI,m',cl,na⟩:=G.cls C (of_decide_eq_true (hc C hC));rw[G.gk.mg,m']at m;cases m;exact⟨a,Ca,dx,gs,v,rfl,z,cl,na f hf,l,ff.ok rh rv⟩
 . exact ff.elim
def ZoZ(G:Gd T Γ X Y E k)(hc:(Cs.all λC=>Wz (C∈Γ.kl.cs))=Wx)(hf:f∈Γ.kl.ats)(rh:RH Y H B h)(rd:RD Y H B d x)(re:RD Y H B e y)(ff:Fin Y (RD Y) H B (ZfL Cs f d e h) Q E):
 ∃a C dx fs,x=.ref a/\H a=J (.ins C dx fs)/\Cls X.K C/\Zbt X.K C f/\fs.length<1000/\Q .non (upd H a (.ins C dx (Zcx f y fs))):=by
 unfold ZfL at ff;split at ff
 . rename_i i;split at ff
   . rename_i C fs hi;obtain⟨⟨hC,hl⟩,ff⟩:=ff.iff;obtain⟨i',a,Ca,dx,gs,e1,rfl,q,gU,z,m,s⟩:=Zhe rh rd (show Zai (.ref i) h=J (C,fs) by simp[Zai,hi]);cases e1;rw[OC]at hc;obtain⟨kI,m',cl,na⟩:=G.cls C (of_decide_eq_true (hc C hC));have m0:=m;rw[G.gk.mg,m']at m;cases m;refine⟨a,Ca,dx,gs,rfl,z,cl,na f hf,by rw[<-s.length];exact hl,ff.at (Gr.write (O1 q) (by rw[z];trivial)) (rh.write q ?_ (by rw[z];trivial)) .non⟩;exact⟨Ca,dx,_,Zp,m0,(RKs.putAF re s).mono rh (Gr.write (O1 q) (by rw[z];trivial))⟩
   . exact ff.elim
 . exact ff.elim
def ZwM(G:Gd T Γ X Y E k)(h2:C∈Γ.kl.is)(h3:glb Γ C=Wx)(h4:chks Γ es ys=Wx)(ha:PA X ys (Zk5 T Y E es)):PE X (.Call (.Name C p) ys [] pos) (Zac T Y E (.mk C es)):=by
 obtain⟨a,f,fd,ps,m,qd,F,B_⟩:=G.mks _ h2;obtain⟨g1,g2⟩:=G.gl h3;have key:∀(ds:List D) (R:Hd) (xs:List V) (H1:Hp) (μ1:List Yi) (Q:VK),RH Y H1 μ1 R->RDs Y H1 μ1 ds xs->Fin Y (RD Y) H1 μ1 (Zgx T.C C ds R) Q E->∀x dx,H1 x=M->H1 dx=M->dx≠x ->
  ZfK T Y (mnm C (O "__init__")) (.ref x::(xs++[])) (upd (upd H1 dx (.own x)) x (.ins a dx [])) (λv H2=>v=.non/\Q (.ref x) H2) E:=by
  intro ds R xs H1 μ1 Q ac bS f1 x dx hx hd ne;obtain⟨ak,g2⟩:=Zr5 (C:=C) (Ca:=a) ac hx hd ne (by rw[G.gk.mg];exact m);have px:(μ1++[x])[R.length]?=J x:=by rw[ac.len];simp
  refine⟨.ref R.length::ds,R++[.ins C []],μ1++[x],ak,.cons (.ref px) (by rw[Ys];exact bS.mono ac g2),?_⟩;refine Fin.bind (Fin.mono g2 f1) λd h3 v H3 μ3 _ g3 aJ iz f3=>?_;cases d with
  |non=>cases iz;exact⟨rfl,f3.ok aJ (.ref (g3.pre _ _ px))⟩
  |_=>exact f3.elim
 cases ys with
 |nil=>
  cases es with
  |nil=>
   exact(ZpB qd F G.room1 g1 m B_ .nil G.pass g2).imp λZ H Q s=>by
    cases s with
    |mk S h B rh rs f=>exact key [] h [] H B Q rh .nil f
  |cons e r=>exact ff h4
 |cons y ys=>exact(ZrD qd F G.room1 g1 m B_ .nil G.pass ha g2 (Zdu X.env h4).1 ((Zdu X.env h4).2 _)).imp λZ H Q s=>Sm.bind s λS ds R xs H1 μ1 ac _ bS f1=>key ds R xs H1 μ1 Q ac bS f1
def ZuH(G:Gd T Γ X Y E k)(h5:(C,n)∈Γ.kl.ms)(h3:Zb9 xo=Wx)(h4:chks Γ es ys=Wx)(h6:ys.length<29)(h7:(ap.endLine==cp.line)=Wx)(ho:PE X xo (Zac T Y E o))(ha:PA X ys (Zk5 T Y E es)):
 PE X (.Call (.Attribute xo n ap) ys [] cp) (Zac T Y E (.mcl C n o es)):=by
 obtain⟨a,f,fd,ps,mm,c,hm,F,B_⟩:=G.mts _ h5;have cj:methodCallForm (ys.length+([]:List Keyword).length) (YS cp (YA ys X.env)) (backToKw cp (Wc [] X.env))=Wx:=by
  unfold methodCallForm;rw[(Zfb Γ X.env es ys h4 _).2];have jA:Wz (ys.length+([]:List Keyword).length+(if (backToKw cp (Wc [] X.env)).isEmpty then 0 else 1)<30)=Wx:=by
   rw[decide_eq_true_eq];show ys.length+0+0<30
   lia
  rw[jA];rfl
 have ht:=ZnU (o:=xo) (name:=n) (apos:=ap) (pos:=cp) (args:=ys) (env:=X.env) (ZfB h3) cj h7;have key:∀(d:D) (R:Hd) (x:V) (H1:Hp) (μ1:List Yi) (S:Ev) (Z:L2.St) (Q:VK),RH Y H1 μ1 R->RS Y H1 μ1 S Z->RD Y H1 μ1 d x->Fin Y (RD Y) H1 μ1 (match Zai d R with
  |some (C',fs)=>if C'=C/\fs.lookup n=M then(evs T es S R).bind λxs h2=>T.C (mnm C n) (d::xs) h2 else .bad
  |none=>.bad) Q E->∃b dx fs,x=.ref b/\H1 b=J (.ins a dx fs)/\fs.lookup n=M/\Zk5 T Y E es Z H1 λvs H2=>ZfK T Y (mnm C n) (x::(vs++[])) H2 Q E:=by
  intro d R x H1 μ1 S Z Q ac ai rd f1;split at f1
  . rename_i C' fs e;obtain⟨⟨e1,e2⟩,f1⟩:=f1.iff;subst e1;obtain⟨i,b,Ca,dx,gs,rfl,rfl,q,hi,z,m',s⟩:=Zhe ac rd e;rw[G.gk.mg,mm]at m';cases m';refine⟨b,dx,gs,rfl,z,(s.look (f:=n)).2 e2,S,R,μ1,ac,ai,f1.bind λds h2 vs H2 μ2 _ g2 ak bS f2=>⟨_,h2,μ2,ak,.cons (rd.mono ac g2) (by rw[Ys];exact bS),f2⟩⟩
  . exact f1.elim
 cases ys with
 |nil=>
  cases es with
  |nil=>
   exact(ZpA ho c hm F G.room B_ .nil G.pass ht).imp λZ H Q s=>Sm.bind s λS d R x H1 μ1 ac ai rd f1=>by
    obtain⟨b,dx,fs,e1,e2,e3,s⟩:=key d R x H1 μ1 S Z Q ac ai rd f1;cases s with
    |mk ρ' h' μ' rh' bH f'=>exact⟨b,dx,fs,e1,e2,e3,f'.ok rh' .nil⟩
  |cons e r=>exact ff h4
 |cons y ys=>exact(ZrB ho c hm F G.room B_ .nil G.pass ha (Zdu X.env h4).1 ((Zdu X.env h4).2 _) ht).imp λZ H Q s=>Sm.bind s λS d R x H1 μ1 ac ai rd f1=>key d R x H1 μ1 S Z Q ac ai rd f1
end
section
variable {X:Cx}{Y:Yx}{E:XK}{H:Hp}{B:List Yi}{h:Hd}
theorem Zl8:∀{xs:List D}{vs:List V}{ss:List Str},RDs Y H B xs vs->strsOf xs=J ss->vs=ss.map .str
 |[],vs,ss,r,e=>by cases r;cases e;rfl
 |d::ds,vs,ss,r,e=>by
  cases r with
  |cons r1 r2=>
   cases r1 with
   |str x ok=>rw[strsOf]at e;obtain⟨t,e1,rfl⟩:=Oo.mp e;rw[Zl8 r2 e1];rfl
   |_=>cases e
def ZtH(hY:Y.K=X.K)(ea:V.ref a=.ref b)(t:SqT Y.K H b vs)(s:RDs Y H B xs vs)(rh:RH Y H B h)(ry:RD Y H B y v)
 (f:Fin Y (RD Y) H B (Zol (.tup xs) y h) Q E):Zle X.K (.ref a) [v] H Q:=by
 cases ry with
 |str z ok=>
  unfold Zol at f;simp only at f;split at f
  . rename_i ss e;obtain⟨d,e1,f⟩:=f.ofO;obtain⟨j,e2,rfl⟩:=Oo.mp e1;have ev:=Zl8 s e;subst ev;exact⟨b,ss,z,j,ea,rfl,hY▸t,e2,f.ok rh (.int _)⟩
  . exact f.elim
 |_=>exact f.elim
end
def Zmw{q:Prop}(X:Cx)(hx:Zwx scope x=Wx):Loc (relabel scope X.env) x/\(q\/(relabel scope X.env).names.lookup x=J .local):=by
 have:(relabel scope X.env).names.lookup x=J .local:=by rw[Zb8,of_decide_eq_true hx];rfl
 exact⟨.inl this,.inr this⟩
def Zov(e:Zh8 (.ref i) h=J w):∃xs,h[i]?=J (.lst xs)/\w=⟨J (i,xs),xs⟩:=by
 unfold Zh8 at e;simp only at e;split at e
 . cases e;exact⟨_,by assumption,rfl⟩
 . cases e
def ZvK{X:Cx}{R:Hd}(K:Y.K=X.K)(rh:RH Y H1 μ1 R)(r:RD Y H1 μ1 d v)(il:Zhb d R=Wx):tyV X.K "list" v H1:=by
 cases r with
 |ref q=>
  rename_i i a;have:∃xs,R[i]?=J (.lst xs):=by
   unfold Zhb at il;simp only at il;split at il
   . exact⟨_,by assumption⟩
   . cases il
  obtain⟨xs,hx⟩:=this;obtain⟨vs,hl,_⟩:=rh.ob i _ a hx q;exact .inl ⟨rfl,vs,.of hl⟩
 |_=>cases il
def Zr2(G:Gd T Γ X Y E k)(ho:PE X xo (Zac T Y E o))(h3:Zb9 xo=Wx)(h4:chks Γ es ys=Wx)(h5:ys.length<29)(h6:(ap.endLine==cp.line)=Wx)(ha:PA X ys (Zk5 T Y E es)):
 PE X (.Call (.Attribute xo (ZpT m) ap) ys [] cp) (Zac T Y E (.meth m o es)):=by
 obtain⟨sl,ty⟩:=ZwL m;cases ys with
 |nil=>
  cases es with
  |nil=>exact(Zup PySem.F.plainAttrs_list sl ty (ZmA (Y:=Y) (E:=E) G.gk.K m) ho (ZfB h3) h6).imp λZ H Q s=>Sm.bind s λS d R x H1 μ1 ac ai rd f1=>⟨ZvK G.gk.K ac rd f1.iff.1,d,[],R,μ1,ac,rd,.nil,f1.iff.2⟩
  |cons e r=>exact ff h4
 |cons y ys=>
  refine(Zwv PySem.F.plainAttrs_list sl ty (ZmA (Y:=Y) (E:=E) G.gk.K m) ho ha (ZfB h3) ?_ h6 (Zdu X.env h4).1 ((Zdu X.env h4).2 _)).imp λZ H Q s=>Sm.bind s λS d R x H1 μ1 ac ai rd f1=>⟨ZvK G.gk.K ac rd f1.iff.1,S,R,μ1,ac,ai,f1.iff.2.bind λds h2 xs H2 μ2 _ g2 ak bS f2=>⟨d,ds,h2,μ2,ak,rd.mono ac g2,bS,f2⟩⟩
  rw[(Zfb Γ X.env es (y::ys) h4 _).2];have jA:Wz ((y::ys).length+([]:List Keyword).length+(if ([]:List Keyword).isEmpty then 0 else 1)<30)=Wx:=by rw[decide_eq_true_eq];exact Nat.lt_succ_of_lt h5
  rw[jA];rfl
def Zyt(hb:∀d h',e=.ok d h'->∃c,d=.bl c)(f:Fin Y eqR H B (e.bind λx R=>qe.ofO (ZfI GD x R) R) Q E):Fin Y (RD Y) H B e (λv H'=>∃c,v=.bl c/\Q c H') E:=
 f.bind λd R x H1 μ1 er g ac rd f1=>by obtain⟨c,rfl⟩:=hb d R er;cases rd;exact⟨c,rfl,Fin.ok (show Fin Y eqR H1 μ1 (.ok c R) Q E from f1) ac rfl⟩
def Zyu{f:D->D->Hd->qe D}(hf:∀x y h d h',f x y h=.ok d h'->∃c,d=.bl c)(s:Sm Y E eqR (λS h=>((ev T a S h).bind λx R=>(ev T b S R).bind λy h2=>f x y h2).bind λx R=>qe.ofO (ZfI T.GD x R) R) Z H Q):
 Zac T Y E a Z H λx H1=>Zac T Y E b Z H1 λy H2=>rB Y E f x y H2 λv H3=>∃c,v=.bl c/\Q c H3:=by
 cases s with
 |mk S h B rh rs q=>refine Zre ⟨S,h,B,rh,rs,Zyt (λd h' er=>?_) q⟩;obtain⟨_,_,_,er⟩:=qe.bind_eq er;obtain⟨_,_,_,er⟩:=qe.bind_eq er;exact hf _ _ _ _ _ er
def ZsA(G:Gd T Γ X Y E k)(ha:PE X l (Zac T Y E a))(hb:PE X r (Zac T Y E b))(hm:Zcz r=Wx):PT X (.Compare l [op] [r] pos) (Zk4 T Y E (.ex (.cmp op a b))):=(Zmo (ZfQ (E:=E) G.room G.h60 G.gk op) ha hb (ZgP hm)).imp λ_ _ _ s=>Zyu (f:=opC T.GD op) (λ_ _ _ _ _=>ZpK) s
noncomputable def Zxn(r:D)(k:Hd->qe D)(h:Hd):qe D:=match r with
 |.bl Wx=>k h
 |.bl Wy=>.ok (.bl Wy) h
 |_=>.bad
def ZqL{r:qe α}:r.bind qe.ok=r:=by cases r<;>rfl
def Zxk(s:Sm Y E rel (λS h=>(ev T (.cmp2 o1 o2 a b c) S h).bind k) Z H Q)
 (hq:∀d R v H1 μ1,RH Y H1 μ1 R->RD Y H1 μ1 d v->(∃c,d=.bl c)->Fin Y rel H1 μ1 (k d R) Q E->Q' v H1) :
 Zac T Y E a Z H λx H1=>Zac T Y E b Z H1 λy H2=>rB Y E (opC T.GD o1) x y H2 λv H3=>∃q,v=.bl q/\if q=Wx then Zac T Y E c Z H3 λz H4=>rB Y E (opC T.GD o2) y z H4 Q' else Q' (.bl Wy) H3:=by
 cases s with
 |mk S h B rh rs f=>
  have f:Fin Y rel H B ((ev T a S h).bind λx R=>(ev T b S R).bind λy h2=>(opC T.GD o1 x y h2).bind λr h3=>(Zxn r (λh3=>(ev T c S h3).bind λz h4=>opC T.GD o2 y z h4) h3).bind k) Q E:=by have q:=f;rw[show ev T (.cmp2 o1 o2 a b c) S h=(ev T a S h).bind λx R=>(ev T b S R).bind λy h2=>(opC T.GD o1 x y h2).bind λr h3=>Zxn r (λh3=>(ev T c S h3).bind λz h4=>opC T.GD o2 y z h4) h3 from rfl,qe.bind_assoc]at q;simpa only[qe.bind_assoc]using q
  refine⟨S,h,B,rh,rs,f.bind λd R x H1 μ1 _ g ac rd f1=>⟨S,R,μ1,ac,rs.mono rh g,f1.bind λe h2 y H2 μ2 _ g2 ak re f2=>⟨d,e,h2,μ2,ak,rd.mono ac g2,re,f2.bind λr h3 z H3 μ3 _ g3 aJ rz f3=>?_⟩⟩⟩;cases rz with
  |bl q=>
   refine⟨q,rfl,?_⟩;cases q with
   |true=>refine Zkb ⟨S,h3,μ3,aJ,((rs.mono rh g).mono ac g2).mono ak g3,?_⟩;have f3:Fin Y rel H3 μ3 (((ev T c S h3).bind λz h4=>opC T.GD o2 e z h4).bind k) Q E:=f3;rw[qe.bind_assoc]at f3;exact f3.bind λd4 h4 w H4 μ4 _ g4 dC aw f4=>⟨e,d4,h4,μ4,dC,(re.mono ak g3).mono aJ g4,aw,f4.bind λd5 h5 w5 H5 μ5 er g5 kU kX f5=>hq d5 h5 w5 H5 μ5 kU kX (ZpK er) f5⟩
   |false=>exact Zkc (hq (.bl Wy) h3 _ H3 μ3 aJ (.bl _) ⟨_,rfl⟩ f3)
  |_=>exact f3.elim
def Zs6{X:Cx}(hY:Y.K=X.K)(rh:RH Y H B h)(r:RD Y H B d v)(f:Fin Y rel H B ((shD d h).bind k) Q E):∃p,Dp X.K H v p/\L2.Znp p=Wx/\Fin Y rel H B (k p.shown h) Q E:=by
 unfold shD at f;split at f
 . rename_i p ep;split at f
   . rename_i ok;exact⟨p,hY▸Zff rh r ep,ok,f⟩
   . exact f.elim
 . exact f.elim
def rpE{X:Cx}(G:Gd T Γ X Y E k)(hg:glb Γ (O "repr")=Wx)(ha:PE X y t)(hy:Zag y=Wx):PE X (.Call (.Name (O "repr") p) [y] [] q) (tCB (Zmm X.K) (Zl6 t Znl)):=ZcV (Zob G.room) (G.gl hg).1 (G.blt _ (by decide)) (by decide +kernel) (ZaC ha Zcy (Zw X.env hy)) (by decide) (by decide) (Zw X.env hy) rfl
def rp2{X:Cx}(hY:Y.K=X.K){Q':VK}(s:Sm Y E rel (λS h=>(ev T (.rpn a b) S h).bind k) Z H Q)(hq:∀c R H1 μ1,RH Y H1 μ1 R->Fin Y rel H1 μ1 (k (.bl c) R) Q E->Q' (.bl c) H1):
 tOp Zwh (tCB (Zmm X.K) (Zl6 (Zac T Y E a) Znl)) (tCB (Zmm X.K) (Zl6 (Zac T Y E b) Znl)) Z H Q':=by
 cases s with
 |mk S h B rh rs f=>
  have f:Fin Y rel H B ((ev T a S h).bind λx R=>(shD x R).bind λp R=>(ev T b S R).bind λy h2=>(shD y h2).bind λq h3=>k (.bl (!Wz (p=q))) h3) Q E:=by have q:=f;rw[show ev T (.rpn a b) S h=(ev T a S h).bind λx R=>(shD x R).bind λp R=>(ev T b S R).bind λy h2=>(shD y h2).bind λq h3=>.ok (.bl (!Wz (p=q))) h3 from rfl,qe.bind_assoc]at q;simpa only[qe.bind_assoc,qe.bind_ok]using q
  refine⟨S,h,B,rh,rs,f.bind λd R x H1 μ1 _ g ac rd f1=>?_⟩;obtain⟨p,dp,ok,f1⟩:=Zs6 hY ac rd f1;refine⟨x,p,rfl,dp,ok,S,R,μ1,ac,rs.mono rh g,f1.bind λe h2 y H2 μ2 _ g2 ak re f2=>?_⟩;obtain⟨q,dq,lg,f2⟩:=Zs6 hY ak re f2;exact⟨y,q,rfl,dq,lg,_,_,rfl,rfl,hq _ h2 H2 μ2 ak f2⟩
def ZqD(G:Gd T Γ X Y E k)(ha:PE X l (Zac T Y E a))(hb:PE X m (Zac T Y E b))(hc:PE X r (Zac T Y E c))(hm:Zcz r=Wx):PT X (.Compare l [o1,o2] [m,r] pos) (Zk4 T Y E (.ex (.cmp2 o1 o2 a b c))):=
 (Zpl (ZfQ (E:=E) G.room G.h60 G.gk o1) (ZfQ (E:=E) G.room G.h60 G.gk o2) ha hb hc (ZgP hm)).imp λZ H Q s=>Zxk (Q':=λv H'=>∃c,v=.bl c/\Q c H') s λd R v H1 μ1 ac rd ⟨q,e⟩ f1=>by subst e;cases rd;exact⟨q,rfl,Fin.ok (show Fin Y eqR H1 μ1 (.ok q R) Q E from f1) ac rfl⟩
def ZnG(G:Gd T Γ X Y E k)(he:PE X x (Zac T Y E e))(R:Zli x=Wx):PT X x (Zk4 T Y E (.ex e)):=
 (Zpk he ((kdE x).tr R _)).imp λZ H Q s=>Sm.bind s λS d R x H1 μ1 ac ai rd f1=>by obtain⟨b,eb,f1⟩:=f1.ofO;exact⟨b,Zq6 G.gk.K ac rd eb,f1.ok ac rfl⟩
def Zl3(T:Tb)(Y:Yx)(E:XK):Exs->List (TE×TE)
 |.nil=>[]
 |.cons k r=>match r with
  |.nil=>[]
  |.cons v r'=>(Zac T Y E k,Zac T Y E v)::Zl3 T Y E r'
section
variable {Y:Yx}{H:Hp}{B:List Yi}{Dd:Yi}{ys zs:List (Key×V)}
def Znn{K:Yk}(hD:H Dd=J (.dK ys))(t:SqT K H a vs):SqT K (upd H Dd (.dK zs)) a vs:=by
 rcases t with t|t
 . rcases t with t|⟨o,t⟩
   . exact .inl (.inl (by rw[Zq (λz=>by rw[z,hD]at t;cases t)];exact t))
   . exact .inl (.inr ⟨o,by rw[Zq (λz=>by rw[z,hD]at t;cases t)];exact t⟩)
 . exact .inr t
def Zn6{K:Yk}(hD:H Dd=J (.dK ys))(t:FzL K H a vs):FzL K (upd H Dd (.dK zs)) a vs:=by
 rcases t with⟨o,t⟩|t
 . exact .inl ⟨o,by rw[Zq (λz=>by rw[z,hD]at t;cases t)];exact t⟩
 . exact .inr t
def Tr.swapD(hD:H Dd=J (.dK ys)):Tr Y H B (upd H Dd (.dK zs)) B:=⟨Znn hD,Zn6 hD,id⟩
end
inductive RPs(Y:Yx)(H:Hp)(B:List Yi):List D->List (V×V)->Prop
 |nil:RPs Y H B [] []
 |cons {k v:D}{r:List D}{x y:V}{ps:List (V×V)}:RD Y H B k x->RD Y H B v y->RPs Y H B r ps->RPs Y H B (k::v::r) ((x,y)::ps)
theorem RPs.pairs:∀{ds:List D}{ps:List (V×V)}{kvs:List (Key×D)},RPs Y H B ds ps->ZdN ds=J kvs->∃aj:List (Key×V),ps=aj.map (λkv=>(kV kv.1,kv.2))/\RKs Y H B kvs aj
 |_,_,_,.nil,e=>by cases e;exact⟨[],rfl,.nil⟩
 |_,_,_,.cons a b s,e=>by
  rw[ZdN]at e;split at e
  . rename_i k r e1 e2;cases e;obtain⟨aj,rfl,rk⟩:=s.pairs e2;have:=Zeq a e1;subst this;exact⟨(k,_)::aj,rfl,.cons b rk⟩
  . cases e
theorem RPs.keysOk:∀{ds:List D}{ps:List (V×V)}{kvs:List (Key×D)},RPs Y H B ds ps->ZdN ds=J kvs->Zdp kvs
 |_,_,_,.nil,e=>by cases e;intro p hp;cases hp
 |_,_,_,.cons a b s,e=>by
  rw[ZdN]at e;split at e
  . rename_i k r e1 e2;cases e;intro p hp x z;rcases O3.mp hp with rfl|hp
    . exact Zp8 a e1 x z
    . exact s.keysOk e2 p hp x z
  . cases e
theorem Zfl:∀{more kvs:List (Key×D)},Zdp more->Zdp kvs->Zdp (ZeR kvs more)
 |[],kvs,_,h=>h
 |(k,d)::r,kvs,hm,h=>Zfl (more:=r) (kvs:=putD kvs k d) (λp hp=>hm p (Oh _ hp)) (Zha h (λx e=>hm (k,d) Oi x e))
theorem RKs.merge:∀{more:List (Key×D)}{cV:List (Key×V)}{kvs:List (Key×D)}{aj:List (Key×V)},RKs Y H B more cV->RKs Y H B kvs aj->RKs Y H B (ZeR kvs more) (ZfT aj cV)
 |_,_,_,_,.nil,s=>s
 |_,_,_,_,.cons (k:=k) a r,s=>by have z:=RKs.merge r (s.put k a);exact z
def ZpG:∀(n:Nat) (ps:Exs) {K:List D->Hd->qe D}{H:Hp}{B:List Yi}{h:Hd}{Q1:List (V×V)->Hp->Prop}{Γ:Gm}{ks:List (Option Expr)}{vs:List Expr},ks.length<=n->chkp Γ ps ks vs=Wx ->
 Gr H0 μ0 H B->RH Y H B h->RS Y H B S Z->Fin Y (RD Y) H0 μ0 ((evs T ps S h).bind K) Q E ->
 (∀ds R qs H1 μ1,Gr H B H1 μ1->RH Y H1 μ1 R->RPs Y H1 μ1 ds qs->Fin Y (RD Y) H0 μ0 (K ds R) Q E->Q1 qs H1)->ZiP (Zl3 T Y E ps) Z H Q1:=by
 intro n;induction n with
 |zero=>
  intro ps K H B h Q1 Γ ks vs hl hc g0 rh rs f hq;cases ps with
  |nil=>exact hq [] h [] H B Gr.refl rh .nil f
  |cons k r=>
   cases r with
   |nil=>unfold chkp at hc;cases hc
   |cons v r'=>
    unfold chkp at hc;simp only at hc;split at hc
    . simp at hl
    . cases hc
 |succ n ih=>
  intro ps K H B h Q1 Γ ks vs hl hc g0 rh rs f hq;cases ps with
  |nil=>exact hq [] h [] H B Gr.refl rh .nil f
  |cons k r=>
   cases r with
   |nil=>unfold chkp at hc;cases hc
   |cons v r'=>
    unfold chkp at hc;simp only at hc;split at hc
    . rw[Oa]at hc;have f1:Fin Y (RD Y) H0 μ0 ((ev T k S h).bind λx R=>(ev T v S R).bind λy h2=>(evs T r' S h2).bind λxs h3=>K (x::y::xs) h3) Q E:=by
       have e:(evs T (.cons k (.cons v r')) S h).bind K=(ev T k S h).bind λx R=>(ev T v S R).bind λy h2=>(evs T r' S h2).bind λxs h3=>K (x::y::xs) h3:=by show((ev T k S h).bind λx R=>((ev T v S R).bind λy h2=>(evs T r' S h2).bind λxs h3=>qe.ok (y::xs) h3).bind λxs h2=>qe.ok (x::xs) h2).bind K=_;simp only[qe.bind_assoc,qe.bind_ok]
       rw[<-e];exact f
      refine⟨S,h,B,rh,rs,Fin.bindB g0 f1 λd R x H1 μ1 _ g1 ac rd f2=>?_⟩;refine⟨S,R,μ1,ac,rs.mono rh g1,Fin.bindB (g0.trans g1) f2 λe h2 y H2 μ2 _ g2 ak re f3=>?_⟩;refine ih r' (by simpa using hl) (bR hc.2) ((g0.trans g1).trans g2) ak ((rs.mono rh g1).mono ac g2) f3 λds h3 qs H3 μ3 g3 aJ rp f4=>?_;exact hq (d::e::ds) h3 ((x,y)::qs) H3 μ3 ((g1.trans g2).trans g3) aJ (.cons ((rd.mono ac g2).mono ak g3) (re.mono ak g3) rp) f4
    . cases hc
def Zsw(ps:Exs)(G:Gd T Γ X Y E k)(jC:ks.length<=15)(hc:chkp Γ ps ks vs=Wx)(hp:PPs X pos ks vs (Zl3 T Y E ps))(cr:ks.all (·.isSome)=Wx)(hl:ks.length=vs.length):PE X (.Dict ks vs pos) (Zac T Y E (.dictl ps)):=by
 by_cases h0:ks=[]
 . subst h0;cases vs with
   |cons a b=>cases hl
   |nil=>
    cases ps with
    |cons k r=>
     cases r with
     |nil=>unfold chkp at hc;cases hc
     |cons v r'=>unfold chkp at hc;cases hc
    |nil=>refine ZpE.imp λZ H Q ⟨S,h,B,rh,rs,f⟩ p hp=>?_;have f:Fin Y (RD Y) H B (Zda (.dic []) h) Q E:=f;exact f.new rh hp ⟨[],Zp,.nil⟩ (λp hp=>by cases hp)
 . refine(ZrE hp cr hl h0 jC).imp λZ H Q ⟨S,h,B,rh,rs,f⟩ p hp=>?_;have np:=rh.fr hp;refine ZpG ks.length ps (Oq _) hc (Gr.lay0 hp) (rh.lay0 hp) (rs.mono rh (Gr.lay0 hp)) f λds R qs H1 μ1 g1 ac rp f1=>?_;obtain⟨gS,nD⟩:=g1.out (Zp (H:=H)) np;have mZ:Gr H B H1 μ1:=(Gr.lay0 hp).trans g1;split at f1
   . rename_i kvs ek;obtain⟨hz,f1⟩:=f1.iff;obtain⟨aj,rfl,rk⟩:=rp.pairs ek;refine⟨gS,aj,rfl,by rw[<-rk.length];exact hz,?_⟩;have f2:Fin Y (RD Y) H B (.ok (.ref R.length) (R++[.dic (ZeR [] kvs)])) Q E:=f1;exact f2.at ((mZ.put hp).add hp) ((ac.tr (.swapD gS) λ_ ha=>Zq λz=>nD (z▸ha)).add nD ⟨_,Zp,((rk.merge .nil).tr (.swapD gS)).tr .more⟩ (show Zdp (ZeR [] kvs)from Zfl (rp.keysOk ek) (λp hp=>by cases hp))) (.ref (by rw[ac.len];simp))
   . exact f1.elim
mutual
theorem Zk(e:Ex){Γ:Gm}{X:Cx}{E:XK}{k:Nat}{x:Expr}(G:Gd T Γ X Y E k)(h:chk Γ e x=Wx):PE X x (Zac T Y E e):=match e,h with
 |.var i,h=>ZwJ h λx q h=>(Zpw (by rw [G.N];exact of_decide_eq_true (bL h)) (G.vis _ (bL (bR h))) (by simpa using bL (bR (bR h))) (by simpa using bR (bR (bR h)))).imp λZ H Q s=>by
   cases s with
   |mk S h B rh rs f =>
     obtain⟨d,e,f⟩:=Fin.ofO (show Fin Y (RD Y) H B (qe.ofO (S[i]?).join h) Q E from f);obtain⟨v,e1,rd⟩:=rs.var e;exact⟨v,e1,f.ok rh rd⟩
 |.cst d,h=>ZqB G h
 |.glo y,h=>ZkR h λq h aa s Z H Q I sm=>by
   cases sm with
   |mk S h' B rh rs f =>
     obtain⟨d,e,f⟩:=Fin.ofO (show Fin Y (RD Y) H B (qe.ofO (T.G y) h') Q E from f);obtain⟨v,u,hm,rv,rd⟩:=G.gk.g y d e;exact Zmt (G.gl h).1 hm rv (G.gl h).2 aa s Z H Q I (f.ok rh (rd H B))
 |.bin op a b,h=>Zxo h λl r q h=>(Zwt (ZuA G.gk.K op) (Zk a G (bL h)) (Zk b G (bR h))).imp λ_ _ _ s=>Zre s
 |.cmp op a b,h=>Zm3 h λl r q h=>(Zmu (ZfQ G.room G.h60 G.gk op) (Zk a G (bL h)) (Zk b G (bL (bR h))) (ZgP (bR (bR h)))).imp λ_ _ _ s=>Zre s
 |.cmp2 o1 o2 a b c,h=>Ztq h λl m r q h=>(ZpF (ZfQ (E:=E) G.room G.h60 G.gk o1) (ZfQ (E:=E) G.room G.h60 G.gk o2) (Zk a G (bL h)) (Zk b G (bL (bR h))) (Zk c G (bL (bR (bR h)))) (ZgP (bR (bR (bR h))))).imp λZ H Q s =>
   Zxk (k:=qe.ok) (rel:=RD Y) (Q:=Q) (by simp only [ZqL];exact s) λd R v H1 μ1 ac rd _ f1=>f1.ok ac rd
 |.neg a,h=>Ztz h λx q h=>(Zwr Zty (Zk a G h)).imp λZ H Q s=>Sm.bind s λS d R x H1 μ1 ac ai rd f1=>by
   cases rd with
   |int i=>exact⟨i,rfl,Fin.ok f1 ac (.int _)⟩
   |_=>exact f1.elim
 |.nt a,h=>Ztz h λx q h=>(Zuk (Zk a G h)).imp λZ H Q s=>Sm.bind s λS d R x H1 μ1 ac ai rd f1=>by
   cases rd with
   |bl i=>exact⟨i,rfl,Fin.ok f1 ac (.bl _)⟩
   |_=>exact f1.elim
 |.ands es,h=>Zr0 h λxs q h=>and_ok es G h
 |.ors es,h=>Zr0 h λxs q h=>or_ok es G h
 |.ite c a b,h=>Zye h λt x y q h=>(ZpD (tst_ok c G (bL h)) (Zk a G (bL (bR h))) (Zk b G (bR (bR h)))).imp λZ H Q s=>Sm.bind s λS d R v H1 μ1 ac ai rd f1=>by
   cases rd;cases d with
   |true=>exact Zkb ⟨S,R,μ1,ac,ai,f1⟩
   |false=>exact Zkc ⟨S,R,μ1,ac,ai,f1⟩
 |.tupl es,h=>ZjG h λxs j q h=>(Zui (evs_ok es G h)).imp λZ H Q s=>Sm.bind s λS d R x H1 μ1 ac ai rd f1=>⟨by rw [<-rd.length];exact f1.iff.1,λp hp=>f1.iff.2.tup ac hp rd⟩
 |.lstl es,h=>Ztd h λxs q h=>(ZpC (evs_ok es G h)).imp λZ H Q s=>Sm.bind s λS d R x H1 μ1 ac ai rd f1=>⟨by rw [<-rd.length];exact f1.iff.1,λp hp=>f1.iff.2.new ac hp ⟨_,Zp,rd.mono ac (Gr.lay hp)⟩⟩
 |.ix a i,h=>ZtP h λx y q h=>(Zwu (ZrS G.gk) (Zk a G (bL h)) (Zk i G (bL (bR h))) (ZoV (bR (bR h)))).imp λ_ _ _ s=>Zre s
 |.sl a lo hi,h=>Zv3 h λx l u q r h=>(Zpy (ZrQ (E:=E) G.gk.K) (Zk a G (bL h)) (evo_ok lo G (bL (bR h))) (evo_ok hi G (bR (bR h)))).imp λZ H Q s=>Sm.bind s λS d R x H1 μ1 ac ai rd f1 =>
   ⟨S,R,μ1,ac,ai,Fin.bind f1 λl h2 l' H2 μ2 _ g2 ak rl f2=>⟨S,h2,μ2,ak,ai.mono ac g2,Fin.bind f2 λu h3 u' H3 μ3 _ g3 aJ ru f3=>by
     cases rl;cases ru;exact⟨d,h3,μ3,aJ,(rd.mono ac g2).mono ak g3,f3⟩⟩⟩
 |.blt f es,h=>Zce h λp ys q h=>ZqA (bL (bR h)) (bR (bR h)) λy r hs=>(Zvq G f (bL (bL h)) (G.gl (bR (bL h))).1 (evs_ok es G hs) (Zdu X.env hs).1 ((Zdu X.env hs).2 _)).imp λZ H Q s=>Sm.bind s λS d R x H1 μ1 ac ai rd f1=>⟨d,R,μ1,ac,rd,f1⟩
 |.call f es,h=>Zce h λp ys q h=>ZqA (bL (bR (bR h))) (bR (bR (bR h))) λy r hs=>by
   obtain⟨ps,hd⟩:=G.defs _ (of_decide_eq_true (bL h));exact(Zuo hd G.room (G.gl (bL (bR h))).1 G.pass (evs_ok es G hs) (G.gl (bL (bR h))).2 (Zdu X.env hs).1 ((Zdu X.env hs).2 _)).imp λZ H Q s=>Sm.bind s λS d R x H1 μ1 ac ai rd f1=>⟨d,R,μ1,ac,rd,f1⟩
 |.meth m o es,h=>ZqI h λxo ap ys cp h=>Zr2 G (Zk o G (bL h)) (bL (bR h)) (bL (bR (bR h))) (of_decide_eq_true (bL (bR (bR (bR h))))) (bR (bR (bR (bR h)))) (evs_ok es G (bL (bR (bR h))))
 |.comp NC js it g c e,h=>Ztf h λaE tg iter be scope q h=>by
   have S_:=Zkt (bL (bR h));rw [<-G.N,<-G.sc (bL h)] at S_;have h:=bR (bR h);have Gc:=λ(aa:List (Yi×Obj)) (Z:L2.St) (C:Yi) (s3:Yb) (H3:Hp) (fp:List Yi) (i3:Inv X aa Z H3 s3) (j3:∀ b∈fp,Zb7 X aa H3 b) (k3:C=s3.heap.objs.size)=>G.comp NC scope C s3 H3 fp S_.nd (G.passC (bL ‹_›) aa Z NC scope C s3 H3 fp i3 j3 k3);refine(ZrF (g:=tgR X.K g) (tc:=Sm Y E eqR (tsto T c)) (te:=Zac T Y E e) S_ rfl G.calm (evi_ok it G (bL h)) (λaa Z C s3 H3 fp i3 j3 k3=>⟨Zmr rfl S_.nd rfl (λx hx=>Zmw (scope:=scope) X hx) (bL (bR (bR h))),ifs_ok c (Gc aa Z C s3 H3 fp i3 j3 k3) (bL (bR (bR (bR (bR h))))),Zk e (Gc aa Z C s3 H3 fp i3 j3 k3) (bR (bR (bR (bR (bR h)))))⟩) (ZvR X.K g) (λj hj=>of_decide_eq_true (OC.mp (bL (bR (bR (bR h)))) j (List.mem_range.mpr hj))) (Zk2 X.env (bL (bR h)))).imp
     λZ H Q s=>Sm.bind s λS w R qb H1 μ1 ac ai wj f1 D hD=>ZmX G.gk.K (λ_ _ _ z=>z) ac ai wj f1 hD
 |.sorts e,h=>ff h
 |.trev e,h=>Zce h λp ys q h=>Zaw h λz h=>Zce h λp' ys q' h=>Zaw h λy h =>
   (ZnJ G.calm (G.gl (bL h)).1 (G.blt _ (by decide)) (G.gl (bL (bR h))).1 (G.blt _ (by decide)) (ZaC (Zk e G (bL (bR (bR h)))) Zcy (Zw X.env (bR (bR (bR h))))) (Zw X.env (bR (bR (bR h))))).imp λZ H Q s=>Sm.bind s λS d R x H1 μ1 ac ai rd f1=>by
     cases d with
     |tup xs =>
       cases xs with
       |nil=>exact f1.elim
       |cons y ys =>
         obtain⟨a,vs,rfl,t,s⟩:=rd.tup_inv;exact⟨a,vs,rfl,G.gk.K▸t,(λz=>by have:=s.length;rw [z] at this;cases this),λp hp=>f1.tup ac hp s.reverse⟩
     |_=>exact f1.elim
 |.lrv e,h=>ff h
 |.tix o e,h=>ZqI h λxo ap ys cp h=>Zaw h λy h=>by
   have st:=bL (bR (bR (bR h)));refine(Zuj G.gk.bare (Zk o G (bL h)) (ZaC (Zk e G (bL (bR (bR h)))) Zcy (Zw X.env st)) (ZfB (bL (bR h))) ?_ (bR (bR (bR (bR h)))) (Zw X.env st)).imp λZ H Q s=>Sm.bind s λS d R x H1 μ1 ac ai rd f1=>?_
   . rw [Zw X.env st];rfl
   . obtain⟨il,f1⟩:=f1.iff;cases d with
     |tup xs =>
       obtain⟨a,vs,rfl,t,s⟩:=rd.tup_inv;refine⟨⟨a,vs,rfl,G.gk.K▸t⟩,S,R,μ1,ac,ai,f1.bind λy h2 v H2 μ2 _ g2 ak ry f2=>?_⟩;obtain⟨a2,jI,ea,t2,s2⟩:=(rd.mono ac g2).tup_inv;exact ZtH G.gk.K ea t2 s2 ak ry f2
     |_=>cases il
 |.lix o e,h=>ff h
 |.lin a b,h=>ff h
 |.rpn a b,h=>Zm3 h λl r q h=>Zce h λp ys q' h=>Zaw h λy h=>Zce h λp2 zs q2 h=>Zaw h λz h=>(Zmu ZpH (rpE G (bL h) (Zk a G (bL (bR h))) (bL (bR (bR h)))) (rpE G (bL h) (Zk b G (bL (bR (bR (bR h))))) (bR (bR (bR (bR h))))) rfl).imp λZ H Q s =>
   rp2 G.gk.K (k:=qe.ok) (rel:=RD Y) (Q:=Q) (by simp only [ZqL];exact s) λc R H1 μ1 ac f1=>f1.ok ac (.bl _)
 |.any,h=>λaa s Z H Q I sm=>by
   cases sm with
   |mk S h B rh rs f=>exact f.elim
 |.att Cs o f,h=>ZsT h λx q h=>(Zun (Zk o G (bL h)) (ZfB (bL (bR h)))).imp λZ H Q s=>Sm.bind s λS d R x H1 μ1 ac ai rd f1=>Zvt G (bL (bR (bR h))) (of_decide_eq_true (bR (bR (bR h)))) ac rd f1
 |.mk C es,h=>Zce h λp ys q h=>ZwM G (of_decide_eq_true (bL h)) (bL (bR h)) (bR (bR h)) (evs_ok es G (bR (bR h)))
 |.mcl C m o es,h=>ZqI h λxo ap ys cp h=>ZuH G (of_decide_eq_true (bL (bR (bR (bR h))))) (bL (bR h)) (bL (bR (bR h))) (of_decide_eq_true (bL (bR (bR (bR (bR h)))))) (bR (bR (bR (bR (bR h))))) (Zk o G (bL h)) (evs_ok es G (bL (bR (bR h))))
 |.maxd a d,h=>Zxj h λp ys z r q h=>Zaw h λy h=>(ZrC (G.gl (bL h)).1 (G.blt _ (by decide)) G.calm (Zk a G (bL (bR h))) (Zk d G (bR (bR (bR h)))) (Zw X.env (bL (bR (bR h))))).imp λZ H Q s=>Sm.bind s λS x R v H1 μ1 ac ai rx f1 =>
   ⟨S,R,μ1,ac,ai,Fin.bind f1 λy h2 u H2 μ2 _ g2 ak ry f2=>by
     cases ry with
     |int d =>
       obtain⟨r,er,f2⟩:=Fin.ofO (show Fin Y (RD Y) H2 μ2 (qe.ofO (((lstOf x h2).bind intsOf).map λns=>.int (ZdQ ns d)) h2) Q E from f2);obtain⟨ns,e2,rfl⟩:=Oo.mp er;obtain⟨zs,e3,e4⟩:=Option.bind_eq_some_iff.mp e2;obtain⟨a,vs,rfl,hl,rv⟩:=(rx.mono ac g2).lstOf ak e3;rw [Zhd rv e4] at hl;exact⟨a,ns,d,rfl,rfl,G.gk.K▸hl,f2.ok ak (.int _)⟩
     |_=>exact f2.elim⟩
 |.dictl ps,h=>Zyk h λks vs q h=>Zsw ps G (of_decide_eq_true (bL h)) (bR h) (pairs_ok ps G (bR h)).1 (pairs_ok (pos:=q) ps G (bR h)).2.1 (pairs_ok (pos:=q) ps G (bR h)).2.2
theorem evs_ok(e:Exs){Γ:Gm}{X:Cx}{E:XK}{k:Nat}{x:List Expr}(G:Gd T Γ X Y E k)(h:chks Γ e x=Wx):PA X x (Zk5 T Y E e):=match e,x,h with
 |.nil,[],h=>Zcy.imp λZ H Q s=>by
  cases s with
  |mk S h B rh rs f=>exact Fin.ok (show Fin Y (RDs Y) H B (.ok [] h) Q E from f) rh .nil
 |.nil,_::_,h=>ff h
 |.cons e r,[],h=>ff h
 |.cons e r,y::ys,h=>(ZaC (Zk e G (bL h)) (evs_ok r G (bR (bR h))) (Zw X.env (bL (bR h)))).imp λZ H Q s=>Sm.bind s λS d R x H1 μ1 ac ai rd f1=>⟨S,R,μ1,ac,ai,f1.bind λds h2 xs H2 μ2 _ g2 ak bS f2=>f2.ok ak (.cons (rd.mono ac g2) bS)⟩
theorem and_ok(e:Exs){Γ:Gm}{X:Cx}{E:XK}{k:Nat}{x:List Expr}{pos:Pos}(G:Gd T Γ X Y E k)(h:chks Γ e x=Wx):PE X (.BoolOp .And x pos) (Zac T Y E (.ands e)):=match e,x,h with
 |.nil,x,h=>λaa s Z H Q I sm=>by
  cases sm with
  |mk S h B rh rs f=>exact f.elim
 |.cons e r,[],h=>ff h
 |.cons e .nil,[y],h=>(Zpz (Zk e G (bL h))).imp λZ H Q q=>q
 |.cons e .nil,y::z::zs,h=>ff (bR (bR h))
 |.cons e (.cons e' r'),[y],h=>ff (bR (bR h))
 |.cons e (.cons e' r'),y::z::zs,h=>(Zuq (Zk e G (bL h)) (and_ok (.cons e' r') G (bR (bR h)))).imp λZ H Q s=>Sm.bind s λS d R x H1 μ1 ac ai rd f1=>by
  cases rd with
  |bl c=>
   refine⟨c,rfl,?_⟩;cases c with
   |true=>exact Zkb ⟨S,R,μ1,ac,ai,f1⟩
   |false=>exact Zkc (Fin.ok f1 ac (.bl _))
  |_=>exact f1.elim
theorem or_ok(e:Exs){Γ:Gm}{X:Cx}{E:XK}{k:Nat}{x:List Expr}{pos:Pos}(G:Gd T Γ X Y E k)(h:chks Γ e x=Wx):PE X (.BoolOp .Or x pos) (Zac T Y E (.ors e)):=match e,x,h with
 |.nil,x,h=>λaa s Z H Q I sm=>by
  cases sm with
  |mk S h B rh rs f=>exact f.elim
 |.cons e r,[],h=>ff h
 |.cons e .nil,[y],h=>(Zpz (Zk e G (bL h))).imp λZ H Q q=>q
 |.cons e .nil,y::z::zs,h=>ff (bR (bR h))
 |.cons e (.cons e' r'),[y],h=>ff (bR (bR h))
 |.cons e (.cons e' r'),y::z::zs,h=>(Zws (Zk e G (bL h)) (or_ok (.cons e' r') G (bR (bR h)))).imp λZ H Q s=>Sm.bind s λS d R x H1 μ1 ac ai rd f1=>by
  cases rd with
  |bl c=>
   refine⟨c,rfl,?_⟩;cases c with
   |true=>exact Zkb (Fin.ok f1 ac (.bl _))
   |false=>exact Zkc ⟨S,R,μ1,ac,ai,f1⟩
  |_=>exact f1.elim
theorem evo_ok(e:Option Ex){Γ:Gm}{X:Cx}{E:XK}{k:Nat}{x:Option Expr}(G:Gd T Γ X Y E k)(h:chko Γ e x=Wx):PO X x (ZxV T Y E e):=match e,x,h with
 |none,M,h=>Zrw.imp λZ H Q s=>by
  cases s with
  |mk S h B rh rs f=>exact Fin.ok (show Fin Y _ H B (.ok M h) Q E from f) rh rfl
 |none,J _,h=>ff h
 |some e,M,h=>ff h
 |some e,J a,h=>(Zrv (Zk e G h)).imp λZ H Q s=>Sm.bind s λS d R x H1 μ1 ac ai rd f1=>by
  cases rd with
  |int i=>exact⟨i,rfl,Fin.ok f1 ac rfl⟩
  |_=>exact f1.elim
theorem tst_ok(e:Tx){Γ:Gm}{X:Cx}{E:XK}{k:Nat}{x:Expr}(G:Gd T Γ X Y E k)(h:chkt Γ e x=Wx):PT X x (Zk4 T Y E e):=match e,h with
 |.ex e,h=>bO h (λh=>ZnG G (Zk e G (bR h)) (bL h)) λh=>by
  cases e with
  |cmp op a b=>exact Zm3 h λl r q h=>ZsA G (Zk a G (bL h)) (Zk b G (bL (bR h))) (bR (bR h))
  |cmp2 o1 o2 a b c=>exact Ztq h λl m r q h=>ZqD G (Zk a G (bL h)) (Zk b G (bL (bR h))) (Zk c G (bL (bR (bR h)))) (bR (bR (bR h)))
  |rpn a b=>exact Zm3 h λl r q h=>Zce h λp ys q' h=>Zaw h λy h=>Zce h λp2 zs q2 h=>Zaw h λz h=>(Zmo ZpH (rpE G (bL h) (Zk a G (bL (bR h))) (bL (bR (bR h)))) (rpE G (bL h) (Zk b G (bL (bR (bR (bR h))))) (bR (bR (bR (bR h))))) rfl).imp λZ H Q s=>rp2 G.gk.K s λc R H1 μ1 ac f1=>⟨c,rfl,Fin.ok (show Fin Y eqR H1 μ1 (.ok c R) Q E from f1) ac rfl⟩
  |_=>exact ff h
 |.ands ts,h=>Zr0 h λxs q h=>(tand_ok ts G h).pt
 |.ors ts,h=>Zr0 h λxs q h=>(tor_ok ts G h).pt
 |.nt t,h=>Ztz h λy q h=>(Zt9 (tst_ok t G h)).imp λZ H Q s=>Sm.bind s λS d R x H1 μ1 ac ai rd f1=>by cases rd;exact Fin.ok f1 ac rfl
theorem tand_ok(e:Txs){Γ:Gm}{X:Cx}{E:XK}{k:Nat}{x:List Expr}{pos:Pos}(G:Gd T Γ X Y E k)(h:chkts Γ e x=Wx):PW X (.BoolOp .And x pos) (Zk4 T Y E (.ands e)):=match e,x,h with
 |.one t,x,h=>Zaw h λy h=>(Zro (tst_ok t G h)).imp λZ H Q q=>q
 |.cons t ts,[],h=>ff h
 |.cons t ts,[_],h=>ff (bL (bR h))
 |.cons t ts,x::y::r,h=>(Zt7 (tst_ok t G (bL h)) (tand_ok ts G (bR (bR h)))).imp λZ H Q s=>Sm.bind s λS d R x H1 μ1 ac ai rd f1=>by
  cases rd;cases d with
  |true=>exact Zkb ⟨S,R,μ1,ac,ai,f1⟩
  |false=>exact Zkc (Fin.ok f1 ac rfl)
theorem tor_ok(e:Txs){Γ:Gm}{X:Cx}{E:XK}{k:Nat}{x:List Expr}{pos:Pos}(G:Gd T Γ X Y E k)(h:chkts Γ e x=Wx):PW X (.BoolOp .Or x pos) (Zk4 T Y E (.ors e)):=match e,x,h with
 |.one t,x,h=>Zaw h λy h=>(Zt6 (tst_ok t G h)).imp λZ H Q q=>q
 |.cons t ts,[],h=>ff h
 |.cons t ts,[_],h=>ff (bL (bR h))
 |.cons t ts,x::y::r,h=>(Zwn (tst_ok t G (bL h)) (tor_ok ts G (bR (bR h)))).imp λZ H Q s=>Sm.bind s λS d R x H1 μ1 ac ai rd f1=>by
  cases rd;cases d with
  |true=>exact Zkb (Fin.ok f1 ac rfl)
  |false=>exact Zkc ⟨S,R,μ1,ac,ai,f1⟩
theorem ifs_ok(c:Option Tx){Γ:Gm}{X:Cx}{E:XK}{k:Nat}{x:List Expr}(G:Gd T Γ X Y E k)(h:chkf Γ c x=Wx):PIf X x (Sm Y E eqR (tsto T c)):=match c,x,h with
 |none,[],h=>λaa s Z H Q I sm=>by
  cases sm with
  |mk S h B rh rs f=>exact Zry aa s Z H Q I (Fin.ok (show Fin Y eqR H B (.ok Wx h) Q E from f) rh rfl)
 |none,_::_,h=>ff h
 |some t,x,h=>Zaw h λy h=>Zrx (tst_ok t G h)
theorem evi_ok(e:Ix){Γ:Gm}{X:Cx}{E:XK}{k:Nat}{x tg:Expr}(G:Gd T Γ X Y E k)(h:chki Γ e tg x=Wx):PI X tg x (ZxW T Y E e):=match e,h with
 |.pl e,h=>(Zug (Zk e G h)).imp λZ H Q s=>Sm.bind s λS d R x H1 μ1 ac ai rd f1=>by obtain⟨w,ew,f1⟩:=f1.ofO;exact ZqZ G.gk.K ac rd ew λqb wj=>f1.ok ac wj
 |.rng e,h=>Zce h λp ys q h=>Zaw h λy h=>(ZnI (G.gl (bL h)).1 (G.blt _ (by decide)) (ZaC (Zk e G (bL (bR h))) Zcy (Zw X.env (bR (bR h)))) (Zw X.env (bR (bR h)))).imp λZ H Q s=>Sm.bind s λS d R x H1 μ1 ac ai rd f1=>by
  cases rd with
  |int j=>obtain⟨hz,f1⟩:=Fin.iff (show Fin Y (WJ Y) H1 μ1 (if ZbW j=Wx then .ok ⟨M,ZP 0 j.toNat⟩ R else .bad) Q E from f1);exact⟨j,rfl,of_decide_eq_true (bL hz),of_decide_eq_true (bR hz),f1.ok ac Ztv⟩
  |_=>exact f1.elim
 |.rng2 a b,h=>ff h
 |.enu e,h=>Zce h λp ys q h=>Zaw h λy h=>Zth (bR (bR (bR h))) λts j r=>(ZrA (G.gl (bL h)).1 (G.blt _ (by decide)) (ZaC (Zk e G (bL (bR h))) Zcy (Zw X.env (bL (bR (bR h))))) (Zw X.env (bL (bR (bR h))))).imp λZ H Q s=>Sm.bind s λS d R x H1 μ1 ac ai rd f1=>by
  obtain⟨w,ew,f1⟩:=f1.ofO;obtain⟨w0,eU,rfl⟩:=Oo.mp ew;cases d with
  |ro xs=>
   cases eU;cases rd with
   |ro t s=>exact⟨_,rfl,⟨_,G.gk.K▸t.sq⟩,f1.ok ac (ZlY (ZsX G.gk.K ac t s) λH2 μ2 h2 g2 ak st=>⟨_,G.gk.K▸(g2.rdF ac t).sq,s.mono ac g2⟩)⟩
  |ref i=>obtain⟨xs,hi,rfl⟩:=Zov eU;obtain⟨a,vs,rfl,hm,hl,s⟩:=rd.lst ac hi;refine⟨a,rfl,⟨vs,.of hl⟩,f1.ok ac (ZlY (Zow hm) λH2 μ2 h2 g2 ak st=>?_)⟩;obtain⟨jI,bN,s2⟩:=ak.ob i _ a (ZgV st) (g2.pre i a hm);exact⟨jI,.of bN,s2⟩
  |_=>cases eU
 |.rev e,h=>Zce h λp ys q h=>Zaw h λy h=>(Zrz (G.gl (bL h)).1 (G.blt _ (by decide)) (ZaC (Zk e G (bL (bR h))) Zcy (Zw X.env (bR (bR h)))) (Zw X.env (bR (bR h)))).imp λZ H Q s=>Sm.bind s λS d R x H1 μ1 ac ai rd f1=>by
  obtain⟨w,ew,f1⟩:=f1.ofO;obtain⟨w0,eU,rfl⟩:=Oo.mp ew;cases d with
  |tup xs=>cases eU;obtain⟨a,vs,rfl,t,s⟩:=rd.tup_inv;exact⟨a,vs,rfl,.inl ⟨G.gk.K▸t,f1.ok ac (Ztw G.gk.K ac t s)⟩⟩
  |ref i=>obtain⟨xs,hi,rfl⟩:=Zov (show Zh8 (.ref i) R=J w0 from eU);obtain⟨a,vs,rfl,hm,hl,s⟩:=rd.lst ac hi;exact⟨a,vs,rfl,.inr ⟨.of hl,by rw[<-s.length];exact f1.ok ac (ZqX hm)⟩⟩
  |_=>cases eU
 |.en1 e,h=>ff h
 |.en0 e,h=>ff h
 |.dk e,h=>ff h
theorem pairs_ok(ps:Exs){Γ:Gm}{X:Cx}{E:XK}{k:Nat}{ks:List (Option Expr)}{vs:List Expr}{pos:Pos}(G:Gd T Γ X Y E k)(h:chkp Γ ps ks vs=Wx):PPs X pos ks vs (Zl3 T Y E ps)/\ks.all (·.isSome)=Wx/\ks.length=vs.length:=match ps,ks,vs,h with
 |.nil,[],[],h=>⟨Zru,rfl,rfl⟩
 |.nil,[],_::_,h=>ff h
 |.nil,_::_,_,h=>ff h
 |.cons e .nil,ks,vs,h=>ff h
 |.cons e (.cons v r'),[],vs,h=>ff h
 |.cons e (.cons v r'),M::_,vs,h=>ff h
 |.cons e (.cons v r'),J _::_,[],h=>ff h
 |.cons e (.cons v r'),J kx::ks,vx::vs,h=>
  let z:=pairs_ok r' (pos:=pos) G (bR (bR h))
  ⟨Zps (Zk e G (bL h)) (Zk v G (bL (bR h))) z.1,z.2.1,congrArg (·+1) z.2.2⟩
end
def Zeo(e:Expr):Bool:=Wz (tgE e≠13)&&Wz (tgE e≠19)
def Zlo(e:Expr):Bool:=Wz (tgE e≠8)
structure PsS where
 a:Expr:=default
 b:Expr:=default
 o:Option Expr:=M
 c:Option Expr:=M
 ts:List Expr:=[]
 xs:List Stmt:=[]
 ys:List Stmt:=[]
 zs:List Stmt:=[]
 hs:List ExceptHandler:=[]
 op:Operator:=.Add
 p:Pos:=default
 s:Stmt:=default
noncomputable def tgS:Stmt->Nat
 |.Return _ _=>1|.Assign _ _ _=>2|.AugAssign _ _ _ _=>3|.Expr _ _=>4|.If _ _ _ _=>5|.While _ _ _ _=>6|.For _ _ _ _ _=>7|.Pass _=>8|.Break _=>9|.Continue _=>10|.Raise _ _ _=>11|.Try _ _ _ _ _=>12|_=>0
noncomputable def prS(s:Stmt):PsS:=match s with
 |.Return o p=>{o:=o,p:=p}
 |.Assign ts a p=>{ts:=ts,a:=a,p:=p}
 |.AugAssign a op b p=>{a:=a,op:=op,b:=b,p:=p}
 |.Expr a p=>{a:=a,p:=p}
 |.If a xs ys p=>{a:=a,xs:=xs,ys:=ys,p:=p}
 |.While a xs ys p=>{a:=a,xs:=xs,ys:=ys,p:=p}
 |.For a b xs ys p=>{a:=a,b:=b,xs:=xs,ys:=ys,p:=p}
 |.Pass p=>{p:=p}
 |.Break p=>{p:=p}
 |.Continue p=>{p:=p}
 |.Raise o c p=>{o:=o,c:=c,p:=p}
 |.Try xs hs ys zs p=>{xs:=xs,hs:=hs,ys:=ys,zs:=zs,p:=p}
 |_=>{s:=s}
noncomputable def mkS(n:Nat)(p:PsS):Stmt:=match n with
 |1=>.Return p.o p.p|2=>.Assign p.ts p.a p.p|3=>.AugAssign p.a p.op p.b p.p|4=>.Expr p.a p.p|5=>.If p.a p.xs p.ys p.p|6=>.While p.a p.xs p.ys p.p|7=>.For p.a p.b p.xs p.ys p.p
 |8=>.Pass p.p|9=>.Break p.p|10=>.Continue p.p|11=>.Raise p.o p.c p.p|12=>.Try p.xs p.hs p.ys p.zs p.p|_=>p.s
def rbS(s:Stmt):mkS (tgS s) (prS s)=s:=by cases s<;>rfl
@[irreducible] def anS(n:Nat)(s:Stmt)(f:PsS->Bool):Bool:=Wz (tgS s=n)&&f (prS s)
section
variable {P:Stmt->Prop}{s:Stmt}
def Zbs(h:anS n s f=Wx)(k:∀p,f p=Wx->P (mkS n p)):P s:=by unfold anS at h;exact rbS s▸dS (P:=λm=>P (mkS m (prS s))) (bL h) (k _ (bR h))
noncomputable def oSm{α:Type}(o:Option α)(f:α->Bool):Bool:=match o with
 |some x=>f x
 |none=>Wy
def Zi0{α:Type}{P:Option α->Prop}{o:Option α}{f:α->Bool}(h:oSm o f=Wx)(k:∀x,f x=Wx->P (J x)):P o:=by
 cases o with
 |none=>exact ff h
 |some x=>exact k x h
noncomputable def oNo{α:Type}(o:Option α)(b:Bool):Bool:=o.isNone&&b
def ZuB{α:Type}{P:Option α->Prop}{o:Option α}(h:oNo o b=Wx)(k:b=Wx->P M):P o:=by
 cases o with
 |none=>exact k h
 |some x=>exact ff h
@[irreducible] def aAs(s:Stmt)(f:Expr->Expr->Bool):Bool:=anS 2 s λp=>l1 p.ts λg=>f g p.a
def Zne(h:aAs s f=Wx)(k:∀g x q,f g x=Wx->P (.Assign [g] x q)):P s:=by unfold aAs at h;exact Zbs h λp h=>Zaw (P:=λts=>P (.Assign ts p.a p.p)) h λ_ h=>k _ _ _ h
end
@[irreducible] def Ztp(Γ:Gm)(C:Str)(x:Expr)(f:Expr->Bool):Bool:=aCN C x λys=>l1 ys λy=>Wz (C∈Γ.kl.xs)&&(glb Γ C&&(Zag y&&f y))
def aTb(N:List Str)(own:Str->Bool)(i:Nat)(b:List Stmt)(f:Expr->Bool):Bool:=l1 b λs=>aAs s λg x=>Zlp N own i g&&f x
def ZsZ{P:List Stmt->Prop}(h:aTb N own i b f=Wx)(k:∀n p x q,N[i]?=J n->own n=Wx->f x=Wx->P [.Assign [.Name n p] x q]):P b:=Zaw h λ_ h=>Zne (P:=λs=>P [s]) h λ_ x q h=>ZbZ (P:=λg=>P [.Assign [g] x q]) (bL h) λ_ _ e1 e2=>k _ _ _ _ e1 e2 (bR h)
@[irreducible] def ZqE(w m W:Str)(x:Expr):Bool:=aLs x λxs=>l2 xs λa b=>(aK a λc=>Wz (c=.str w))&&aCN (O "isinstance") b λys=>l2 ys λu v=>aX m u (aX W v Wx)
def ZvC{P:Expr->Prop}(h:ZqE w m W x=Wx)(k:∀j kp ip mp wp cp lp,P (.List [.Constant (.str w) j kp,.Call (.Name (O "isinstance") ip) [.Name m mp,.Name W wp] [] cp] lp)):P x:=by unfold ZqE at h;exact Ztd h λxs lp h=>ZmG (P:=λxs=>P (.List xs lp)) h λa b h=>ZwU (P:=λa=>P (.List [a,b] lp)) (bL h) λc j kp R=>dS (P:=λc=>P (.List [.Constant c j kp,b] lp)) R <| Zce (P:=λb=>P (.List [_,b] lp)) (bR h) λip ys cp h=>ZmG (P:=λys=>P (.List [_,.Call _ ys [] cp] lp)) h λu v h=>ZkR (P:=λu=>P (.List [_,.Call _ [u,v] [] cp] lp)) h λmp h=>ZkR (P:=λv=>P (.List [_,.Call _ [_,v] [] cp] lp)) h λwp _=>k j kp ip mp wp cp lp
structure TwOk(Γ:Gm)(n:Nat)(C W w m:Str):Prop where
 xa:(C,W)∈Γ.kl.xa
 gc:glb Γ C=Wx
 gw:glb Γ W=Wx
 gi:glb Γ (O "isinstance")=Wx
 ok:Yo w=Wx
 at':Γ.N[n]?=J m
 lo:Γ.sc.names.lookup m=J .local
 db:(m==("__debug__" : Str))=Wy
 cd:(m==("__classdict__" : Str))=Wy
noncomputable instance:Decidable (TwOk Γ n C W w m):=decidable_of_iff ((C,W)∈Γ.kl.xa/\glb Γ C=Wx/\glb Γ W=Wx/\glb Γ (O "isinstance")=Wx/\Yo w=Wx/\Γ.N[n]?=J m/\Γ.sc.names.lookup m=J .local/\(m==("__debug__" : Str))=Wy/\(m==("__classdict__" : Str))=Wy)
 ⟨λ⟨a,b,c,d,e,f,g,h,i⟩=>⟨a,b,c,d,e,f,g,h,i⟩,λ⟨a,b,c,d,e,f,g,h,i⟩=>⟨a,b,c,d,e,f,g,h,i⟩⟩
def Zto(Γ:Gm)(i n:Nat)(C W w:Str)(hs:List ExceptHandler):Bool:=l1 hs λh=>match h with
 |.ExceptHandler t m b _=>oSm m λm=>oSm t λt=>aX C t (Wz (TwOk Γ n C W w m)&&aTb Γ.N (ownD Γ.sc) i b λx=>ZqE w m W x)
def ZvM{P:List ExceptHandler->Prop}(h:Zto Γ i n C W w hs=Wx)(k:∀np m y p q z j kp ip mp wp cp lp,TwOk Γ n C W w m->Γ.N[i]?=J y->P [.ExceptHandler (J (.Name C np)) (J m) [.Assign [.Name y p] (.List [.Constant (.str w) j kp,.Call (.Name (O "isinstance") ip) [.Name m mp,.Name W wp] [] cp] lp) q] z]):P hs:=
 Zaw h λy h=>match y,h with
  |.ExceptHandler t m b z,h=>Zi0 (P:=λm=>P [.ExceptHandler t m b z]) h λm h=>Zi0 (P:=λt=>P [.ExceptHandler t (J m) b z]) h λt h=>ZkR (P:=λt=>P [.ExceptHandler (J t) (J m) b z]) h λnp h=>ZsZ (P:=λb=>P [.ExceptHandler (J _) (J m) b z]) (bR h) λy p x q e1 e2 h5=>ZvC (P:=λx=>P [.ExceptHandler (J _) (J m) [.Assign [.Name y p] x q] z]) h5 λj kp ip mp wp cp lp=>k np m y p q z j kp ip mp wp cp lp (of_decide_eq_true (bL h)) e1
noncomputable def ZwZ:Ex->Bool
 |.comp _ _ _ _ _ _|.any=>Wx
 |_=>Wy
mutual
def Zxl(Γ:Gm):Sx->Stmt->Bool
 |.ret e,s=>anS 1 s λp=>oSm p.o λx=>chk Γ e x
 |.set g e,s=>aAs s λtg x=>ZsB Γ.N (ownD Γ.sc) g tg&&(chk Γ e x&&((Zeo x&&(!isTup tg||Zlo x))||(Wz (tgE tg=6)&&ZwZ e)))
 |.put o i e,s=>aAs s λtg x=>aS tg λxo xi=>chk Γ o xo&&(chk Γ i xi&&(chk Γ e x&&(Zg6 xi&&Zeo x)))
 |.aug i op e,s=>anS 3 s λp=>Zlp Γ.N (ownD Γ.sc) i p.a&&(Wz (p.op=.Add)&&(Wz (op=.Add)&&chk Γ e p.b))
 |.drp e,s=>anS 4 s λp=>chk Γ e p.a&&Zeo p.a
 |.iff c a b,s=>anS 5 s λp=>chkt Γ c p.a&&(chkSs Γ a p.xs&&chkSs Γ b p.ys)
 |.whl c b,s=>anS 6 s λp=>l0 p.ys (chkt Γ c p.a&&chkSs Γ b p.xs)
 |.forr g it b,s=>anS 7 s λp=>l0 p.ys (chki Γ it p.a p.b&&(Zcz p.b&&(ZsB Γ.N (ownD Γ.sc) g p.a&&chkSs Γ b p.xs)))
 |.pas,s=>anS 8 s λ_=>Wx
 |.brk,s=>anS 9 s λ_=>Wx
 |.cnt,s=>anS 10 s λ_=>Wx
 |.seta Cs o f e,s=>aAs s λtg x=>aA f tg λxo _=>chk Γ o xo&&(chk Γ e x&&(Zeo x&&((Cs.all λC=>Wz (C∈Γ.kl.cs))&&Wz (f∈Γ.kl.ats))))
 |.auga Cs o f e,s=>anS 3 s λp=>Wz (p.op=.Add)&&aA f p.a λxo _=>chk Γ o xo&&(chk Γ e p.b&&((Cs.all λC=>Wz (C∈Γ.kl.cs))&&Wz (f∈Γ.kl.ats)))
 |.any,_=>Wx
 |.rai C e,s=>anS 11 s λp=>oNo p.c (oSm p.o λx=>Ztp Γ C x λy=>chk Γ e y)
 |.trs _ _ _ _,_=>Wy
 |.trw i n f es C W w,s=>anS 12 s λp=>l0 p.ys (l0 p.zs (Zto Γ i n C W w p.hs&&aTb Γ.N (ownD Γ.sc) i p.xs λx=>aCN f x λys=>Wz (f∈Γ.fs)&&(glb Γ f&&(chks Γ es ys&&!ys.isEmpty))))
 |.unl _ _ _,_=>Wy
def chkSs(Γ:Gm):Sxs->List Stmt->Bool
 |.nil,ss=>ss.isEmpty
 |.cons s r,ss=>match ss with
  |x::xs=>Zxl Γ s x&&chkSs Γ r xs
  |[]=>Wy
end
def ZT(Y:Yx)(H:Hp)(B:List Yi)(r:qe (Fl×Ev))(D:Ends)(E:XK):Prop:=match r with
 |.bad=>False
 |.ok p h'=>∀H' μ',Gr H B H' μ'->RH Y H' μ' h'->match p.1 with
  |.nx=>∀σ',RS Y H' μ' p.2 σ'->D.nx σ' H'
  |.bk=>∀σ',RS Y H' μ' p.2 σ'->D.bk σ' H'
  |.ct=>∀σ',RS Y H' μ' p.2 σ'->D.ct σ' H'
  |.rt d=>∀v,RD Y H' μ' d v->D.rt v H'
 |.exc c h'=>∀H' μ' C,Gr H B H' μ'->RH Y H' μ' h'->Y.mg c=J (.ref C)->E (.ref C) M H'
section
variable {Y:Yx}{α β:Type}{rel:Hp->List Yi->α->β->Prop}{H H1:Hp}{B μ1:List Yi}{E:XK}{D:Ends}
def ZT.mono(g:Gr H B H1 μ1)(f:ZT Y H B r D E):ZT Y H1 μ1 r D E:=by
 cases r with
 |bad=>exact f
 |ok a h=>exact λH' μ' g'=>f H' μ' (g.trans g')
 |exc c h=>exact λH' μ' C g'=>f H' μ' C (g.trans g')
theorem ZT.bind(f:ZT Y H B (r.bind k) D E)
 (hk:∀a R b H1 μ1,r=.ok a R->Gr H B H1 μ1->RH Y H1 μ1 R->rel H1 μ1 a b->ZT Y H1 μ1 (k a R) D E->Q1 b H1):Fin Y rel H B r Q1 E:=by
 cases r with
 |bad=>exact f
 |ok a h=>exact λb H' μ' g' rh rl=>hk a h b H' μ' rfl g' rh rl (ZT.mono g' f)
 |exc c h=>exact f
theorem ZT.ofO(f:ZT Y H B ((qe.ofO o h).bind k) D E):∃a,o=J a/\ZT Y H B (k a h) D E:=by
 cases o with
 |none=>exact f.elim
 |some a=>exact⟨a,rfl,f⟩
theorem ZT.nx(f:ZT Y H B (.ok (.nx,S) h) D E)(rh:RH Y H B h)(rs:RS Y H B S Z):D.nx Z H:=f H B Gr.refl rh Z rs
def ZT.part(f:ZT Y H B (r.bind k) D E)
 (hk:∀p R H1 μ1,r=.ok p R->Gr H B H1 μ1->RH Y H1 μ1 R->ZT Y H1 μ1 (k p R) D E->match p.1 with
  |.nx=>∀σ',RS Y H1 μ1 p.2 σ'->D1.nx σ' H1
  |.bk=>∀σ',RS Y H1 μ1 p.2 σ'->D1.bk σ' H1
  |.ct=>∀σ',RS Y H1 μ1 p.2 σ'->D1.ct σ' H1
  |.rt d=>∀v,RD Y H1 μ1 d v->D1.rt v H1):ZT Y H B r D1 E:=by
 cases r with
 |bad=>exact f
 |ok p h=>exact λH' μ' g' rh=>hk p h H' μ' rfl g' rh (ZT.mono g' f)
 |exc c h=>exact f
end
inductive SmS(Y:Yx)(E:XK)(m:Ev->Hd->qe (Fl×Ev))(D:Ends)(Z:L2.St)(H:Hp):Prop
 |mk (S:Ev) (h:Hd) (B:List Yi) (rh:RH Y H B h) (rs:RS Y H B S Z) (f:ZT Y H B (m S h) D E):SmS Y E m D Z H
def Znr(T:Tb)(Y:Yx)(E:XK)(s:Sx):TS:=SmS Y E (xs1 T s)
def Zmd(T:Tb)(Y:Yx)(E:XK)(s:Sxs):TS:=SmS Y E (xs2 T s)
theorem SmS.bind{D:Ends}{γ δ:Type}{rel:Hp->List Yi->γ->δ->Prop}{m:Ev->Hd->qe γ}{k:Ev->γ->Hd->qe (Fl×Ev)}{Q1:δ->Hp->Prop}(s:SmS Y E (λS h=>(m S h).bind (k S)) D Z H)
 (hk:∀S d R v H1 μ1,RH Y H1 μ1 R->RS Y H1 μ1 S Z->rel H1 μ1 d v->ZT Y H1 μ1 (k S d R) D E->Q1 v H1):Sm Y E rel m Z H Q1:=by
 cases s with
 |mk S h B rh rs f=>exact⟨S,h,B,rh,rs,f.bind λd R x H1 μ1 _ g ac rd f1=>hk S d R x H1 μ1 ac (rs.mono rh g) rd f1⟩
def Sm.at{α β:Type}{rel:Hp->List Yi->α->β->Prop}{m:Ev->Hd->qe α}{Q1:β->Hp->Prop}{Q:Prop}(s:Sm Y E rel m Z H Q1)(hk:∀S h B,RH Y H B h->RS Y H B S Z->Fin Y rel H B (m S h) Q1 E->Q):Q:=by
 cases s with
 |mk S h B rh rs f=>exact hk S h B rh rs f
def SmS.at{D:Ends}{Q:Prop}(s:SmS Y E m D Z H)(hk:∀S h B,RH Y H B h->RS Y H B S Z->ZT Y H B (m S h) D E->Q):Q:=by
 cases s with
 |mk S h B rh rs f=>exact hk S h B rh rs f
def _root_.L2.PS.imp(h:PS X s t)(i:∀D Z H,t' D Z H->t D Z H):PS X s t':=λaa s Z H D I q=>h aa s Z H D I (i D Z H q)
def _root_.L2.PSs.imp(h:PSs X s t)(i:∀D Z H,t' D Z H->t D Z H):PSs X s t':=λaa s Z H D I q=>h aa s Z H D I (i D Z H q)
structure XOk(K:Yk)(a:Yi):Prop extends ExcN K a where
 own:PySem.W.excIn K a [.type "ValueError",.type "Exception",.type "BaseException",.type "object"] "ValueError.__new__"=Wx
 sub:YV K (.ref a) (.ref a)=J Wx
structure GdS(T:Tb)(Γ:Gm)(X:Cx)(Y:Yx)(E:XK)(k:Nat):Prop extends Gd T Γ X Y E k where
 top:Γ.top=Wx
 fnt:∀x,X.fn x=Wx
 own:PassesOwn (model X.prog X.w) X.A X.env X.xe
 bk:X.env.blockKind=.function
 rz:ZjB X E
 stk:X.stack=X.env::X.outer
 frm:X.env.frame=J X.env.locals
 xcs:∀C∈Γ.kl.xs,∃a,X.mg C=J (.ref a)/\XOk X.K a
 xas:∀p∈Γ.kl.xa,∃a b,X.mg p.1=J (.ref a)/\X.mg p.2=J (.ref b)/\XAs X.K a b
theorem GdS.ownD(G:GdS T Γ X Y E k):∀x,ownD Γ.sc x=Wx->Loc X.env.scope x/\(X.fn x=Wx\/X.env.scope.names.lookup x=J .local):=by intro x h;refine⟨?_,.inl (G.fnt x)⟩;unfold IV.ownD at h;rw[G.sc G.top];rw[Wu]at h;exact h.imp of_decide_eq_true of_decide_eq_true
def Ze9(h:Zeo x=Wx):swapsWith x t n env=pure Wy:=(kdE x).sw (of_decide_eq_true (bL h)) (of_decide_eq_true (bR h)) _ _ _
def Zo0(G:GdS T Γ X Y E k)(hi:Γ.N[i]?=J y)(ho:ownD Γ.sc y=Wx)(hx:ZwZ e=Wx)(h:chk Γ e x=Wx):PS X (.Assign [.Name y py] x spos) (ZkZ (Zac T Y E e) (Zdr i)):=by
 obtain⟨o1,o2⟩:=G.ownD y ho;have hy:X.N[i]?=J y:=by rw[G.N];exact hi
 cases e with
 |comp NC js it g c e=>
  refine Ztf h (λaE tg iter be scope q h pe=>?_) (Zk _ G.toGd h);cases sw:(X.env.blockKind==.function&&X.env.kindOf y==J .local&&py.line==q.line&&!(scope.names.any λ(n,k)=>n==y&&(k==.local||k==.cell)))with
  |true=>
   have S_:=Zkt (bL (bR h));rw[<-G.N,<-G.sc (bL h)]at S_;have Gc:=λ(aa:List (Yi×Obj)) (Z:L2.St) (C:Yi) (s3:Yb) (H3:Hp) (fp:List Yi) (i3:Inv X aa Z H3 s3) (j3:∀b∈fp,Zb7 X aa H3 b) (k3:C=s3.heap.objs.size)=>G.toGd.comp NC scope C s3 H3 fp S_.nd (G.passC (bL h) aa Z NC scope C s3 H3 fp i3 j3 k3);have h':=bR (bR h);exact(Zlg (g:=tgR X.K g) (tc:=Sm Y E eqR (tsto T c)) (te:=Zac T Y E e) G.nd hy o1 o2 S_ rfl G.calm (evi_ok it G.toGd (bL h')) (λaa Z C s3 H3 fp i3 j3 k3=>⟨Zmr rfl S_.nd rfl (λx hx=>Zmw (scope:=scope) X hx) (bL (bR (bR h'))),ifs_ok c (Gc aa Z C s3 H3 fp i3 j3 k3) (bL (bR (bR (bR (bR h'))))),Zk e (Gc aa Z C s3 H3 fp i3 j3 k3) (bR (bR (bR (bR (bR h')))))⟩) (ZvR X.K g) (λj hj=>of_decide_eq_true (OC.mp (bL (bR (bR (bR h')))) j (List.mem_range.mpr hj))) (Zk2 X.env (bL (bR h'))) (congrArg pure sw)).imp
    λD Z H s=>Sm.bind s λS w R qb H1 μ1 ac ai wj f1 D hD=>ZmX G.gk.K (λ_ _ _ z=>z) ac ai wj f1 hD
  |false=>exact Zlh G.nd hy o1 pe (congrArg pure sw) o2
 |any=>exact λaa s Z H D I s=>Sm.at s λ_ _ _ _ _ f=>f.elim
 |_=>exact ff hx
def Zmc(ht:isTup tg=Wx)(pg:PG X tg g)(he:PE X x te)(h3:(Zeo x&&(!isTup tg||Zlo x))=Wx):PS X (.Assign [tg] x pos) (ZkZ te g):=Zth (P:=λtg=>PG X tg g->(!isTup tg||Zlo x)=Wx->PS X (.Assign [tg] x pos) (ZkZ te g)) ht (λ_ _ _ pg h3=>Zpr he pg (by unfold swapsWithSole;exact Ze9 (bL ‹_›)) ((kdE x).st (of_decide_eq_true h3) _ _ _ _) rfl) pg (bR h3)
def Zvs{T:Tb}(G:Gd T Γ X Y E k)(hc:(Cs.all λC=>Wz (C∈Γ.kl.cs))=Wx)(hf:f∈Γ.kl.ats){D:Ends}(ac:RH Y H1 μ1 R)(ai:RS Y H1 μ1 S Z)(rd:RD Y H1 μ1 d x)
 (f1:ZT Y H1 μ1 ((ZfX Cs f d R).bind λv h2=>(ev T e S h2).bind λy h3=>match v,y with
  |.int a,.int b=>if (Zai d R).map (·.1)=(Zai d h3).map (·.1)then(ZfL Cs f d (.int (a+b)) h3).bind λ_ h4=>.ok (.nx,S) h4 else .bad
  |_,_=>.bad) D E) :
 ∃a C dx fs v,x=.ref a/\H1 a=J (.ins C dx fs)/\Cls X.K C/\Zbt X.K C f/\fs.lookup f=J v /\
  Zac T Y E e Z H1 λy H2=>Zwl v y H2 λz H3=>∃cZ bh,H3 a=J (.ins C cZ bh)/\bh.length<1000/\D.nx Z (upd H3 a (.ins C cZ (Zcx f z bh))):=by
 unfold ZfX at f1;cases ei:Zai d R with
 |none=>rw[ei]at f1;exact f1.elim
 |some p=>
  obtain⟨C,fs⟩:=p;rw[ei]at f1;simp only at f1;by_cases hC:C∈Cs
  . rw[if_pos hC]at f1;obtain⟨w,e1,f1⟩:=f1.ofO;obtain⟨i,a,Ca,dx,gs,rfl,rfl,q,hi,z,m,s⟩:=Zhe ac rd ei;obtain⟨v,l,rv⟩:=(s.look (f:=f)).1 w e1;have cF:=hc;rw[OC]at cF;obtain⟨kI,m',cl,na⟩:=G.cls C (of_decide_eq_true (cF C hC));have m0:=m;rw[G.gk.mg,m']at m;cases m;refine⟨a,Ca,dx,gs,v,rfl,z,cl,na f hf,l,S,R,μ1,ac,ai,ZT.bind f1 λy h3 u H3 μ3 _ g3 aJ ry f3=>?_⟩;cases w with
    |int p=>
     cases y with
     |int r=>
      cases rv;cases ry;refine⟨p,r,rfl,rfl,?_⟩;simp only at f3;by_cases hk:Option.map (·.1) (J (C,fs))=(Zai (.ref i) h3).map (·.1)
      . rw[if_pos hk]at f3;obtain⟨a',C',cZ,bh,e4,z',_,_,l',nx⟩:=ZoZ (Q:=λ_ H'=>D.nx Z H') G hc hf aJ (rd.mono ac g3) (.int _) (ZT.bind f3 λ_ h4 _ H4 μ4 _ g4 dC _ f4=>f4.nx dC ((ai.mono ac g3).mono aJ g4));cases e4;cases e5:Zai (.ref i) h3 with
        |none=>rw[e5]at hk;cases hk
        |some p3=>obtain⟨C3,n8⟩:=p3;rw[e5]at hk;cases hk;obtain⟨i3,a3,om,oh,n6,e6,e7,_,_,z3,m3,_⟩:=Zhe aJ (rd.mono ac g3) e5;cases e7;rw[m0]at m3;cases m3;rw[z']at z3;cases z3;exact⟨cZ,bh,z',l',nx⟩
      . rw[if_neg hk]at f3;exact f3.elim
     |_=>exact f3.elim
    |_=>exact f3.elim
  . rw[if_neg hC]at f1;exact f1.elim
theorem _root_.IV.Gd.nox(G:Gd T Γ X Y E k):Gd T Γ X.nox Y E0 k:=⟨⟨G.gk.K,G.gk.mg,G.gk.gd,G.gk.g,G.gk.bare⟩,G.N,G.sc,G.vis,G.glo,G.nd,G.calm,G.room,G.h60,Zii,G.defs,G.blt,G.room1,λ_ _ _ _ _ _ _ _ _ _ _ _=>Zii,G.cls,G.mts,G.mks⟩
def Zop(f:Fin Y rel H B r.plain Q E):Fin Y rel H B r Q E0:=by
 cases r with
 |bad=>exact f.elim
 |ok a h=>exact f
 |exc c h=>exact f.elim
def Zmv{D D1:Ends}{k:Ev->Hd->qe (Fl×Ev)}(f:ZT Y H B (r.bind λp h2=>match p with
 |(.nx,ρ2)=>k ρ2 h2
 |(.ct,ρ2)=>k ρ2 h2
 |(.bk,ρ2)=>.ok (.nx,ρ2) h2
 |(.rt d,ρ2)=>.ok (.rt d,ρ2) h2) D E) (hn:∀ρ2 h2 H2 μ2 σ',Gr H B H2 μ2->RH Y H2 μ2 h2->RS Y H2 μ2 ρ2 σ'->ZT Y H2 μ2 (k ρ2 h2) D E->D1.nx σ' H2) (hc:D1.ct=D1.nx) (hb:D1.bk=D.nx) (hr:D1.rt=D.rt):ZT Y H B r D1 E:=
 ZT.part f λp h2 H2 μ2 _ g2 ak f2=>by
  obtain⟨fl,ρ2⟩:=p;cases fl with
  |nx=>exact λσ' bH=>hn ρ2 h2 H2 μ2 σ' g2 ak bH f2
  |ct=>rw[hc];exact λσ' bH=>hn ρ2 h2 H2 μ2 σ' g2 ak bH f2
  |bk=>rw[hb];exact λσ' bH=>ZT.nx f2 ak bH
  |rt d=>rw[hr];exact λv rv=>f2 H2 μ2 Gr.refl ak v rv
def Ztx{D:Ends}(s:Znr T Y E (.whl c b) D Z H):ZoO (Zk4 T Y E c) (Zmd T Y E b) D Z H:=by
 refine⟨λm=>SmS Y E (Zaj (tst T c) (xs2 T b) m) D,⟨T.L,s⟩,λm Z H s=>?_⟩;cases m with
 |zero=>exact SmS.at s λ_ _ _ _ _ f=>f.elim
 |succ m=>
  refine SmS.bind s λS t R v H1 μ1 ac ai rd f1=>?_;cases rd;cases t with
  |false=>exact Zkc (ZT.nx f1 ac ai)
  |true=>exact Zkb ⟨SmS Y E (Zaj (tst T c) (xs2 T b) m) D,λσ' H' q=>⟨m,OH m,q⟩,S,R,μ1,ac,ai,Zmv f1 (λρ2 h2 H2 μ2 σ' _ ak iy f2=>⟨ρ2,h2,μ2,ak,iy,f2⟩) rfl rfl rfl⟩
inductive FwS(Y:Yx)(E:XK)(H1:Hp)(μ1:List Yi)(n i:Nat)(F:Ev->Hd->qe (Fl×Ev))(D:Ends)(m:Nat)(Z:L2.St)(H:Hp):Prop
 |mk (S:Ev) (h:Hd) (B:List Yi) (hi:i<=n) (hm:m=n-i) (g:Gr H1 μ1 H B) (rh:RH Y H B h) (rs:RS Y H B S Z) (f:ZT Y H B (F S h) D E):FwS Y E H1 μ1 n i F D m Z H
def Zu9{K:Yk}{g:Tg}{D:Ends}(hY:Y.K=K)(ac:RH Y H1 μ1 R)(ai:RS Y H1 μ1 S Z)(wj:WJ Y H1 μ1 w qb)(f1:ZT Y H1 μ1 (ZJ w.src g (xs2 T b) w.xs S R) D E):∃W:Nat->Nat->L2.St->Hp->Prop,(∃m,W 0 m Z H1)/\∀i m Z H,W i m Z H ->
 (qb.stop i H/\D.nx Z H)\/(qb.go i H/\∃B_:L2.St->Hp->Prop,(∀σ' H',B_ σ' H'->∃m',m'<m/\W (i+1) m' σ' H')/\∀x H',qb.yld i H x H'->tgR K g x Z H' λσ' nG=>Zmd T Y E b {D with nx:=B_,ct:=B_,bk:=D.nx} σ' nG):=by
 refine⟨λi=>FwS Y E H1 μ1 w.xs.length i (λS=>ZJ w.src g (xs2 T b) (w.xs.drop i) S) D,⟨w.xs.length,S,R,μ1,Yw _,(Nat.sub_zero _).symm,Gr.refl,ac,ai,f1⟩,λi m Z H s=>?_⟩;cases s with
 |mk S h B hi hm g0 rh rs f=>
  subst hm;by_cases hs:Wk.stays w.src h=Wx
  . by_cases au:i<w.xs.length
    . have hd:=Og au;rw[List.drop_eq_getElem_cons au,ZJ,if_pos hs]at f;obtain⟨go,yl⟩:=(wj H B h g0 rh hs).1 i _ hd;refine .inr ⟨go,FwS Y E H1 μ1 w.xs.length (i+1) (λS=>ZJ w.src g (xs2 T b) (w.xs.drop (i+1)) S) D (w.xs.length-(i+1)),λσ' H' q=>⟨_,Nat.sub_lt_sub_left au (OH i),q⟩,λx H' hy=>?_⟩;obtain⟨g2,ak,rx⟩:=yl x H' hy;split at f
      . exact f.elim
      . rename_i ρ1 hb;exact Zjn hY rx (rs.mono rh g2) hb λσ1 ai=>⟨ρ1,h,B,ak,ai,Zmv (ZT.mono g2 f) (λρ2 h3 H3 μ3 σ' g3 aJ kS f3=>⟨ρ2,h3,μ3,au,rfl,(g0.trans g2).trans g3,aJ,kS,f3⟩) rfl rfl rfl⟩
    . have he:i=w.xs.length:=Nat.le_antisymm hi (Nat.le_of_not_lt au);subst he;rw[List.drop_eq_nil_of_le (Oq _),ZJ,if_pos hs]at f;exact .inl ⟨(wj H B h g0 rh hs).2,ZT.nx f rh rs⟩
  . cases e:w.xs.drop i with
    |nil=>rw[e,ZJ,if_neg hs]at f;exact f.elim
    |cons _ _=>rw[e,ZJ,if_neg hs]at f;exact f.elim
def RS.del{v:Option V}(r:RS Y H B S Z):RS Y H B (S.set i M) (Z.set i v):=by
 refine⟨by simp[r.1],λj e he=>?_⟩;by_cases hj:i=j
 . subst hj;rw[List.getElem?_set_self' ]at he;cases h:S[i]? with
   |none=>rw[h]at he;cases he
   |some _=>rw[h]at he;cases he
 . rw[Oc hj]at he ⊢;exact r.2 j e he
def ZtD{X:Cx}{D:Ends}(m:Y.mg W=J (.ref wa))(xo:XAs X.K ca wa)(hw:Yo w=Wx)(s:Znr T Y E (.trw i n f es C W w) D Z H):ZoP X.K (ZfK T Y f) ca i n (λa oe D Z H=>Z[n]?=J (J (.ref a))/\oe.cls=.ref wa/\∀p,H p=M->D.nx (Z.set i (J (.ref p))) (upd H p (.lst [.str w,.bl Wx]))) (Zk5 T Y E0 es) D Z H:=by
 cases s with
 |mk S h B rh rs ff=>
  refine⟨S,h,B,rh,rs,Zop (ZT.bind ff λds R vs H1 μ1 _ g1 ac bS f1=>⟨ds,R,μ1,ac,bS,?_⟩)⟩;have ai:=rs.mono rh g1;cases q:T.C f ds R with
  |bad=>rw[q]at f1;exact f1.elim
  |ok w h2=>rw[q]at f1;exact λb H' μ' g2 ak rb=>f1 H' μ' g2 ak _ ((ai.mono ac g2).set rb)
  |exc c h2=>
   rw[q]at f1;unfold Zjh at f1;by_cases e:c=W
   . subst e;simp only[if_true]at f1;intro H' μ' C' g2 ak mc;rw[m]at mc;cases mc;refine⟨wa,rfl,xo.sub,λa oe σ1 R h2 h3=>⟨h3,R,λp hp=>?_⟩⟩;subst h2;have g:=Gr.lay (B:=μ') (o:=HO.lst [.str w,.bl Wx]) hp;exact f1 _ _ (g2.trans g) (ak.lay hp ⟨_,Zp,.cons (.str _ hw) (.cons (.bl _) .nil)⟩) _ (((((ai.mono ac g2).del).mono ak g).set (.ref (by rw[ak.len];simp))).del)
   . simp only[if_neg e]at f1;exact f1.elim
def ZtE(G:GdS T Γ X Y E k)(hf:f∈Γ.fs)(mr:glb Γ f=Wx)(tw:TwOk Γ n C W w m)(hn:Γ.N[i]?=J y)(dX:Γ.N[i]?=J y')(dM:ownD Γ.sc y=Wx)(h4:chks Γ es (x::xs)=Wx)(ha:PA X.nox (x::xs) (Zk5 T Y E0 es)):
 PS X (.Try [.Assign [.Name y px] (.Call (.Name f fp) (x::xs) [] cp) ap] [.ExceptHandler (J (.Name C np)) (J m) [.Assign [.Name y' kZ] (.List [.Constant (.str w) j kp,.Call (.Name (O "isinstance") ip) [.Name m mp,.Name W wp] [] nk] lp) q] z] [] [] pos) (Znr T Y E (.trw i n f es C W w)):=by
 obtain rfl:y=y':=YF (hn.symm.trans dX);obtain⟨ps,hd⟩:=G.defs _ hf;obtain⟨g1,g2⟩:=G.gl mr;obtain⟨c1,c2⟩:=G.gl tw.gc;obtain⟨w1,w2⟩:=G.gl tw.gw;obtain⟨ca,wa,m1,m2,xo⟩:=G.xas _ tw.xa;obtain⟨o1,o2⟩:=G.ownD _ dM;have hi:X.N[i]?=J y:=by rw[G.N];exact hn
 have cX:X.N[n]?=J m:=by rw[G.N];exact tw.at'
 have hl:X.env.scope.names.lookup m=J .local:=by rw[G.sc G.top];exact tw.lo
 exact(Zpo hd G.room g1 ha c1 m1 xo.toExcN G.nd hi o1 o2 cX hl G.stk G.frm (λa oe=>ZkT w1 m2 xo.at' xo.one (G.gl tw.gi).1 (G.blt _ (by decide)) G.nd hi o1 o2 cX hl w2 tw.db tw.cd) g2 c2 (Zdu X.env h4).1 ((Zdu X.env h4).2 _) rfl).imp λD Z H s=>ZtD (by rw[G.gk.mg];exact m2) xo tw.ok s
mutual
theorem Zv1(s:Sx){Γ:Gm}{X:Cx}{E:XK}{k:Nat}{x:Stmt}(G:GdS T Γ X Y E k)(h:Zxl Γ s x=Wx):PS X x (Znr T Y E s):=match s,h with
 |.ret e,h=>Zbs (P:=λx=>PS X x _) h λp h=>Zi0 (P:=λo=>PS X (.Return o p.p) _) h λy h=>(Zua (Zk e G.toGd h)).imp λD Z H s=>SmS.bind s λS d R v H1 μ1 ac ai rd f1=>f1 H1 μ1 Gr.refl ac v rd
 |.set g e,h=>Zne (P:=λx=>PS X x _) h λtg xe pos h=>by
  have fin:∀{D:Ends}{Z:L2.St}{H:Hp},Znr T Y E (.set g e) D Z H->ZkZ (Zac T Y E e) (tgR X.K g) D Z H:=λ{D Z H} s=>SmS.bind s λS d R v H1 μ1 ac ai rd f1=>by obtain⟨ρ1,eb,f1⟩:=f1.ofO;exact Zjn G.gk.K rd ai eb λσ1 iy=>f1.nx ac iy
  have pg:=Zmr (X:=X) G.N G.nd G.calm G.ownD (bL h);refine bO (bR (bR h)) (λh3=>?_) λh3=>?_
  . cases g with
    |nm i=>exact ZbZ (P:=λt=>PS X (.Assign [t] _ _) _) (bL h) λy py e1 e2=>(Zlh G.nd (by rw[G.N];exact e1) (G.ownD y e2).1 (Zk e G.toGd (bL (bR h))) (Ze9 (bL h3)) (G.ownD y e2).2).imp λD Z H q=>fin q
    |two i j=>exact(Zmc (ZjG (P:=λt=>isTup t=Wx) (show Zm1 Γ.N (ownD Γ.sc) i j tg=Wx from bL h) λ_ _ _ _=>rfl) pg (Zk e G.toGd (bL (bR h))) h3).imp λD Z H q=>fin q
    |many is=>exact(Zmc (ZjG (P:=λt=>isTup t=Wx) (show Zm0 Γ.N (ownD Γ.sc) is tg=Wx from bL h) λ_ _ _ _=>rfl) pg (Zk e G.toGd (bL (bR h))) h3).imp λD Z H q=>fin q
  . cases g with
    |nm i=>exact ZbZ (P:=λt=>PS X (.Assign [t] _ _) _) (bL h) λy py e1 e2=>(Zo0 G e1 e2 (bR h3) (bL (bR h))).imp λD Z H q=>fin q
    |two i j=>exact ff (ZjG (P:=λt=>Wz (tgE t=6)=Wx->Wy=Wx) (show Zm1 Γ.N (ownD Γ.sc) i j tg=Wx from bL h) (λ_ _ _ _ z=>z) (bL h3))
    |many is=>exact ff (ZjG (P:=λt=>Wz (tgE t=6)=Wx->Wy=Wx) (show Zm0 Γ.N (ownD Γ.sc) is tg=Wx from bL h) (λ_ _ _ _ z=>z) (bL h3))
 |.put o i e,h=>Zne (P:=λx=>PS X x _) h λtg xe p2 h=>ZtP (P:=λt=>PS X (.Assign [t] _ _) _) h λxo xi p1 h=>
  (Zpr (pos:=p2) (Zk e G.toGd (bL (bR (bR h)))) (Zuh (pos:=p1) (Zk o G.toGd (bL h)) (Zk i G.toGd (bL (bR h))) (Zt8 (Y:=Y) (E:=E)) ((kdE xi).put (of_decide_eq_true (bL (bR (bR (bR h))))) _ _ _)) (by unfold swapsWithSole;exact Ze9 (bR (bR (bR (bR h))))) rfl rfl).imp λD Z H s=>SmS.bind s λS d R v H1 μ1 ac ai rd f1=>
   ⟨S,R,μ1,ac,ai,f1.bind λd2 h2 v2 H2 μ2 _ g2 ak fD f2=>⟨S,h2,μ2,ak,ai.mono ac g2,f2.bind λd3 h3 v3 H3 μ3 _ g3 aJ iz f3=>⟨d2,d3,d,h3,μ3,aJ,fD.mono ak g3,iz,(rd.mono ac g2).mono ak g3,f3.bind λ_ h4 _ H4 μ4 _ g4 dC _ f4=>f4.nx dC (((ai.mono ac g2).mono ak g3).mono aJ g4)⟩⟩⟩
 |.aug i op e,h=>Zbs (P:=λx=>PS X x _) h λp h=>ZbZ (P:=λa=>PS X (.AugAssign a _ _ _) _) (bL h) λy py e1 e2=>dS (P:=λo=>PS X (.AugAssign _ o _ _) _) (bL (bR h)) <| dS (P:=λo=>PS X _ (Znr T Y E (.aug i o e))) (bL (bR (bR h))) <|
  (Zud G.nd (by rw[G.N];exact e1) (G.ownD _ e2).1 (Zk e G.toGd (bR (bR (bR h)))) Zu2 (G.ownD _ e2).2).imp λD Z H s=>SmS.at s λS h B rh rs f=>by
   obtain⟨d,ed,f⟩:=ZT.ofO f;obtain⟨v,ev,rd⟩:=rs.var ed;refine⟨v,ev,S,h,B,rh,rs,ZT.bind f λd2 h2 v2 H2 μ2 _ g2 ak fD f2=>?_⟩;cases rd with
   |int a=>
    cases fD with
    |int b=>exact⟨a,b,rfl,rfl,ZT.nx f2 ak ((rs.mono rh g2).set (.int _))⟩
    |_=>exact f2.elim
   |_=>exact f2.elim
 |.drp e,h=>Zbs (P:=λx=>PS X x _) h λp h=>(Zrt (Zk e G.toGd (bL h)) (Ze9 (bR h))).imp λD Z H s=>SmS.bind s λS d R v H1 μ1 ac ai rd f1=>f1.nx ac ai
 |.iff c a b,h=>Zbs (P:=λx=>PS X x _) h λp h=>(Zwp (tst_ok c G.toGd (bL h)) (sts_ok a G (bL (bR h))) (sts_ok b G (bR (bR h)))).imp λD Z H s=>SmS.bind s λS t R v H1 μ1 ac ai rd f1=>by
  cases rd;cases t with
  |true=>exact Zkb ⟨S,R,μ1,ac,ai,f1⟩
  |false=>exact Zkc ⟨S,R,μ1,ac,ai,f1⟩
 |.whl c b,h=>Zbs (P:=λx=>PS X x _) h λp h=>Zin (P:=λys=>PS X (.While _ _ ys _) _) h λh=>(Zpn G.own (tst_ok c G.toGd (bL h)) (sts_ok b G (bR h))).imp λD Z H s=>Ztx s
 |.forr g it b,h=>Zbs (P:=λx=>PS X x _) h λp h=>Zin (P:=λys=>PS X (.For _ _ _ ys _) _) h λh=>(Zub G.own G.calm (evi_ok it G.toGd (bL h)) (Zmr (X:=X) G.N G.nd G.calm G.ownD (bL (bR (bR h)))) (sts_ok b G (bR (bR (bR h)))) (Zk2 X.env (bL (bR h)))).imp λD Z H s=>SmS.bind s λS w R qb H1 μ1 ac ai wj f1=>Zu9 G.gk.K ac ai wj f1
 |.pas,h=>Zbs (P:=λx=>PS X x _) h λp h=>Zrs.imp λD Z H s=>SmS.at s λS h B rh rs f=>ZT.nx f rh rs
 |.brk,h=>Zbs (P:=λx=>PS X x _) h λp h=>Zpq.imp λD Z H s=>SmS.at s λS h B rh rs f=>f H B Gr.refl rh Z rs
 |.cnt,h=>Zbs (P:=λx=>PS X x _) h λp h=>ZjW.imp λD Z H s=>SmS.at s λS h B rh rs f=>f H B Gr.refl rh Z rs
 |.any,h=>λaa s Z H D I s=>SmS.at s λS h B rh rs f=>f.elim
 |.rai C e,h=>Zbs (P:=λx=>PS X x _) h λp h=>ZuB (P:=λc=>PS X (.Raise _ c _) _) h λh=>Zi0 (P:=λo=>PS X (.Raise o _ _) _) h λx h=>by
  unfold Ztp at h;exact Zce (P:=λx=>PS X (.Raise (J x) _ _) _) h λnp ys q h=>Zaw (P:=λys=>PS X (.Raise (J (.Call _ ys _ _)) _ _) _) h λy h=>by obtain⟨ca,m,xo⟩:=G.xcs _ (of_decide_eq_true (bL h));have st:=Zw (xs:=[]) X.env (bL (bR (bR h)));exact(Zpp G.rz G.calm PySem.F.excBase_ValueError (G.gl (bL (bR h))).1 m xo.own (ZaC (Zk e G.toGd (bR (bR (bR h)))) Zcy st) (G.gl (bL (bR h))).2 st rfl).imp λD Z H s=>SmS.bind s λS d R v H1 μ1 ac ai rd f1=>⟨by show 1<=sizeLine;decide,f1 H1 μ1 ca Gr.refl ac (by rw[G.gk.mg];exact m)⟩
 |.trs i f es C,h=>ff h
 |.trw i n f es C W w,h=>Zbs (P:=λx=>PS X x _) h λp h=>Zin (P:=λys=>PS X (.Try p.xs p.hs ys p.zs p.p) _) h λh=>Zin (P:=λzs=>PS X (.Try p.xs p.hs [] zs p.p) _) h λh=>ZvM (P:=λhs=>PS X (.Try p.xs hs [] [] p.p) _) (bL h) λnp m y' kZ q z j kp ip mp wp nk lp tw dX=>
  ZsZ (P:=λxs=>PS X (.Try xs _ [] [] p.p) _) (bR h) λn px xe ap hn dM h5=>Zce (P:=λx=>PS X (.Try [.Assign [.Name n px] x ap] _ [] [] p.p) _) h5 λfp ys cp h5=>ZqA (P:=λys=>PS X (.Try [.Assign [.Name n px] (.Call (.Name f fp) ys [] cp) ap] _ [] [] p.p) _) (bL (bR (bR h5))) (bR (bR (bR h5))) λy ys h4=>ZtE G (of_decide_eq_true (bL h5)) (bL (bR h5)) tw hn dX dM h4 (evs_ok es G.toGd.nox h4)
 |.seta Cs o f e,h=>Zne (P:=λx=>PS X x _) h λtg xe pos h=>ZsT (P:=λt=>PS X (.Assign [t] _ _) _) h λxo q h=>(Zuc (Zk o G.toGd (bL h)) (Zk e G.toGd (bL (bR h))) (Ze9 (bL (bR (bR h))))).imp λD Z H s=>SmS.bind s λS d R v H1 μ1 ac ai rd f1=>⟨S,R,μ1,ac,ai,ZT.bind f1 λd2 h2 v2 H2 μ2 _ g2 ak fD f2=>ZoZ (Q:=λ_ H'=>D.nx Z H') G.toGd (bL (bR (bR (bR h)))) (of_decide_eq_true (bR (bR (bR (bR h))))) ak fD (rd.mono ac g2) (ZT.bind f2 λ_ h3 _ H3 μ3 _ g3 aJ _ f3=>f3.nx aJ ((ai.mono ac g2).mono ak g3))⟩
 |.auga Cs o f e,h=>Zbs (P:=λx=>PS X x _) h λp h=>dS (P:=λo=>PS X (.AugAssign _ o _ _) _) (bL h) <| ZsT (P:=λt=>PS X (.AugAssign t _ _ _) _) (bR h) λxo q h=>(ZnE (Zk o G.toGd (bL h)) (Zk e G.toGd (bL (bR h))) Zu3).imp λD Z H s=>SmS.bind s λS d R x H1 μ1 ac ai rd f1=>Zvs G.toGd (bL (bR (bR h))) (of_decide_eq_true (bR (bR (bR h)))) ac ai rd f1
 |.unl i j e,h=>ff h
theorem sts_ok(s:Sxs){Γ:Gm}{X:Cx}{E:XK}{k:Nat}{x:List Stmt}(G:GdS T Γ X Y E k)(h:chkSs Γ s x=Wx):PSs X x (Zmd T Y E s):=match s,x,h with
 |.nil,[],h=>Zrr.imp λD Z H s=>SmS.at s λS h B rh rs f=>ZT.nx f rh rs
 |.nil,_::_,h=>ff h
 |.cons s r,[],h=>ff h
 |.cons s r,x::xs,h=>(Zpm (Zv1 s G (bL h)) (sts_ok r G (bR h))).imp λD Z H s=>SmS.at s λS h B rh rs f=>⟨S,h,B,rh,rs,ZT.part f λp R H1 μ1 _ g1 ac f1=>by
     obtain⟨fl,ρ1⟩:=p;cases fl with
     |nx=>exact λσ' bH=>⟨ρ1,R,μ1,ac,bH,f1⟩
     |bk=>exact λσ' bH=>f1 H1 μ1 Gr.refl ac σ' bH
     |ct=>exact λσ' bH=>f1 H1 μ1 Gr.refl ac σ' bH
     |rt d=>exact λv rv=>f1 H1 μ1 Gr.refl ac v rv⟩
end
set_option tactic.hygienic false
structure BodyOk(K:Yk)(kl:Kl)(fs:List Str)(x q:Str)(fd:Fd)(st:Stmt)(f:Yi)(am:FuncData):Prop where
 fn:Fun K x q st f am
 sc:FnScope fd.N fd.ps (Z0 st)
 hb:∀(kV aL pm:Yj) (an:Option Yi) (aF ct:Yj) (us:List Yj),us.length=fd.ps.length->bindArgs (PySem.W.fnOf x q (Zev st) (Zcq st) (Z0 st) .none kV aL pm an aF ct) ⟨us,[]⟩=pure (fd.ps.zip us)
 ck:chkSs ⟨fd.N,Z0 st,fs,Wx,kl⟩ fd.body (Zcq st)=Wx
structure DefOk(K:Yk)(mg:Str->Option Yj)(kl:Kl)(fs:List Str)(x:Str)(fd:Fd)(st:Stmt)(f:Yi)(am:FuncData):Prop where
 bd:BodyOk K kl fs x x fd st f am
 mg:mg x=J (.ref f)
structure Md(Pr:Yh)(w:Yg)(K:Yk)(mg:Str->Option Yj)(P:Pg)(kl:Kl):Prop where
 bare:ZcS K=Wx
 gd:∀x kvs,P.GD x=J kvs->∃a aj,mg x=J (.ref a)/\DkK Pr w K a aj/\∀H B,RKs ⟨K,mg⟩ H B kvs aj
 g:∀x d,P.G x=J d->∃v u,mg x=J u/\RelV v u/\∀H B,RD ⟨K,mg⟩ H B d v
 blt:∀x∈Zm5,mg x=M
 defs:∀x fd,P.tb.lookup x=J fd->∃st f am,DefOk K mg kl (P.tb.map (·.1)) x fd st f am
 cls:∀C∈kl.cs,∃a,mg C=J (.ref a)/\Cls K a/\∀f∈kl.ats,Zbt K a f
 mts:∀p∈kl.ms,∃a f am fd st q,mg p.1=J (.ref a)/\Cls K a/\Meth K a p.2 f/\P.look (mnm p.1 p.2)=J fd/\BodyOk K kl (P.tb.map (·.1)) p.2 q fd st f am
 mks:∀C∈kl.is,∃a f am fd st q,mg C=J (.ref a)/\Mk K a f/\P.look (mnm C (O "__init__"))=J fd/\BodyOk K kl (P.tb.map (·.1)) (O "__init__") q fd st f am
 xcs:∀C∈kl.xs,∃a,mg C=J (.ref a)/\XOk K a
 xas:∀p∈kl.xa,∃a b,mg p.1=J (.ref a)/\mg p.2=J (.ref b)/\XAs K a b
def ZoS(r:RDs Y H B ds vs):RS Y H B (ZE N ds) (L2.start N vs):=by
 refine⟨by simp[ZE,L2.start,r.length],λi d e=>?_⟩;unfold ZE at e;unfold L2.start;by_cases hi:i<ds.length
 . rw[Oe (by simpa using hi),O2]at e;rw[Oe (by simpa[<-r.length]using hi),O2];obtain⟨d',e1,e2⟩:=Oo.mp e;cases e2;obtain⟨v,R,h2⟩:=r.get e1;exact⟨v,by rw[R];rfl,h2⟩
 . rw[Om (by simpa using hi)]at e;have:=O1 e;rw[List.mem_replicate]at this;cases this.2
def Zrg(f:Fin Y (RD Y) H B (Ze r) Q E):ZT Y H B r {nx:=λ_ H'=>Q .non H',rt:=Q} E:=by
 cases r with
 |bad=>exact f.elim
 |exc c h=>exact f
 |ok p h=>
  obtain⟨fl,S⟩:=p;cases fl with
  |nx=>exact λH' μ' g rh σ' _=>f .non H' μ' g rh .non
  |bk=>exact f.elim
  |ct=>exact f.elim
  |rt d=>exact λH' μ' g rh v rv=>f v H' μ' g rh rv
section
variable {Pr:Yh}{w:Yg}{K:Yk}{mg:Str->Option Yj}{base:YG}{P:Pg}{kl:Kl}
def Zi3(h:P.tb.lookup x=J fd):P.look x=J fd:=by unfold Pg.look;rw[h]
def ZoU(hl:P.look x=J fd)(h:ZfK (P.tbl n) ⟨K,mg⟩ x vs H Q E):vs.length=fd.ps.length:=by
 obtain⟨ds,h,B,rh,rs,f⟩:=h;cases n with
 |zero=>exact f.elim
 |succ n=>have f:Fin ⟨K,mg⟩ (RD ⟨K,mg⟩) H B (run P (n+1) x ds h) Q E:=f;rw[run,hl]at f;obtain⟨hz,_⟩:=f.iff;rw[<-rs.length];exact hz
structure Lev(Pr:Yh)(w:Yg)(K:Yk)(mg:Str->Option Yj)(base:YG)(P:Pg)(kl:Kl)(n:Nat):Prop where
 defs:∀y∈P.tb.map (·.1),∃ps,Def Pr w K mg base (2*n+61) y ps (ZfK (P.tbl n) ⟨K,mg⟩ y)
 mts:∀p∈kl.ms,∃a f fd ps,mg p.1=J (.ref a)/\Cls K a/\Meth K a p.2 f/\FnOk Pr w K mg base (CXF Pr w) (2*n+61) f fd ps (ZfK (P.tbl n) ⟨K,mg⟩ (mnm p.1 p.2))/\Binds K fd ps []
 mks:∀C∈kl.is,∃a f fd ps,mg C=J (.ref a)/\Mk K a f/\FnOk Pr w K mg base (CXF Pr w) (2*n+61) f fd ps (ZfK (P.tbl n) ⟨K,mg⟩ (mnm C (O "__init__")))/\Binds K fd ps []
def Zjf(qd:Md Pr w K mg P kl){x nm q:Str}{fd:Fd}{st:Stmt}{f:Yi}{am:FuncData}(hl:P.look x=J fd)(o:BodyOk K kl (P.tb.map (·.1)) nm q fd st f am):
 ∀n,Lev Pr w K mg base P kl n->FnOk Pr w K mg base (CXF Pr w) (2*(n+1)+61) f am fd.ps (ZfK (P.tbl (n+1)) ⟨K,mg⟩ x):=by
 intro n ih;obtain⟨oc,od,kV,aL,pm,an,aF,ct,bV,rfl,lk,cE⟩:=o.fn.ex;have S_:=o.sc;rw[show 2*(n+1)+61=(2*n+61+1)+1 by lia];refine Zw7 lk cE S_ (λvs H Q E h=>ZoU hl h) λA outer s H vs Q E hr bJ=>?_;refine ZsE (t:=Zmd (P.tbl n) ⟨K,mg⟩ E fd.body) (sts_ok fd.body (k:=2*n+61) (Γ:=⟨fd.N,Z0 st,P.tb.map (·.1),Wx,kl⟩) ⟨⟨⟨rfl,rfl,qd.gd,qd.g,qd.bare⟩,rfl,λ_=>rfl,λy hy=>?_,λy hy=>hy,S_.nd,rfl,hr.mono (by lia),by lia,ZrI λ_ _ z=>z,ih.defs,qd.blt,hr,λ_ _ _ _ _ _ _ _ _ i3 j3 k3=>ZnL i3 j3 k3 λ_ _ z=>z,qd.cls,ih.mts,ih.mks⟩,rfl,λ_=>rfl,PassesOwn.leaving,?_,Zo3,rfl,rfl,qd.xcs,qd.xas⟩ o.ck) ?_
 . unfold Zq1 at hy;rw[Wu,Wu]at hy;rcases hy with (hy|hy)|hy
   . exact .inl (of_decide_eq_true hy)
   . exact .inr (.inl (of_decide_eq_true hy))
   . exact .inr (.inr (of_decide_eq_true hy))
 . show(if (Z0 st).kind.isAnnotationScope then ScopeKind.function else(Z0 st).kind)=.function;rw[S_.kind];rfl
 . obtain⟨ds,h,B,rh,rs,f⟩:=bJ;have f:Fin ⟨K,mg⟩ (RD ⟨K,mg⟩) H B (run P (n+1) x ds h) Q E:=f;rw[run,hl]at f;obtain⟨hz,f⟩:=f.iff;exact⟨ZE fd.N ds,h,B,rh,ZoS rs,Zrg f⟩
def mem_lookup{α:Type}{l:List (Str×α)}{x:Str}(h:x∈l.map (·.1)):∃a,l.lookup x=J a:=by
 induction l with
 |nil=>simp at h
 |cons p r ih=>
  rw[OF];by_cases e:x=p.1
  . have:(x==p.1)=Wx:=by simpa using e
    rw[this];exact⟨_,rfl⟩
  . have:(x==p.1)=Wy:=by simpa using e
    rw[this];exact ih (by simpa[e]using h)
def Zi9{x:Str}{fd:Fd}{f:Yi}{am:FuncData}(hl:P.look x=J fd):FnOk Pr w K mg base (CXF Pr w) (2*0+61) f am fd.ps (ZfK (P.tbl 0) ⟨K,mg⟩ x):=⟨λvs H Q E h=>ZoU hl h,λA outer s H args us vs Q E _ _ _ _ h=>by obtain⟨ds,h,B,rh,rs,f⟩:=h;exact f.elim⟩
def ZqW(qd:Md Pr w K mg P kl):∀n,Lev Pr w K mg base P kl n:=by
 intro n;induction n with
 |zero=>
  refine⟨λy hy=>?_,λp hp=>?_,λC hC=>?_⟩
  . obtain⟨fd,hl⟩:=mem_lookup hy;obtain⟨st,f,am,o⟩:=qd.defs y fd hl;exact⟨fd.ps,f,am,o.mg,o.bd.fn.kp,o.bd.fn.binds o.bd.hb,Zi9 (Zi3 hl)⟩
  . obtain⟨a,f,am,fd,st,q,m,c,me,hl,o⟩:=qd.mts p hp;exact⟨a,f,am,fd.ps,m,c,me,Zi9 hl,o.fn.binds o.hb⟩
  . obtain⟨a,f,am,fd,st,q,m,me,hl,o⟩:=qd.mks C hC;exact⟨a,f,am,fd.ps,m,me,Zi9 hl,o.fn.binds o.hb⟩
 |succ n ih=>
  refine⟨λy hy=>?_,λp hp=>?_,λC hC=>?_⟩
  . obtain⟨fd,hl⟩:=mem_lookup hy;obtain⟨st,f,am,o⟩:=qd.defs y fd hl;exact⟨fd.ps,f,am,o.mg,o.bd.fn.kp,o.bd.fn.binds o.bd.hb,Zjf qd (Zi3 hl) o.bd n ih⟩
  . obtain⟨a,f,am,fd,st,q,m,c,me,hl,o⟩:=qd.mts p hp;exact⟨a,f,am,fd.ps,m,c,me,Zjf qd hl o n ih,o.fn.binds o.hb⟩
  . obtain⟨a,f,am,fd,st,q,m,me,hl,o⟩:=qd.mks C hC;exact⟨a,f,am,fd.ps,m,me,Zjf qd hl o n ih,o.fn.binds o.hb⟩
def ZuR(qd:Md Pr w K mg P kl){x:Str}{a:Str}{fd:Fd}{fa:Yi}(n:Nat)(hl:P.tb.lookup x=J fd)(fb:fd.ps=[a])(hm:mg x=J (.ref fa)):
 ∃am:FuncData,(∀(s:Yb) (v:Yj),BindsTo s am ⟨[v],[]⟩ [(a,v)])/\∀base:YG,FnOk Pr w K mg base (CXF Pr w) (2*(n+1)+61) fa am [a] (ZfK (P.tbl (n+1)) ⟨K,mg⟩ x):=by
 obtain⟨st,f,am,o⟩:=qd.defs x fd hl;have e:=hm.symm.trans o.mg;cases e;refine⟨am,λs v=>?_,λbase=>fb▸Zjf qd (Zi3 hl) o.bd n (ZqW qd n)⟩;obtain⟨oc,od,kV,aL,pm,an,aF,ct,bV,rfl,lk,cE⟩:=o.bd.fn.ex;have:=o.bd.hb kV aL pm an aF ct [v] (by rw[fb];rfl);rw[fb]at this;exact BindsTo.of_eq this
end
def ZvJ{α:Type}{us:List α}(h:us.length=0):us=[]:=List.length_eq_zero_iff.mp h
def Zng{α:Type}{us:List α}{n:Nat}(h:us.length=n+1):∃a r,us=a::r/\r.length=n:=by
 cases us with
 |nil=>cases h
 |cons a r=>exact⟨a,r,rfl,Nat.succ.inj h⟩
def ZvI{α:Type}{us:List α}(h:us.length=1):∃a0,us=[a0]:=by obtain⟨a0,r,rfl,h2⟩:=Zng h;exact⟨a0,by rw[ZvJ h2]⟩
def ZvH{α:Type}{us:List α}(h:us.length=2):∃a0 a1,us=[a0,a1]:=by obtain⟨a0,r,rfl,h2⟩:=Zng h;obtain⟨a1,rfl⟩:=ZvI h2;exact⟨a0,a1,rfl⟩
def ZvG{α:Type}{us:List α}(h:us.length=3):∃a0 a1 a2,us=[a0,a1,a2]:=by obtain⟨a0,r,rfl,h2⟩:=Zng h;obtain⟨a1,a2,rfl⟩:=ZvH h2;exact⟨a0,a1,a2,rfl⟩
def ZvF{α:Type}{us:List α}(h:us.length=4):∃a0 a1 a2 a3,us=[a0,a1,a2,a3]:=by obtain⟨a0,r,rfl,h2⟩:=Zng h;obtain⟨a1,a2,a3,rfl⟩:=ZvG h2;exact⟨a0,a1,a2,a3,rfl⟩
def ZvE{α:Type}{us:List α}(h:us.length=5):∃a0 a1 a2 a3 a4,us=[a0,a1,a2,a3,a4]:=by obtain⟨a0,r,rfl,h2⟩:=Zng h;obtain⟨a1,a2,a3,a4,rfl⟩:=ZvF h2;exact⟨a0,a1,a2,a3,a4,rfl⟩
def ZxC{α:Type}{us:List α}(h:us.length=6):∃a0 a1 a2 a3 a4 a5,us=[a0,a1,a2,a3,a4,a5]:=by obtain⟨a0,r,rfl,h2⟩:=Zng h;obtain⟨a1,a2,a3,a4,a5,rfl⟩:=ZvE h2;exact⟨a0,a1,a2,a3,a4,a5,rfl⟩
set_option tactic.hygienic true
def All(p:α->Prop):List α->Prop
 |[]=>True
 |a::l=>p a/\All p l
theorem All.mem:∀{l:List α},All p l->∀a∈l,p a
 |[],_,a,h=>by simp at h
 |b::l,⟨R,h2⟩,a,h=>by
  rcases O3.mp h with rfl|h
  . exact R
  . exact All.mem h2 a h
def lookup_mem{α:Type}{l:List (Str×α)}{a:α}(h:l.lookup x=J a):(x,a)∈l:=by
 induction l with
 |nil=>cases h
 |cons p r ih=>
  rw[OF]at h;by_cases e:x=p.1
  . have:(x==p.1)=Wx:=by simpa using e
    rw[this]at h;cases h;subst e;exact Oi
  . have:(x==p.1)=Wy:=by simpa using e
    rw[this]at h;exact Oh _ (ih h)
noncomputable def spL(K:Yk):Sp:=λvs H Q _=>∃(a:Yi) (ns:List Int),vs=[.ref a]/\SqL K H a (ns.map V.int)/\ns.length<=63/\ZsW H/\∀H',Q (.bl Wx) H'
theorem ZmL:∀ns:List Int,RDs Y H B (ns.map D.int) (ns.map V.int)
 |[]=>.nil
 |n::r=>.cons (.int n) (ZmL r)
def ZvD{l:PySem.W.OpenLaw}{q:Yh}{bc:List Str}{XP:(Str->Option Yj)->YG->Prop}{YP:Yg->YG->Prop}{d:DefRec}{K:Params->Yk}{P:Pg}{kl:Kl}{fd:Fd}(n:Nat)(hn:l.most=J 63)(f7:d.params.defaults=[])(hd:d.name=O "law")(hr:Room (2*(n+1)+61) callerA)
 (hY:∀(w:Yg) (h:YG),YP w h->(K w.params).In h) (hl:P.tb.lookup (O "law")=J fd) (fb:fd.ps=[O "_law_script"])
 (i7:∀ns:List Int,ns.length<=63->∃h',run P (n+1) (O "law") [.ro (ns.map .int)] []=.ok (.bl Wx) h')
 (qd:∀(w:Yg) (mg:Str->Option Yj) (h:YG),(K w.params).In h->h.Ns Yd mg->Md l.prog w (K w.params) mg P kl) :
 PySem.W.WalkO q bc XP YP l.row.toRowW d [] (λf vs=>PySem.call f vs):=by
 refine L2.Zq0 (n:=63) (k:=2*(n+1)+61) (x := "_law_script") (CX:=λw=>CXF l.prog w) (sp:=λw=>spL (K w.params)) hn (by decide) f7 hr hY (λw mg fa h KX G fg=>?_) (λ_ _ a ns hl hO hS=>⟨a,ns,rfl,hS,hl,hO,λ_=>rfl⟩) λ_ _ _ _ _ z=>by obtain⟨_,_,_,_,_,_,_,_,_,_,_,_,_,z⟩:=z;exact z
 rw[hd]at fg;obtain⟨am,hb,F⟩:=ZuR (qd w mg h KX G) n hl fb fg;refine⟨am,hb,λbase _ _=>(F base).imp λvs H Q E bJ=>?_⟩;obtain⟨a,ns,rfl,hS,hz,hO,hq⟩:=bJ;obtain⟨h',e⟩:=i7 ns hz;refine⟨[.ro (ns.map .int)],[],[],⟨rfl,.nil,λi o a e=>by simp at e,λi o e=>by simp at e⟩,.cons (.ro ?_ (ZmL ns)) .nil,?_⟩
 . rcases hS with hS|hS
   . rcases hS with hS|hS
     . rcases hO a with z|⟨o,xs,z⟩<;>(rw[z]at hS;cases hS)
     . exact .inl hS
   . exact .inr hS
 . show Fin _ _ H [] (run P (n+1) (O "law") [.ro (ns.map .int)] []) Q E;rw[e];exact λb H' μ' _ _ r=>by cases r;exact hq H'
def Zma{K:Yk}(h:K.lookup a=J ⟨.type "tuple",od,.seq its n,sl⟩)(hz:its.size<=sizeLine)(r:Zs vs its.toList):SqT K H a vs:=
 .inr ⟨_,its,n,h,rfl,rfl,hz,r⟩
end IV
namespace IV
open PySem L2 PyProof.Rows
section
structure Chk(kl:Kl)(fs:List Str)(x q:Str)(fd:Fd)(st:Stmt):Prop where
 sc:FnScope fd.N fd.ps (Z0 st)
 hb:∀(kV aL pm:Yj) (an:Option Yi) (aF ct:Yj) (us:List Yj),us.length=fd.ps.length->bindArgs (PySem.W.fnOf x q (Zev st) (Zcq st) (Z0 st) .none kV aL pm an aF ct) ⟨us,[]⟩=pure (fd.ps.zip us)
 ck:chkSs ⟨fd.N,Z0 st,fs,Wx,kl⟩ fd.body (Zcq st)=Wx
variable {K:Yk}{h:YG}{mg:Str->Option Yj}{kl:Kl}{fs:List Str}{x q C:Str}{fd:Fd}{st:Stmt}{ca:Yi}{P:Pg}
def Chk.bd(c:Chk kl fs x q fd st)(F:Fun K x q st f am):BodyOk K kl fs x q fd st f am:=⟨F,c.sc,c.hb,c.ck⟩
def Zvw(K:Yk)(x:Str)(st:Stmt):Prop:=∃f am,Yl K Yd x=J (J (.ref f))/\Fun K x x st f am
def ZhO(K:Yk)(ca:Yi)(x q:Str)(st:Stmt):Prop:=∃f am,YJ K (.ref ca) x=J (J (.ref f))/\PySem.W.isFn K (.ref f)=Wx/\Wg K (.ref f)=Wx/\Fun K x q st f am
def Zsx(X:K.In h)(G:h.Ns Yd mg)(d:Zvw K x st)(c:Chk kl fs x x fd st):∃st f am,DefOk K mg kl fs x fd st f am:=by obtain⟨f,am,a,F⟩:=d;exact⟨st,f,am,c.bd F,YO X G a⟩
def Zr3(X:K.In h)(G:h.Ns Yd mg)(y:Yl K Yd C=J (J (.ref ca)))(cl:Cls K ca)(d:ZhO K ca x q st)(c:Chk kl (P.tb.map (·.1)) x q fd st)(e:P.look (mnm C x)=J fd):∃a f am fd st q,mg C=J (.ref a)/\Cls K a/\Meth K a x f/\P.look (mnm C x)=J fd/\BodyOk K kl (P.tb.map (·.1)) x q fd st f am:=by obtain⟨f,am,u1,u2,u3,F⟩:=d;exact⟨ca,f,am,fd,st,q,YO X G y,cl,⟨u1,u2,u3⟩,e,c.bd F⟩
def Zi2(X:K.In h)(G:h.Ns Yd mg)(y:Yl K Yd C=J (J (.ref ca)))(m:PySem.W.makesIn K ca=Wx)(k:Wg K (.ref ca)=Wx)(d:ZhO K ca (O "__init__") q st)(c:Chk kl (P.tb.map (·.1)) (O "__init__") q fd st)(e:P.look (mnm C (O "__init__"))=J fd):∃a f am fd st q,mg C=J (.ref a)/\Mk K a f/\P.look (mnm C (O "__init__"))=J fd/\BodyOk K kl (P.tb.map (·.1)) (O "__init__") q fd st f am:=by obtain⟨f,am,u1,u2,u3,F⟩:=d;exact⟨ca,f,am,fd,st,q,YO X G y,⟨m,u1,u2,k⟩,e,c.bd F⟩
end
section
noncomputable abbrev Ml:=Str×Str×Fd×Nat×Nat
variable {K:Yk}{h:YG}{mg:Str->Option Yj}{kl:Kl}{fs:List Str}{C:Str}{ca:Yi}{P:Pg}
theorem All.app{α:Type}{p:α->Prop}{b:List α}:∀{a:List α},All p a->All p b->All p (a++b)
 |[],_,hb=>hb
 |_::_,ha,hb=>⟨ha.1,ha.2.app hb⟩
theorem ZmV(X:K.In h)(G:h.Ns Yd mg){top:Nat->Stmt}:∀{l:List (Str×Fd×Nat)},All (λp=>Zvw K p.1 (top p.2.2)) l->All (λp=>Chk kl fs p.1 p.1 p.2.1 (top p.2.2)) l->All (λp:Str×Fd=>∃st f am,DefOk K mg kl fs p.1 p.2 st f am) (l.map λp=>(p.1,p.2.1))
 |[],_,_=>trivial
 |_::_,d,c=>⟨Zsx X G d.1 c.1,ZmV X G d.2 c.2⟩
theorem Zfj(X:K.In h)(G:h.Ns Yd mg)(y:Yl K Yd C=J (J (.ref ca)))(cl:Cls K ca){mt:Nat->Nat->Stmt}:∀{l:List Ml},All (λp=>ZhO K ca p.1 p.2.1 (mt p.2.2.2.1 p.2.2.2.2)) l->All (λp=>Chk kl (P.tb.map (·.1)) p.1 p.2.1 p.2.2.1 (mt p.2.2.2.1 p.2.2.2.2)) l->All (λp=>P.look (mnm C p.1)=J p.2.2.1) l->All (λp:Str×Str=>∃a f am fd st q,mg p.1=J (.ref a)/\Cls K a/\Meth K a p.2 f/\P.look (mnm p.1 p.2)=J fd/\BodyOk K kl (P.tb.map (·.1)) p.2 q fd st f am) (l.map λp=>(C,p.1))
 |[],_,_,_=>trivial
 |_::_,d,c,e=>⟨Zr3 X G y cl d.1 c.1 e.1,Zfj X G y cl d.2 c.2 e.2⟩
theorem Zj1(X:K.In h)(G:h.Ns Yd mg):∀{l:List Str},All (λx=>Yl K Yd x=J M) l->All (λx=>mg x=M) l
 |[],_=>trivial
 |_::_,d=>⟨PySem.W.mg_none_of X G d.1,Zj1 X G d.2⟩
end
end IV
namespace IV
open PySem L2
set_option tactic.hygienic false
def ZiZ(h:Str.ofString a=Str.ofString b):a=b:=by
 have e:∀s:String,(Str.ofString s).cps.toList=s.toList.map Char.toNat:=λs=>by show(cpsOfBytes 0 0 s.toByteArray.data.toList).toArray.toList=_;rw[cpsOfBytes_string]
 have R:=congrArg (λs:Str=>s.cps.toList) h;simp only[e]at R;have h2:a.toList=b.toList:=by
  have inj:∀{x y:Char},x.toNat=y.toNat->x=y:=λ{x y} q=>by have:x.val=y.val:=UInt32.toNat_inj.mp q;exact Char.ext this
  exact(List.map_inj_right λx y q=>inj q).mp R
 exact String.toList_inj.mp h2
@[simp]def ofString_eq(a b:String):(Str.ofString a=Str.ofString b)↔a=b:=⟨ZiZ,λh=>h▸rfl⟩
@[simp]def ZrZ(a b:String):(Str.ofString a==Str.ofString b)=(a==b):=by rw[Bool.eq_iff_iff];simp
def Un(k:γ):Type:=Unit
noncomputable def un:Un k:=()
def qe.bnd(r:qe α)(k:α->Hd->qe β)(u:Un k:=un):qe β:=r.bind k
@[simp]def Zl:qe.bnd (.ok a h) k u=k a h:=rfl
@[simp]def ZxA:qe.bnd (qe.bad:qe α) k u=.bad:=rfl
section
variable {T:Tb}{S:Ev}{h:Hd}
@[simp]def bind_ok:(qe.ok a h).bind k=k a h:=rfl
@[simp]def bind_bad:(qe.bad:qe α).bind k=.bad:=rfl
@[simp]def ofO_some:qe.ofO (J a) h=.ok a h:=rfl
@[simp]def ZnH:(qe.ok a h).plain=.ok a h:=rfl
@[simp]def Zjc{i}:ev T (.var i) S h=qe.ofO (S[i]?).join h:=rfl
@[simp]def Zve{d}:ev T (.cst d) S h=.ok d h:=rfl
@[simp]def Zhw{x}:ev T (.glo x) S h=qe.ofO (T.G x) h:=rfl
@[simp]def Zqq{op a b}:ev T (.bin op a b) S h=(ev T a S h).bnd λx R=>(ev T b S R).bnd λy h2=>opB op x y h2:=rfl
@[simp]def Zvf{op a b}:ev T (.cmp op a b) S h=(ev T a S h).bnd λx R=>(ev T b S R).bnd λy h2=>opC T.GD op x y h2:=rfl
@[simp] theorem Zyj{a}:ev T (.neg a) S h=(ev T a S h).bnd λx R=>match x with
 |.int i=>.ok (.int (-i)) R
 |_=>.bad:=rfl
@[simp] theorem ZyB{a}:ev T (.nt a) S h=(ev T a S h).bnd λx R=>match x with
 |.bl b=>.ok (.bl (!b)) R
 |_=>.bad:=rfl
@[simp]def Zje{es}:ev T (.ands es) S h=evAnd T es S h:=rfl
@[simp]def Zyi{es}:ev T (.ors es) S h=evOr T es S h:=rfl
@[simp]def ZvA{e}:evAnd T (.cons e .nil) S h=ev T e S h:=rfl
@[simp] theorem Zet{e e' r}:evAnd T (.cons e (.cons e' r)) S h=(ev T e S h).bnd λx R=>match x with
 |.bl Wx=>evAnd T (.cons e' r) S R
 |.bl Wy=>.ok (.bl Wy) R
 |_=>.bad:=rfl
@[simp]def Zxd{e}:evOr T (.cons e .nil) S h=ev T e S h:=rfl
@[simp] theorem Zxc{e e' r}:evOr T (.cons e (.cons e' r)) S h=(ev T e S h).bnd λx R=>match x with
 |.bl Wx=>.ok (.bl Wx) R
 |.bl Wy=>evOr T (.cons e' r) S R
 |_=>.bad:=rfl
@[simp]def Zqp{c a b}:ev T (.ite c a b) S h=(tst T c S h).bnd λc R=>if c then ev T a S R else ev T b S R:=rfl
@[simp]def Zst{es}:ev T (.tupl es) S h=(evs T es S h).bnd λxs R=>if xs.length<=sizeLine then .ok (.tup xs) R else .bad:=rfl
@[simp]def ZmT{es}:ev T (.lstl es) S h=(evs T es S h).bnd λxs R=>if xs.length<=sizeLine then Zda (.lst xs) R else .bad:=rfl
@[simp]def ZmU{a i}:ev T (.ix a i) S h=(ev T a S h).bnd λx R=>(ev T i S R).bnd λy h2=>ZbD T.GD x y h2:=rfl
@[simp]def ZmR{a lo hi}:ev T (.sl a lo hi) S h=(ev T a S h).bnd λx R=>(evo T lo S R).bnd λl h2=>(evo T hi S h2).bnd λu h3=>Zgw x l u h3:=rfl
@[simp]def Zvh{f es}:ev T (.blt f es) S h=(evs T es S h).bnd λxs R=>ZbO T.GD f xs R:=rfl
@[simp]def Zjd{f es}:ev T (.call f es) S h=(evs T es S h).bnd λxs R=>T.C f xs R:=rfl
@[simp]def ZmS{m o es}:ev T (.meth m o es) S h=(ev T o S h).bnd λx R=>if Zhb x R then(evs T es S R).bnd λxs h2=>Zcm m x xs h2 else .bad:=rfl
@[simp]def Zsv{NC js it g c e}:ev T (.comp NC js it g c e) S h=(evi T it S h).bnd λw R=>(ZV w.src g (tsto T c) (ev T e) w.xs (Zc2 js S) [] R).bnd λxs h2=>Zda (.lst xs) h2:=rfl
@[simp]def Zxz{e d}:ev T (.maxd e d) S h=(ev T e S h).bnd λx R=>(ev T d S R).bnd λy h2=>Znc x y h2:=rfl
@[simp] theorem Zxb{ps}:ev T (.dictl ps) S h=(evs T ps S h).bnd λxs R=>match ZdN xs with
 |some kvs=>if kvs.length<=15 then Zda (.dic (ZeR [] kvs)) R else .bad
 |none=>.bad:=rfl
@[simp]def Zqr{Cs o f}:ev T (.att Cs o f) S h=(ev T o S h).bnd λx R=>ZfX Cs f x R:=rfl
@[simp]def Ztj{C es}:ev T (.mk C es) S h=(evs T es S h).bnd λxs R=>Zgx T.C C xs R:=rfl
@[simp] theorem Zvd{C m o es}:ev T (.mcl C m o es) S h=(ev T o S h).bnd λx R=>match Zai x R with
 |some (C',fs)=>if C'=C/\fs.lookup m=M then(evs T es S R).bnd λxs h2=>T.C (mnm C m) (x::xs) h2 else .bad
 |none=>.bad:=rfl
@[simp]def Zsu{e}:ev T (.trev e) S h=(ev T e S h).bnd λx R=>ZqQ x R:=rfl
@[simp]def Zvb{o e}:ev T (.tix o e) S h=(ev T o S h).bnd λx R=>if ZwY x then(ev T e S R).bnd λy h2=>Zol x y h2 else .bad:=rfl
@[simp]def Zoq{Cs o f e}:xs1 T (.seta Cs o f e) S h=(ev T e S h).bnd λd R=>(ev T o S R).bnd λx h2=>(ZfL Cs f x d h2).bnd λ_ h3=>.ok (.nx,S) h3:=rfl
@[simp] theorem Zos{Cs o f e}:xs1 T (.auga Cs o f e) S h=(ev T o S h).bnd λx R=>(ZfX Cs f x R).bnd λv h2=>(ev T e S h2).bnd λy h3=>match v,y with
 |.int a,.int b=>if (Zai x R).map (·.1)=(Zai x h3).map (·.1)then(ZfL Cs f x (.int (a+b)) h3).bnd λ_ h4=>.ok (.nx,S) h4 else .bad
 |_,_=>.bad:=rfl
@[simp]def ZH:evs T .nil S h=.ok [] h:=rfl
@[simp]def Zfv{e es}:evs T (.cons e es) S h=(ev T e S h).bnd λx R=>(evs T es S R).bnd λxs h2=>.ok (x::xs) h2:=rfl
@[simp]def Zxa:evo T M S h=.ok M h:=rfl
@[simp] theorem Zqn{e}:evo T (J e) S h=(ev T e S h).bnd λx R=>match x with
 |.int i=>.ok (J i) R
 |_=>.bad:=rfl
@[simp]def ZoI{e}:tst T (.ex e) S h=(ev T e S h).bnd λx R=>qe.ofO (ZfI T.GD x R) R:=rfl
@[simp]def ZjE{ts}:tst T (.ands ts) S h=tstAnd T ts S h:=rfl
@[simp]def ZiO{ts}:tst T (.ors ts) S h=tstOr T ts S h:=rfl
@[simp]def ZkY{a}:tst T (.nt a) S h=(tst T a S h).bnd λc R=>.ok (!c) R:=rfl
@[simp]def ZtC{t}:tstAnd T (.one t) S h=tst T t S h:=rfl
@[simp]def Zgc{t ts}:tstAnd T (.cons t ts) S h=(tst T t S h).bnd λc R=>if c then tstAnd T ts S R else .ok Wy R:=rfl
@[simp]def Zvz{t}:tstOr T (.one t) S h=tst T t S h:=rfl
@[simp]def Zc5{t ts}:tstOr T (.cons t ts) S h=(tst T t S h).bnd λc R=>if c then .ok Wx R else tstOr T ts S R:=rfl
@[simp]def Znk:tsto T M S h=.ok Wx h:=rfl
@[simp]def Zvy{t}:tsto T (J t) S h=tst T t S h:=rfl
@[simp]def Zqo{e}:evi T (.pl e) S h=(ev T e S h).bnd λx R=>qe.ofO (Zbg x R) R:=rfl
@[simp] theorem Zsq{e}:evi T (.rng e) S h=(ev T e S h).bnd λx R=>match x with
 |.int j=>if ZbW j then .ok ⟨M,ZP 0 j.toNat⟩ R else .bad
 |_=>.bad:=rfl
@[simp]def Zvc{a b}:ev T (.rpn a b) S h=(ev T a S h).bnd λx R=>(shD x R).bnd λp R=>(ev T b S R).bnd λy h2=>(shD y h2).bnd λq h3=>.ok (.bl (!Wz (p=q))) h3:=rfl
@[simp]def Zss{e}:evi T (.enu e) S h=(ev T e S h).bnd λx R=>qe.ofO ((Zh8 x R).map λw=>⟨w.src,ZdZ w.xs⟩) R:=rfl
@[simp]def Zsr{e}:evi T (.rev e) S h=(ev T e S h).bnd λx R=>qe.ofO ((Zoz x R).map λw=>⟨w.src,w.xs.reverse⟩) R:=rfl
@[simp]def ZiN{e}:xs1 T (.ret e) S h=(ev T e S h).bnd λx R=>.ok (.rt x,S) R:=rfl
@[simp]def ZlU{g e}:xs1 T (.set g e) S h=(ev T e S h).bnd λx R=>(qe.ofO (ZbV g x S) R).bnd λρ1 h2=>.ok (.nx,ρ1) h2:=rfl
@[simp]def ZlV{o i e}:xs1 T (.put o i e) S h=(ev T e S h).bnd λx R=>(ev T o S R).bnd λy h2=>(ev T i S h2).bnd λz h3=>(ZbT y z x h3).bnd λ_ h4=>.ok (.nx,S) h4:=rfl
@[simp]def ZlX{e}:xs1 T (.drp e) S h=(ev T e S h).bnd λ_ R=>.ok (.nx,S) R:=rfl
@[simp]def ZlW{c a b}:xs1 T (.iff c a b) S h=(tst T c S h).bnd λt R=>if t then xs2 T a S R else xs2 T b S R:=rfl
@[simp]def Zxw{c b}:xs1 T (.whl c b) S h=Zaj (tst T c) (xs2 T b) T.L S h:=rfl
@[simp]def Zor{g it b}:xs1 T (.forr g it b) S h=(evi T it S h).bnd λw R=>ZJ w.src g (xs2 T b) w.xs S R:=rfl
@[simp]def Zxv:xs2 T .nil S h=.ok (.nx,S) h:=rfl
@[simp] theorem ZgQ{s r}:xs2 T (.cons s r) S h=(xs1 T s S h).bnd λp R=>match p with
 |(.nx,ρ1)=>xs2 T r ρ1 R
 |p=>.ok p R:=rfl
def Za(e:xs1 T s S h=.ok (.nx,ρ1) R):xs2 T (.cons s r) S h=xs2 T r ρ1 R:=by rw[ZgQ,e];rfl
def Zd(e:xs1 T s S h=.ok (.rt d,ρ1) R):xs2 T (.cons s r) S h=.ok (.rt d,ρ1) R:=by rw[ZgQ,e];rfl
@[simp]def ZxB{i d}:ZbV (.nm i) d S=J (S.set i (J d)):=rfl
@[simp]def ZqK{i j a b}:ZbV (.two i j) (.tup [a,b]) S=J ((S.set i (J a)).set j (J b)):=rfl
@[simp]def ZxY:Ze (.ok (.rt d,S) h)=.ok d h:=rfl
@[simp]def ZxZ:Ze (.ok (.nx,S) h)=.ok .non h:=rfl
end
@[simp]def Znq:seqOf (.tup xs) h=J xs:=rfl
@[simp]def ZwD:ZiX f (.int i) (.int j) h=.ok (.bl (f i j)) h:=rfl
section
variable {GD:Str->Option (List (Key×D))}{h:Hd}
@[simp]def ZfR{x y}:opC GD .Eq x y h=Zc8 Wy x y h:=rfl
@[simp]def Zln{x y}:opC GD .NotEq x y h=Zc8 Wx x y h:=rfl
@[simp]def Zyb{i j}:opC GD .Lt (.int i) (.int j) h=.ok (.bl (Wz (i<j))) h:=rfl
@[simp]def Zuy{i j}:opC GD .LtE (.int i) (.int j) h=.ok (.bl (Wz (i<=j))) h:=rfl
@[simp]def Zuz{i j}:opC GD .Gt (.int i) (.int j) h=.ok (.bl (Wz (j<i))) h:=rfl
@[simp]def Zyc{i j}:opC GD .GtE (.int i) (.int j) h=.ok (.bl (Wz (j<=i))) h:=rfl
@[simp]def ZpJ{x}:opC GD .Is x .non h=.ok (.bl (Wz (x=.non))) h:=rfl
@[simp]def ZpI{x}:opC GD .IsNot x .non h=.ok (.bl (!Wz (x=.non))) h:=rfl
@[simp] theorem ZiY{s n}:opC GD .NotIn (.str s) (.kd n) h=match GD n with
 |some kvs=>.ok (.bl (!(ZbA kvs (.inr s)).isSome)) h
 |none=>.bad:=by
 show Zdq GD Wx (.str s) (.kd n) h=_;unfold Zdq;simp only[seqOf,lstOf,dicOf,keyOf];cases GD n<;>rfl
def ZkS(ss:List Str):(ss.map D.str).all D.flat=Wx:=by rw[OC];intro x hx;obtain⟨s,_,rfl⟩:=List.mem_map.mp hx;rfl
def any_words(ss:List Str)(x:Str):((ss.map D.str).any λz=>eqF z (.str x))=Wz (x∈ss):=by
 induction ss with
 |nil=>rfl
 |cons s r ih=>
  rw[Op,Wf,ih];show((s==x)||Wz (x∈r))=_;by_cases e:s=x
  . subst e;simp
  . have:(s==x)=Wy:=by simpa using e
    rw[this];have e':¬ x=s:=λq=>e q.symm;simp[e']
def ZbX{ss:List Str}{x:Str}:opC GD .In (.str x) (.tup (ss.map .str)) h=.ok (.bl (Wz (x∈ss))) h:=by show Zdq GD Wy (.str x) (.tup (ss.map .str)) h=_;unfold Zdq;rw[Znq];simp only[ZkS,any_words];rfl
@[simp]def Zfg{xs i}:ZbD GD (.tup xs) (.int i) h=qe.ofO (atI xs i) h:=rfl
@[simp]def Zxy{xs i}:ZbD GD (.ro xs) (.int i) h=qe.ofO (atI xs i) h:=rfl
@[simp] theorem ZrT{n s}:ZbD GD (.kd n) (.str s) h=match GD n with
 |some kvs=>qe.ofO (ZbA kvs (.inr s)) h
 |none=>.bad:=rfl
def ZZ{i k xs}(e:h[i]?=J (.lst xs)):ZbD GD (.ref i) (.int k) h=qe.ofO (atI xs k) h:=by unfold ZbD;simp only[seqOf,lstOf,e]
@[simp]def ZiK{α:Type}{x:α}{l:List α}:atI (x::l) 0=J x:=by simp[atI,ixN]
def Zbz{α:Type}{l:List α}{k:Nat}:atI l (k:Int)=l[k]? := by
 unfold atI ixN;by_cases hk:k<l.length
 . simp[hk]
 . simp[hk]
@[simp]def Zxq{α:Type}{x y:α}{l:List α}:atI (x::y::l) 1=J y:=Zbz (k:=1)
@[simp]def ZyD{α:Type}{x y z:α}{l:List α}:atI (x::y::z::l) 2=J z:=Zbz (k:=2)
@[simp]def ZyC{α:Type}{x y z w:α}{l:List α}:atI (x::y::z::w::l) 3=J w:=Zbz (k:=3)
def Zei{α:Type}{l:List α}{x:α}:atI (l++[x]) (-1)=J x:=by
 unfold atI ixN;rw[if_neg (by decide),if_pos (by simp;lia)];have:(-1+((l++[x]).length:Int)).toNat=l.length:=by simp;lia
 simp only[Yz,this];simp
@[simp]def ZwC{xs l u}:Zgw (.tup xs) l u h=.ok (.tup (cutD xs l u)) h:=rfl
@[simp]def Zn9{x:D}{l:List D}:cutD (x::l) (J 1) M=l:=by simp[cutD,HT.sIx]
@[simp]def Zxx{b}:ZfI GD (.bl b) h=J b:=rfl
@[simp]def ZvQ{i}:ZfI GD (.int i) h=J (i != 0):=rfl
@[simp]def ZvO{xs}:ZfI GD (.tup xs) h=J (!xs.isEmpty):=rfl
@[simp]def ZvP:ZfI GD .non h=J Wy:=rfl
@[simp]def ZgN{i j}:opB .Add (.int i) (.int j) h=.ok (.int (i+j)) h:=rfl
@[simp]def Zen{i j}:opB .Sub (.int i) (.int j) h=.ok (.int (i-j)) h:=rfl
def ZX(hj:0<j):opB .Mod (.int i) (.int j) h=.ok (.int (i%j)) h:=if_pos hj
def Zc9(hj:0<j/\j<1073741824):opB .FloorDiv (.int i) (.int j) h=.ok (.int (i/j)) h:=if_pos hj
def Zfh(hj:i.natAbs<2^2000/\j.natAbs<2^2000):opB .Mult (.int i) (.int j) h=.ok (.int (i*j)) h:=if_pos hj
def ZbY(hl:xs.length+ys.length<=sizeLine):opB .Add (.tup xs) (.tup ys) h=.ok (.tup (xs++ys)) h:=if_pos hl
@[simp]def ZdO:Zc8 n (.str x) (.str y) h=.ok (.bl (if n then !Wz (x=y)else Wz (x=y))) h:=by
 have e:YQ (.str x) (.str y)=Wz (x=y):=by show(x==y)=_;rw[Bool.beq_eq_decide_eq]
 have q:Zc8 n (.str x) (.str y) h=if min (PyData.str x).depth (PyData.str y).depth<=1100 then .ok (.bl (if n then !YQ (.str x) (.str y)else YQ (.str x) (.str y))) h else .bad:=rfl;rw[q,if_pos (by simp[PyData.depth]),e]
@[simp]def Zg5:Zc8 n (.int x) (.int y) h=.ok (.bl (if n then !Wz (x=y)else Wz (x=y))) h:=by
 have e:YQ (.int x) (.int y)=Wz (x=y):=by show(x==y)=_;rw[Bool.beq_eq_decide_eq]
 have q:Zc8 n (.int x) (.int y) h=if min (PyData.int x).depth (PyData.int y).depth<=1100 then .ok (.bl (if n then !YQ (.int x) (.int y)else YQ (.int x) (.int y))) h else .bad:=rfl;rw[q,if_pos (by simp[PyData.depth]),e]
end
def Zf(e:P.tb.lookup f=J fd)(hl:ds.length=fd.ps.length):run P (n+1) f ds h=Ze (xs2 ⟨P.G,P.GD,run P n,P.L⟩ fd.body (ZE fd.N ds) h):=by rw[run,show P.look f=J fd by unfold Pg.look;rw[e]];simp only;rw[if_pos hl]
def Zz(hn:P.tb.lookup f=M)(e:P.ms.lookup f=J fd)(hl:ds.length=fd.ps.length):run P (n+1) f ds h=Ze (xs2 ⟨P.G,P.GD,run P n,P.L⟩ fd.body (ZE fd.N ds) h):=by rw[run,show P.look f=J fd by unfold Pg.look;rw[hn];exact e];simp only;rw[if_pos hl]
section
variable {h:Hd}{x:DO}{r:List DO}
@[simp]def ZbK:(h++x::r)[h.length]?=J x:=by simp
@[simp]def ZjT:(h++x::r).set h.length o=h++o::r:=by simp
end
@[simp]def Zr1:Zda o h=.ok (.ref h.length) (h++[o]):=rfl
section
variable {h:Hd}
def ZaT(e:h[i]?=J (.lst ys))(hz:ys.length<sizeLine):Zcm .app (.ref i) [d] h=.ok .non (h.set i (.lst (ys++[d]))):=by simp only[Zcm,e,ZhT,ZuJ];rw[if_pos hz]
def ZcX(e:h[i]?=J (.lst (ys++[d]))):Zcm .pop (.ref i) [] h=.ok d (h.set i (.lst ys)):=by simp only[Zcm,e,ZhT,ZuI];simp
def Zip(e:h[i]?=J (.lst ys)):Zhb (.ref i) h=Wx:=by simp[Zhb,e]
def Zq5(e:h[i]?=J (.lst ys)):ZfI GD (.ref i) h=J (!ys.isEmpty):=by simp[ZfI,e]
@[simp]def Zw6:ZJ M g body [] S h=.ok (.nx,S) h:=rfl
def Zer:ZJ M g body (d::ds) S h=match ZbV g d S with
 |none=>.bad
 |some ρ1=>(body ρ1 h).bnd λp h2=>match p with
  |(.nx,ρ2)=>ZJ M g body ds ρ2 h2
  |(.ct,ρ2)=>ZJ M g body ds ρ2 h2
  |(.bk,ρ2)=>.ok (.nx,ρ2) h2
  |(.rt d,ρ2)=>.ok (.rt d,ρ2) h2:=rfl
def Z4:ZV src g test aE (d::ds) S ag h=if Wk.stays src h/\ag.length<sizeLine then match ZbV g d S with
 |none=>.bad
 |some ρ1=>(test ρ1 h).bnd λb R=>if b then(aE ρ1 R).bnd λx h2=>ZV src g test aE ds S (ag++[x]) h2 else ZV src g test aE ds S ag R
 else .bad:=rfl
def ZdK:Zaj test body (n+1) S h=(test S h).bnd λb R=>if b then(body S R).bnd λp h2=>match p with
 |(.nx,ρ2)=>Zaj test body n ρ2 h2
 |(.ct,ρ2)=>Zaj test body n ρ2 h2
 |(.bk,ρ2)=>.ok (.nx,ρ2) h2
 |(.rt d,ρ2)=>.ok (.rt d,ρ2) h2
 else .ok (.nx,S) R:=rfl
end
inductive Wd where
 |add|sub|mul|lt
 deriving DecidableEq
noncomputable def Wd.s:Wd->Str
 |.add=>O "+"
 |.sub=>O "-"
 |.mul=>O "*"
 |.lt=>O "<"
inductive T where
 |num (n:Int)|name (x:Str)|fn (x:Str) (e:T)|rcc (f x:Str) (e:T)|call (f a:T)|iff (c t e:T)|op (w:Wd) (a b:T)
noncomputable def T.d:T->D
 |.num n=>.tup [.str (O "num"),.int n]
 |.name x=>.tup [.str (O "name"),.str x]
 |.fn x e=>.tup [.str (O "fn"),.str x,e.d]
 |.rcc f x e=>.tup [.str (O "rec"),.str f,.str x,e.d]
 |.call f a=>.tup [.str (O "call"),f.d,a.d]
 |.iff c t e=>.tup [.str (O "if"),c.d,t.d,e.d]
 |.op w a b=>.tup [.str w.s,a.d,b.d]
noncomputable def T.parts:T->List T
 |.num _|.name _=>[]
 |.fn _ e|.rcc _ _ e=>[e]
 |.call f a=>[f,a]
 |.iff c t e=>[c,t,e]
 |.op _ a b=>[a,b]
noncomputable def T.places:T->List T
 |.num n=>[.num n]
 |.name x=>[.name x]
 |.fn x e=>.fn x e::e.places
 |.rcc f x e=>.rcc f x e::e.places
 |.call f a=>.call f a::(f.places++a.places)
 |.iff c t e=>.iff c t e::(c.places++(t.places++e.places))
 |.op w a b=>.op w a b::(a.places++b.places)
noncomputable def T.size(t:T):Nat:=t.places.length
def T.places_parts(t:T):t.places=t::t.parts.flatMap T.places:=by cases t<;>simp[T.places,T.parts]
set_option tactic.hygienic true
section
variable {U:Tb}{S:Ev}{h R:Hd}{f:Str}{as:List D}{r:qe D}
noncomputable abbrev Tb.say(U:Tb)(r:qe D):Tb:=⟨U.G,U.GD,λ_ _ _=>r,U.L⟩
def Za0(e:U.C f as R=r)(q:xs1 U s S h=xs1 (U.say (U.C f as R)) s S h)(z:xs1 (U.say r) s S h=y):xs1 U s S h=y:=by rw[q,e,z]
def ZfA(e:U.C f as R=r)(q:tst U s S h=tst (U.say (U.C f as R)) s S h)(z:tst (U.say r) s S h=y):tst U s S h=y:=by rw[q,e,z]
def Zj(e:tst U c S h=.ok Wx R):xs1 U (.iff c a b) S h=xs2 U a S R:=by rw[ZlW,e];rfl
def Zg(e:tst U c S h=.ok Wy R):xs1 U (.iff c a b) S h=xs2 U b S R:=by rw[ZlW,e];rfl
def Zu(q:ev U e S h=.ok d R):xs1 U (.ret e) S h=.ok (.rt d,S) R:=by rw[ZiN,q];rfl
def Zn(q:ev U e S h=.ok d R):xs1 U (.set (.nm i) e) S h=.ok (.nx,S.set i (J d)) R:=by rw[ZlU,q];rfl
def ZfY(q:evi U it S h=.ok w R):xs1 U (.forr g it b) S h=ZJ w.src g (xs2 U b) w.xs S R:=by rw[Zor,q];rfl
def Zh(p:ev U a S h=.ok x R)(q:ev U b S R=.ok y h2):ev U (.bin op a b) S h=opB op x y h2:=by rw[Zqq,p];simp only[Zl,q]
def Zv(p:ev U a S h=.ok x R)(q:ev U b S R=.ok y h2):ev U (.cmp op a b) S h=opC U.GD op x y h2:=by rw[Zvf,p];simp only[Zl,q]
def ZbM(q:ev U e S h=.ok (.bl b) R):tst U (.ex e) S h=.ok b R:=by rw[ZoI,q];rfl
def Zi{b c:Bool}{y:qe Bool}(q:y=.ok b R)(e:b=c):y=.ok c R:=e▸q
noncomputable def hdS:Sxs->Sx
 |.cons s _=>s
 |.nil=>.pas
noncomputable def tlS:Sxs->Sxs
 |.cons _ r=>r
 |.nil=>.nil
def rt1(e:xs1 U (hdS ss) S h=.ok (.rt d,ρ1) h2)(hs:ss=.cons (hdS ss) (tlS ss)):Ze (xs2 U ss S h)=.ok d h2:=by rw[hs,Zd e];rfl
def nx1(e:xs1 U (hdS ss) S h=.ok (.nx,ρ1) h2)(hs:ss=.cons (hdS ss) (tlS ss)):xs2 U ss S h=xs2 U (tlS ss) ρ1 h2:=by rw[hs,Za e];rfl
def Zc(p:ev U a S h=.ok x R)(q:evs U es S R=.ok xs h2):evs U (.cons a es) S h=.ok (x::xs) h2:=by rw[Zfv,p,Zl,q];rfl
def Zvg(p:evs U es S h=.ok xs R):ev U (.call g es) S h=U.C g xs R:=by rw[Zjd,p];rfl
def ZkB(a:atI xs z=J d)(p:evs U es S h=.ok xs h)(q:ev U e S (h++[.lst xs])=.ok (.int z) (h++[.lst xs]))(hz:xs.length<=1000):ev U (.ix (.lstl es) e) S h=.ok d (h++[.lst xs]):=by rw[ZmU,ZmT,p,Zl,if_pos (OE hz (by decide)),Zr1,Zl,q,Zl,ZZ (xs:=xs) (by simp),a];rfl
def Zt(e:U.C g xs R=y)(p:evs U es S h=.ok xs R):ev U (.call g es) S h=y:=(Zvg p).trans e
def Zan(p:evs U es S h=.ok xs R)(hz:xs.length<=1000):ev U (.tupl es) S h=.ok (.tup xs) R:=by rw[Zst,p,Zl,if_pos (OE hz (by decide))]
def Zu1(p:ev U e S h=.ok x R)(n:x≠.non):tst U (.ex (.cmp .Is e (.cst .non))) S h=.ok Wy R:=ZbM ((Zv p rfl).trans (by rw[ZpJ,decide_eq_false n]))
def ZwX(p:ev U e S h=.ok .non R):tst U (.ex (.cmp .Is e (.cst .non))) S h=.ok Wx R:=ZbM ((Zv p rfl).trans (by rw[ZpJ,decide_eq_true rfl]))
def Zcd(p:ev U a S h=.ok (.str x) R)(q:ev U b S R=.ok (.str y) h2):tst U (.ex (.cmp .Eq a b)) S h=.ok (Wz (x=y)) h2:=ZbM ((Zv p q).trans (by rw[ZfR,ZdO];rfl))
def ZeW(p:ev U a S h=.ok (.int x) R)(q:ev U b S R=.ok (.int y) h2):tst U (.ex (.cmp .Eq a b)) S h=.ok (Wz (x=y)) h2:=ZbM ((Zv p q).trans (by rw[ZfR,Zg5];rfl))
def Zr(p:ev U a S h=.ok x R)(q:ev U b S R=.ok y h2):ev U (.ix a b) S h=ZbD U.GD x y h2:=by rw[ZmU,p,Zl,q,Zl]
def ZiM(p:tst U a S h=.ok Wx R)(q:tst U b S R=.ok c h2):tst U (.ands (.cons a (.one b))) S h=.ok c h2:=by rw[ZjE,Zgc,p];exact q
def ZqV(p:tst U a S h=.ok Wy R):tst U (.ands (.cons a (.one b))) S h=.ok Wy R:=by rw[ZjE,Zgc,p];rfl
def ZrK(p:tst U a S h=.ok Wx R):tst U (.ors (.cons a (.one b))) S h=.ok Wx R:=by rw[ZiO,Zc5,p];rfl
def Zlk(p:tst U a S h=.ok Wy R)(q:tst U b S R=.ok c h2):tst U (.ors (.cons a (.one b))) S h=.ok c h2:=by rw[ZiO,Zc5,p];exact q
end
end IV
namespace Gn
open PySem L2 IV
set_option tactic.hygienic false
def ZaI:Sxs:=.w (.iff (.x .NotIn (.ix V0 K0) (.glo (O "FORMS"))) (.o (.ret (.tupl .n))) .n) (.ret (.sl V0 (J (.bin .Add K1 (.ix (.ix (.glo (O "FORMS")) (.ix V0 K0)) K0))) M))
def Zdf:Fd:=fd_ 1 ["E"] ZaI
def ZcH:Sxs:=.w (.iff (.x .Lt V1 (.blt .len (.o V0))) (.o (.ret (.ix V0 V1))) .n) (.ret K0)
def Zax:Fd:=fd_ 2 ["_law_script","_law_k"] ZcH
def Zgr:Sxs:=.z (.s 2 (.bin .Add (.bin .Pow K10 K30) (.ci 57))) (.s 3 (.bin .Mult (.bin .Mod V0 V2) (.ci 271828182845904523536028747135))) (.s 3 (.bin .Add V3 (.bin .Mult (.bin .Mult V1 V1) (.ci 314159265358979323846264338327)))) (.ret (.bin .Mod (.bin .Add V3 (.ci 577215664901532860606512090082)) V2))
def ZdV:Fd:=fd_ 2 ["_law_cell","_law_k","_law_big","_law_number_here"] Zgr
def ZeZ:Sxs:=.z (.s 1 (.ix V0 K1)) (.put V0 K1 (.bin .Add V1 K1)) (.iff (.x .Lt V1 (.blt .len (.o (.ix V0 K0)))) (.o (.ret (.ix (.ix V0 K0) V1))) .n) (.ret (.f "_law_mixed" (.w V1 K7)))
def Zhq:Fd:=fd_ 1 ["_law_state","_law_at"] ZeZ
def Zgq:Sxs:=.c (.s 1 (.Ci_ "abcdefghijklmnopqrstuvwxyz")) (.c (.s 2 (.bin .Add K1 (.bin .Mod V0 K8))) (.c (.s 3 (.bin .Mod (.bin .FloorDiv V0 K8) V2)) (.c (.s 4 (.bin .FloorDiv V0 (.ci 64))) (.y (.s 5 (.Ci_ "")) (.forr (.nm 6) (.rng K8) (.w (.s 5 (.bin .Add V5 (.ix V1 (.bin .Mod V4 K26)))) (.s 4 (.bin .FloorDiv V4 K26)))) (.s 7 (.lstl .n)) (.forr (.nm 6) (.rng K5) (.y (.s 8 (.ix V1 (.bin .Mod (.bin .Add V4 (.bin .Mult K5 V6)) K26))) (.s 9 (.bin .Add (.bin .Add (.sl V5 M (J V3)) V8) (.sl V5 (J (.bin .Add V3 K1)) (J V2)))) (.iff (.q (.bin .Mod (.bin .FloorDiv V4 K26) K4) K1) (.o (.s 9 (.sl V5 M (J (.bin .Sub K8 V6))))) .n) (.iff (.x .In V9 (.tupl (.z (.Ci_ "fn") (.Ci_ "rec") (.Ci_ "call") (.Ci_ "if")))) (.o (.s 9 (.bin .Mult (.Ci_ "q") (.blt .len (.o V9))))) .n) (.drp (.meth .app V7 (.o V9))))) (.ret V7)))))
def ZdU:Fd:=fd_ 1 ["_law_number_here","_law_letters","_law_long","_law_place","_law_rest","_law_base","_law_k","_law_found","_law_sign","_law_word"] Zgq
def Zgp:Sxs:=.u (.s 2 (.dictl .n)) (.forr (.two 3 4) (.pl V0) (.o (.put V2 V3 V4))) (.ret (.comp [O "_law_name",O "_law_wish",O "_law_known"] [M,J 1,J 2] (.pl (.blt .srt (.o V2))) (.nm 0) (J (.q (.ix V2 V0) V1)) V0))
def ZdT:Fd:=fd_ 2 ["_law_scope","_law_wish","_law_known","_law_name","_law_held"] Zgp
def ZaL:Sxs:=.u (.iff (.q V0 (.Ci_ "n")) (.o (.ret (.tupl (.w (.Ci_ "num") (.ix (.lstl (.z K0 K1 K2 (.bin .Mod (.bin .FloorDiv V1 K7) (.ci 1000000)))) (.bin .Mod V1 K4)))))) .n) (.iff (.q V0 (.Ci_ "f")) (.o (.ret (.tupl (.u (.Ci_ "fn") (.Ci_ "w") (.tupl (.u (.Ci_ "-") (.tupl (.w (.Ci_ "name") (.Ci_ "w"))) (.tupl (.w (.Ci_ "num") (.bin .Mod V1 K3))))))))) .n) (.ret (.tupl (.u (.Ci_ "fn") (.Ci_ "w") (.tupl (.u (.Ci_ "call") (.tupl (.w (.Ci_ "name") (.Ci_ "w"))) (.tupl (.w (.Ci_ "num") (.bin .Mod V1 K5))))))))
def Zgk:Fd:=fd_ 2 ["_law_wish","_law_number_here"] ZaL
def Zbo:Sx:=.s 6 (.ix V4 (.bin .Mod V1 K5))
def Zar:Sx:=.iff (.q V0 (.Ci_ "g")) (.o (.ret (.tupl (.u (.Ci_ "fn") V6 (.f "_law_any" (.y (.Ci_ "n") (.bin .Add V2 (.lstl (.o (.tupl (.w V6 (.Ci_ "f")))))) V3 V4 V5)))))) .n
def Zaq:Sx:=.iff (.q (.bin .Mod (.bin .FloorDiv V1 K5) K3) K0) (.o (.ret (.tupl (.u (.Ci_ "fn") V6 (.f "_law_any" (.y (.Ci_ "n") (.bin .Add V2 (.lstl (.o (.tupl (.w V6 (.Ci_ "n")))))) V3 V4 V5)))))) .n
def Zbn:Sx:=.s 7 (.ix V4 (.bin .Mod (.bin .Add (.bin .Add (.bin .Mod V1 K5) K1) (.bin .Mod (.bin .FloorDiv V1 K15) K4)) K5))
def Zbm:Sx:=.s 8 (.bin .Add V2 (.lstl (.w (.tupl (.w V7 (.Ci_ "f"))) (.tupl (.w V6 (.Ci_ "n"))))))
def Zbl:Sx:=.s 9 (.tupl (.u (.Ci_ "call") (.tupl (.w (.Ci_ "name") V7)) (.tupl (.u (.Ci_ "-") (.tupl (.w (.Ci_ "name") V6)) (.tupl (.w (.Ci_ "num") K1))))))
def Zap:Sx:=.iff (.q (.bin .Mod (.bin .FloorDiv V1 (.ci 60)) K3) K0) (.o (.s 9 (.f "_law_any" (.y (.Ci_ "n") V8 V3 V4 V5)))) (.o (.iff (.q (.bin .Mod (.bin .FloorDiv V1 (.ci 60)) K3) K1) (.o (.s 9 (.tupl (.u (.ix (.lstl (.w (.Ci_ "+") (.Ci_ "*"))) (.bin .Mod (.bin .FloorDiv V1 (.ci 180)) K2)) (.f "_law_any" (.y (.Ci_ "n") V8 V3 V4 (.bin .Sub V5 K1))) V9)))) .n))
def Zao:Sx:=.ret (.tupl (.z (.Ci_ "rec") V7 V6 (.tupl (.z (.Ci_ "if") (.tupl (.w (.Ci_ "name") V6)) V9 (.f "_law_any" (.y (.Ci_ "n") V8 V3 V4 (.bin .Sub V5 K1)))))))
def ZhI:Sxs:=.c Zbo (.c Zar (.c Zaq (.y Zbn Zbm Zbl Zap Zao)))
def ZdW:Fd:=fd_ 6 ["_law_wish","_law_rest","_law_scope","_law_state","_law_names_here","_law_room","_law_x","_law_f","_law_inner","_law_again"] ZhI
def Zd5:Sx:=.s 5 (.bin .Mod V0 K6)
def Zci:Sx:=.iff (.q V5 K0) (.o (.ret (.f "_law_plain" (.w (.Ci_ "n") (.bin .FloorDiv V0 K6))))) .n
def Zch:Sx:=.iff (.x .Lt V5 K3) (.w (.s 6 (.f "_law_any" (.y (.Ci_ "n") V1 V2 V3 V4))) (.ret (.tupl (.u (.ix (.lstl (.z (.Ci_ "+") (.Ci_ "-") (.Ci_ "*") (.Ci_ "<"))) (.bin .Mod (.bin .FloorDiv V0 K6) K4)) V6 (.f "_law_any" (.y (.Ci_ "n") V1 V2 V3 V4)))))) .n
def Zd4:Sx:=.s 7 (.ix (.lstl (.u (.Ci_ "f") (.Ci_ "f") (.Ci_ "g"))) (.bin .Sub V5 K3))
def Zd3:Sx:=.s 8 (.f "_law_any" (.y V7 V1 V2 V3 V4))
def Zd2:Sx:=.ret (.tupl (.u (.Ci_ "call") V8 (.f "_law_any" (.y (.ix (.dictl (.z (.Ci_ "f") (.Ci_ "n") (.Ci_ "g") (.Ci_ "f"))) V7) V1 V2 V3 V4))))
def Zdj:Sxs:=.c Zd5 (.y Zci Zch Zd4 Zd3 Zd2)
def Zfp:Fd:=fd_ 5 ["_law_rest","_law_scope","_law_state","_law_names_here","_law_room","_law_way","_law_one","_law_wish","_law_fun"] Zdj
def ZbJ:Sx:=.put V2 K2 (.bin .Sub (.ix V2 K2) K1)
def Zct:Sx:=.s 5 (.f "_law_next" (.o V2))
def ZbI:Sx:=.iff (.q (.bin .Mod V5 K29) K0) (.o (.s 0 (.ix (.lstl (.u (.Ci_ "n") (.Ci_ "f") (.Ci_ "g"))) (.bin .Mod (.bin .FloorDiv V5 K29) K3)))) .n
def Zcs:Sx:=.s 6 (.bin .FloorDiv V5 (.ci 87))
def ZbH:Sx:=.s 7 (.f "_law_there" (.w V1 V0))
def ZbG:Sx:=.iff (.ands (.c (.nq V7 (.lstl .n)) (.one (.q (.bin .Mod V6 K3) K0)))) (.o (.ret (.tupl (.w (.Ci_ "name") (.ix V7 (.bin .Mod (.bin .FloorDiv V6 K3) (.blt .len (.o V7)))))))) .n
def ZaM:Sx:=.iff (.ors (.c (.x .Lt V4 K1) (.one (.x .Lt (.ix V2 K2) K0)))) (.o (.ret (.f "_law_plain" (.w V0 (.bin .FloorDiv V6 K3))))) .n
def Zcr:Sx:=.s 6 (.bin .FloorDiv V6 K30)
def ZbF:Sx:=.iff (.q (.bin .Mod V6 K8) K0) (.u (.s 8 (.f "_law_any" (.y (.Ci_ "n") V1 V2 V3 (.bin .Sub V4 K1)))) (.s 9 (.f "_law_any" (.y V0 V1 V2 V3 (.bin .Sub V4 K1)))) (.ret (.tupl (.z (.Ci_ "if") V8 V9 (.f "_law_any" (.y V0 V1 V2 V3 (.bin .Sub V4 K1))))))) .n
def Za1:Sx:=.iff (.q V0 (.Ci_ "n")) (.o (.ret (.f "_law_number" (.y (.bin .FloorDiv V6 K8) V1 V2 V3 (.bin .Sub V4 K1))))) .n
def Zb3:Sx:=.ret (.f "_law_function" (.c V0 (.y (.bin .FloorDiv V6 K8) V1 V2 V3 (.bin .Sub V4 K1))))
def Zoe:Sxs:=.c ZbJ (.c Zct (.c ZbI (.c Zcs (.c ZbH (.c ZbG (.y ZaM Zcr ZbF Za1 Zb3))))))
def Zes:Fd:=fd_ 5 ["_law_wish","_law_scope","_law_state","_law_names_here","_law_room","_law_number_here","_law_rest","_law_there_here","_law_asked_of","_law_first"] Zoe
def Zd1:Sxs:=.o (.ret (.bin .Add K1 (.blt .sum (.o (.comp [O "_law_part"] [M] (.pl V0) (.nm 0) (J (.ex (.blt .isi (.w V0 (.cst (.ty "tuple")))))) (.f "_law_width" (.o V0)))))))
def Zcn:Fd:=fd_ 1 ["_law_told"] Zd1
def Ze0:Sxs:=.o (.ret (.maxd (.comp [O "_law_part"] [M] (.pl V0) (.nm 0) (J (.ex (.blt .isi (.w V0 (.cst (.ty "tuple")))))) (.bin .Add K1 (.f "_law_deep" (.o V0)))) K0))
def Zdg:Fd:=fd_ 1 ["_law_told"] Ze0
def ZaF:Sx:=.s 2 (.comp [O "_law_k",O "_law_cell"] [M,M] (.enu (.sl V0 (J V1) M)) (.two 0 1) M (.f "_law_mixed" (.w V1 (.bin .Add V0 K2))))
def Zdy:Sx:=.s 3 (.lstl (.u V2 K0 K26))
def Zdx:Sx:=.s 4 (.f "_law_names" (.o (.f "_law_next" (.o V3))))
def Zdw:Sx:=.s 5 (.f "_law_any" (.y (.Ci_ "n") (.lstl .n) V3 V4 K7))
def ZbQ:Sx:=.forr (.nm 6) (.rng K2) (.o (.iff (.x .Lt (.f "_law_width" (.o V5)) (.ci 50)) (.w (.put V3 K2 K12) (.s 5 (.tupl (.u (.Ci_ "+") V5 (.f "_law_any" (.y (.Ci_ "n") (.lstl .n) V3 V4 K6)))))) .n))
def ZbP:Sx:=.iff (.ors (.c (.x .Gt (.f "_law_width" (.o V5)) (.ci 100)) (.one (.x .Gt (.f "_law_deep" (.o V5)) K20)))) (.o (.s 5 (.f "_law_plain" (.w (.Ci_ "n") (.f "_law_next" (.o V3)))))) .n
def Zdv:Sx:=.ret V5
def Zh2:Sxs:=.c ZaF (.c Zdy (.y Zdx Zdw ZbQ ZbP Zdv))
def ZeL:Fd:=fd_ 2 ["_law_script","_law_start","_law_cells","_law_state","_law_names_here","_law_told","_law_k"] Zh2
noncomputable def ZdS:List (Key×D):=[(.inr (O "fn"),.tup [.int 1,.int 1]),(.inr (O "rec"),.tup [.int 2,.int 1]),(.inr (O "call"),.tup [.int 0,.int 2]),(.inr (O "if"),.tup [.int 0,.int 3]),(.inr (O "+"),.tup [.int 0,.int 2]),(.inr (O "-"),.tup [.int 0,.int 2]),(.inr (O "*"),.tup [.int 0,.int 2]),(.inr (O "<"),.tup [.int 0,.int 2])]
structure Tre(P:Pg):Prop where
 parts:P.tb.lookup (O "parts_of")=J Zdf
 g:P.G (O "FORMS")=J (.kd (O "FORMS"))
 gd:P.GD (O "FORMS")=J ZdS
 big:1000000<=P.L
def ZgO(H:Tre P)(hU:U.G=P.G/\U.GD=P.GD)(q:ev U e S h=.ok (.str w) h)(f:ZbA ZdS (.inr w)=x):tst U (.ex (.cmp .NotIn e (.glo (O "FORMS")))) S h=.ok (!x.isSome) h:=by
 have g:ev U (.glo (O "FORMS")) S h=.ok (.kd (O "FORMS")) h:=by rw[Zhw,hU.1,H.g];rfl
 refine ZbM ((Zv q g).trans ?_);rw[ZiY,hU.2,H.gd];simp only[f]
def Zso(H:Tre P)(hU:U.G=P.G/\U.GD=P.GD)(q:ev U e S h=.ok (.str w) h)(f:ZbA ZdS (.inr w)=J x):ev U (.ix (.glo (O "FORMS")) e) S h=.ok x h:=by
 have g:ev U (.glo (O "FORMS")) S h=.ok (.kd (O "FORMS")) h:=by rw[Zhw,hU.1,H.g];rfl
 rw[ZmU,g,Zl,q,Zl,ZrT,hU.2,H.gd];simp only[f];rfl
def Zka:ev U (.ix (.var 0) (.ci 0)) (J (.tup (.str w::ds))::S) h=.ok (.str w) h:=by show qe.ofO (atI (D.str w::ds) 0) h=_;rw[ZiK];rfl
def Zqi(H:Tre P)(hU:U.G=P.G/\U.GD=P.GD)(e:ZbA ZdS (.inr w)=J (.tup [.int a,.int b])):ev U (.bin .Add (.ci 1) (.ix (.ix (.glo (O "FORMS")) (.ix (.var 0) (.ci 0))) (.ci 0))) [J (.tup (.str w::ds))] h=.ok (.int (1+a)) h:=by refine(Zh (x:=.int 1) (y:=.int a) rfl ?_).trans rfl;rw[ZmU,Zso H hU Zka e];rfl
def ZmQ(q:ev U e S h=.ok (.int l) h):evo U (J e) S h=.ok (J l) h:=by rw[Zqn,q];rfl
def Zic(p:ev U a S h=.ok x h)(q:evo U lo S h=.ok l h)(r:evo U hi S h=.ok u h):ev U (.sl a lo hi) S h=Zgw x l u h:=by simp only[ZmR,p,Zl,q,r]
def ZjZ(H:Tre P)(n:Nat)(h:Hd)(w:Str)(ds:List D)(e:ZbA ZdS (.inr w)=M):run P (n+1) (O "parts_of") [.tup (.str w::ds)] h=.ok (.tup []) h:=by rw[Zf H.parts rfl];show Ze (xs2 (P.tbl n) ZaI [J (.tup (.str w::ds))] h)=_;rw[ZaI,Zd ((Zj (ZgO H ⟨rfl,rfl⟩ Zka e)).trans (Zd (Zu (d:=.tup []) rfl)))];rfl
def ZcW(H:Tre P)(n:Nat)(h:Hd)(w:Str)(ds:List D)(a b:Int)(e:ZbA ZdS (.inr w)=J (.tup [.int a,.int b])):run P (n+1) (O "parts_of") [.tup (.str w::ds)] h=.ok (.tup (cutD (.str w::ds) (J (1+a)) M)) h:=by
 rw[Zf H.parts rfl];show Ze (xs2 (P.tbl n) ZaI [J (.tup (.str w::ds))] h)=_;have q:=Zqi H (U:=P.tbl n) ⟨rfl,rfl⟩ (ds:=ds) (h:=h) e;have r:ev (P.tbl n) (.sl (.var 0) (J (.bin .Add (.ci 1) (.ix (.ix (.glo (O "FORMS")) (.ix (.var 0) (.ci 0))) (.ci 0)))) M) [J (.tup (.str w::ds))] h=.ok (.tup (cutD (.str w::ds) (J (1+a)) M)) h:=by exact(Zic (a:=.var 0) (x:=.tup (.str w::ds)) rfl (ZmQ q) rfl).trans rfl
 rw[ZaI,Za ((Zg (ZgO H ⟨rfl,rfl⟩ Zka e)).trans rfl),Zd (Zu r)];rfl
def ZgJ(H:Tre P)(n:Nat)(t:T)(h:Hd):run P (n+1) (O "parts_of") [t.d] h=.ok (.tup (t.parts.map T.d)) h:=by
 cases t with
 |num z=>exact ZjZ H n h (O "num") _ rfl
 |name x=>exact ZjZ H n h (O "name") _ rfl
 |fn x e=>exact ZcW H n h (O "fn") _ 1 1 rfl
 |rcc f x e=>exact ZcW H n h (O "rec") _ 2 1 rfl
 |call f a=>exact ZcW H n h (O "call") _ 0 2 rfl
 |iff c a b=>exact ZcW H n h (O "if") _ 0 3 rfl
 |op w a b=>exact ZcW H n h w.s _ 0 2 (by cases w<;>rfl)
end Gn
namespace IV
open PySem L2
section
variable {U:Tb}{S:Ev}{h R h2:Hd}
def ZdC(p:ev U o S h=.ok (.ref i) R)(l:R[i]?=J (.lst ys))(q:evs U es S R=.ok xs h2)(e:Zcm m (.ref i) xs h2=r):ev U (.meth m o es) S h=r:=by rw[ZmS,p,Zl,Zip l,if_pos rfl,q];exact e
def ZU(q:ev U e S h=.ok d R):xs1 U (.drp e) S h=.ok (.nx,S) R:=by rw[ZlX,q];rfl
def ZB(p:ev U o S h=.ok (.ref i) R)(l:R[i]?=J (.ins C fs))(f:fs.lookup m=M)(q:evs U es S R=.ok xs h2)(e:U.C (mnm C m) (.ref i::xs) h2=r):ev U (.mcl C m o es) S h=r:=by rw[Zvd,p,Zl,show Zai (.ref i) R=J (C,fs) by simp[Zai,l]];simp only[f,and_self,if_true,q];exact e
def Zko(p:evi U it S h=.ok w R)(q:ZV w.src g (tsto U c) (ev U e) w.xs (Zc2 js S) [] R=.ok xs h2):ev U (.comp NC js it g c e) S h=.ok (.ref h2.length) (h2++[.lst xs]):=by rw[Zsv,p,Zl,q];rfl
def Zjb(p:ev U e S h=.ok (.tup xs) R):evi U (.pl e) S h=.ok ⟨M,xs⟩ R:=by rw[Zqo,p];rfl
def Zhv(p:evs U es S h=.ok xs R)(hz:xs.length<=1000):ev U (.lstl es) S h=.ok (.ref R.length) (R++[.lst xs]):=by rw[ZmT,p,Zl,if_pos (OE hz (by decide))];rfl
def Zf2(p:evs U es S h=.ok xs R)(q:ZbO U.GD f xs R=r):ev U (.blt f es) S h=r:=by rw[Zvh,p];exact q
def Zg9(e:h[i]?=J (.lst ys)):ZbO GD .len [.ref i] h=.ok (.int ys.length) h:=by simp only[ZbO,ZlS,seqOf,lstOf,e];rfl
def ZsY(e:h[i]?=J (.lst ys)):ZbO GD .tup [.ref i] h=.ok (.tup ys) h:=by simp only[ZbO,ZsP,lstOf,e];rfl
def Zgd(p:ev U e S h=.ok (.ref i) R)(l:R[i]?=J (.lst ys)):tst U (.ex e) S h=.ok (!ys.isEmpty) R:=by rw[ZoI,p,Zl,Zq5 l];rfl
def Ze6(e:test S h=.ok Wx R)(q:body S R=.ok (.nx,ρ1) h2):Zaj test body (n+1) S h=Zaj test body n ρ1 h2:=by rw[ZdK,e,Zl,if_pos rfl,q];rfl
def ZgH(e:test S h=.ok Wy R):Zaj test body (n+1) S h=.ok (.nx,S) R:=by rw[ZdK,e];rfl
def Zu6(p:ev U a S h=.ok (.int x) R)(q:ev U b S R=.ok (.int y) h2):tst U (.ex (.cmp .Gt a b)) S h=.ok (Wz (y<x)) h2:=ZbM (Zv p q)
def ZwP(p:ev U a S h=.ok (.int x) R)(q:ev U b S R=.ok (.int y) h2):tst U (.ex (.cmp .Lt a b)) S h=.ok (Wz (x<y)) h2:=ZbM (Zv p q)
def ZfZ(b:ZbV g d S=J ρ1)(q:body ρ1 h=.ok (.nx,ρ2) h2):ZJ M g body (d::ds) S h=ZJ M g body ds ρ2 h2:=by rw[Zer,b];simp only;rw[q];rfl
def Zp9(p:ev U e S h=.ok x R):tst U (.ex (.cmp .IsNot e (.cst .non))) S h=.ok (!Wz (x=.non)) R:=ZbM ((Zv p rfl).trans ZpI)
def Zu8(b:ZbV g d S=J ρ1)(q:body ρ1 h=.ok (.rt x,ρ2) h2):ZJ M g body (d::ds) S h=.ok (.rt x,ρ2) h2:=by rw[Zer,b];simp only;rw[q];rfl
variable {c:Str}
def ZcR(q:xs1 U s S h=.exc c R):xs2 U (.cons s r) S h=.exc c R:=by rw[xs2,q];rfl
def Zhx(q:ev U e S h=.exc c R):xs1 U (.drp e) S h=.exc c R:=by rw[ZlX,q];rfl
def Zv6(q:ev U e S h=.exc c R):xs1 U (.ret e) S h=.exc c R:=by rw[ZiN,q];rfl
def Zv9(q:ev U e S h=.ok d R):xs1 U (.rai c e) S h=.exc c R:=by rw[xs1,q];rfl
def ZlZ(e:test S h=.ok Wx R)(q:body S R=.exc c h2):Zaj test body (n+1) S h=.exc c h2:=by rw[ZdK,e,Zl,if_pos rfl,q];rfl
def Zw5(b:ZbV g d S=J ρ1)(q:body ρ1 h=.exc c h2):ZJ M g body (d::ds) S h=.exc c h2:=by rw[Zer,b];simp only;rw[q];rfl
def Zw9(p:ev U a S h=.exc c R):evs U (.cons a es) S h=.exc c R:=by rw[Zfv,p];rfl
end
end IV
section
set_option tactic.hygienic false
set_option exponentiation.threshold 3000
namespace Gn
open PySem L2 IV
def Up(i:Nat)(h h':Hd):Prop:=h.length<=h'.length/\∀m,m<h.length->m≠i->h'[m]?=h[m]?
def Up.refl:Up i h h:=⟨Oq _,λ_ _ _=>rfl⟩
theorem Up.trans(x:Up i a b)(y:Up i b c):Up i a c:=⟨OE x.1 y.1,λm R h2=>(y.2 m (Ot R x.1) h2).trans (x.2 m R h2)⟩
theorem Up.set:Up i h (h.set i o):=⟨by simp,λm _ h2=>by rw[Oc (YL h2)]⟩
def Up.app:Up i h (h++g):=⟨by simp,λm R _=>Oe R⟩
def ZL{h:Hd}(e:h[i]?=J o):i<h.length:=(Ob.mp e).1
def Up.at{i m:Nat}(u:Up i h h')(e:h[m]?=J o)(ne:m≠i):h'[m]?=J o:=(u.2 m (ZL e) ne).trans e
def Alk(P:Pg)(f:Str)(fd:Fd):Prop:=∃ps N,ps.length=fd.ps.length/\N.length=fd.N.length/\P.tb.lookup f=J ⟨ps,N,fd.body⟩
def Alk.same(e:P.tb.lookup f=J fd):Alk P f fd:=⟨fd.ps,fd.N,rfl,rfl,e⟩
def ZgI(e:Alk P f fd)(hl:ds.length=fd.ps.length):run P (n+1) f ds h=Ze (xs2 ⟨P.G,P.GD,run P n,P.L⟩ fd.body (ZE fd.N ds) h):=by obtain⟨ps,N,R,h2,e⟩:=e;rw[Zf e (hl.trans R.symm)];unfold ZE;rw[h2]
structure Mkr(P:Pg):Prop where
 mixed:P.tb.lookup (O "_law_mixed")=J ZdV
 next:P.tb.lookup (O "_law_next")=J Zhq
 names:P.tb.lookup (O "_law_names")=J ZdU
 there:P.tb.lookup (O "_law_there")=J ZdT
 plain:P.tb.lookup (O "_law_plain")=J Zgk
 function:Alk P (O "_law_function") ZdW
 number:Alk P (O "_law_number") Zfp
 any:Alk P (O "_law_any") Zes
 width:P.tb.lookup (O "_law_width")=J Zcn
 deep:P.tb.lookup (O "_law_deep")=J Zdg
 program:Alk P (O "_law_program") ZeL
noncomputable def big:Int:=1000000000000000000000000000057
def mixed(c k:Int):Int:=(c%big*271828182845904523536028747135+k*k*314159265358979323846264338327+577215664901532860606512090082)%big
def Zaa(h:-(2^128)<i)(h2:i<2^128):i.natAbs<2^2000:=by
 have:i.natAbs<2^128:=by lia
 exact Ot this (Nat.pow_le_pow_right (by decide) (by decide))
def Znm(hk:-(2^60)<k/\k<2^60):0<=k*k/\k*k<2^120:=by
 have a:k.natAbs<2^60:=by lia
 have b:k.natAbs*k.natAbs<2^60*2^60:=Nat.mul_lt_mul'' a a;have c2:((k.natAbs*k.natAbs:Nat):Int)=k*k:=Int.natAbs_mul_self;rw[<-c2];constructor
 . lia
 . have:((k.natAbs*k.natAbs:Nat):Int)<((2^60*2^60:Nat):Int):=Int.ofNat_lt.mpr b;exact this
def ZiU(H:Mkr P)(n:Nat)(c k:Int)(h:Hd)(hk:-(2^60)<k/\k<2^60):run P (n+1) (O "_law_mixed") [.int c,.int k] h=.ok (.int (mixed c k)) h:=by
 rw[Zf H.mixed rfl];have hp:opB .Pow (.int 10) (.int 30) h=.ok (.int 1000000000000000000000000000000) h:=by show(if (0:Int)<=30/\(30:Int)<=1000000/\(10:Int).natAbs<2^64 then qe.ok (D.int (10^(30:Int).toNat)) h else qe.bad)=_;rw[if_pos (by decide)];rfl
 have R:0<=c%1000000000000000000000000000057/\c%1000000000000000000000000000057<1000000000000000000000000000057:=⟨Int.emod_nonneg _ (by decide),Int.emod_lt_of_pos _ (by decide)⟩
 have nS:=Znm hk;have e1:opB .Mod (.int c) (.int 1000000000000000000000000000057) h=.ok (.int (c%1000000000000000000000000000057)) h:=ZX (by decide);have e2:opB .Mult (.int (c%1000000000000000000000000000057)) (.int 271828182845904523536028747135) h=.ok (.int (c%1000000000000000000000000000057*271828182845904523536028747135)) h:=Zfh ⟨Zaa (by lia) (by lia),Zaa (by decide) (by decide)⟩;have e3:opB .Mult (.int k) (.int k) h=.ok (.int (k*k)) h:=Zfh ⟨Zaa (by lia) (by lia),Zaa (by lia) (by lia)⟩;have e4:opB .Mult (.int (k*k)) (.int 314159265358979323846264338327) h=.ok (.int (k*k*314159265358979323846264338327)) h:=Zfh ⟨Zaa (by lia) (by lia),Zaa (by decide) (by decide)⟩;have e5:opB .Mod (.int (c%1000000000000000000000000000057*271828182845904523536028747135+k*k*314159265358979323846264338327+577215664901532860606512090082)) (.int 1000000000000000000000000000057) h=.ok (.int (mixed c k)) h:=ZX (by decide);simp[ZdV,Zgr,ZE,hp,e1,e2,e3,e4,e5]
def St3(h:Hd)(i j:Nat)(cs:List Int)(at' b:Int):Prop:=h[i]?=J (.lst [.ref j,.int at',.int b])/\h[j]?=J (.lst (cs.map .int))/\i≠j
def Zk9{P:Pg}(H:Mkr P)(n:Nat)(st:St3 h i j cs a b)(ha:0<=a/\a<2^50):∃v,run P (n+2) (O "_law_next") [.ref i] h=.ok (.int v) (h.set i (.lst [.ref j,.int (a+1),.int b]))/\(v∈cs\/v=mixed a 7):=by
 obtain⟨R,h2,ne⟩:=st;rw[Zf H.next (by rfl)];have i1:=ZL R;have i2:(h.set i (.lst [.ref j,.int (a+1),.int b]))[i]?=J (.lst [.ref j,.int (a+1),.int b]):=by rw[Ol i1]
 have i3:(h.set i (.lst [.ref j,.int (a+1),.int b]))[j]?=J (.lst (cs.map .int)):=by rw[Oc ne];exact h2
 have i8:ZbT (.ref i) (.int 1) (.int (a+1)) h=.ok () (h.set i (.lst [.ref j,.int (a+1),.int b])):=by simp only[ZbT,R];rfl
 have x1:xs1 (P.tbl (n+1)) (.set (.nm 1) (.ix (.var 0) (.ci 1))) [J (.ref i),M] h=.ok (.nx,[J (.ref i),J (.int a)]) h:=Zn ((Zr rfl rfl).trans ((ZZ R).trans rfl));have x2:xs1 (P.tbl (n+1)) (.put (.var 0) (.ci 1) (.bin .Add (.var 1) (.ci 1))) [J (.ref i),J (.int a)] h=.ok (.nx,[J (.ref i),J (.int a)]) (h.set i (.lst [.ref j,.int (a+1),.int b])):=by rw[ZlV];show(ZbT (.ref i) (.int 1) (.int (a+1)) h).bnd _=_;rw[i8];rfl
 generalize h.set i (.lst [.ref j,.int (a+1),.int b])=h' at *;have e0:ev (P.tbl (n+1)) (.ix (.var 0) (.ci 0)) [J (.ref i),J (.int a)] h'=.ok (.ref j) h':=(Zr rfl rfl).trans ((ZZ i2).trans rfl);have tt:tst (P.tbl (n+1)) (.ex (.cmp .Lt (.var 1) (.blt .len (.cons (.ix (.var 0) (.ci 0)) .nil)))) [J (.ref i),J (.int a)] h'=.ok (Wz (a<(cs.map D.int).length)) h':=ZwP rfl (Zf2 (Zc e0 rfl) (Zg9 i3));rw[Yt]at tt;have x3:xs2 (P.tbl (n+1)) ZeZ [J (.ref i),M] h=xs2 (P.tbl (n+1)) (tlS (tlS ZeZ)) [J (.ref i),J (.int a)] h':=(nx1 x1 rfl).trans (nx1 x2 rfl);by_cases hc:a<cs.length
 . obtain⟨k,rfl⟩:∃k:Nat,a=k:=⟨a.toNat,by lia⟩
   have hk:k<cs.length:=by lia
   have jt:atI (cs.map D.int) (k:Int)=J (.int cs[k]):=by rw[IV.Zbz,O2,Og hk];rfl
   exact⟨cs[k],(congrArg Ze x3).trans (rt1 ((Zj (Zi tt (decide_eq_true hc))).trans (Zd (Zu ((Zr e0 rfl).trans ((ZZ i3).trans (by rw[jt];rfl)))))) rfl),.inl (List.getElem_mem hk)⟩
 . exact⟨mixed a 7,(congrArg Ze (x3.trans (nx1 ((Zg (Zi tt (decide_eq_false hc))).trans rfl) rfl))).trans (rt1 (Zu (Zt (ZiU H n a 7 _ (by decide)) rfl)) rfl),.inr rfl⟩
def Wl(n:Nat)(x:Str):Prop:=Yo x=Wx/\x.length<=n
def Cl:List Str->T->Prop
 |_,.num n=>0<=n/\n<1000000
 |sc,.name x=>x∈sc
 |sc,.fn x e=>Cl (x::sc) e/\Wl 20 x
 |sc,.rcc f x e=>Cl (x::f::sc) e/\f≠x/\Wl 20 f/\Wl 20 x
 |sc,.call f a=>Cl sc f/\Cl sc a
 |sc,.iff c t e=>Cl sc c/\Cl sc t/\Cl sc e
 |sc,.op _ a b=>Cl sc a/\Cl sc b
noncomputable def dep:T->Nat
 |.num _|.name _=>0
 |.fn _ e|.rcc _ _ e=>dep e+1
 |.call f a=>max (dep f) (dep a)+1
 |.iff c t e=>max (dep c) (max (dep t) (dep e))+1
 |.op _ a b=>max (dep a) (dep b)+1
def at4(k:Int)(h0:0<=k)(h4:k<4):∃v,atI [D.int a,.int b,.int c,.int d] k=J (.int v)/\(v=a\/v=b\/v=c\/v=d):=by
 have:k=0\/k=1\/k=2\/k=3:=by lia
 rcases this with rfl|rfl|rfl|rfl
 . exact⟨a,by simp,.inl rfl⟩
 . exact⟨b,by simp,.inr (.inl rfl)⟩
 . exact⟨c,by simp,.inr (.inr (.inl rfl))⟩
 . exact⟨d,by simp,.inr (.inr (.inr rfl))⟩
def ZiT(H:Mkr P)(n:Nat)(w:Str)(v:Int)(h:Hd)(sc:List Str):∃t g,run P (n+1) (O "_law_plain") [.str w,.int v] h=.ok (T.d t) (h++g)/\Cl sc t/\dep t<=2/\t.size<=4:=by
 rw[Zf H.plain (by rfl)];by_cases w1:w=O "n"
 . obtain⟨u,e,hu⟩:=at4 (a:=0) (b:=1) (c:=2) (d:=v/7%1000000) (v%4) (by lia) (by lia);refine⟨.num u,[.lst [.int 0,.int 1,.int 2,.int (v/7%1000000)]],?_,by show 0<=u/\u<1000000;lia,by show 0<=2;lia,by show 1<=4;lia⟩;exact rt1 (U:=P.tbl n) (ss:=ZaL) ((Zj (Zi (Zcd rfl rfl) (decide_eq_true w1))).trans (Zd (Zu (Zan (Zc rfl (Zc (ZkB e (Zc rfl (Zc rfl (Zc rfl (Zc ((Zh (x:=.int (v/7)) ((Zh rfl rfl).trans (Zc9 (by decide))) rfl).trans (ZX (by decide))) rfl)))) ((Zh rfl rfl).trans (ZX (by decide))) (Nat.le_of_ble_eq_true rfl)) rfl)) (Nat.le_of_ble_eq_true rfl))))) rfl
 . have x1:xs2 (P.tbl n) ZaL [J (.str w),J (.int v)] h=xs2 (P.tbl n) (tlS ZaL) [J (.str w),J (.int v)] h:=nx1 ((Zg (Zi (Zcd rfl rfl) (decide_eq_false w1))).trans rfl) rfl;by_cases w2:w=O "f"
   . refine⟨.fn (O "w") (.op .sub (.name (O "w")) (.num (v%3))),[],?_,?_,by simp only[dep];lia,by show 4<=4;lia⟩
     . rw[Ys];exact(congrArg Ze x1).trans (rt1 (U:=P.tbl n) (ss:=tlS ZaL) ((Zj (Zi (Zcd rfl rfl) (decide_eq_true w2))).trans (Zd (Zu (Zan (Zc rfl (Zc rfl (Zc (Zan (Zc rfl (Zc rfl (Zc (Zan (Zc rfl (Zc ((Zh rfl rfl).trans (ZX (by decide))) rfl)) (Nat.le_of_ble_eq_true rfl)) rfl))) (Nat.le_of_ble_eq_true rfl)) rfl))) (Nat.le_of_ble_eq_true rfl))))) rfl)
     . exact⟨⟨Oi,by show 0<=v%3/\v%3<1000000;lia⟩,by unfold Wl;decide +kernel⟩
   . refine⟨.fn (O "w") (.call (.name (O "w")) (.num (v%5))),[],?_,?_,by simp only[dep];lia,by show 4<=4;lia⟩
     . rw[Ys];exact(congrArg Ze (x1.trans (nx1 ((Zg (Zi (Zcd rfl rfl) (decide_eq_false w2))).trans rfl) rfl))).trans (rt1 (U:=P.tbl n) (ss:=tlS (tlS ZaL)) (Zu (Zan (Zc rfl (Zc rfl (Zc (Zan (Zc rfl (Zc rfl (Zc (Zan (Zc rfl (Zc ((Zh rfl rfl).trans (ZX (by decide))) rfl)) (Nat.le_of_ble_eq_true rfl)) rfl))) (Nat.le_of_ble_eq_true rfl)) rfl))) (Nat.le_of_ble_eq_true rfl))) rfl)
     . exact⟨⟨Oi,by show 0<=v%5/\v%5<1000000;lia⟩,by unfold Wl;decide +kernel⟩
noncomputable def ZD:Str:=O "abcdefghijklmnopqrstuvwxyz"
def Zj5:ZD.length=26:=by decide +kernel
def Zlw:Yo ZD=Wx:=by decide +kernel
noncomputable def ltr(k:Int):Nat:=ZD.cps.toList.getD k.toNat 0
def lt1(k:Int):Str:=⟨#[ltr k]⟩
def Zlx(k:Int)(h0:0<=k)(R:k<26):ZbD GD (.str ZD) (.int k) h=.ok (.str (lt1 k)) h/\Wl 1 (lt1 k):=by
 obtain⟨m,rfl⟩:∃m:Nat,k=m:=⟨k.toNat,by lia⟩
 have hl:ZD.cps.toList.length=26:=by decide +kernel
 have hm:m<ZD.cps.toList.length:=by lia
 have el:ltr m=ZD.cps.toList[m]:=by show ZD.cps.toList.getD (m:Int).toNat 0=_;rw[Int.toNat_natCast,List.getD_eq_getElem?_getD,Og hm];rfl
 have e:atI ZD.cps.toList (m:Int)=J ZD.cps.toList[m]:=by rw[IV.Zbz,Og hm]
 unfold lt1;rw[el];refine⟨?_,ZpN Zlw (List.getElem_mem hm),by show(#[ZD.cps.toList[m]]:Array Nat).size<=1;simp⟩;have q:ZbD GD (.str ZD) (.int (m:Int)) h=if ZD.length<=sizeLine then qe.ofO ((atI ZD.cps.toList (m:Int)).map λc=>.str ⟨#[c]⟩) h else .bad:=rfl;rw[q,if_pos (by rw[Zj5,YC];decide),e];rfl
def len_cat{x y:Str}:(x++y).length=x.length+y.length:=by show(x.cps++y.cps).size=_;rw[Array.size_append];rfl
def Zfz{x y:Str}(hx:Wl a x)(hy:Wl b y)(hz:a+b<=1000):opB .Add (.str x) (.str y) h=.ok (.str (x++y)) h/\Wl (a+b) (x++y):=by have hl:(x++y).length=x.length+y.length:=len_cat;refine⟨if_pos (by rw[YC];have:=hx.2;have:=hy.2;lia),Zij hx.1 hy.1,by rw[hl];have:=hx.2;have:=hy.2;lia⟩
theorem Zp5{U:Tb}:∀(ks:List Int) (r:Int) (x:Str) (m:Nat) (k:Option D),Wl m x->x.length=m->m+ks.length<=100->∃r' x' k',Wl (m+ks.length) x'/\x'.length=m+ks.length /\
 ZJ M (.nm 6) (xs2 U (.cons (.set (.nm 5) (.bin .Add (.var 5) (.ix (.var 1) (.bin .Mod (.var 4) (.ci 26))))) (.cons (.set (.nm 4) (.bin .FloorDiv (.var 4) (.ci 26))) .nil))) (ks.map D.int) [a,J (.str ZD),l,p,J (.int r),J (.str x),k,f,sg,wd] h
  = .ok (.nx,[a,J (.str ZD),l,p,J (.int r'),J (.str x'),k',f,sg,wd]) h
 |[],r,x,m,k,hx,hn,hm=>⟨r,x,k,hx,hn,rfl⟩
 |c::cs,r,x,m,k,hx,hn,hm=>by
  obtain⟨e1,hy⟩:=Zlx (GD:=U.GD) (h:=h) (r%26) (by lia) (by lia);obtain⟨e2,gM⟩:=Zfz (h:=h) hx hy (by simp at hm;lia);obtain⟨r',x',k',R,h2,e3⟩:=Zp5 (U:=U) (h:=h) (a:=a) (l:=l) (p:=p) (f:=f) (sg:=sg) (wd:=wd) cs (r/26) (x++lt1 (r%26)) (m+1) (J (.int c)) gM (by rw[len_cat,hn];rfl) (by simp at hm ⊢;lia);have gW:m+(c::cs).length=m+1+cs.length:=by rw[Os];lia
  refine⟨r',x',k',by rw[gW];exact R,by rw[gW];exact h2,?_⟩;have e4:opB .Mod (.int r) (.int 26) h=.ok (.int (r%26)) h:=ZX (by decide);have e5:opB .FloorDiv (.int r) (.int 26) h=.ok (.int (r/26)) h:=Zc9 (by decide);rw[Op,Zer];simp[e4,e1,e2,e5,e3]
def ZtO(x:Str)(l u:Option Int):(Yp x l u).length<=x.length:=by
 unfold Yp;split
 . exact Oq _
 . show((Builtin.Str.strSliceIndices l u 1 x.length).filterMap (x.cps[·]?)).toArray.size<=_;rw[Of];refine OE (List.length_filterMap_le _ _) ?_;unfold Builtin.Str.strSliceIndices;refine PySem.sliceRange_length_le _ _ _ _ (λ_=>?_) (λz=>absurd (by decide) z);cases l<;>cases u<;>simp<;>lia
def Zem(hx:Wl m x)(hm:m<=1000)(l u:Option Int):Zgw (.str x) l u h=.ok (.str (Yp x l u)) h/\Wl m (Yp x l u):=by
 refine⟨if_pos (by rw[YC];have:=hx.2;lia),ZpL hx.1 (ZgX _ _ _),?_⟩;have:=hx.2;have q:(Yp x l u).length<=x.length:=ZtO x l u
 lia
def in4:opC GD .In (.str x) (.tup [.str (O "fn"),.str (O "rec"),.str (O "call"),.str (O "if")]) h=.ok (.bl (Wz (x∈[O "fn",O "rec",O "call",O "if"]))) h:=ZbX (ss:=[O "fn",O "rec",O "call",O "if"])
def len_str(hx:Wl m x)(hm:m<=1000):ZbO GD .len [.str x] h=.ok (.int x.length) h:=by show(if x.length<=sizeLine then _ else _)=_;exact if_pos (by rw[YC];have:=hx.2;lia)
def Zs8(hx:Wl m x)(hm:m<=1000):opB .Mult (.str (O "q")) (.int x.length) h=.ok (.str (ZfM (O "q") x.length)) h/\Wl m (ZfM (O "q") x.length):=by
 have hq:(O "q").length=1:=by decide +kernel
 have:=hx.2;refine⟨if_pos ⟨by lia,by lia,by rw[hq];decide⟩,ZpM (by decide +kernel) _,?_⟩;rw[Zfd,hq]
 lia
def nmW(b:Str)(l p r c:Int):Str:=if r/26%4=1 then Yp b M (J (8-c))else Yp b M (J p)++lt1 ((r+5*c)%26)++Yp b (J (p+1)) (J l)
def nmQ(w:Str):Str:=if w∈[O "fn",O "rec",O "call",O "if"]then ZfM (O "q") w.length else w
def nm(b:Str)(l p r c:Int):Str:=nmQ (nmW b l p r c)
def ZpP(hb:Wl 8 b)(l p r c:Int):Wl 20 (nmW b l p r c):=by
 unfold nmW;split
 . have q:=(Zem (h:=[]) hb (by decide) M (J (8-c))).2;exact⟨q.1,by have:=q.2;lia⟩
 . have q1:=(Zem (h:=[]) hb (by decide) M (J p)).2;have q2:=(Zlx (GD:=λ_=>M) (h:=[]) ((r+5*c)%26) (by lia) (by lia)).2;have q3:=(Zem (h:=[]) hb (by decide) (J (p+1)) (J l)).2;have q:=(Zfz (h:=[]) (Zfz (h:=[]) q1 q2 (by decide)).2 q3 (by decide)).2;exact⟨q.1,by have:=q.2;lia⟩
def ZwH(hb:Wl 8 b)(l p r c:Int):Wl 20 (nm b l p r c):=by
 unfold nm nmQ;split
 . exact(Zs8 (h:=[]) (ZpP hb l p r c) (by decide)).2
 . exact ZpP hb l p r c
def ZuQ:Sx:=.s 8 (.ix V1 (.bin .Mod (.bin .Add V4 (.bin .Mult K5 V6)) K26))
def ZuP:Sx:=.s 9 (.bin .Add (.bin .Add (.sl V5 M (J V3)) V8) (.sl V5 (J (.bin .Add V3 K1)) (J V2)))
def ZuL:Tx:=.q (.bin .Mod (.bin .FloorDiv V4 K26) K4) K1
def ZwQ:Sx:=.s 9 (.sl V5 M (J (.bin .Sub K8 V6)))
def ZuK:Exs:=.z (.Ci_ "fn") (.Ci_ "rec") (.Ci_ "call") (.Ci_ "if")
def ZwR:Sx:=.s 9 (.bin .Mult (.Ci_ "q") (.blt .len (.o V9)))
def ZuN:Sx:=.drp (.meth .app V7 (.o V9))
def ZuM:Sxs:=.w (.iff (.x .In V9 (.tupl ZuK)) (.o ZwR) .n) ZuN
def ZuO:Sxs:=.c ZuQ (.c ZuP (.c (.iff ZuL (.o ZwQ) .n) ZuM))
def vn(a:Option D)(l p r:Int)(b:Str)(q:Nat)(k sg wd:Option D):Ev:=[a,J (.str ZD),J (.int l),J (.int p),J (.int r),J (.str b),k,J (.ref q),sg,wd]
def ZpY(hw:Wl 20 wd)(hz:ds.length<16777216):xs2 U ZuM (vn a l p r b h.length k sg (J (.str wd))) (h++[.lst ds])=.ok (.nx,vn a l p r b h.length k sg (J (.str (nmQ wd)))) (h++[.lst (ds++[.str (nmQ wd)])]):=by
 have ap:∀w:Str,xs1 U ZuN (vn a l p r b h.length k sg (J (.str w))) (h++[.lst ds])=.ok (.nx,vn a l p r b h.length k sg (J (.str w))) (h++[.lst (ds++[.str w])]):=λw=>by have e:=ZU (ZdC (U:=U) (S:=vn a l p r b h.length k sg (J (.str w))) (o:=.var 7) (es:=.cons (.var 9) .nil) rfl ZbK rfl (ZaT (d:=.str w) (ZbK (h:=h) (x:=.lst ds) (r:=[])) (by rw[YC];exact hz)));rw[show(h++[DO.lst ds]).set h.length (.lst (ds++[.str w]))=h++[.lst (ds++[.str w])] by simp]at e;exact e
 have i4:tst U (.ex (.cmp .In (.var 9) (.tupl ZuK))) (vn a l p r b h.length k sg (J (.str wd))) (h++[.lst ds])=.ok (Wz (wd∈[O "fn",O "rec",O "call",O "if"])) (h++[.lst ds]):=ZbM ((Zv (x:=.str wd) rfl (Zan (xs:=[.str (O "fn"),.str (O "rec"),.str (O "call"),.str (O "if")]) rfl (by decide))).trans in4);unfold nmQ;by_cases cW:wd∈[O "fn",O "rec",O "call",O "if"]
 . rw[if_pos cW];exact(Za ((Zj (Zi i4 (decide_eq_true cW))).trans ((Za (Zn ((Zh rfl (Zf2 rfl (len_str hw (by decide)))).trans (Zs8 hw (by decide)).1))).trans rfl))).trans ((Za (ap _)).trans rfl)
 . rw[if_neg cW];exact(Za ((Zg (Zi i4 (decide_eq_false cW))).trans rfl)).trans ((Za (ap _)).trans rfl)
def ZwS(hb:Wl 8 b)(hc:0<=c/\c<100)(hz:ds.length<16777216):xs2 U ZuO (vn a l p r b h.length (J (.int c)) sg wd) (h++[.lst ds])=.ok (.nx,vn a l p r b h.length (J (.int c)) (J (.str (lt1 ((r+5*c)%26)))) (J (.str (nm b l p r c)))) (h++[.lst (ds++[.str (nm b l p r c)])]):=by
 obtain⟨e1,hy⟩:=Zlx (GD:=U.GD) (h:=h++[.lst ds]) ((r+5*c)%26) (by lia) (by lia);obtain⟨f1,w1⟩:=Zem (h:=h++[.lst ds]) hb (by decide) M (J p);obtain⟨f2,w2⟩:=Zem (h:=h++[.lst ds]) hb (by decide) (J (p+1)) (J l);obtain⟨f3,w3⟩:=Zem (h:=h++[.lst ds]) hb (by decide) M (J (8-c));obtain⟨c1,v1⟩:=Zfz (h:=h++[.lst ds]) w1 hy (by decide);obtain⟨c2,v2⟩:=Zfz (h:=h++[.lst ds]) v1 w2 (by decide);have m5:opB .Mult (.int 5) (.int c) (h++[.lst ds])=.ok (.int (5*c)) (h++[.lst ds]):=Zfh ⟨Zaa (by decide) (by decide),Zaa (by lia) (by lia)⟩;unfold nm nmW;generalize lt1 ((r+5*c)%26)=y at *;have x8:xs1 U ZuQ (vn a l p r b h.length (J (.int c)) sg wd) (h++[.lst ds])=.ok (.nx,vn a l p r b h.length (J (.int c)) (J (.str y)) wd) (h++[.lst ds]):=Zn ((Zr (x:=.str ZD) rfl ((Zh (x:=.int (r+5*c)) ((Zh rfl ((Zh rfl rfl).trans m5)).trans rfl) rfl).trans (ZX (by decide)))).trans e1);have g1:ev U (.sl (.var 5) M (J (.var 3))) (vn a l p r b h.length (J (.int c)) (J (.str y)) wd) (h++[.lst ds])=.ok (.str (Yp b M (J p))) (h++[.lst ds]):=f1;have g2:ev U (.sl (.var 5) (J (.bin .Add (.var 3) (.ci 1))) (J (.var 2))) (vn a l p r b h.length (J (.int c)) (J (.str y)) wd) (h++[.lst ds])=.ok (.str (Yp b (J (p+1)) (J l))) (h++[.lst ds]):=f2;have g3:∀w,ev U (.sl (.var 5) M (J (.bin .Sub (.ci 8) (.var 6)))) (vn a l p r b h.length (J (.int c)) (J (.str y)) w) (h++[.lst ds])=.ok (.str (Yp b M (J (8-c)))) (h++[.lst ds]):=λ_=>f3;have x9:xs1 U ZuP (vn a l p r b h.length (J (.int c)) (J (.str y)) wd) (h++[.lst ds])=.ok (.nx,vn a l p r b h.length (J (.int c)) (J (.str y)) (J (.str (Yp b M (J p)++y++Yp b (J (p+1)) (J l))))) (h++[.lst ds]):=Zn ((Zh ((Zh g1 rfl).trans c1) g2).trans c2);have tt:tst U ZuL (vn a l p r b h.length (J (.int c)) (J (.str y)) (J (.str (Yp b M (J p)++y++Yp b (J (p+1)) (J l))))) (h++[.lst ds])=.ok (Wz (r/26%4=1)) (h++[.lst ds]):=ZeW ((Zh (x:=.int (r/26)) ((Zh rfl rfl).trans (Zc9 (by decide))) rfl).trans (ZX (by decide))) rfl;refine(Za x8).trans ((Za x9).trans ?_);by_cases hr:r/26%4=1
 . rw[if_pos hr];exact(Za ((Zj (Zi tt (decide_eq_true hr))).trans ((Za (Zn (g3 _))).trans rfl))).trans (ZpY ⟨w3.1,by have:=w3.2;lia⟩ hz)
 . rw[if_neg hr];exact(Za ((Zg (Zi tt (decide_eq_false hr))).trans rfl)).trans (ZpY ⟨v2.1,by have:=v2.2;lia⟩ hz)
theorem ZmE(hb:Wl 8 b):∀(ks:List Int) (fo:List Str) (k sg wd:Option D),fo.length+ks.length<=100->(∀c∈ks,0<=c/\c<100)->∃k' gD gA,
 ZJ M (.nm 6) (xs2 U ZuO) (ks.map D.int) (vn a l p r b h.length k sg wd) (h++[.lst (fo.map .str)])
  = .ok (.nx,vn a l p r b h.length k' gD gA) (h++[.lst ((fo++ks.map (nm b l p r)).map .str)])
 |[],fo,k,sg,wd,h2,h3=>⟨k,sg,wd,by rw[Oy,Oy,Ys];rfl⟩
 |c::cs,fo,k,sg,wd,h2,h3=>by rw[Os]at h2;obtain⟨k',gD,gA,e3⟩:=ZmE (U:=U) (h:=h) (a:=a) (l:=l) (p:=p) (r:=r) hb cs (fo++[nm b l p r c]) (J (.int c)) (J (.str (lt1 ((r+5*c)%26)))) (J (.str (nm b l p r c))) (by rw[OA,List.length_singleton];lia) (λz hz=>h3 z (.tail _ hz));refine⟨k',gD,gA,(ZfZ rfl (ZwS hb (h3 c (.head _)) (by rw[Yt];lia))).trans ?_⟩;rw[List.map_append,Oz]at e3;exact e3
def ZuT:∀k∈[[102,110],[114,101,99],[99,97,108,108],[105,102]],∀l∈[[102,110],[114,101,99],[99,97,108,108],[105,102],YK k.length 113],k=l\/k.length≠l.length\/∀i,i<4->∃j,j<4/\j≠i/\k[j]?≠l[j]? := by decide +kernel
def ZmH(ne:x≠y)(a:List Nat)(h:a++x::b∈[[102,110],[114,101,99],[99,97,108,108],[105,102]]):a++y::b ∉ [[102,110],[114,101,99],[99,97,108,108],[105,102]]/\a++y::b≠YK (a++x::b).length 113:=by
 have l4:(a++x::b).length<=4:=by
  have:∀k∈[[102,110],[114,101,99],[99,97,108,108],[105,102]],k.length<=4:=by decide
  exact this _ h
 have sl:(a++x::b).length=(a++y::b).length:=by simp
 have no:∀l∈[[102,110],[114,101,99],[99,97,108,108],[105,102],YK (a++x::b).length 113],a++y::b≠l:=λl hl e=>by
  rcases ZuT _ h l hl with q|q|q
  . rw[<-e]at q;exact ne (List.cons.inj (List.append_cancel_left q)).1
  . exact q (by rw[<-e];exact sl)
  . obtain⟨j,_,nj,d⟩:=q a.length (by simp at l4;lia);rw[<-e]at d;rcases Nat.lt_or_ge j a.length with z|z
    . exact d (by rw[Oe z,Oe z])
    . rw[Om z,Om z]at d;obtain⟨m,hm⟩:∃m,j-a.length=m+1:=⟨j-a.length-1,by lia⟩
      rw[hm]at d;exact d rfl
 refine⟨λm=>no _ (Yr [YK (a++x::b).length 113] m) rfl,no _ (Ov [[102,110],[114,101,99],[99,97,108,108],[105,102]] (Ox.mpr rfl))⟩
def Zp6:w∈[O "fn",O "rec",O "call",O "if"]↔w.cps.toList∈[[102,110],[114,101,99],[99,97,108,108],[105,102]]:=by
 have e:[[102,110],[114,101,99],[99,97,108,108],[105,102]]=[O "fn",O "rec",O "call",O "if"].map (·.cps.toList):=by decide +kernel
 rw[e];refine⟨λh=>List.mem_map_of_mem h,λh=>?_⟩;obtain⟨v,hv,q⟩:=List.mem_map.mp h;have:v=w:=by obtain⟨⟨v⟩⟩:=v;obtain⟨⟨w⟩⟩:=w;cases q;rfl
 exact this▸hv
def ZjK:∀n,(ZfM (O "q") n).cps.toList=YK n 113
 |n=>by
  have:∀(n:Nat) (a:Array Nat),((YK n (O "q").cps).foldl (·++·) a).toList=a.toList++YK n 113:=by
   intro n;induction n with
   |zero=>intro a;simp
   |succ n ih=>intro a;rw[List.replicate_succ,Wr,ih,Array.toList_append,Oz,List.replicate_succ];rfl
  have q:=this n #[];simpa[ZfM]using q
def nq(hv:v.cps.toList=a++x::b)(hw:w.cps.toList=a++y::b)(ne:x≠y):nmQ v≠nmQ w:=by
 have hl:v.length=(a++x::b).length/\w.length=(a++y::b).length:=by rw[<-hv,<-hw];exact⟨by simp[Str.length],by simp[Str.length]⟩
 unfold nmQ;intro e;have e':=congrArg (·.cps.toList) e;simp only[Zp6]at e';split at e'
 . rename_i kv;rw[hv]at kv;obtain⟨k1,k2⟩:=ZmH ne a kv;rw[if_neg (by rw[hw];exact k1),ZjK,hw,hl.1]at e';exact k2 e'.symm
 . split at e'
   . rename_i kw;rw[hw]at kw;obtain⟨k1,k2⟩:=ZmH (YL ne) a kw;rw[ZjK,hv,hl.2]at e';exact k2 e'
   . rw[hv,hw]at e';have:=List.append_cancel_left e';exact ne (List.cons.inj this).1
def Zmy(w:Str):(nmQ w).length=w.length:=by
 unfold nmQ;split
 . rw[Zfd,show(O "q").length=1 by decide +kernel,Nat.mul_one]
 . rfl
def Zr7:∀i j:Fin 26,ltr (i.val:Int)=ltr (j.val:Int)->i=j:=by decide +kernel
theorem ZwI(hb:b.length=8)(hc:0<=c/\c<5)(hd:0<=d/\d<5)(ne:c≠d):nm b l p r c≠nm b l p r d:=by
 unfold nm nmW;split
 . intro e;have e':=congrArg Str.length e;have len:∀ z:Int,0<=z/\z<5->(Yp b M (J (8-z))).length=(8-z).toNat:=λz hz=>by
     have h8:b.cps.toList.length=8:=by simpa [Str.length] using hb
     rw [StrLaws.sliceText_to ⟨by lia,by lia⟩];show (List.take (8-z-0).toNat (List.drop 0 b.cps.toList)).toArray.size=_;rw [Of,List.length_take,List.drop_zero,h8]
     lia
   rw [Zmy,Zmy,len c hc,len d hd] at e'
   lia
 . refine nq (a:=(Yp b M (J p)).cps.toList) (b:=(Yp b (J (p+1)) (J l)).cps.toList) (x:=ltr ((r+5*c)%26)) (y:=ltr ((r+5*d)%26)) ?_ ?_ ?_
   . show (_++#[ltr ((r+5*c)%26)]++_:Array Nat).toList=_;simp
   . show (_++#[ltr ((r+5*d)%26)]++_:Array Nat).toList=_;simp
   . intro e;have q:=Zr7 ⟨((r+5*c)%26).toNat,by lia⟩ ⟨((r+5*d)%26).toNat,by lia⟩ (by
       show ltr (((r+5*c)%26).toNat:Int)=ltr (((r+5*d)%26).toNat:Int);rw [Int.toNat_of_nonneg (by lia),Int.toNat_of_nonneg (by lia)];exact e)
     have q:=Fin.mk.inj q
     lia
def ZpO(hb:b.length=8):(([0,1,2,3,4]:List Int).map (nm b l p r)).Nodup:=by
 refine List.pairwise_map.mpr (List.Pairwise.imp_of_mem (R:=λx y=>x≠y) (λ{x y} hx hy ne=>ZwI hb ?_ ?_ ne) (by decide))
 . simp at hx;lia
 . simp at hy;lia
def Zrk(H:Mkr P)(n:Nat)(v:Int)(h:Hd):∃ns:List Str,ns.length=5/\(∀x∈ns,Wl 20 x)/\ns.Nodup/\run P (n+1) (O "_law_names") [.int v] h=.ok (.ref h.length) (h++[.lst (ns.map .str)]):=by
 rw[Zf H.names rfl];have u8:ZP 0 8=[0,1,2,3,4,5,6,7].map D.int:=by rfl
 have u5:ZP 0 5=[0,1,2,3,4].map D.int:=by rfl
 have m8:opB .Mod (.int v) (.int 8) h=.ok (.int (v%8)) h:=ZX (by decide);have d8:opB .FloorDiv (.int v) (.int 8) h=.ok (.int (v/8)) h:=Zc9 (by decide);have mp:opB .Mod (.int (v/8)) (.int (1+v%8)) h=.ok (.int (v/8%(1+v%8))) h:=ZX (by lia);have nh:opB .FloorDiv (.int v) (.int 64) h=.ok (.int (v/64)) h:=Zc9 (by decide);obtain⟨r',b,k',hb,mI,e1⟩:=Zp5 (U:=⟨P.G,P.GD,run P n,P.L⟩) (h:=h) (a:=J (.int v)) (l:=J (.int (1+v%8))) (p:=J (.int (v/8%(1+v%8)))) (f:=M) (sg:=M) (wd:=M) [0,1,2,3,4,5,6,7] (v/64) (O "") 0 M ⟨by decide +kernel,by decide +kernel⟩ (by decide +kernel) (by decide);obtain⟨k2,gD,gA,e2⟩:=ZmE (U:=⟨P.G,P.GD,run P n,P.L⟩) (h:=h) (a:=J (.int v)) (l:=1+v%8) (p:=v/8%(1+v%8)) (r:=r') hb [0,1,2,3,4] [] k' M M (by decide) (by decide);refine⟨[0,1,2,3,4].map (nm b (1+v%8) (v/8%(1+v%8)) r'),rfl,λx hx=>?_,ZpO mI,?_⟩
 . obtain⟨c,_,rfl⟩:=List.mem_map.mp hx;exact ZwH hb _ _ _ _
 generalize nm b (1+v%8) (v/8%(1+v%8)) r'=F at e2 ⊢;simp only[Oy,OB]at e2;have s8:ZbW 8=Wx:=by decide
 have s5:ZbW 5=Wx:=by decide
 unfold ZD at e1;unfold vn ZuO ZuM ZuQ ZuP ZuL ZwQ ZuK ZwR ZuN ZD at e2;rw[<-u8]at e1;rw[<-u5]at e2
 try simp at e1
 try simp at e2
 simp[ZdU,Zgq,ZE,m8,d8,mp,nh,s8,s5,e1,e2,YC]
end Gn
end
namespace Gn
open PySem L2 IV
set_option tactic.hygienic false
noncomputable abbrev Scp:=List (Str×Str)
noncomputable def pairOf(p:Str×Str):D:=.tup [.str p.1,.str p.2]
def Zoo(h:Hd)(k:Nat)(sc:Scp):Prop:=h[k]?=J (.lst (sc.map pairOf))
structure KnOk(sc:Scp)(kn:List (Key×D)):Prop where
 key:∀p∈kn,∃x,p.1=YE x/\x∈sc.map (·.1)
 val:∀p∈kn,∃s,p.2=D.str s
def ZjU(h:p∈putD kn k v):p∈kn\/p=(k,v):=by
 unfold putD at h;split at h
 . obtain⟨q,hq,e⟩:=List.mem_map.mp h;split at e
   . rename_i ek;right;rw[<-e,ek]
   . left;rw[<-e];exact hq
 . rcases OD.mp h with z|z
   . exact .inl z
   . exact .inr (Ox.mp z)
def Zpj:(putD kn k v).length<=kn.length+1:=by unfold putD;split<;>simp
def Zrp(hz:kn.length<1000):ZbT (.ref h.length) (.str x) v (h++[.dic kn])=.ok () (h++[.dic (putD kn (.inr x) v)]):=by simp only[ZbT,ZbK,keyOf];rw[if_pos (by rw[YC];lia)];simp
theorem ZmC(hs:Zoo h k sc0):∀(sc:Scp) (kn:List (Key×D)) (a b:Option D),(∀p∈sc,p∈sc0)->KnOk sc0 kn->kn.length+sc.length<=500->∃fK a' b',KnOk sc0 fK/\fK.length<=kn.length+sc.length /\
 ZJ (J (k,sc0.map pairOf)) (.two 3 4) (xs2 U (.cons (.put (.var 2) (.var 3) (.var 4)) .nil)) (sc.map pairOf) [J (.ref k),w,J (.ref h.length),a,b] (h++[.dic kn])
  = .ok (.nx,[J (.ref k),w,J (.ref h.length),a',b']) (h++[.dic fK])
 |[],kn,a,b,R,h2,h3=>by
  refine⟨kn,a,b,h2,by simp,?_⟩;have:(h++[DO.dic kn])[k]?=J (.lst (sc0.map pairOf)):=by rw[Oe (ZL hs)];exact hs
  simp[ZJ,Wk.stays,this]
 |(x,s)::sc,kn,a,b,R,h2,h3=>by
  simp only[Os]at h3;have st:(h++[DO.dic kn])[k]?=J (.lst (sc0.map pairOf)):=by rw[Oe (ZL hs)];exact hs
  have hk:KnOk sc0 (putD kn (.inr x) (.str s)):=by
   refine⟨λp hp=>?_,λp hp=>?_⟩
   . rcases ZjU hp with z|rfl
     . exact h2.key p z
     . exact⟨x,rfl,List.mem_map.mpr ⟨(x,s),R _ (by simp),rfl⟩⟩
   . rcases ZjU hp with z|rfl
     . exact h2.val p z
     . exact⟨s,rfl⟩
  have pl:=Zpj (kn:=kn) (k:=.inr x) (v:=.str s);obtain⟨fK,a',b',q1,q2,e⟩:=ZmC (U:=U) (w:=w) hs sc (putD kn (.inr x) (.str s)) (J (.str x)) (J (.str s)) (λp hp=>R p (by simp[hp])) hk (by lia);refine⟨fK,a',b',q1,by simp only[Os];lia,?_⟩;rw[Op,ZJ];simp only[Wk.stays,st,decide_true,if_true];have e2:=Zrp (h:=h) (kn:=kn) (x:=x) (v:=.str s) (by lia);simp[pairOf,e2];simpa[pairOf]using e
def find_key(hx:YE x∈kn.map (·.1)):∃v,ZbA kn (.inr x)=J v/\(YE x,v)∈kn:=by
 induction kn with
 |nil=>simp at hx
 |cons p r ih=>
  unfold ZbA;by_cases e:p.1=YE x
  . refine⟨p.2,?_,?_⟩
    . simp[Ws,e]
    . rw[<-e];exact Oi
  . obtain⟨v,R,h2⟩:=ih (by simpa[YL e]using hx);refine⟨v,?_,Oh _ h2⟩;simpa[Ws,e,ZbA]using R
theorem ZmI{sc:Scp}:∀{kn:List (Key×D)},(∀p∈kn,∃x,p.1=YE x/\x∈sc.map (·.1))->∃ss,Zep kn=J ss/\ss.length=kn.length/\(∀x∈ss,x∈sc.map (·.1)/\YE x∈kn.map (·.1))
 |[],_=>⟨[],rfl,rfl,by simp⟩
 |(k,v)::r,h=>by
  obtain⟨x,e,hx⟩:=h (k,v) (by simp);cases e;obtain⟨ss,e1,e2,e3⟩:=ZmI (kn:=r) λp hp=>h p (by simp[hp]);refine⟨x::ss,by rw[Zep,e1];rfl,by simp[e2],λy hy=>?_⟩;rcases O3.mp hy with rfl|hy
  . exact⟨hx,by simp⟩
  . exact⟨(e3 y hy).1,by simp[(e3 y hy).2]⟩
theorem ZlA{U:Tb}{so:List Str}(hv:∀p∈kn,∃s,p.2=D.str s):∀(xs:List Str) (ag:List Str),(∀x∈xs,YE x∈kn.map (·.1))->ag.length+xs.length<=1000->∃ys,(∀y∈ys,y∈xs) /\
 ZV (J (h.length+1,so.map D.str)) (.nm 0) (tsto U (J (.ex (.cmp .Eq (.ix (.var 2) (.var 0)) (.var 1))))) (ev U (.var 0)) (xs.map D.str) [M,J (.str w),J (.ref h.length)] (ag.map .str) (h++[.dic kn,.lst (so.map .str)])
  = .ok ((ag++ys).map .str) (h++[.dic kn,.lst (so.map .str)])
 |[],ag,R,h2=>⟨[],by simp,by simp[ZV,Wk.stays]⟩
 |x::xs,ag,R,h2=>by
  simp only[Os]at h2;obtain⟨v,e1,hm⟩:=find_key (R x (by simp));obtain⟨s,rfl⟩:∃s,v=D.str s:=hv _ hm;have ix:ZbD U.GD (.ref h.length) (.str x) (h++[.dic kn,.lst (so.map .str)])=.ok (.str s) (h++[.dic kn,.lst (so.map .str)]):=by simp[ZbD,dicOf,e1]
  have hz:ag.length<sizeLine:=by rw[YC];lia
  by_cases hw:s=w
  . obtain⟨ys,q1,q2⟩:=ZlA (U:=U) (h:=h) (w:=w) (so:=so) hv xs (ag++[x]) (λy hy=>R y (by simp[hy])) (by simp;lia);refine⟨x::ys,λy hy=>?_,?_⟩
    . rcases O3.mp hy with rfl|hy
      . simp
      . simp[q1 y hy]
    . rw[Op,Z4];simp at q2;simp[Wk.stays,hz,ix,hw,q2]
  . obtain⟨ys,q1,q2⟩:=ZlA (U:=U) (h:=h) (w:=w) (so:=so) hv xs ag (λy hy=>R y (by simp[hy])) (by lia);refine⟨ys,λy hy=>by simp[q1 y hy],?_⟩;rw[Op,Z4];simp at q2;simp[Wk.stays,hz,ix,hw,q2]
def Zri{P:Pg}(H:Mkr P)(n:Nat){sc:Scp}(w:Str)(hs:Zoo h k sc)(hl:sc.length<=60)(hok:∀p∈sc,Yo p.1=Wx):∃(ys:List Str) (g:Hd),(∀y∈ys,y∈sc.map (·.1))/\g.length=2 /\
 run P (n+1) (O "_law_there") [.ref k,.str w] h=.ok (.ref (h.length+2)) (h++g++[.lst (ys.map .str)]):=by
 rw[Zf H.there rfl];obtain⟨kn,a',b',hk,j6,e1⟩:=ZmC (U:=⟨P.G,P.GD,run P n,P.L⟩) (w:=J (.str w)) hs sc [] M M (λ_ hp=>hp) ⟨by simp,by simp⟩ (by simp;lia);obtain⟨ss,e2,e3,e4⟩:=ZmI hk.key;have all:ss.all Yo=Wx:=by rw[OC];intro x hx;obtain⟨p,hp,rfl⟩:=List.mem_map.mp (e4 x hx).1;exact hok p hp
 have perm:=Zel ss;obtain⟨ys,q1,q2⟩:=ZlA (U:=⟨P.G,P.GD,run P n,P.L⟩) (h:=h) (kn:=kn) (w:=w) (so:=ZcT ss) hk.val (ZcT ss) [] (λx hx=>(e4 x (perm.mem_iff.mp hx)).2) (by rw[perm.length_eq];simp at j6 ⊢;lia);refine⟨ys,[.dic kn,.lst ((ZcT ss).map .str)],λy hy=>(e4 y (perm.mem_iff.mp (q1 y hy))).1,rfl,?_⟩;have i6:ZbO P.GD .srt [.ref h.length] (h++[.dic kn])=.ok (.ref (h.length+1)) (h++[.dic kn,.lst ((ZcT ss).map .str)]):=by show ZfF P.GD [.ref h.length] (h++[.dic kn])=_;simp only[ZfF,dicOf,ZbK,Yz,e2];rw[if_pos ⟨by simp at j6;lia,all⟩];simp
 have dF:Zbg (.ref k) (h++[DO.dic []])=J ⟨J (k,sc.map pairOf),sc.map pairOf⟩:=by
  have:(h++[DO.dic []])[k]?=J (.lst (sc.map pairOf)):=by rw[Oe (ZL hs)];exact hs
  simp[Zbg,this]
 have dE:Zbg (.ref (h.length+1)) (h++[DO.dic kn,.lst ((ZcT ss).map .str)])=J ⟨J (h.length+1,(ZcT ss).map .str),(ZcT ss).map .str⟩:=by simp[Zbg]
 simp at q2 e1;simp[ZdT,Zgp,ZE,ZdN,ZeR,dF,e1,i6,dE,Zc2,q2]
set_option tactic.hygienic true
section
structure Ctx(cs:List Int)(ns:List Str)(h:Hd)(i j m k:Nat)(sc:Scp)(a b:Int):Prop where
 st:St3 h i j cs a b
 nm:h[m]?=J (.lst (ns.map .str))
 n5:ns.length=5
 nok:∀x∈ns,Wl 20 x
 nd:ns.Nodup
 sca:Zoo h k sc
 sco:∀p∈sc,Wl 20 p.1
 im:i≠m
 ik:i≠k
 ab:0<=a
variable {P:Pg}{cs:List Int}{ns:List Str}{h h':Hd}{i j m k:Nat}{sc:Scp}{a b a' b':Int}
def Ctx.up(c:Ctx cs ns h i j m k sc a b)(u:Up i h h')(st:St3 h' i j cs a' b')(ab:0<=a'):Ctx cs ns h' i j m k sc a' b':=⟨st,u.at c.nm (YL c.im),c.n5,c.nok,c.nd,u.at c.sca (YL c.ik),c.sco,c.im,c.ik,ab⟩
def St3.app(s:St3 h i j cs a b):St3 (h++g) i j cs a b:=⟨by rw[Oe (ZL s.1)];exact s.1,by rw[Oe (ZL s.2.1)];exact s.2.1,s.2.2⟩
theorem Ctx.app(c:Ctx cs ns h i j m k sc a b):Ctx cs ns (h++g) i j m k sc a b:=c.up Up.app c.st.app c.ab
def Ctx.name(c:Ctx cs ns h i j m k sc a b)(v:Int)(h0:0<=v)(h5:v<5):∃x,ZbD GD (.ref m) (.int v) h=.ok (.str x) h/\Wl 20 x/\ns[v.toNat]?=J x:=by
 obtain⟨q,rfl⟩:∃q:Nat,v=q:=⟨v.toNat,by lia⟩
 have hq:q<ns.length:=by have:=c.n5;lia
 refine⟨ns[q],?_,c.nok _ (List.getElem_mem hq),Og hq⟩;rw[ZZ c.nm,IV.Zbz,O2,Og hq];rfl
noncomputable def A(r:Nat):Int:=4^(r+1)
def ZkQ(r:Nat):0<A r:=Int.pow_pos (by decide)
def Zvx(r:Nat):A (r+1)=4*A r:=by unfold A;rw[Int.pow_succ];lia
inductive Made(cs:List Int)(h:Hd)(i j:Nat)(sc:Scp)(a mx:Int)(dm:Nat)(r:qe D):Prop
 |mk (t:T) (h':Hd) (a' b':Int) (e:r=.ok (T.d t) h') (u:Up i h h') (s:St3 h' i j cs a' b') (l1:a<=a') (l2:a'<=a+mx) (c:Cl (sc.map (·.1)) t) (p:dep t<=dm)
def Znf(P:Pg)(r n0:Nat):Prop:=∀(n:Nat) (cs:List Int) (ns:List Str) (h:Hd) (i j m k:Nat) (sc:Scp) (a b:Int) (w:Str) (room:Int),room<=r->Ctx cs ns h i j m k sc a b->sc.length+2*r<=50->a+A r<2^50 ->
 Made cs h i j sc a (A r) (3*r+3) (run P (n+n0) (O "_law_any") [.str w,.ref k,.ref i,.ref m,.int room] h)
def ZqT(H:Mkr P)(n:Nat)(c:Ctx cs ns h i j m k sc a b)(w:Str)(room:Int)(hl:sc.length<=50)(ha:a<2^50)(T1 T2 T3:Option D):∃(v:Int) (w':Str) (ys:List Str) (h':Hd) (l:Nat),
 xs2 ⟨P.G,P.GD,run P (n+2),P.L⟩ (.cons ZbJ (.cons Zct (.cons ZbI (.cons Zcs (.cons ZbH .nil))))) [J (.str w),J (.ref k),J (.ref i),J (.ref m),J (.int room),T1,T2,T3,M,M] h
  = .ok (.nx,[J (.str w'),J (.ref k),J (.ref i),J (.ref m),J (.int room),J (.int v),J (.int (v/87)),J (.ref l),M,M]) h'/\Up i h h'/\Ctx cs ns h' i j m k sc (a+1) (b-1)/\h'[l]?=J (.lst (ys.map .str))/\(∀y∈ys,y∈sc.map (·.1)):=by
 have i1:=c.st.1;have lt:=ZL i1;have p1:ZbT (.ref i) (.int 2) (.int (b-1)) h=.ok () (h.set i (.lst [.ref j,.int a,.int (b-1)])):=by simp only[ZbT,i1];rfl
 have s1:St3 (h.set i (.lst [.ref j,.int a,.int (b-1)])) i j cs a (b-1):=⟨by rw[Ol lt],by rw[Oc c.st.2.2];exact c.st.2.1,c.st.2.2⟩
 have c1:=c.up Up.set s1 c.ab;obtain⟨v,e2,_⟩:=Zk9 H n s1 ⟨c.ab,ha⟩;have lt1:i<(h.set i (.lst [.ref j,.int a,.int (b-1)])).length:=by simpa using lt
 have s2:St3 ((h.set i (.lst [.ref j,.int a,.int (b-1)])).set i (.lst [.ref j,.int (a+1),.int (b-1)])) i j cs (a+1) (b-1):=⟨by rw[Ol lt1],by rw[Oc c.st.2.2];exact s1.2.1,c.st.2.2⟩
 have c2:=c1.up Up.set s2 (by have:=c.ab;lia);generalize hh2:(h.set i (.lst [.ref j,.int a,.int (b-1)])).set i (.lst [.ref j,.int (a+1),.int (b-1)])=h2 at e2 s2 c2;have u2:Up i h h2:=hh2▸Up.set.trans Up.set;have lz:∀h,opB .Mod (.int v) (.int 29) h=.ok (.int (v%29)) h:=λh=>ZX (by decide);have ni:∀h,opB .FloorDiv (.int v) (.int 29) h=.ok (.int (v/29)) h:=λh=>Zc9 (by decide);have m3:∀h,opB .Mod (.int (v/29)) (.int 3) h=.ok (.int (v/29%3)) h:=λh=>ZX (by decide);have ng:∀h,opB .FloorDiv (.int v) (.int 87) h=.ok (.int (v/87)) h:=λh=>Zc9 (by decide);have mj:ZbD P.GD (.ref i) (.int 2) h=.ok (.int b) h:=by rw[ZZ i1];simp
 have fB:∃(w':Str) (h3:Hd),xs1 ⟨P.G,P.GD,run P (n+2),P.L⟩ ZbI [J (.str w),J (.ref k),J (.ref i),J (.ref m),J (.int room),J (.int v),T2,T3,M,M] h2
  = .ok (.nx,[J (.str w'),J (.ref k),J (.ref i),J (.ref m),J (.int room),J (.int v),T2,T3,M,M]) h3/\Up i h2 h3/\Ctx cs ns h3 i j m k sc (a+1) (b-1):=by
  have tt:tst (P.tbl (n+2)) (.ex (.cmp .Eq (.bin .Mod (.var 5) (.ci 29)) (.ci 0))) [J (.str w),J (.ref k),J (.ref i),J (.ref m),J (.int room),J (.int v),T2,T3,M,M] h2=.ok (Wz (v%29=0)) h2:=ZeW ((Zh rfl rfl).trans (lz h2)) rfl;by_cases hv:v%29=0
  . have go:∀w':Str,atI [D.str (O "n"),.str (O "f"),.str (O "g")] (v/29%3)=J (D.str w')->xs1 (P.tbl (n+2)) ZbI [J (.str w),J (.ref k),J (.ref i),J (.ref m),J (.int room),J (.int v),T2,T3,M,M] h2
     = .ok (.nx,[J (.str w'),J (.ref k),J (.ref i),J (.ref m),J (.int room),J (.int v),T2,T3,M,M]) (h2++[.lst [.str (O "n"),.str (O "f"),.str (O "g")]]):=λw' e=>
     (Zj (Zi tt (decide_eq_true hv))).trans ((Za (Zn (ZkB e rfl ((Zh (x:=.int (v/29)) ((Zh rfl rfl).trans (ni _)) rfl).trans (m3 _)) (by decide)))).trans rfl)
    have q:v/29%3=0\/v/29%3=1\/v/29%3=2:=by lia
    rcases q with q|q|q
    . exact⟨O "n",_,go _ (by rw[q];rfl),Up.app,c2.app⟩
    . exact⟨O "f",_,go _ (by rw[q];rfl),Up.app,c2.app⟩
    . exact⟨O "g",_,go _ (by rw[q];rfl),Up.app,c2.app⟩
  . exact⟨w,h2,(Zg (Zi tt (decide_eq_false hv))).trans rfl,Up.refl,c2⟩
 obtain⟨w',h3,e3,u3,c3⟩:=fB;obtain⟨ys,g,hy,hg,e5⟩:=Zri H (n+1) w' c3.sca (by lia) (λp hp=>(c3.sco p hp).1);refine⟨v,w',ys,h3++g++[.lst (ys.map .str)],h3.length+2,?_,(u2.trans u3).trans (Up.app.trans Up.app),c3.app.app,?_,hy⟩
 . have x1:xs1 ⟨P.G,P.GD,run P (n+2),P.L⟩ ZbJ [J (.str w),J (.ref k),J (.ref i),J (.ref m),J (.int room),T1,T2,T3,M,M] h=.ok (.nx,[J (.str w),J (.ref k),J (.ref i),J (.ref m),J (.int room),T1,T2,T3,M,M]) (h.set i (.lst [.ref j,.int a,.int (b-1)])):=by have q:ev (P.tbl (n+2)) (.bin .Sub (.ix (.var 2) (.ci 2)) (.ci 1)) [J (.str w),J (.ref k),J (.ref i),J (.ref m),J (.int room),T1,T2,T3,M,M] h=.ok (.int (b-1)) h:=(Zh (x:=.int b) ((Zr rfl rfl).trans mj) rfl).trans rfl;rw[ZbJ,ZlV];show(ev (P.tbl (n+2)) (.bin .Sub (.ix (.var 2) (.ci 2)) (.ci 1)) _ h).bnd _=_;rw[q];show(ZbT (.ref i) (.int 2) (.int (b-1)) h).bnd _=_;rw[p1];rfl
   have x2:xs1 ⟨P.G,P.GD,run P (n+2),P.L⟩ Zct [J (.str w),J (.ref k),J (.ref i),J (.ref m),J (.int room),T1,T2,T3,M,M] (h.set i (.lst [.ref j,.int a,.int (b-1)]))=.ok (.nx,[J (.str w),J (.ref k),J (.ref i),J (.ref m),J (.int room),J (.int v),T2,T3,M,M]) h2:=by exact Zn (Zt e2 rfl)
   have x4:∀q,xs1 ⟨P.G,P.GD,run P (n+2),P.L⟩ Zcs [J (.str w'),J (.ref k),J (.ref i),J (.ref m),J (.int room),J (.int v),q,T3,M,M] h3=.ok (.nx,[J (.str w'),J (.ref k),J (.ref i),J (.ref m),J (.int room),J (.int v),J (.int (v/87)),T3,M,M]) h3:=by exact λq=>Zn ((Zh rfl rfl).trans (ng _))
   have x5:xs1 ⟨P.G,P.GD,run P (n+2),P.L⟩ ZbH [J (.str w'),J (.ref k),J (.ref i),J (.ref m),J (.int room),J (.int v),J (.int (v/87)),T3,M,M] h3=.ok (.nx,[J (.str w'),J (.ref k),J (.ref i),J (.ref m),J (.int room),J (.int v),J (.int (v/87)),J (.ref (h3.length+2)),M,M]) (h3++g++[.lst (ys.map .str)]):=by simp only[ZbH,ZlU,Zjd,Zfv,ZH,Zjc,O0,OJ,Option.join_some,ofO_some,Zl,bind_ok,e5];rfl
   exact(Za x1).trans ((Za x2).trans ((Za e3).trans ((Za (x4 _)).trans ((Za x5).trans rfl))))
 . have:h3.length+2=(h3++g).length:=by simp[hg]
   rw[this];simp
end
set_option tactic.hygienic false
section
variable {P:Pg}{cs:List Int}{ns:List Str}{h h':Hd}{i j m k:Nat}{sc:Scp}{a b:Int}
theorem Cl.mono{sc aG:List Str}:∀ {t:T},(∀ x∈sc,x∈aG)->Cl sc t->Cl aG t
 |.num n,_,c=>c
 |.name x,s,c=>s x c
 |.fn x e,s,c=>⟨Cl.mono (t:=e) (λy hy=>by
     rcases O3.mp hy with z|z
     . rw [z];exact Oi
     . exact Oh _ (s y z)) c.1,c.2⟩
 |.rcc f x e,s,c=>⟨Cl.mono (t:=e) (λy hy=>by
     rcases O3.mp hy with z|z
     . rw [z];exact Oi
     . rcases O3.mp z with q|q
       . rw [q];exact Oh _ Oi
       . exact Oh _ (Oh _ (s y q))) c.1,c.2⟩
 |.call f e,s,c=>⟨Cl.mono s c.1,Cl.mono s c.2⟩
 |.iff p q r,s,c=>⟨Cl.mono s c.1,Cl.mono s c.2.1,Cl.mono s c.2.2⟩
 |.op w p q,s,c=>⟨Cl.mono s c.1,Cl.mono s c.2⟩
noncomputable def ZqY(z:Int):Wd:=if z=0 then .add else if z=1 then .sub else if z=2 then .mul else .lt
def wd4(z:Int)(h0:0<=z)(h4:z<4):atI [D.str (O "+"),.str (O "-"),.str (O "*"),.str (O "<")] z=J (.str (ZqY z).s):=by
 have:z=0\/z=1\/z=2\/z=3:=by lia
 rcases this with rfl|rfl|rfl|rfl<;>simp[ZqY,Wd.s]
noncomputable def me(rest:Int)(k i m:Nat)(room:Int)(a b c d:Option D):Ev:=[J (.int rest),J (.ref k),J (.ref i),J (.ref m),J (.int room),a,b,c,d]
def ZuC(H:Mkr P)(ih:Znf P r n0)(hn:1<=n0)(n:Nat)(c:Ctx cs ns h i j m k sc a b)(rest:Int)(room:Int)(hr:room<=r)(hl:sc.length+2*r<=50)(ha:a+2*A r<2^50):
 Made cs h i j sc a (2*A r) (3*r+4) (run P (n+n0+1) (O "_law_number") [.int rest,.ref k,.ref i,.ref m,.int room] h):=by
 have Ap:=ZkQ r;rw[ZgI H.number rfl];show Made cs h i j sc a (2*A r) (3*r+4) (Ze (xs2 (P.tbl (n+n0)) Zdj (me rest k i m room M M M M) h));have x1:∀h,xs1 (P.tbl (n+n0)) Zd5 (me rest k i m room M M M M) h=.ok (.nx,me rest k i m room (J (.int (rest%6))) M M M) h:=λh=>rfl;rw[Zdj,Za (x1 h)];obtain⟨n1,e1⟩:∃n1,n+n0=n1+1:=⟨n+n0-1,by lia⟩
 by_cases h0:rest%6=0
 . obtain⟨t,g,e2,ct,pt⟩:=ZiT H n1 (O "n") (rest/6) h (sc.map (·.1));refine⟨t,h++g,a,b,?_,Up.app,c.st.app,by lia,by lia,ct,by lia⟩;rw[<-e1]at e2;have x2:xs1 (P.tbl (n+n0)) Zci (me rest k i m room (J (.int (rest%6))) M M M) h=.ok (.rt t.d,me rest k i m room (J (.int (rest%6))) M M M) (h++g):=(Zj (Zi (ZeW rfl rfl) (decide_eq_true h0))).trans (Zd (Za0 e2 rfl rfl));rw[Zd x2];rfl
 . have x2:xs1 (P.tbl (n+n0)) Zci (me rest k i m room (J (.int (rest%6))) M M M) h=.ok (.nx,me rest k i m room (J (.int (rest%6))) M M M) h:=(Zg (Zi (ZeW rfl rfl) (decide_eq_false h0))).trans rfl;rw[Za x2];have lt:tst (P.tbl (n+n0)) (.ex (.cmp .Lt (.var 5) (.ci 3))) (me rest k i m room (J (.int (rest%6))) M M M) h=.ok (Wz (rest%6<3)) h:=rfl;by_cases h3:rest%6<3
   . obtain⟨t1,g1,a1,b1,e2,u1,s1,l1,l2,c1,p1⟩:=ih n cs ns h i j m k sc a b (O "n") room hr c hl (by lia);have cc:=c.up u1 s1 (by have:=c.ab;lia);obtain⟨t2,g2,a2,b2,e3,u2,s2,l3,l4,c2,p2⟩:=ih n cs ns (g1++[.lst [.str (O "+"),.str (O "-"),.str (O "*"),.str (O "<")]]) i j m k sc a1 b1 (O "n") room hr cc.app hl (by lia);refine⟨.op (ZqY (rest/6%4)) t1 t2,g2,a2,b2,?_,u1.trans (Up.app.trans u2),s2,by lia,by lia,⟨c1,c2⟩,by simp only[dep];lia⟩;have w4:=wd4 (rest/6%4) (by lia) (by lia);have x3:xs1 (P.tbl (n+n0)) Zch (me rest k i m room (J (.int (rest%6))) M M M) h=.ok (.rt (T.op (ZqY (rest/6%4)) t1 t2).d,me rest k i m room (J (.int (rest%6))) (J t1.d) M M) g2:=by refine(Zj (Zi lt (decide_eq_true h3))).trans ?_;refine(Za (ρ1:=me rest k i m room (J (.int (rest%6))) (J t1.d) M M) (R:=g1) (Za0 e2 rfl rfl)).trans ?_;exact Zd (Zu (Zan (Zc (ZkB w4 rfl rfl (by simp)) (Zc rfl (Zc (Zt e3 rfl) rfl))) (by simp)))
     rw[Zd x3];rfl
   . have w3:∃ws,(ws=O "f" \/ ws=O "g")/\atI [D.str (O "f"),.str (O "f"),.str (O "g")] (rest%6-3)=J (.str ws):=by
      have:rest%6-3=0\/rest%6-3=1\/rest%6-3=2:=by lia
      rcases this with q|q|q<;>rw[q]<;>simp
     obtain⟨ws,lF,w3⟩:=w3;obtain⟨t1,g1,a1,b1,e2,u1,s1,l1,l2,c1,p1⟩:=ih n cs ns (h++[.lst [.str (O "f"),.str (O "f"),.str (O "g")]]) i j m k sc a b ws room hr c.app hl (by lia);have cc:=c.app.up u1 s1 (by have:=c.ab;lia);have dd:∃aB,ZbD P.GD (.ref g1.length) (.str ws) (g1++[.dic [(.inr (O "f"),.str (O "n")),(.inr (O "g"),.str (O "f"))]])=.ok (.str aB) (g1++[.dic [(.inr (O "f"),.str (O "n")),(.inr (O "g"),.str (O "f"))]]):=by
      rcases lF with rfl|rfl
      . exact⟨O "n",by simp[ZbD,dicOf,ZbA]⟩
      . exact⟨O "f",by simp[ZbD,dicOf,ZbA]⟩
     obtain⟨aB,dd⟩:=dd;obtain⟨t2,g2,a2,b2,e3,u2,s2,l3,l4,c2,p2⟩:=ih n cs ns (g1++[.dic [(.inr (O "f"),.str (O "n")),(.inr (O "g"),.str (O "f"))]]) i j m k sc a1 b1 aB room hr cc.app hl (by lia);refine⟨.call t1 t2,g2,a2,b2,?_,Up.app.trans (u1.trans (Up.app.trans u2)),s2,by lia,by lia,⟨c1,c2⟩,by simp only[dep];lia⟩;have x3:xs1 (P.tbl (n+n0)) Zch (me rest k i m room (J (.int (rest%6))) M M M) h=.ok (.nx,me rest k i m room (J (.int (rest%6))) M M M) h:=(Zg (Zi lt (decide_eq_false h3))).trans rfl;have x4:xs1 (P.tbl (n+n0)) Zd4 (me rest k i m room (J (.int (rest%6))) M M M) h=.ok (.nx,me rest k i m room (J (.int (rest%6))) M (J (.str ws)) M) (h++[.lst [.str (O "f"),.str (O "f"),.str (O "g")]]):=Zn (i:=7) (ZkB w3 rfl rfl (by simp));have x5:xs1 (P.tbl (n+n0)) Zd3 (me rest k i m room (J (.int (rest%6))) M (J (.str ws)) M) (h++[.lst [.str (O "f"),.str (O "f"),.str (O "g")]])=.ok (.nx,me rest k i m room (J (.int (rest%6))) M (J (.str ws)) (J t1.d)) g1:=Za0 e2 rfl rfl;have p6:ev (P.tbl (n+n0)) (.ix (.dictl (.cons (.Ci_ "f") (.cons (.Ci_ "n") (.cons (.Ci_ "g") (.cons (.Ci_ "f") .nil))))) (.var 7)) (me rest k i m room (J (.int (rest%6))) M (J (.str ws)) (J t1.d)) g1=.ok (.str aB) (g1++[.dic [(.inr (O "f"),.str (O "n")),(.inr (O "g"),.str (O "f"))]]):=dd;have x6:xs1 (P.tbl (n+n0)) Zd2 (me rest k i m room (J (.int (rest%6))) M (J (.str ws)) (J t1.d)) g1=.ok (.rt (T.call t1 t2).d,me rest k i m room (J (.int (rest%6))) M (J (.str ws)) (J t1.d)) g2:=Zu (Zan (Zc rfl (Zc rfl (Zc ((Zvg (Zc p6 rfl)).trans e3) rfl))) (by simp));rw[Za x3,Za x4,Za x5,Zd x6];rfl
def Ctx.wider(c:Ctx cs ns h i j m k sc a b)(more:Scp)(hm:∀p∈more,Wl 20 p.1):Ctx cs ns (h++[.lst (more.map pairOf),.lst ((sc++more).map pairOf)]) i j m (h.length+1) (sc++more) a b:=by
 have c1:=c.app (g:=[.lst (more.map pairOf),.lst ((sc++more).map pairOf)]);refine⟨c1.st,c1.nm,c1.n5,c1.nok,c1.nd,by unfold Zoo;simp,λp hp=>?_,c1.im,?_,c1.ab⟩
 . rcases OD.mp hp with z|z
   . exact c.sco p z
   . exact hm p z
 . have:=ZL c.st.1
   lia
def Zji(c:Ctx cs ns h i j m k sc a b)(more:Scp)(hz:sc.length+more.length<=100):opB .Add (.ref k) (.ref h.length) (h++[.lst (more.map pairOf)])=.ok (.ref (h.length+1)) (h++[.lst (more.map pairOf),.lst ((sc++more).map pairOf)]):=by
 have hk:(h++[DO.lst (more.map pairOf)])[k]?=J (.lst (sc.map pairOf)):=by rw[Oe (ZL c.sca)];exact c.sca
 simp only[opB,ZsS,hk,ZbK];rw[if_pos (by simp;rw[YC];lia)];simp
def Zv0{sc:Scp}{x s:Str}:∀y∈(sc++[(x,s)]).map (·.1),y∈x::sc.map (·.1):=λy hy=>by
 rw[List.map_append]at hy;rcases OD.mp hy with z|z
 . exact Oh _ z
 . have:y=x:=by simpa using z
   rw[this];exact Oi
def unlike{ns:List Str}(n5:ns.length=5)(nd:ns.Nodup){x f:Str}{rest:Int}(ax:ns[(rest%5).toNat]?=J x)(af:ns[((rest%5+1+rest/15%4)%5).toNat]?=J f):f≠x:=λe=>by
 have q:=(List.getElem?_inj (i:=(rest%5).toNat) (j:=((rest%5+1+rest/15%4)%5).toNat) (by rw[n5];lia) nd).mp (by rw[ax,af,e])
 lia
noncomputable def fe(w:Str)(rest:Int)(k i m:Nat)(room:Int)(a b c d:Option D):Ev:=[J (.str w),J (.int rest),J (.ref k),J (.ref i),J (.ref m),J (.int room),a,b,c,d]
def Zw8{N:Nat}{s:Str}{w:Str}{rest:Int}{room:Int}{x:Str}{t1:T}{g1 R:Hd}(hc:opB .Add (.ref k) (.ref h.length) (h++[.lst ([(x,s)].map pairOf)])=.ok (.ref (h.length+1)) R)(e1:run P N (O "_law_any") [.str (O "n"),.ref (h.length+1),.ref i,.ref m,.int room] R=.ok t1.d g1):ev (P.tbl N) (.tupl (.cons (.Ci_ "fn") (.cons (.var 6) (.cons (.call (O "_law_any") (.cons (.Ci_ "n") (.cons (.bin .Add (.var 2) (.lstl (.cons (.tupl (.cons (.var 6) (.cons (.cst (.str s)) .nil))) .nil))) (.cons (.var 3) (.cons (.var 4) (.cons (.var 5) .nil)))))) .nil)))) (fe w rest k i m room (J (.str x)) M M M) h=.ok (T.fn x t1).d g1:=by have b:ev (P.tbl N) (.bin .Add (.var 2) (.lstl (.cons (.tupl (.cons (.var 6) (.cons (.cst (.str s)) .nil))) .nil))) (fe w rest k i m room (J (.str x)) M M M) h=.ok (.ref (h.length+1)) R:=(Zh (x:=.ref k) (y:=.ref h.length) (R:=h) (h2:=h++[.lst ([(x,s)].map pairOf)]) rfl rfl).trans hc;exact Zan (Zc rfl (Zc rfl (Zc ((Zvg (Zc rfl (Zc b rfl))).trans e1) rfl))) (by simp)
def Zu7(H:Mkr P){r n0:Nat}(ih:Znf P r n0)(n:Nat)(c:Ctx cs ns h i j m k sc a b)(w:Str)(rest:Int)(room:Int)(hr:room<=r)(hl:sc.length+2+2*r<=50)(ha:a+2*A r<2^50):
 Made cs h i j sc a (2*A r) (3*r+6) (run P (n+n0+1) (O "_law_function") [.str w,.int rest,.ref k,.ref i,.ref m,.int room] h):=by
 have Ap:=ZkQ r;have gh:=c.ab;rw[ZgI H.function rfl];obtain⟨x,ex,wx,ax⟩:=c.name (GD:=P.GD) (rest%5) (by clear ih ha gh hl hr;lia) (by clear ih ha gh hl hr;lia);show Made cs h i j sc a (2*A r) (3*r+6) (Ze (xs2 (P.tbl (n+n0)) (.cons Zbo (.cons Zar (.cons Zaq (.cons Zbn (.cons Zbm (.cons Zbl (.cons Zap (.cons Zao .nil)))))))) (fe w rest k i m room M M M M) h));have x1:xs1 (P.tbl (n+n0)) Zbo (fe w rest k i m room M M M M) h=.ok (.nx,fe w rest k i m room (J (.str x)) M M M) h:=by exact Zn (i:=6) ex
 rw[Za x1];by_cases hg:w=O "g"
 . have hc:=Zji c [(x,O "f")] (by simp;lia);obtain⟨t1,g1,a1,b1,e1,u1,s1,l1,l2,c1,p1⟩:=ih n cs ns _ i j m (h.length+1) (sc++[(x,O "f")]) a b (O "n") room hr (c.wider [(x,O "f")] (by simp[wx])) (by simp;lia) (by lia);refine⟨.fn x t1,g1,a1,b1,?_,Up.app.trans u1,s1,l1,by lia,⟨Cl.mono (t:=t1) Zv0 c1,wx⟩,by simp only[dep];lia⟩;have e:xs1 (P.tbl (n+n0)) Zar (fe w rest k i m room (J (.str x)) M M M) h=.ok (.rt (T.fn x t1).d,fe w rest k i m room (J (.str x)) M M M) g1:=by subst hg;exact(Zj rfl).trans (Zd (Zu (Zw8 hc e1)))
   rw[Zd e];rfl
 have x2:xs1 (P.tbl (n+n0)) Zar (fe w rest k i m room (J (.str x)) M M M) h=.ok (.nx,fe w rest k i m room (J (.str x)) M M M) h:=by exact(Zg (Zi (Zcd rfl rfl) (decide_eq_false hg))).trans rfl
 rw[Za x2];by_cases h3:rest/5%3=0
 . have hc:=Zji c [(x,O "n")] (by simp;lia);obtain⟨t1,g1,a1,b1,e1,u1,s1,l1,l2,c1,p1⟩:=ih n cs ns _ i j m (h.length+1) (sc++[(x,O "n")]) a b (O "n") room hr (c.wider [(x,O "n")] (by simp[wx])) (by simp;lia) (by lia);refine⟨.fn x t1,g1,a1,b1,?_,Up.app.trans u1,s1,l1,by lia,⟨Cl.mono (t:=t1) Zv0 c1,wx⟩,by simp only[dep];lia⟩;have e:xs1 (P.tbl (n+n0)) Zaq (fe w rest k i m room (J (.str x)) M M M) h=.ok (.rt (T.fn x t1).d,fe w rest k i m room (J (.str x)) M M M) g1:=(Zj (Zi (ZeW (x:=rest/5%3) rfl rfl) (decide_eq_true h3))).trans (Zd (Zu (Zw8 hc e1)));rw[Zd e];rfl
 have x3:xs1 (P.tbl (n+n0)) Zaq (fe w rest k i m room (J (.str x)) M M M) h=.ok (.nx,fe w rest k i m room (J (.str x)) M M M) h:=by exact(Zg (Zi (ZeW (x:=rest/5%3) rfl rfl) (decide_eq_false h3))).trans rfl
 obtain⟨f,ef,wf,af⟩:=c.name (GD:=P.GD) ((rest%5+1+rest/15%4)%5) (by clear ih ha gh hl hr;lia) (by clear ih ha gh hl hr;lia);have ln:f≠x:=unlike c.n5 c.nd ax af;have x4:xs1 (P.tbl (n+n0)) Zbn (fe w rest k i m room (J (.str x)) M M M) h=.ok (.nx,fe w rest k i m room (J (.str x)) (J (.str f)) M M) h:=by exact Zn (i:=7) ef
 have hc:=Zji c [(f,O "f"),(x,O "n")] (by simp;lia);have cw:=c.wider [(f,O "f"),(x,O "n")] (by simp[wx,wf]);have sub:∀y∈(sc++[(f,O "f"),(x,O "n")]).map (·.1),y∈x::f::sc.map (·.1):=λy hy=>by simp at hy ⊢;rcases hy with z|z|z<;>simp[z]
 generalize hh1:(h++[DO.lst ([(f,O "f"),(x,O "n")].map pairOf),.lst ((sc++[(f,O "f"),(x,O "n")]).map pairOf)])=R at hc cw;have ug:Up i h R:=by rw[<-hh1];exact Up.app
 have gS:R.length=h.length+2:=by rw[<-hh1];simp
 have x5:xs1 (P.tbl (n+n0)) Zbm (fe w rest k i m room (J (.str x)) (J (.str f)) M M) h=.ok (.nx,fe w rest k i m room (J (.str x)) (J (.str f)) (J (.ref (h.length+1))) M) R:=by exact Zn (i:=8) ((Zh (x:=.ref k) (y:=.ref h.length) (R:=h) (h2:=h++[.lst ([(f,O "f"),(x,O "n")].map pairOf)]) rfl rfl).trans hc)
 have x6:xs1 (P.tbl (n+n0)) Zbl (fe w rest k i m room (J (.str x)) (J (.str f)) (J (.ref (h.length+1))) M) R=.ok (.nx,fe w rest k i m room (J (.str x)) (J (.str f)) (J (.ref (h.length+1))) (J (T.call (.name f) (.op .sub (.name x) (.num 1))).d)) R:=by exact rfl
 rw[Za x3,Za x4,Za x5,Za x6];generalize bK:sc++[(f,O "f"),(x,O "n")]=sc1 at cw sub hh1;have jY:sc1.length=sc.length+2:=by rw[<-bK];simp
 clear x1 x2 x3 x4 x5 x6 hc hh1 bK ex ef;have last:∀(t1:T) (g1:Hd) (a1 b1:Int),Up i R g1->St3 g1 i j cs a1 b1->a<=a1->a1<=a+A r->Cl (x::f::sc.map (·.1)) t1->dep t1<=3*r+4 ->
  xs1 (P.tbl (n+n0)) Zap (fe w rest k i m room (J (.str x)) (J (.str f)) (J (.ref (h.length+1))) (J (T.call (.name f) (.op .sub (.name x) (.num 1))).d)) R=.ok (.nx,fe w rest k i m room (J (.str x)) (J (.str f)) (J (.ref (h.length+1))) (J t1.d)) g1 ->
  Made cs h i j sc a (2*A r) (3*r+6) (Ze (xs2 (P.tbl (n+n0)) (.cons Zap (.cons Zao .nil)) (fe w rest k i m room (J (.str x)) (J (.str f)) (J (.ref (h.length+1))) (J (T.call (.name f) (.op .sub (.name x) (.num 1))).d)) R)):=by
  intro t1 g1 a1 b1 u1 s1 l1 l2 c1 p1 x7;rw[Za x7];obtain⟨t2,g2,a2,b2,e2,u2,s2,l3,l4,c2,p2⟩:=ih n cs ns g1 i j m (h.length+1) sc1 a1 b1 (O "n") (room-1) (by clear ha;lia) (cw.up u1 s1 (by clear hl ha hr;lia)) (by clear ha hr;lia) (by clear hl hr;lia);refine⟨.rcc f x (.iff (.name x) t1 t2),g2,a2,b2,?_,ug.trans (u1.trans u2),s2,Int.le_trans l1 l3,by clear hl hr ha;lia,⟨⟨Oi,c1,Cl.mono sub c2⟩,ln,wf,wx⟩,by simp only[dep];clear hl hr ha;lia⟩;have e:xs1 (P.tbl (n+n0)) Zao (fe w rest k i m room (J (.str x)) (J (.str f)) (J (.ref (h.length+1))) (J t1.d)) g1=.ok (.rt (T.rcc f x (.iff (.name x) t1 t2)).d,fe w rest k i m room (J (.str x)) (J (.str f)) (J (.ref (h.length+1))) (J t1.d)) g2:=by exact Zu (Zan (Zc rfl (Zc rfl (Zc rfl (Zc (Zan (Zc rfl (Zc rfl (Zc rfl (Zc (Zt e2 rfl) rfl)))) (by simp)) rfl)))) (by simp))
  rw[Zd e];rfl
 by_cases q0:rest/60%3=0
 . obtain⟨t1,g1,a1,b1,e1,u1,s1,l1,l2,c1,p1⟩:=ih n cs ns R i j m (h.length+1) sc1 a b (O "n") room hr cw (by clear ha hr;lia) (by clear hl hr;lia);refine last t1 g1 a1 b1 u1 s1 l1 l2 (Cl.mono sub c1) (by lia) ?_;exact(Zj (Zi (ZeW (x:=rest/60%3) rfl rfl) (decide_eq_true q0))).trans (Za (Za0 e1 rfl rfl))
 . by_cases q1:rest/60%3=1
   . have w2:∃wd:Wd,atI [D.str (O "+"),.str (O "*")] (rest/180%2)=J (.str wd.s):=by
      have:rest/180%2=0\/rest/180%2=1:=by clear ih ha hl hr q0 q1;lia
      rcases this with z|z<;>rw[z]
      . exact⟨.add,by simp[Wd.s]⟩
      . exact⟨.mul,by simp[Wd.s]⟩
     obtain⟨wd,w2⟩:=w2;obtain⟨t1,g1,a1,b1,e1,u1,s1,l1,l2,c1,p1⟩:=ih n cs ns _ i j m (h.length+1) sc1 a b (O "n") (room-1) (by clear ha;lia) (cw.app (g:=[.lst [.str (O "+"),.str (O "*")]])) (by clear ha hr;lia) (by clear hl hr;lia);refine last (.op wd t1 (.call (.name f) (.op .sub (.name x) (.num 1)))) g1 a1 b1 (Up.app.trans u1) s1 l1 l2 ⟨Cl.mono sub c1,Oh _ Oi,Oi,by show(0:Int)<=1/\(1:Int)<1000000;decide⟩ (by simp only[dep];clear hl hr ha;lia) ?_;exact(Zg (Zi (ZeW (x:=rest/60%3) rfl rfl) (decide_eq_false q0))).trans (Za ((Zj (Zi (ZeW (x:=rest/60%3) rfl rfl) (decide_eq_true q1))).trans (Za (Zn (i:=9) (Zan (Zc (ZkB w2 rfl rfl (by simp)) (Zc (Zt e1 rfl) rfl)) (by simp))))))
   . refine last (.call (.name f) (.op .sub (.name x) (.num 1))) R a b Up.refl cw.st (Int.le_refl _) (by lia) ⟨Oh _ Oi,Oi,by show(0:Int)<=1/\(1:Int)<1000000;decide⟩ (by simp only[dep];lia) ?_;exact(Zg (Zi (ZeW (x:=rest/60%3) rfl rfl) (decide_eq_false q0))).trans (Za ((Zg (Zi (ZeW (x:=rest/60%3) rfl rfl) (decide_eq_false q1))).trans rfl))
theorem Zmn(rd:Nat->Option PyData):∀ys:List Str,D.pys rd (ys.map D.str)=J (ys.map PyData.str)
 |[]=>rfl
 |y::ys=>by rw[Op,D.pys,Zmn rd ys];rfl
def ZuD{l:Nat}{ys:List Str}(e:h[l]?=J (.lst (ys.map .str))):Zc8 Wx (.ref l) (.ref h.length) (h++[.lst []])=.ok (.bl (!ys.isEmpty)) (h++[.lst []]):=by
 have e1:(h++[DO.lst []])[l]?=J (.lst (ys.map .str)):=by rw[Oe (ZL e)];exact e
 have p1:Zgv (h++[.lst []]) (.ref l)=J (.list (ys.map .str)):=by show Zgu (h++[.lst []]) 4 l=_;rw[Zgu,e1];simp[Zmn]
 have p2:Zgv (h++[DO.lst []]) (.ref h.length)=J (.list []):=by show Zgu (h++[.lst []]) 4 h.length=_;rw[Zgu,ZbK];rfl
 unfold IV.Zc8;rw[p1,p2];simp only;have d0:min (PyData.list (ys.map .str)).depth (PyData.list []).depth<=1100:=by
  have:(PyData.list []).depth<=1:=by decide +kernel
  lia
 rw[if_pos d0];cases ys with
 |nil=>rfl
 |cons y r=>rfl
def Ze5{U:Tb}{qe:Sxs}{ρ':Ev}{h':Hd}{s:Sx}{A B_:Sxs}{S:Ev}{h:Hd}(e:xs2 U (.cons s A) S h=.ok (.nx,ρ') h')(q:∀ρ1 R,xs2 U A ρ1 R=.ok (.nx,ρ') h'->xs2 U B_ ρ1 R=xs2 U qe ρ' h'):xs2 U (.cons s B_) S h=xs2 U qe ρ' h':=by
 rw[ZgQ]at e ⊢;cases r1:xs1 U s S h with
 |bad=>rw[r1]at e;cases e
 |exc c R=>rw[r1]at e;cases e
 |ok p R=>
  rw[r1]at e;obtain⟨fl,ρ1⟩:=p;cases fl with
  |nx=>exact q ρ1 R e
  |bk=>cases e
  |ct=>cases e
  |rt d=>cases e
def ZvB(qe:Sxs)(e:xs2 U (.cons s1 (.cons s2 (.cons s3 (.cons s4 (.cons s5 .nil))))) S h=.ok (.nx,ρ') h'):xs2 U (.cons s1 (.cons s2 (.cons s3 (.cons s4 (.cons s5 qe))))) S h=xs2 U qe ρ' h':=Ze5 e λ_ _ e=>Ze5 e λ_ _ e=>Ze5 e λ_ _ e=>Ze5 e λ_ _ e=>Ze5 e λ_ _ e=>by cases e;rfl
noncomputable def ae(w:Str)(k i m:Nat)(room v q:Int)(l:Nat)(a b:Option D):Ev:=[J (.str w),J (.ref k),J (.ref i),J (.ref m),J (.int room),J (.int v),J (.int q),J (.ref l),a,b]
def any_gen(H:Mkr P)(n1:Nat)(c:Ctx cs ns h i j m k sc a b)(w:Str)(room:Int)(mx:Int)(dm:Nat)(ka:2<=dm)(hl:sc.length<=50)(ha:a<2^50)(nQ:1<=mx)
 (rc:1<=room->∃r n0 n',room-1<=(r:Nat)/\Znf P r n0/\n1+2=n'+n0+1/\1<=n0/\sc.length+2+2*r<=50/\1+3*A r<=mx/\a+mx<2^50/\3*r+6<=dm) :
 Made cs h i j sc a mx dm (run P (n1+3) (O "_law_any") [.str w,.ref k,.ref i,.ref m,.int room] h):=by
 have gh:=c.ab;rw[ZgI H.any rfl];obtain⟨v,w',ys,h5,l,e5,u5,c5,hy,lD⟩:=ZqT H n1 c w room hl ha M M M;have st:ZE Zes.N [.str w,.ref k,.ref i,.ref m,.int room]=[J (.str w),J (.ref k),J (.ref i),J (.ref m),J (.int room),M,M,M,M,M]:=rfl;rw[st,show Zes.body=.cons ZbJ (.cons Zct (.cons ZbI (.cons Zcs (.cons ZbH (.cons ZbG (.cons ZaM (.cons Zcr (.cons ZbF (.cons Za1 (.cons Zb3 .nil))))))))))from rfl,ZvB _ e5];show Made cs h i j sc a mx dm (Ze (xs2 (P.tbl (n1+2)) (.cons ZbG (.cons ZaM (.cons Zcr (.cons ZbF (.cons Za1 (.cons Zb3 .nil)))))) (ae w' k i m room v (v/87) l M M) h5));have nn:=ZuD hy;have t1:tst (P.tbl (n1+2)) (.ex (.cmp .NotEq (.var 7) (.lstl .nil))) (ae w' k i m room v (v/87) l M M) h5=.ok (!ys.isEmpty) (h5++[.lst []]):=ZbM ((Zv (x:=.ref l) (y:=.ref h5.length) (R:=h5) (h2:=h5++[DO.lst []]) rfl rfl).trans nn);have t2:∀h,tst (P.tbl (n1+2)) (.ex (.cmp .Eq (.bin .Mod (.var 6) (.ci 3)) (.ci 0))) (ae w' k i m room v (v/87) l M M) h=.ok (Wz (v/87%3=0)) h:=λh=>ZeW rfl rfl;have t8:∀h,tst (P.tbl (n1+2)) (.ex (.cmp .Eq (.bin .Mod (.var 6) (.ci 8)) (.ci 0))) (ae w' k i m room v (v/87/30) l M M) h=.ok (Wz (v/87/30%8=0)) h:=λh=>ZeW rfl rfl;by_cases hn:ys.isEmpty=Wy/\v/87%3=0
 ·
  have hp:0<ys.length:=by
   cases ys with
   |nil=>simp at hn
   |cons y r=>simp
  have ix:opB .Mod (.int (v/87/3)) (.int ys.length) (h5++[.lst []])=.ok (.int (v/87/3%ys.length)) (h5++[.lst []]):=ZX (by lia);have hb:(0:Int)<=v/87/3%ys.length/\v/87/3%ys.length<ys.length:=⟨Int.emod_nonneg _ (by lia),Int.emod_lt_of_pos _ (by lia)⟩
  obtain⟨q,hq⟩:∃q:Nat,v/87/3%ys.length=q:=⟨(v/87/3%ys.length).toNat,by lia⟩
  have jZ:q<ys.length:=by lia
  have j4:(h5++[DO.lst []])[l]?=J (.lst (ys.map .str)):=by rw[Oe (ZL hy)];exact hy
  have len:ZbO P.GD .len [.ref l] (h5++[.lst []])=.ok (.int ys.length) (h5++[.lst []]):=by simp only[ZbO,ZlS,seqOf,lstOf,j4];simp
  have ny:ZbD P.GD (.ref l) (.int (q:Int)) (h5++[.lst []])=.ok (.str ys[q]) (h5++[.lst []]):=by rw[ZZ j4,IV.Zbz,O2,Og jZ];rfl
  refine⟨.name ys[q],h5++[.lst []],a+1,b-1,?_,u5.trans Up.app,c5.st.app,by lia,by lia,lD _ (List.getElem_mem jZ),Yw _⟩;have x6:xs1 (P.tbl (n1+2)) ZbG (ae w' k i m room v (v/87) l M M) h5=.ok (.rt (T.name ys[q]).d,(ae w' k i m room v (v/87) l M M)) (h5++[.lst []]):=by have el:ev (P.tbl (n1+2)) (.blt .len (.cons (.var 7) .nil)) (ae w' k i m room v (v/87) l M M) (h5++[.lst []])=.ok (.int ys.length) (h5++[.lst []]):=len;have ei:ev (P.tbl (n1+2)) (.bin .Mod (.bin .FloorDiv (.var 6) (.ci 3)) (.blt .len (.cons (.var 7) .nil))) (ae w' k i m room v (v/87) l M M) (h5++[.lst []])=.ok (.int (q:Int)) (h5++[.lst []]):=(Zh (x:=.int (v/87/3)) rfl el).trans (ix.trans (by rw[hq]));rw[hn.1]at t1;exact(Zj (ZiM t1 (Zi (t2 _) (decide_eq_true hn.2)))).trans (Zd (Zu (Zan (Zc rfl (Zc ((Zr (x:=.ref l) rfl ei).trans ny) rfl)) (by simp))))
  rw[Zd x6];rfl
 . have x6:xs1 (P.tbl (n1+2)) ZbG (ae w' k i m room v (v/87) l M M) h5
    = .ok (.nx,(ae w' k i m room v (v/87) l M M)) (h5++[.lst []]):=by
    cases q:ys.isEmpty with
    |true=>rw[q]at t1;exact(Zg (ZqV t1)).trans rfl
    |false=>rw[q]at t1;have h3:¬ v/87%3=0:=λz=>hn ⟨q,z⟩;exact(Zg (ZiM t1 (Zi (t2 _) (decide_eq_false h3)))).trans rfl
   have c6:=c5.app (g:=[.lst []]);have u6:=u5.trans (Up.app (i:=i) (g:=[.lst []]));clear t1 nn;generalize hh6:h5++[.lst []]=h6 at x6 c6 u6;rw[Za x6];have lB:ZbD P.GD (.ref i) (.int 2) h6=.ok (.int (b-1)) h6:=by rw[ZZ c6.st.1];simp
   have r1:tst (P.tbl (n1+2)) (.ex (.cmp .Lt (.var 4) (.ci 1))) (ae w' k i m room v (v/87) l M M) h6=.ok (Wz (room<1)) h6:=rfl;have r2:tst (P.tbl (n1+2)) (.ex (.cmp .Lt (.ix (.var 2) (.ci 2)) (.ci 0))) (ae w' k i m room v (v/87) l M M) h6=.ok (Wz (b-1<0)) h6:=ZbM ((Zv (y:=.int 0) (h2:=h6) ((Zr (x:=.ref i) (y:=.int 2) rfl rfl).trans lB) rfl).trans rfl);obtain⟨t,g,ep,ct,pt⟩:=ZiT H (n1+1) w' (v/87/3) h6 (sc.map (·.1));by_cases hr:room<1
   . refine⟨t,h6++g,a+1,b-1,?_,u6.trans Up.app,c6.st.app,by lia,by lia,ct,by lia⟩;have x7:xs1 (P.tbl (n1+2)) ZaM (ae w' k i m room v (v/87) l M M) h6=.ok (.rt t.d,(ae w' k i m room v (v/87) l M M)) (h6++g):=(Zj (ZrK (Zi r1 (decide_eq_true hr)))).trans (Zd (Za0 ep rfl rfl));rw[Zd x7];rfl
   . by_cases hb:b-1<0
     . refine⟨t,h6++g,a+1,b-1,?_,u6.trans Up.app,c6.st.app,by lia,by lia,ct,by lia⟩;have x7:xs1 (P.tbl (n1+2)) ZaM (ae w' k i m room v (v/87) l M M) h6=.ok (.rt t.d,(ae w' k i m room v (v/87) l M M)) (h6++g):=(Zj (Zlk (Zi r1 (decide_eq_false hr)) (Zi r2 (decide_eq_true hb)))).trans (Zd (Za0 ep rfl rfl));rw[Zd x7];rfl
     . obtain⟨r,n0,n',q1,ih,q2,q3,q4,q5,q6,q7⟩:=rc (by lia);have Ap:=ZkQ r;have x7:xs1 (P.tbl (n1+2)) ZaM (ae w' k i m room v (v/87) l M M) h6
        = .ok (.nx,(ae w' k i m room v (v/87) l M M)) h6:=by
        exact(Zg (Zlk (Zi r1 (decide_eq_false hr)) (Zi r2 (decide_eq_false hb)))).trans rfl
       have x8:xs1 (P.tbl (n1+2)) Zcr (ae w' k i m room v (v/87) l M M) h6
        = .ok (.nx,(ae w' k i m room v (v/87/30) l M M)) h6:=by
        exact rfl
       rw[Za x7,Za x8];by_cases h8:v/87/30%8=0
       . obtain⟨t1,g1,a1,b1,e1,u1,s1,l1,l2,c1,p1⟩:=ih (n'+1) cs ns h6 i j m k sc (a+1) (b-1) (O "n") (room-1) q1 c6 (by lia) (by lia);have kD:=c6.up u1 s1 (by lia);obtain⟨t2,g2,a2,b2,e2,u2,s2,l3,l4,c2,p2⟩:=ih (n'+1) cs ns g1 i j m k sc a1 b1 w' (room-1) q1 kD (by lia) (by lia);have nu:=kD.up u2 s2 (by lia);obtain⟨t3,g3,a3,b3,e3,u3,s3,l5,l6,c3,p3⟩:=ih (n'+1) cs ns g2 i j m k sc a2 b2 w' (room-1) q1 nu (by lia) (by lia);rw[show n'+1+n0=n1+2 by lia]at e1 e2 e3;refine⟨.iff t1 t2 t3,g3,a3,b3,?_,u6.trans (u1.trans (u2.trans u3)),s3,by lia,by lia,⟨c1,c2,c3⟩,by simp only[dep];lia⟩;have x9:xs1 (P.tbl (n1+2)) ZbF (ae w' k i m room v (v/87/30) l M M) h6=.ok (.rt (T.iff t1 t2 t3).d,(ae w' k i m room v (v/87/30) l (J t1.d) (J t2.d))) g3:=by refine(Zj (Zi (t8 _) (decide_eq_true h8))).trans ?_;refine(Za (ρ1:=ae w' k i m room v (v/87/30) l (J t1.d) M) (R:=g1) (Za0 e1 rfl rfl)).trans ?_;refine(Za (ρ1:=ae w' k i m room v (v/87/30) l (J t1.d) (J t2.d)) (R:=g2) (Za0 e2 rfl rfl)).trans ?_;exact Zd (Za0 e3 rfl rfl)
         rw[Zd x9];rfl
       . have x9:xs1 (P.tbl (n1+2)) ZbF (ae w' k i m room v (v/87/30) l M M) h6=.ok (.nx,(ae w' k i m room v (v/87/30) l M M)) h6:=(Zg (Zi (t8 _) (decide_eq_false h8))).trans rfl;rw[Za x9];by_cases hw:w'=O "n"
         . obtain⟨t1,g1,a1,b1,e1,u1,s1,l1,l2,c1,p1⟩:=ZuC H ih q3 n' c6 (v/87/30/8) (room-1) q1 (by lia) (by lia);rw[<-q2]at e1;refine⟨t1,g1,a1,b1,?_,u6.trans u1,s1,by lia,by lia,c1,by lia⟩;have ij:xs1 (P.tbl (n1+2)) Za1 (ae w' k i m room v (v/87/30) l M M) h6=.ok (.rt t1.d,(ae w' k i m room v (v/87/30) l M M)) g1:=(Zj (Zi (Zcd rfl rfl) (decide_eq_true hw))).trans (Zd (Za0 e1 rfl rfl));rw[Zd ij];rfl
         . obtain⟨t1,g1,a1,b1,e1,u1,s1,l1,l2,c1,p1⟩:=Zu7 H ih n' c6 w' (v/87/30/8) (room-1) q1 (by lia) (by lia);rw[<-q2]at e1;refine⟨t1,g1,a1,b1,?_,u6.trans u1,s1,by lia,by lia,c1,by lia⟩;have ij:xs1 (P.tbl (n1+2)) Za1 (ae w' k i m room v (v/87/30) l M M) h6=.ok (.nx,(ae w' k i m room v (v/87/30) l M M)) h6:=(Zg (Zi (Zcd rfl rfl) (decide_eq_false hw))).trans rfl;have kJ:xs1 (P.tbl (n1+2)) Zb3 (ae w' k i m room v (v/87/30) l M M) h6=.ok (.rt t1.d,(ae w' k i m room v (v/87/30) l M M)) g1:=Za0 e1 rfl rfl;rw[Za ij,Zd kJ];rfl
theorem ZqS(H:Mkr P):∀r:Nat,Znf P r (2*r+3)
 |0=>λn cs ns h i j m k sc a b w room hr c hl ha=>by have:=any_gen H n c w room (A 0) 3 (by decide) (by lia) (by have:=ZkQ 0;lia) (by decide) (λz=>by lia);exact this
 |r+1=>λn cs ns h i j m k sc a b w room hr c hl ha=>by have Ap:=ZkQ r;have As:=Zvx r;have:=any_gen H (n+2*r+2) c w room (A (r+1)) (3*(r+1)+3) (by lia) (by lia) (by lia) (by lia) (λ_=>⟨r,2*r+3,n,by lia,ZqS H r,by lia,by lia,by lia,by lia,by lia,by lia⟩);rw[show n+(2*(r+1)+3)=n+2*r+2+3 by lia];exact this
end
set_option tactic.hygienic true
section
noncomputable def ZmM:T->List D
 |.num n=>[.str (O "num"),.int n]
 |.name x=>[.str (O "name"),.str x]
 |.fn x _=>[.str (O "fn"),.str x]
 |.rcc f x _=>[.str (O "rec"),.str f,.str x]
 |.call _ _=>[.str (O "call")]
 |.iff _ _ _=>[.str (O "if")]
 |.op w _ _=>[.str w.s]
def Zqw(t:T):t.d=.tup (ZmM t++t.parts.map T.d):=by cases t<;>rfl
noncomputable def Zi4:D->Bool
 |.str _|.int _=>Wx
 |_=>Wy
def ZlD(t:T):∀d∈ZmM t,Zi4 d=Wx:=by cases t<;>simp[ZmM,Zi4]
def Zqa(hf:Zi4 d=Wx):ZbO GD .isi [d,.ty "tuple"] h=.ok (.bl Wy) h:=by
 cases d with
 |str x=>rfl
 |int x=>rfl
 |_=>cases hf
def Zsf:ZbO GD .isi [.tup xs,.ty "tuple"] h=.ok (.bl Wx) h:=rfl
abbrev isT:Tx:=.ex (.blt .isi (.w V0 (.cst (.ty "tuple"))))
theorem ZhC{U:Tb}{ag rest:List D}:∀ds:List D,(∀d∈ds,Zi4 d=Wx)->ag.length<sizeLine->ZV M (.nm 0) (tsto U (J isT)) (ev U e) (ds++rest) [M] ag h=ZV M (.nm 0) (tsto U (J isT)) (ev U e) rest [M] ag h
 |[],_,_=>rfl
 |d::ds,hd,hz=>by have:=Zqa (GD:=U.GD) (h:=h) (hd d (by simp));rw[List.cons_append,Z4];simp[Wk.stays,hz,this];exact ZhC ds (λx hx=>hd x (by simp[hx])) hz
theorem ZhA{U:Tb}{f:T->Int}:∀(ts:List T) (ag:List D) (h:Hd),(∀t∈ts,∀h,∃g,ev U e [J t.d] h=.ok (.int (f t)) (h++g))->ag.length+ts.length<=1000->∃g,ZV M (.nm 0) (tsto U (J isT)) (ev U e) (ts.map T.d) [M] ag h=.ok (ag++ts.map λt=>.int (f t)) (h++g)
 |[],ag,h,_,_=>⟨[],by simp[ZV,Wk.stays]⟩
 |t::ts,ag,h,ht,hz=>by
  simp only[Os]at hz;obtain⟨g1,e1⟩:=ht t (by simp) h;obtain⟨g2,e2⟩:=ZhA (U:=U) (e:=e) (f:=f) ts (ag++[.int (f t)]) (h++g1) (λx hx=>ht x (by simp[hx])) (by simp;lia);refine⟨g1++g2,?_⟩;have fM:ag.length<sizeLine:=by rw[YC];lia
  have it:ZbO U.GD .isi [t.d,.ty "tuple"] h=.ok (.bl Wx) h:=by rw[Zqw];exact Zsf
  rw[Op,Z4];simp[Wk.stays,fM,it,e1,e2]
def Zfy{U:Tb}{f:T->Int}(t:T)(h:Hd)(ht:∀s∈t.parts,∀h,∃g,ev U e [J s.d] h=.ok (.int (f s)) (h++g)):∃g,ZV M (.nm 0) (tsto U (J isT)) (ev U e) (ZmM t++t.parts.map T.d) [M] [] h=.ok (t.parts.map λs=>.int (f s)) (h++g):=by obtain⟨g,e1⟩:=ZhA (f:=f) t.parts [] h ht (by cases t<;>simp[T.parts]);refine⟨g,?_⟩;rw[ZhC _ (ZlD t) (by rw[YC];simp),e1];simp
theorem ints_map(f:T->Int):∀ts:List T,intsOf (ts.map λs=>D.int (f s))=J (ts.map f)
 |[]=>rfl
 |t::ts=>by rw[Op,intsOf,ints_map f ts];rfl
variable {P:Pg}
def Zmb(t:T):(t.size:Int)=1+(t.parts.map λs=>(s.size:Int)).sum:=by
 unfold T.size;rw[T.places_parts];have:∀ts:List T,((ts.flatMap T.places).length:Int)=(ts.map λs=>(s.places.length:Int)).sum:=by
  intro ts;induction ts with
  |nil=>rfl
  |cons t ts ih=>rw[List.flatMap_cons,OA,Op,OI,<-ih];lia
 rw[Os,<-this]
 lia
def Zfw{t s:T}(hs:s∈t.parts):dep s<dep t:=by
 cases t<;>simp[T.parts]at hs<;>simp only[dep]
 . subst hs;lia
 . subst hs;lia
 . rcases hs with rfl|rfl<;>lia
 . rcases hs with rfl|rfl|rfl<;>lia
 . rcases hs with rfl|rfl<;>lia
theorem Zrh (H:Mkr P):∀ (d n:Nat) (t:T) (h:Hd),dep t<=d->∃ g,run P (n+d+1) (O "_law_width") [t.d] h=.ok (.int t.size) (h++g):=by
 intro d;induction d with
 |zero =>
   intro n t h hd;rw [Zf H.width rfl];obtain⟨g,e⟩:=Zfy (U:=⟨P.G,P.GD,run P (n+0),P.L⟩) (e:=.call (O "_law_width") (.cons (.var 0) .nil)) (f:=λs=>(s.size:Int)) t h (λs hs=>by have:=Zfw hs;lia);refine⟨g++[.lst (t.parts.map λs=>.int s.size)],?_⟩;rw [Zmb,Zqw];have sm:ZbO P.GD .sum [.ref (h++g).length] (h++g++[.lst (t.parts.map λs=>D.int s.size)])=.ok (.int (t.parts.map λs=>(s.size:Int)).sum) (h++g++[.lst (t.parts.map λs=>D.int s.size)]):=by
     simp only [ZbO,Zom,lstOf,ZbK,Yz,ints_map];rfl
   simp at sm e;simp [Zcn,Zd1,ZE,Zbg,Zc2,e,sm]
 |succ d ih =>
   intro n t h hd;rw [Zf H.width rfl];obtain⟨g,e⟩:=Zfy (U:=⟨P.G,P.GD,run P (n+(d+1)),P.L⟩) (e:=.call (O "_law_width") (.cons (.var 0) .nil)) (f:=λs=>(s.size:Int)) t h (λs hs R=>by
     have:=Zfw hs;obtain⟨g,e⟩:=ih n s R (by lia);refine⟨g,?_⟩;have e':run P (n+(d+1)) (O "_law_width") [s.d] R=.ok (.int s.size) (R++g):=e;simp [e'])
   refine⟨g++[.lst (t.parts.map λs=>.int s.size)],?_⟩;rw [Zmb,Zqw];have sm:ZbO P.GD .sum [.ref (h++g).length] (h++g++[.lst (t.parts.map λs=>D.int s.size)])=.ok (.int (t.parts.map λs=>(s.size:Int)).sum) (h++g++[.lst (t.parts.map λs=>D.int s.size)]):=by
     simp only [ZbO,Zom,lstOf,ZbK,Yz,ints_map];rfl
   simp at sm e;simp [Zcn,Zd1,ZE,Zbg,Zc2,e,sm]
end
section
variable {P:Pg}
def max2(x y:Nat):(if (1+(y:Int)) > 1+x then 1+(y:Int)else 1+x)=((max x y+1:Nat):Int):=by split<;>lia
def Zvl(t:T):ZdQ (t.parts.map λs=>1+(dep s:Int)) 0=dep t:=by
 cases t with
 |num n=>rfl
 |name x=>rfl
 |fn x e=>simp[T.parts,ZdQ,dep];lia
 |rcc f x e=>simp[T.parts,ZdQ,dep];lia
 |call f a=>simp only[T.parts,ZdQ,dep,Op,Oy,Wr,List.foldl_nil];rw[max2]
 |op w f a=>simp only[T.parts,ZdQ,dep,Op,Oy,Wr,List.foldl_nil];rw[max2]
 |iff c t e=>simp only[T.parts,ZdQ,dep,Op,Oy,Wr,List.foldl_nil];rw[max2];split<;>lia
theorem Zt0 (H:Mkr P):∀ (d n:Nat) (t:T) (h:Hd),dep t<=d->∃ g,run P (n+d+1) (O "_law_deep") [t.d] h=.ok (.int (dep t)) (h++g):=by
 have fin:∀ (t:T) (h g:Hd),Znc (.ref (h++g).length) (.int 0) (h++g++[.lst (t.parts.map λs=>D.int (1+(dep s:Int)))])=.ok (.int (dep t)) (h++g++[.lst (t.parts.map λs=>D.int (1+(dep s:Int)))]):=by
   intro t h g;have q:intsOf (t.parts.map λs=>D.int (1+(dep s:Int)))=J (t.parts.map λs=>1+(dep s:Int)):=ints_map (λs=>1+(dep s:Int)) t.parts;simp only [Znc,lstOf,ZbK,Yz,q,Yu,Zvl,ofO_some]
 intro d;induction d with
 |zero =>
   intro n t h hd;rw [Zf H.deep rfl];obtain⟨g,e⟩:=Zfy (U:=⟨P.G,P.GD,run P (n+0),P.L⟩) (e:=.bin .Add (.ci 1) (.call (O "_law_deep") (.cons (.var 0) .nil))) (f:=λs=>1+(dep s:Int)) t h (λs hs=>by have:=Zfw hs;lia);refine⟨g++[.lst (t.parts.map λs=>.int (1+(dep s:Int)))],?_⟩;have sm:=fin t h g;rw [Zqw];simp at sm e;simp [Zdg,Ze0,ZE,Zbg,Zc2,e,sm]
 |succ d ih =>
   intro n t h hd;rw [Zf H.deep rfl];obtain⟨g,e⟩:=Zfy (U:=⟨P.G,P.GD,run P (n+(d+1)),P.L⟩) (e:=.bin .Add (.ci 1) (.call (O "_law_deep") (.cons (.var 0) .nil))) (f:=λs=>1+(dep s:Int)) t h (λs hs R=>by
     have:=Zfw hs;obtain⟨g,e⟩:=ih n s R (by lia);refine⟨g,?_⟩;have e':run P (n+(d+1)) (O "_law_deep") [s.d] R=.ok (.int (dep s)) (R++g):=e;simp [e'])
   refine⟨g++[.lst (t.parts.map λs=>.int (1+(dep s:Int)))],?_⟩;have sm:=fin t h g;rw [Zqw];simp at sm e;simp [Zdg,Ze0,ZE,Zbg,Zc2,e,sm]
theorem ZhB(H:Mkr P)(hk:h[k]?=J (.lst xs0)):∀(xs:List Int) (j:Nat) (ag:List Int),ag.length+xs.length<=1000->j+xs.length<=1000->∃cs:List Int,cs.length=ag.length+xs.length /\
 ZV (J (k,xs0)) (.two 0 1) (tsto ⟨P.G,P.GD,run P (n+1),P.L⟩ M) (ev ⟨P.G,P.GD,run P (n+1),P.L⟩ (.call (O "_law_mixed") (.cons (.var 1) (.cons (.bin .Add (.var 0) (.ci 2)) .nil)))) (xs.mapIdx λq x=>D.tup [.int ((q+j:Nat):Int),.int x]) [M,M] (ag.map .int) h
  = .ok (cs.map .int) h
 |[],j,ag,_,_=>⟨ag,by simp,by simp[ZV,Wk.stays,hk]⟩
 |x::xs,j,ag,R,h2=>by
  simp only[Os]at R h2;obtain⟨cs,q1,q2⟩:=ZhB H hk xs (j+1) (ag++[mixed x ((j:Int)+2)]) (by simp;lia) (by lia);refine⟨cs,by simp at q1;simp;lia,?_⟩;have e1:=ZiU H n x ((j:Int)+2) h ⟨by lia,by lia⟩;have hz:ag.length<sizeLine:=by rw[YC];lia
  have ei:(λ(q:Nat) (x:Int)=>D.tup [.int ((q+1+j:Nat):Int),.int x])=λq x=>D.tup [.int ((q+(j+1):Nat):Int),.int x]:=by funext q x;rw[show q+1+j=q+(j+1) by lia]
  rw[List.mapIdx_cons,Z4];simp only[Wk.stays,hk,decide_true,true_and,Yt,hz,if_true,ZqK,List.set_cons_zero,List.set_cons_succ,Znk,ZnH,Zl,bind_ok,Zjd,Zfv,ZH,Zjc,O0,OJ,Option.join_some,ofO_some,Zqq,Zve,ZgN,Nat.zero_add,e1];rw[ei];have:=q2;rw[List.map_append]at this;exact this
end
set_option tactic.hygienic false
section
variable {P:Pg}{cs:List Int}{ns:List Str}{h h':Hd}{i j m:Nat}{a b:Int}
def ZqU(H:Mkr P)(r N:Nat)(hN:2*r+3<=N)(c:Ctx cs ns h i j m k sc a b)(w:Str)(room:Int)(hr:room<=r)(hl:sc.length+2*r<=50)(ha:a+A r<2^50):
 Made cs h i j sc a (A r) (3*r+3) (run P N (O "_law_any") [.str w,.ref k,.ref i,.ref m,.int room] h):=by
 have:=ZqS H r (N-(2*r+3)) cs ns h i j m k sc a b w room hr c hl ha;rw[show N-(2*r+3)+(2*r+3)=N by lia]at this;exact this
def ZgR(H:Mkr P)(N:Nat)(t:T)(h:Hd)(hd:dep t<N):∃g,run P N (O "_law_width") [t.d] h=.ok (.int t.size) (h++g):=by obtain⟨g,e⟩:=Zrh H (dep t) (N-dep t-1) t h (Oq _);rw[show N-dep t-1+dep t+1=N by lia]at e;exact⟨g,e⟩
def Zsy(H:Mkr P)(N:Nat)(t:T)(h:Hd)(hd:dep t<N):∃g,run P N (O "_law_deep") [t.d] h=.ok (.int (dep t)) (h++g):=by obtain⟨g,e⟩:=Zt0 H (dep t) (N-dep t-1) t h (Oq _);rw[show N-dep t-1+dep t+1=N by lia]at e;exact⟨g,e⟩
def Ctx.bare(c:Ctx cs ns h i j m k sc a b):Ctx cs ns (h++[.lst []]) i j m h.length [] a b:=by
 have c1:=c.app (g:=[.lst []]);refine⟨c1.st,c1.nm,c1.n5,c1.nok,c1.nd,by unfold Zoo;simp,by simp,c1.im,?_,c1.ab⟩;have:=ZL c.st.1
 lia
noncomputable def vp(ro:D)(st:Int)(o2 o3 o4 o5 o6:Option D):Ev:=[J ro,J (.int st),o2,o3,o4,o5,o6]
def Zr8:Sxs:=.o (.iff (.x .Lt (.f "_law_width" (.o V5)) (.ci 50)) (.w (.put V3 K2 K12) (.s 5 (.tupl (.u (.Ci_ "+") V5 (.f "_law_any" (.y (.Ci_ "n") (.lstl .n) V3 V4 K6)))))) .n)
inductive Turned(cs:List Int)(ns:List Str)(h:Hd)(i j m k:Nat)(sc:Scp)(a:Int)(dm:Nat)(S:Option D->Ev)(r:qe (Fl×Ev)):Prop
 |mk (t:T) (h':Hd) (a' b':Int) (e:r=.ok (.nx,S (J t.d)) h') (c:Cl [] t) (d:dep t<=dm) (u:Up i h h') (x:Ctx cs ns h' i j m k sc a' b') (l:a'<=a+65536)
def turn(H:Mkr P)(hN:40<=N)(c:Ctx cs ns h i j m k sc a b)(ct:Cl [] t)(hd:dep t<=30)(ha:a<2^45)(ro:D)(st:Int)(o2 o6:Option D):Turned cs ns h i j m k sc a (max (dep t) 21+1) (λo=>vp ro st o2 (J (.ref i)) (J (.ref m)) o o6)
 (xs2 (P.tbl N) Zr8 (vp ro st o2 (J (.ref i)) (J (.ref m)) (J t.d) o6) h):=by
 have A6:A 6=16384:=by decide
 obtain⟨g,ew⟩:=ZgR H N t h (by lia);have c1:=c.app (g:=g);have te:tst (P.tbl N) (.ex (.cmp .Lt (.call (O "_law_width") (.cons (.var 5) .nil)) (.ci 50))) (vp ro st o2 (J (.ref i)) (J (.ref m)) (J t.d) o6) h=.ok (Wz ((t.size:Int)<50)) (h++g):=ZwP (Zt ew rfl) rfl;by_cases hw:(t.size:Int)<50
 . have p1:ZbT (.ref i) (.int 2) (.int 12) (h++g)=.ok () ((h++g).set i (.lst [.ref j,.int a,.int 12])):=by simp only[ZbT,c1.st.1];rfl
   have s1:St3 ((h++g).set i (.lst [.ref j,.int a,.int 12])) i j cs a 12:=⟨by rw[Ol (ZL c1.st.1)],by rw[Oc c1.st.2.2];exact c1.st.2.1,c1.st.2.2⟩
   obtain⟨h2,p1,u1,c2⟩:∃h2,ZbT (.ref i) (.int 2) (.int 12) (h++g)=.ok () h2/\Up i h h2/\Ctx cs ns h2 i j m k sc a 12:=⟨_,p1,Up.app.trans Up.set,c1.up Up.set s1 c.ab⟩
   obtain⟨t1,h3,a1,b1,e1,u3,s3,l1,l2,c3,p3⟩:=ZqU H 6 N (by lia) c2.bare (O "n") 6 (by decide) (by simp) (by rw[A6];lia);have u4:=u1.trans ((Up.app (i:=i) (g:=[.lst []])).trans u3);have x1:xs1 (P.tbl N) (.put (.var 3) (.ci 2) (.ci 12)) (vp ro st o2 (J (.ref i)) (J (.ref m)) (J t.d) o6) (h++g)=.ok (.nx,vp ro st o2 (J (.ref i)) (J (.ref m)) (J t.d) o6) h2:=by show qe.bnd (ZbT (.ref i) (.int 2) (.int 12) (h++g)) _=_;rw[p1];rfl
   refine⟨.op .add t t1,h3,a1,b1,?_,⟨ct,c3⟩,by simp only[dep];lia,u4,c.up u4 s3 (by have:=c.ab;lia),by rw[A6]at l2;lia⟩;refine(Za ((Zj (Zi te (decide_eq_true hw))).trans ((Za x1).trans ((Za (Zn (Zan (Zc rfl (Zc rfl (Zc (Zt e1 (Zc rfl (Zc (Zhv rfl (by simp)) rfl))) rfl))) (by simp)))).trans rfl)))).trans rfl
 . exact⟨t,h++g,a,b,(Za ((Zg (Zi te (decide_eq_false hw))).trans rfl)).trans rfl,ct,by lia,Up.app,c1,by lia⟩
def Zwe(zs:List Int)(st:Int)(hz:zs.length<=100):∃ys:List Int,ys.length<=100/\∀h:Hd,Zgw (.ro (zs.map D.int)) (J st) M h=.ok (.ref h.length) (h++[.lst (ys.map .int)]):=by
 refine⟨(zs.drop (HT.sIx zs.length 0 (J st))).take (HT.sIx zs.length zs.length M-HT.sIx zs.length 0 (J st)),?_,λh=>?_⟩
 . rw[List.length_take,List.length_drop]
   lia
 . show Zda (.lst (cutD (zs.map D.int) (J st) M)) h=_;simp[cutD,List.map_drop,List.map_take]
inductive Begun(h:Hd)(S:Option D->Option D->Option D->Ev)(r:Sxs->qe (Fl×Ev))(U:Tb):Prop
 |mk (cs:List Int) (ns:List Str) (h':Hd) (i j m:Nat) (e:∀s,r s=xs2 U s (S (J (.ref j)) (J (.ref i)) (J (.ref m))) h') (c:Ctx cs ns (h'++[.lst []]) i j m h'.length [] 1 26) (l:h.length<=i) (u:Up i h h')
def Zuf(H:Mkr P)(hN:40<=N)(zs:List Int)(st:Int)(h:Hd)(hz:zs.length<=100):Begun h (λo2 o3 o4=>vp (.ro (zs.map .int)) st o2 o3 o4 M M) (λs=>xs2 (P.tbl N) (.cons ZaF (.cons Zdy (.cons Zdx s))) (vp (.ro (zs.map .int)) st M M M M M) h) (P.tbl N):=by
 obtain⟨N,rfl⟩:∃N3,N=N3+2:=⟨N-2,by lia⟩
 obtain⟨ys,nM,bV⟩:=Zwe zs st hz;obtain⟨cs,gW,ec⟩:=ZhB H (n:=N+1) (h:=h++[.lst (ys.map .int)]) (k:=h.length) (xs0:=ys.map .int) (by simp) ys 0 [] (by simp;lia) (by lia);have en:ZdZ (ys.map D.int)=ys.mapIdx λq x=>D.tup [.int ((q+0:Nat):Int),.int x]:=by unfold ZdZ;apply List.ext_getElem?;intro q;simp[List.getElem?_mapIdx];cases ys[q]?<;>rfl
 have ei:evi (P.tbl (N+2)) (.enu (.sl (.var 0) (J (.var 1)) M)) (vp (.ro (zs.map .int)) st M M M M M) h=.ok ⟨J (h.length,ys.map .int),ZdZ (ys.map D.int)⟩ (h++[.lst (ys.map .int)]):=by rw[Zss,show ev (P.tbl (N+2)) (.sl (.var 0) (J (.var 1)) M) (vp (.ro (zs.map .int)) st M M M M M) h=.ok (.ref h.length) (h++[.lst (ys.map .int)])from bV h,Zl];simp[Zh8]
 rw[<-en]at ec;have x1:xs1 (P.tbl (N+2)) ZaF (vp (.ro (zs.map .int)) st M M M M M) h=.ok (.nx,vp (.ro (zs.map .int)) st (J (.ref (h++[DO.lst (ys.map .int)]).length)) M M M M) (h++[.lst (ys.map .int)]++[.lst (cs.map .int)]):=Zn (Zko ei ec);generalize D.ro (zs.map .int)=ro at *;obtain⟨R,j,u1,k1,lj,x1⟩:∃(R:Hd) (j:Nat),Up R.length h R/\R[j]?=J (.lst (cs.map .int))/\j<R.length/\xs1 (P.tbl (N+2)) ZaF (vp ro st M M M M M) h=.ok (.nx,vp ro st (J (.ref j)) M M M M) R:=⟨_,_,Up.app.trans Up.app,ZbK,by simp,x1⟩
 have s2:St3 (R++[.lst [.ref j,.int 0,.int 26]]) R.length j cs 0 26:=⟨ZbK,by rw[Oe lj];exact k1,by lia⟩
 obtain⟨v,e3,_⟩:=Zk9 H N s2 (by decide);rw[ZjT]at e3;obtain⟨ns,n5,nok,lh,e4⟩:=Zrk H (N+1) v (R++[.lst [.ref j,.int 1,.int 26]]);have mf:=u1.1;refine⟨cs,ns,R++[.lst [.ref j,.int 1,.int 26]]++[.lst (ns.map .str)],R.length,j,(R++[DO.lst [.ref j,.int 1,.int 26]]).length,λs=>?_,⟨⟨by simp,by simp[Oe lj,k1],by lia⟩,by simp,n5,nok,lh,by unfold Zoo;simp,by simp,by simp,by simp,by decide⟩,mf,?_⟩
 . exact(Za x1).trans ((Za (Zn (Zhv (Zc rfl (Zc rfl (Zc rfl rfl))) (by simp)))).trans ((Za (Zn (Zt e4 (Zc (Zt e3 rfl) rfl)))).trans rfl))
 . rw[Oz];exact⟨by simp;lia,λm a n=>by rw[Oe (by lia)];exact u1.2 m a n⟩
inductive Sixth(h:Hd)(i:Nat)(S:Option D->Ev)(r:qe (Fl×Ev)):Prop
 |mk (t:T) (h':Hd) (e:r=.ok (.nx,S (J t.d)) h') (c:Cl [] t) (s:t.size<=100) (d:dep t<=20) (u:Up i h h')
def Zue(H:Mkr P)(hN:40<=N)(c:Ctx cs ns h i j m k sc a b)(ct:Cl [] t)(hd:dep t<=26)(ha:a<2^50)(ro:D)(st:Int)(o2 o4 o6:Option D):Sixth h i (λo=>vp ro st o2 (J (.ref i)) o4 o o6) (xs1 (P.tbl N) ZbP (vp ro st o2 (J (.ref i)) o4 (J t.d) o6) h):=by
 obtain⟨g1,ew⟩:=ZgR H N t h (by lia);obtain⟨g2,ed⟩:=Zsy H N t (h++g1) (by lia);have tw:tst (P.tbl N) (.ex (.cmp .Gt (.call (O "_law_width") (.cons (.var 5) .nil)) (.ci 100))) (vp ro st o2 (J (.ref i)) o4 (J t.d) o6) h=.ok (Wz ((100:Int)<t.size)) (h++g1):=Zu6 (Zt ew rfl) rfl;have td:tst (P.tbl N) (.ex (.cmp .Gt (.call (O "_law_deep") (.cons (.var 5) .nil)) (.ci 20))) (vp ro st o2 (J (.ref i)) o4 (J t.d) o6) (h++g1)=.ok (Wz ((20:Int)<dep t)) (h++g1++g2):=Zu6 (Zt ed rfl) rfl;have plain:∀{q:Sxs} (g:Hd),∃t' h',xs2 (P.tbl N) (.cons (.set (.nm 5) (.call (O "_law_plain") (.cons (.Ci_ "n") (.cons (.call (O "_law_next") (.cons (.var 3) .nil)) .nil)))) .nil) (vp ro st o2 (J (.ref i)) o4 (J t.d) o6) (h++g)=.ok (.nx,vp ro st o2 (J (.ref i)) o4 (J (T.d t')) o6) h'/\Cl [] t'/\dep t'<=2/\t'.size<=4/\Up i h h':=λg=>by
  obtain⟨N,rfl⟩:∃N3,N=N3+2:=⟨N-2,by lia⟩
  obtain⟨v,e8,_⟩:=Zk9 H N (c.app (g:=g)).st ⟨c.ab,ha⟩;obtain⟨tp,gp,e9,q1,q2,q3⟩:=ZiT H (N+1) (O "n") v ((h++g).set i (.lst [.ref j,.int (a+1),.int b])) [];exact⟨tp,_,(Za (Zn (Zt e9 (Zc rfl (Zc (Zt e8 rfl) rfl))))).trans rfl,q1,q2,q3,(Up.app.trans Up.set).trans Up.app⟩
 by_cases hw:(100:Int)<t.size
 . obtain⟨t',h',e,q1,q2,q3,u⟩:=plain (q:=.nil) g1;exact⟨t',h',(Zj (ZrK (Zi tw (decide_eq_true hw)))).trans e,q1,by lia,by lia,u⟩
 . have jK:=Zi tw (decide_eq_false hw);by_cases hq:(20:Int)<dep t
   . obtain⟨t',h',e,q1,q2,q3,u⟩:=plain (q:=.nil) (g1++g2);rw[<-Oz]at e;exact⟨t',h',(Zj (Zlk jK (Zi td (decide_eq_true hq)))).trans e,q1,by lia,by lia,u⟩
   . exact⟨t,_,(Zg (Zlk jK (Zi td (decide_eq_false hq)))).trans rfl,ct,by lia,by lia,Up.app.trans Up.app⟩
def Znv(H:Mkr P)(hN:40<=N)(zs:List Int)(st:Int)(h:Hd)(hz:zs.length<=100):∃t h',run P (N+1) (O "_law_program") [.ro (zs.map .int),.int st] h=.ok (T.d t) h'/\Cl [] t/\t.size<=100/\dep t<=20/\h.length<=h'.length/\∀q,q<h.length->h'[q]?=h[q]? := by
 rw[ZgI H.program rfl];have A7:A 7=65536:=by decide
 cases Zuf H hN zs st h hz with
 |mk cs ns h3 i j m e3 c4 li u3=>
 cases ZqU H 7 N (by lia) c4 (O "n") 7 (by decide) (by decide) (by rw[A7];decide)with
 |mk t4 h4 a4 b4 e5 u4 s4 l1 l2 ct4 d4=>
 rw[A7]at l2;cases turn H hN (c4.up u4 s4 (by lia)) ct4 (by lia) (by lia) (.ro (zs.map .int)) st (J (.ref j)) (J (.int 0))with
 |mk t5 h5 a5 b5 e6 ct5 d5 u5 c6 l4=>
 cases turn H hN c6 ct5 (by lia) (by lia) (.ro (zs.map .int)) st (J (.ref j)) (J (.int 1))with
 |mk t6 h6 a6 b6 e7 ct6 d6 u6 c7 l6=>
 cases Zue H hN c7 ct6 (by lia) (by lia) (.ro (zs.map .int)) st (J (.ref j)) (J (.ref m)) (J (.int 1))with
 |mk t hh x6 ct sz dt u=>
 have u8:=(u3.trans ((Up.app (i:=i) (g:=[.lst []])).trans ((u4.trans u5).trans u6))).trans u;refine⟨t,hh,?_,ct,sz,dt,u8.1,λq hq=>u8.2 q hq (by lia)⟩;have x5:xs1 (P.tbl N) ZbQ (vp (.ro (zs.map .int)) st (J (.ref j)) (J (.ref i)) (J (.ref m)) (J t4.d) M) h4=.ok (.nx,vp (.ro (zs.map .int)) st (J (.ref j)) (J (.ref i)) (J (.ref m)) (J t6.d) (J (.int 1))) h6:=(ZfY (w:=⟨M,[.int 0,.int 1]⟩) rfl).trans ((ZfZ rfl e6).trans ((ZfZ rfl e7).trans rfl));exact(congrArg Ze ((e3 (.cons Zdw (.cons ZbQ (.cons ZbP (.cons Zdv .nil))))).trans ((Za (Zn (Zt e5 (Zc rfl (Zc (Zhv rfl (by simp)) rfl))))).trans ((Za x5).trans ((Za x6).trans rfl))))).trans rfl
end
end Gn
namespace Rw
open PySem L2 IV Gn
section
def ZF:Sxs:=.y (.iff (.ors (.c (.nq (.ix V1 K0) (.Ci_ "num")) (.one (.nq (.ix V2 K0) (.Ci_ "num"))))) (.o (.ret (.cst .non))) .n) (.iff (.q V0 (.Ci_ "<")) (.o (.ret (.tupl (.w (.Ci_ "num") (.ite (.x .Lt (.ix V1 K1) (.ix V2 K1)) K1 K0))))) .n) (.iff (.q V0 (.Ci_ "+")) (.o (.ret (.tupl (.w (.Ci_ "num") (.bin .Mod (.bin .Add (.ix V1 K1) (.ix V2 K1)) (.glo (O "BEYOND"))))))) .n) (.iff (.q V0 (.Ci_ "-")) (.o (.ret (.tupl (.w (.Ci_ "num") (.bin .Mod (.bin .Sub (.ix V1 K1) (.ix V2 K1)) (.glo (O "BEYOND"))))))) .n) (.ret (.tupl (.w (.Ci_ "num") (.bin .Mod (.bin .Mult (.ix V1 K1) (.ix V2 K1)) (.glo (O "BEYOND"))))))
def Zfn:Fd:=fd_ 3 ["word","first","second"] ZF
mutual
inductive Th where
 |num (n:Int)|clo (E:T) (ar:Ar)
inductive Ar where
 |nil|cons (x:Str) (v:Th) (r:Ar)
end
inductive Wt where
 |arg (A:T) (ar:Ar)|fn (V:Th)|iff (t e:T) (ar:Ar)|right (w:Wd) (F:T) (ar:Ar)|left (w:Wd) (V:Th)
inductive Sta where
 |go (E:T) (ar:Ar) (rest:List Wt)|back (V:Th) (rest:List Wt)
inductive Ans where
 |quiet (s:Sta)|loud (s:Sta)|value|stuck
noncomputable def Ar.get(x:Str):Ar->Option Th
 |.nil=>M
 |.cons y v r=>if y=x then J v else r.get x
noncomputable def Ar.len:Ar->Nat
 |.nil=>0
 |.cons _ _ r=>r.len+1
variable {P:Pg}{h:Hd}
noncomputable def wk(w:Wd)(a b:Int):Int:=match w with
 |.lt=>if a<b then 1 else 0
 |.add=>(a+b)%1000000
 |.sub=>(a-b)%1000000
 |.mul=>a*b%1000000
def worked_nn(hw:P.tb.lookup (O "worked")=J Zfn)(hb:P.G (O "BEYOND")=J (.int 1000000))(n:Nat)(w:Wd)(hx:0<=x/\x<1000000)(hy:0<=y/\y<1000000):run P (n+1) (O "worked") [.str w.s,(T.num x).d,(T.num y).d] h=.ok (T.num (wk w x y)).d h:=by
 rw[Zf hw (by rfl)];have gb:∀S,ev (P.tbl n) (.glo (O "BEYOND")) S h=.ok (.int 1000000) h:=λS=>by show qe.ofO (P.G (O "BEYOND")) h=_;rw[hb];rfl
 have m2:opB .Mult (.int x) (.int y) h=.ok (.int (x*y)) h:=Zfh ⟨Zaa (by lia) (by lia),Zaa (by lia) (by lia)⟩;have fin:∀(S:Ev) (e:Ex) (z:Int),ev (P.tbl n) e S h=.ok (.int z) h->xs1 (P.tbl n) (.ret (.tupl (.cons (.Ci_ "num") (.cons (.bin .Mod e (.glo (O "BEYOND"))) .nil)))) S h=.ok (.rt (T.num (z%1000000)).d,S) h:=λS e z q=>Zu (Zan (Zc rfl (Zc ((Zh q (gb S)).trans (ZX (by decide))) rfl)) (by simp))
 show Ze (xs2 (P.tbl n) ZF [J (.str w.s),J (T.num x).d,J (T.num y).d] h)=_;rw[nx1 (U:=P.tbl n) (ss:=ZF) (ρ1:=[J (.str w.s),J (T.num x).d,J (T.num y).d]) (h2:=h) rfl rfl];cases w with
 |lt=>by_cases e:x<y<;>simp[ZF,tlS,T.d,Wd.s,wk,e,YC]
 |add=>rw[nx1 (U:=P.tbl n) (ss:=tlS ZF) (ρ1:=[J (.str Wd.add.s),J (T.num x).d,J (T.num y).d]) (h2:=h) rfl rfl];exact rt1 (U:=P.tbl n) (ss:=tlS (tlS ZF)) ((Zj rfl).trans (Zd (fin _ _ (x+y) rfl))) rfl
 |sub=>rw[nx1 (U:=P.tbl n) (ss:=tlS ZF) (ρ1:=[J (.str Wd.sub.s),J (T.num x).d,J (T.num y).d]) (h2:=h) rfl rfl,nx1 (U:=P.tbl n) (ss:=tlS (tlS ZF)) (ρ1:=[J (.str Wd.sub.s),J (T.num x).d,J (T.num y).d]) (h2:=h) rfl rfl];exact rt1 (U:=P.tbl n) (ss:=tlS (tlS (tlS ZF))) ((Zj rfl).trans (Zd (fin _ _ (x-y) rfl))) rfl
 |mul=>rw[nx1 (U:=P.tbl n) (ss:=tlS ZF) (ρ1:=[J (.str Wd.mul.s),J (T.num x).d,J (T.num y).d]) (h2:=h) rfl rfl,nx1 (U:=P.tbl n) (ss:=tlS (tlS ZF)) (ρ1:=[J (.str Wd.mul.s),J (T.num x).d,J (T.num y).d]) (h2:=h) rfl rfl,nx1 (U:=P.tbl n) (ss:=tlS (tlS (tlS ZF))) (ρ1:=[J (.str Wd.mul.s),J (T.num x).d,J (T.num y).d]) (h2:=h) rfl rfl];exact rt1 (U:=P.tbl n) (ss:=tlS (tlS (tlS (tlS ZF)))) (fin _ _ (x*y) m2) rfl
end
section
variable {h:Hd}
noncomputable def isFn:T->Bool
 |.fn _ _|.rcc _ _ _=>Wx
 |_=>Wy
noncomputable def Ar.keys:Ar->List Str
 |.nil=>[]
 |.cons x _ r=>x::r.keys
theorem Ar.get_some:∀{ar:Ar},x∈ar.keys->∃v,ar.get x=J v
 |.nil,h=>by simp[Ar.keys]at h
 |.cons y v r,h=>by
  by_cases e:y=x
  . exact⟨v,by simp[Ar.get,e]⟩
  . have:x∈r.keys:=by
     simp[Ar.keys]at h;rcases h with z|z
     . exact absurd z.symm e
     . exact z
    obtain⟨u,q⟩:=Ar.get_some this;exact⟨u,by simp[Ar.get,e,q]⟩
mutual
def ZgG:Th->Prop
 |.num n=>0<=n/\n<1000000
 |.clo E ar=>isFn E=Wx/\Cl ar.keys E/\ArOk ar
def ArOk:Ar->Prop
 |.nil=>True
 |.cons _ v r=>ZgG v/\ArOk r
end
def Zl4(E:T)(ar:Ar):Option Th:=match E with
 |.num n=>J (.num n)
 |.name x=>ar.get x
 |.fn x e=>J (.clo (.fn x e) ar)
 |.rcc f x e=>J (.clo (.rcc f x e) ar)
 |_=>M
def step:Sta->Ans
 |.go E ar rest=>match E with
  |.call F A=>.quiet (.go F ar (.arg A ar::rest))
  |.iff C t e=>.quiet (.go C ar (.iff t e ar::rest))
  |.op w x y=>.quiet (.go x ar (.right w y ar::rest))
  |E=>match Zl4 E ar with
   |some v=>.quiet (.back v rest)
   |none=>.stuck
 |.back V rest=>match rest with
  |[]=>.value
  |.arg A ar::r=>.quiet (.go A ar (.fn V::r))
  |.right w F ar::r=>.quiet (.go F ar (.left w V::r))
  |.fn W::r=>match W with
   |.clo (.fn x e) ar=>.loud (.go e (.cons x V ar) r)
   |.clo (.rcc f x e) ar=>.loud (.go e (.cons x V (.cons f (.clo (.rcc f x e) ar) ar)) r)
   |_=>.stuck
  |.iff t e ar::r=>match V with
   |.num z=>.loud (.go (if z=0 then e else t) ar r)
   |_=>.stuck
  |.left w W::r=>match W,V with
   |.num a,.num b=>.loud (.back (.num (wk w a b)) r)
   |_,_=>.stuck
end
end Rw
section
set_option maxHeartbeats 2000000
namespace Rw
open PySem L2 IV Gn
def Zh7:Wt->Prop
 |.arg A ar=>Cl ar.keys A/\ArOk ar
 |.fn V=>ZgG V
 |.iff t e ar=>Cl ar.keys t/\Cl ar.keys e/\ArOk ar
 |.right _ F ar=>Cl ar.keys F/\ArOk ar
 |.left _ V=>ZgG V
def ZhN:Sta->Prop
 |.go E ar rest=>Cl ar.keys E/\ArOk ar/\∀w∈rest,Zh7 w
 |.back V rest=>ZgG V/\∀w∈rest,Zh7 w
end Rw
end
namespace Rw
open PySem L2 IV Gn
theorem ZiL:∀{ar:Ar},ArOk ar->ar.get x=J v->ZgG v
 |.nil,_,h=>by simp[Ar.get]at h
 |.cons y u r,a,h=>by
  by_cases e:y=x
  . simp[Ar.get,e]at h;subst h;exact a.1
  . simp[Ar.get,e]at h;exact ZiL a.2 h
def wk_ok(w:Wd)(a b:Int):0<=wk w a b/\wk w a b<1000000:=by
 cases w<;>simp only[wk]
 . lia
 . lia
 . exact⟨Int.emod_nonneg _ (by decide),Int.emod_lt_of_pos _ (by decide)⟩
 . split<;>lia
def Zay{α:Type}{p:α->Prop}{x:α}{xs:List α}(a:p x)(b:∀y∈xs,p y):∀y∈x::xs,p y:=by
 intro y hy;rcases O3.mp hy with rfl|hy
 . exact a
 . exact b y hy
end Rw
namespace Tm
open PySem L2 IV
def ZaA:Sxs:=.w (.iff (.x .NotIn (.ix V0 K0) (.glo (O "FORMS"))) (.o (.ret (.tupl .n))) .n) (.ret (.sl V0 (J K1) (J (.bin .Add K1 (.ix (.ix (.glo (O "FORMS")) (.ix V0 K0)) K0)))))
def Zbw:Fd:=fd_ 1 ["E"] ZaA
def ZlP:Sxs:=.w (.iff (.x .NotIn (.ix V0 K0) (.glo (O "FORMS"))) (.o (.ret V0)) .n) (.ret (.sl V0 M (J (.bin .Add K1 (.ix (.ix (.glo (O "FORMS")) (.ix V0 K0)) K0)))))
def Zhs:Fd:=fd_ 1 ["E"] ZlP
def Zh6:Sxs:=.w (.iff (.x .NotIn (.ix V0 K0) (.glo (O "FORMS"))) (.o (.ret K0)) .n) (.ret (.ix (.ix (.glo (O "FORMS")) (.ix V0 K0)) K1))
def ZeN:Fd:=fd_ 1 ["front"] Zh6
def ZsO:Sxs:=.u (.s 1 (.lstl .n)) (.forr (.nm 2) (.rev V0) (.w (.s 3 (.comp [O "k",O "done"] [M,J 1] (.rng (.f "count_parts" (.o V2))) (.nm 0) M (.meth .pop V1 .n))) (.drp (.meth .app V1 (.o (.bin .Add V2 (.blt .tup (.o V3)))))))) (.ret (.ix V1 K0))
def ZmP:Fd:=fd_ 1 ["fronts","done","front","parts"] ZsO
def ZlQ:Sxs:=.w (.forr (.two 2 3) (.pl V1) (.o (.iff (.q V2 V0) (.o (.ret V3)) .n))) (.ret (.cst .non))
def Zht:Fd:=fd_ 2 ["name","around","known","thing"] ZlQ
def ZqN:Sxs:=.w (.iff (.q (.ix V0 K0) (.Ci_ "clo")) (.o (.ret (.sl V0 (J K1) M))) .n) (.ret (.tupl (.w V0 (.tupl .n))))
def Zkk:Fd:=fd_ 1 ["thing"] ZqN
def ZlN:Sxs:=.w (.iff (.nq (.ix V0 K0) (.Ci_ "name")) (.o (.ret (.cst .non))) .n) (.ret (.f "bound_to" (.w (.ix V0 K1) V1)))
def Zho:Fd:=fd_ 2 ["place","around"] ZlN
def ZqM:Sxs:=.o (.ret (.bin .Add (.blt .tup (.o (.comp [O "name"] [M] (.pl (.f "bound_names" (.o V0))) (.nm 0) M (.tupl (.w V0 (.cst .non)))))) V1))
def Zkj:Fd:=fd_ 2 ["place","around"] ZqM
def Zd6:Sxs:=.w (.sa "Pen" V0 "most" V1) (.sa "Pen" V0 "used" K0)
def ZaV:Fd:=fd_ 2 ["self","most"] Zd6
noncomputable def ZlM(x:Sx):Sxs:=(.cons (.iff (.ex (.cmp .Eq (.att [O "Pen"] (.var 0) (O "used")) (.att [O "Pen"] (.var 0) (O "most")))) (.cons x .nil) .nil) (.cons (.auga [O "Pen"] (.var 0) (O "used") (.ci 1)) .nil))
def ZlF(x:Sx):Fd:=⟨[O "self"],[O "self"],ZlM x⟩
def Zjz:Sxs:=.z (.s 3 (.lstl .n)) (.s 4 (.lstl (.o (.tupl (.w V1 V2))))) (.whl (.ex V4) (.u (.s 5 (.meth .pop V4 .n)) (.s 6 (.f "meant_by" (.w (.ix V5 K0) (.ix V5 K1)))) (.iff (.x .Is V6 (.cst .non)) (.z (.drp (.m "Pen" "take_place" V0 .n)) (.drp (.meth .app V3 (.o (.f "front_of" (.o (.ix V5 K0)))))) (.s 7 (.f "within" (.w (.ix V5 K0) (.ix V5 K1)))) (.drp (.meth .ext V4 (.o (.comp [O "part",O "inner"] [M,J 7] (.rev (.f "parts_of" (.o (.ix V5 K0)))) (.nm 0) M (.tupl (.w V0 V1))))))) (.o (.drp (.meth .app V4 (.o (.f "opened" (.o V6))))))))) (.ret (.f "built" (.o V3)))
def Zfu:Fd:=fd_ 3 ["self","E","around","fronts","waiting","pair","thing","inner"] Zjz
structure Trb(P:Pg):Prop extends Gn.Tre P where
 bound_names:P.tb.lookup (O "bound_names")=J Zbw
 front_of:P.tb.lookup (O "front_of")=J Zhs
 count_parts:P.tb.lookup (O "count_parts")=J ZeN
 built:P.tb.lookup (O "built")=J ZmP
 bound_to:P.tb.lookup (O "bound_to")=J Zht
 opened:P.tb.lookup (O "opened")=J Zkk
 meant_by:P.tb.lookup (O "meant_by")=J Zho
 within:P.tb.lookup (O "within")=J Zkj
 n_Pen___init__:P.tb.lookup (mnm (O "Pen") (O "__init__"))=M
 Pen___init__:P.ms.lookup (mnm (O "Pen") (O "__init__"))=J ZaV
 n_Pen_take_place:P.tb.lookup (mnm (O "Pen") (O "take_place"))=M
 tk:∃x,P.ms.lookup (mnm (O "Pen") (O "take_place"))=J (ZlF x)
 n_Pen_filled:P.tb.lookup (mnm (O "Pen") (O "filled"))=M
 Pen_filled:P.ms.lookup (mnm (O "Pen") (O "filled"))=J Zfu
section
section
variable {w:Wd}
@[simp]def Zox:(w.s=O "num")↔False:=by cases w<;>simp[Wd.s]
@[simp]def Zl0:(w.s=O "name")↔False:=by cases w<;>simp[Wd.s]
@[simp]def Zl1:(w.s=O "call")↔False:=by cases w<;>simp[Wd.s]
@[simp]def Zoy:(w.s=O "if")↔False:=by cases w<;>simp[Wd.s]
@[simp]def ZjD:ZbA Gn.ZdS (.inr w.s)=J (.tup [.int 0,.int 2]):=by cases w<;>rfl
end
noncomputable abbrev Ar:=List (Str×Option T)
noncomputable def get:Ar->Str->Option T
 |[],_=>M
 |(y,v)::r,x=>if y=x then v else get r x
end
def sub:Ar->T->T
 |_,.num n=>.num n
 |ar,.name x=>(get ar x).getD (.name x)
 |ar,.fn x e=>.fn x (sub ((x,M)::ar) e)
 |ar,.rcc f x e=>.rcc f x (sub ((f,M)::(x,M)::ar) e)
 |ar,.call f a=>.call (sub ar f) (sub ar a)
 |ar,.iff c t e=>.iff (sub ar c) (sub ar t) (sub ar e)
 |ar,.op w a b=>.op w (sub ar a) (sub ar b)
def NN(ar:Ar):Prop:=∀x,get ar x=M
def NN.cons(h:NN ar)(y:Str):NN ((y,M)::ar):=λx=>by
 unfold get;split
 . rfl
 . exact h x
theorem Zcu:∀(t:T) {ar:Ar},NN ar->sub ar t=t
 |.num _,_,_=>rfl
 |.name x,_,h=>by rw[sub,h x];rfl
 |.fn x e,_,h=>by rw[sub,Zcu e (h.cons x)]
 |.rcc f x e,_,h=>by rw[sub,Zcu e ((h.cons x).cons f)]
 |.call f a,_,h=>by rw[sub,Zcu f h,Zcu a h]
 |.iff c t e,_,h=>by rw[sub,Zcu c h,Zcu t h,Zcu e h]
 |.op w a b,_,h=>by rw[sub,Zcu a h,Zcu b h]
def Zb(t:T):t.size=1+(t.parts.map T.size).sum:=by
 unfold T.size;rw[T.places_parts];simp only[Os,List.length_flatMap]
 lia
def Zm(t:T):1<=t.size:=by rw[Zb];lia
end Tm
namespace Rw
open PySem L2 IV
mutual
def rd:Th->T
 |.num n=>.num n
 |.clo E ar=>Tm.sub (ra ar) E
def ra:Ar->List (Str×Option T)
 |.nil=>[]
 |.cons x v r=>(x,J (rd v))::ra r
end
end Rw
namespace Tm
open PySem L2 IV
section
variable {P:Pg}
noncomputable def Zbc(mo:D)(u:Int):DO:=.ins (O "Pen") [(O "most",mo),(O "used",.int u)]
def Lim(mo:D)(z:Int):Prop:=mo=.non\/∃m:Int,mo=.int m/\z<=m
def Zwb(H:Trb P)(n:Nat)(mo:D)(h:Hd):Zgx (run P (n+1)) (O "Pen") [mo] h=.ok (.ref h.length) (h++[Zbc mo 0]):=by unfold Zgx;rw[Zz H.n_Pen___init__ H.Pen___init__ (by rfl)];simp[ZaV,Zd6,ZE,ZfL,Zg1,YC,Zbc]
def Zsg:IV.Zc8 Wy (D.int u) D.non h=.ok (D.bl Wy) h:=by
 have e:YQ (.int u) .none=Wy:=by simp[YQ]
 show(if min (PyData.int u).depth PyData.none.depth<=1100 then qe.ok (D.bl (if Wy then !YQ (.int u) .none else YQ (.int u) .none)) h else .bad)=_;rw[if_pos (by simp[PyData.depth]),e];rfl
def Zo7(H:Trb P)(n:Nat)(lm:Lim mo (u+1))(hp:h[pk]?=J (Zbc mo u)):run P (n+1) (mnm (O "Pen") (O "take_place")) [.ref pk] h=.ok .non (h.set pk (Zbc mo (u+1))):=by
 obtain⟨x,ht⟩:=H.tk;rw[Zz H.n_Pen_take_place ht (by rfl)];have ne:IV.Zc8 Wy (D.int u) mo h=.ok (D.bl Wy) h:=by
  rcases lm with rfl|⟨m,rfl,q⟩
  . exact Zsg
  . have:¬ u=m:=by lia
    simp[this]
 unfold Zbc at hp ⊢;simp[ZlF,ZlM,ZE,ZfX,Zai,hp,Wm,ne,ZfL,Zg1]
def Wid(P:Pg):Prop:=∃m,P.ms.lookup (mnm (O "Pen") (O "take_place"))=J (ZlF (.rai (O "Wide") (.cst m)))
def ZjM(H:Trb P)(w:Wid P)(n:Nat)(hp:h[pk]?=J (Zbc (.int u) u)):run P (n+1) (mnm (O "Pen") (O "take_place")) [.ref pk] h=.exc (O "Wide") h:=by
 obtain⟨m,ht⟩:=w;rw[Zz H.n_Pen_take_place ht (by rfl)];have t1:tst (P.tbl n) (.ex (.cmp .Eq (.att [O "Pen"] (.var 0) (O "used")) (.att [O "Pen"] (.var 0) (O "most")))) [J (.ref pk)] h=.ok Wx h:=by unfold Zbc at hp;simp[ZfX,Zai,hp,Wm]
 exact congrArg Ze (ZcR (r:=tlS (ZlM (.rai (O "Wide") (.cst m)))) ((Zj t1).trans (ZcR (Zv9 rfl))))
theorem Zde:∀(xs:List Str) (ar:Ar) {x:Str}{V:T},get (xs.map (λy=>(y,M))++ar) x=J V->get ar x=J V
 |[],ar,x,V,e=>e
 |y::xs,ar,x,V,e=>by
  rw[Op,List.cons_append,get]at e;split at e
  . cases e
  . exact Zde xs ar e
def ZrJ{t s:T}(hs:s∈t.parts):s.size+1<=t.size:=by
 rw[Zb t];have:∀l:List T,s∈l->s.size<=(l.map T.size).sum:=by
  intro l;induction l with
  |nil=>intro z;cases z
  |cons a r ih=>
   intro z;rw[Op,OI];rcases O3.mp z with rfl|z
   . lia
   . have:=ih z;lia
 have:=this _ hs
 lia
theorem grown{h0 h:Hd}(hl:h0.length<=h.length)(old:∀ i,i<h0.length->h[i]?=h0[i]?):∃ g,h=h0++g:=⟨h.drop h0.length,by
 apply List.ext_getElem?;intro i;rcases Nat.lt_or_ge i h0.length with q|q
 . rw [old i q,Oe q]
 . rw [Om q,List.getElem?_drop];congr 1
   lia⟩
def Aft(h0 h:Hd)(pk:Nat)(mo:D)(u:Int):Prop:=h[pk]?=J (Zbc mo u)/\h0.length<=h.length/\∀i,i<h0.length->i≠pk->h[i]?=h0[i]?
noncomputable abbrev Fil:=List (Str×T)
noncomputable def Fil.ar(f:Fil):Ar:=f.map λp=>(p.1,J p.2)
end
section
variable {h:Hd}
noncomputable def isV:T->Bool
 |.num _|.fn _ _|.rcc _ _ _=>Wx
 |_=>Wy
def pth:T->List (T×Nat)
 |.call f a=>if isV f then(if isV a then []else(.call f a,2)::pth a)else(.call f a,1)::pth f
 |.op w f a=>if isV f then(if isV a then []else(.op w f a,2)::pth a)else(.op w f a,1)::pth f
 |.iff c t e=>if isV c then []else(.iff c t e,1)::pth c
 |_=>[]
def bot:T->T
 |.call f a=>if isV f then(if isV a then .call f a else bot a)else bot f
 |.op w f a=>if isV f then(if isV a then .op w f a else bot a)else bot f
 |.iff c t e=>if isV c then .iff c t e else bot c
 |t=>t
noncomputable def ZdM:T->Nat->T->T
 |.call _ a,1,u=>.call u a
 |.call f _,2,u=>.call f u
 |.op w _ a,1,u=>.op w u a
 |.op w f _,2,u=>.op w f u
 |.iff _ t e,1,u=>.iff u t e
 |s,_,_=>s
def Zc7:List (T×Nat)->T->T
 |[],u=>u
 |(s,k)::r,u=>ZdM s k (Zc7 r u)
def p1c:ZdM (.call f a) 1 u=.call u a:=rfl
def p2c:ZdM (.call f a) 2 u=.call f u:=rfl
def p1o:ZdM (.op w f a) 1 u=.op w u a:=rfl
def p2o:ZdM (.op w f a) 2 u=.op w f u:=rfl
def p1i:ZdM (.iff c t e) 1 u=.iff u t e:=rfl
def Zhl(f:Str)(F:T)(x:Str)(A:T):Fil:=if f=x then [(x,A)]else [(f,F),(x,A)]
def bec:T->Option T
 |.call F A=>match F with
  |.fn x e=>J (sub (Fil.ar [(x,A)]) e)
  |.rcc f x e=>J (sub (Fil.ar (Zhl f (.rcc f x e) x A)) e)
  |_=>M
 |.iff c t e=>match c with
  |.num z=>J (if z=0 then e else t)
  |_=>M
 |.op w a b=>match a,b with
  |.num a,.num b=>J (.num (_root_.Rw.wk w a b))
  |_,_=>M
 |_=>M
def next(t:T):Option T:=(bec (bot t)).map (Zc7 (pth t))
theorem Zcv(hM:1<=qd):∀(t:T) (ar:Ar),(∀x V,get ar x=J V->V.size<=qd)->(sub ar t).size<=t.size*qd
 |.num _,_,_=>by simp[sub,T.size,T.places];lia
 |.name x,ar,hv=>by
  cases e:get ar x with
  |none=>simp[sub,e,T.size,T.places];lia
  |some V=>have:=hv x V e;simp[sub,e];simp[T.size,T.places]at *;lia
 |.fn x e,ar,hv=>by
  have ih:=Zcv hM e ((x,M)::ar) (λy V q=>hv y V (Zde [x] ar q));rw[sub,Zb,Zb (.fn x e)];simp[T.parts,Nat.add_mul]at ih ⊢
  lia
 |.rcc f x e,ar,hv=>by
  have ih:=Zcv hM e ((f,M)::(x,M)::ar) (λy V q=>hv y V (Zde [f,x] ar q));rw[sub,Zb,Zb (.rcc f x e)];simp[T.parts,Nat.add_mul]at ih ⊢
  lia
 |.call f a,ar,hv=>by
  have i1:=Zcv hM f ar hv;have i2:=Zcv hM a ar hv;rw[sub,Zb,Zb (.call f a)];simp[T.parts,Nat.add_mul]at i1 i2 ⊢
  lia
 |.op w f a,ar,hv=>by
  have i1:=Zcv hM f ar hv;have i2:=Zcv hM a ar hv;rw[sub,Zb,Zb (.op w f a)];simp[T.parts,Nat.add_mul]at i1 i2 ⊢
  lia
 |.iff c t e,ar,hv=>by
  have i1:=Zcv hM c ar hv;have i2:=Zcv hM t ar hv;have i3:=Zcv hM e ar hv;rw[sub,Zb,Zb (.iff c t e)];simp[T.parts,Nat.add_mul]at i1 i2 i3 ⊢
  lia
theorem Zqf:∀(f:Fil) {x:Str}{V:T},get f.ar x=J V->(x,V)∈f
 |[],x,V,e=>by cases e
 |(y,W)::r,x,V,e=>by
  rw[Fil.ar,Op,get]at e;split at e
  . rename_i q;cases e;rw[<-q];exact Oi
  . exact Oh _ (Zqf r e)
def Zql{t:T}{f:Fil}(hs:∀p∈f,p.2.size<=300):(sub f.ar t).size<=t.size*300:=Zcv (qd:=300) (by lia) t f.ar λx V e=>hs (x,V) (Zqf f e)
def Red:T->Prop
 |.call f a=>isV f=Wx/\isV a=Wx
 |.op _ f a=>isV f=Wx/\isV a=Wx
 |.iff c _ _=>isV c=Wx
 |_=>False
theorem Zew:∀t:T,isV t=Wy->Gn.Cl [] t->Red (bot t)/\Gn.Cl [] (bot t)/\(bot t).size<=t.size
 |.num _,nv,_=>by cases nv
 |.name x,_,c=>by cases c
 |.fn _ _,nv,_=>by cases nv
 |.rcc _ _ _,nv,_=>by cases nv
 |.call f a,_,c=>by
  have z:(T.call f a).size=1+(f.size+a.size):=by rw[Zb];simp[T.parts]
  simp only[bot];split
  . split
    . exact⟨⟨by assumption,by assumption⟩,c,Oq _⟩
    . rename_i q;have ih:=Zew a (by simpa using q) c.2;exact⟨ih.1,ih.2.1,by lia⟩
  . rename_i q;have ih:=Zew f (by simpa using q) c.1;exact⟨ih.1,ih.2.1,by lia⟩
 |.op w f a,_,c=>by
  have z:(T.op w f a).size=1+(f.size+a.size):=by rw[Zb];simp[T.parts]
  simp only[bot];split
  . split
    . exact⟨⟨by assumption,by assumption⟩,c,Oq _⟩
    . rename_i q;have ih:=Zew a (by simpa using q) c.2;exact⟨ih.1,ih.2.1,by lia⟩
  . rename_i q;have ih:=Zew f (by simpa using q) c.1;exact⟨ih.1,ih.2.1,by lia⟩
 |.iff f a b,_,c=>by
  have z:(T.iff f a b).size=1+(f.size+(a.size+b.size)):=by rw[Zb];simp[T.parts]
  simp only[bot];split
  . exact⟨by assumption,c,Oq _⟩
  . rename_i q;have ih:=Zew f (by simpa using q) c.1;exact⟨ih.1,ih.2.1,by lia⟩
def Kp(ar:Ar)(sc aG:List Str):Prop:=∀x∈sc,(∃V,get ar x=J V/\Gn.Cl [] V)\/(get ar x=M/\x∈aG)
def Kp.bind(k:Kp ar sc aG)(y:Str):Kp ((y,M)::ar) (y::sc) (y::aG):=λx hx=>by
 unfold get;by_cases e:y=x
 . rw[if_pos e];exact .inr ⟨rfl,by rw[e];exact Oi⟩
 . rw[if_neg e];rcases O3.mp hx with z|z
   . exact absurd z.symm e
   . rcases k x z with q|q
     . exact .inl q
     . exact .inr ⟨q.1,Oh _ q.2⟩
def Kp.two(k:Kp ar sc aG)(f x:Str):Kp ((f,M)::(x,M)::ar) (x::f::sc) (x::f::aG):=λz hz=>by
 have q:=(k.bind x).bind f z (by simp at hz ⊢;rcases hz with h|h|h<;>simp[h]);rcases q with q|q
 . exact .inl q
 . exact .inr ⟨q.1,by have:=q.2;simp at this ⊢;rcases this with h|h|h<;>simp[h]⟩
theorem ZbN:∀(t:T) {ar:Ar}{sc aG:List Str},Kp ar sc aG->Gn.Cl sc t->Gn.Cl aG (sub ar t)
 |.num _,_,_,_,_,c=>c
 |.name x,ar,sc,aG,k,c=>by
  rcases k x c with⟨V,e,cv⟩|⟨e,m⟩
  . rw[sub,e];exact Gn.Cl.mono (λy hy=>by cases hy) cv
  . rw[sub,e];exact m
 |.fn x e,_,_,_,k,c=>⟨ZbN e (k.bind x) c.1,c.2⟩
 |.rcc f x e,_,_,_,k,c=>⟨ZbN e (k.two f x) c.1,c.2⟩
 |.call f a,_,_,_,k,c=>⟨ZbN f k c.1,ZbN a k c.2⟩
 |.iff f a b,_,_,_,k,c=>⟨ZbN f k c.1,ZbN a k c.2.1,ZbN b k c.2.2⟩
 |.op _ f a,_,_,_,k,c=>⟨ZbN f k c.1,ZbN a k c.2⟩
def zc(f a:T):(T.call f a).size=1+(f.size+a.size):=by rw[Zb];simp[T.parts]
def zo(w:Wd)(f a:T):(T.op w f a).size=1+(f.size+a.size):=by rw[Zb];simp[T.parts]
def zi(f a b:T):(T.iff f a b).size=1+(f.size+(a.size+b.size)):=by rw[Zb];simp[T.parts]
def zf(x:Str)(e:T):(T.fn x e).size=1+e.size:=by rw[Zb];simp[T.parts]
def zr(f x:Str)(e:T):(T.rcc f x e).size=1+e.size:=by rw[Zb];simp[T.parts]
def l_2{a b c d:Nat}(p:a<c)(q:b<d):max a b<c+d:=Nat.max_lt.mpr ⟨Ot p (Nat.le_add_right _ _),Ot q (Wb _ _)⟩
def l_1{a c:Nat}(p:a<c):a+1<1+c:=by lia
theorem ZcD:∀t:T,Gn.dep t<t.size
 |.num _=>by simp[Gn.dep,T.size,T.places]
 |.name _=>by simp[Gn.dep,T.size,T.places]
 |.fn x e=>by rw[zf];exact l_1 (ZcD e)
 |.rcc f x e=>by rw[zr];exact l_1 (ZcD e)
 |.call f a=>by rw[zc];exact l_1 (l_2 (ZcD f) (ZcD a))
 |.op w f a=>by rw[zo];exact l_1 (l_2 (ZcD f) (ZcD a))
 |.iff c t e=>by rw[zi];exact l_1 (l_2 (ZcD c) (l_2 (ZcD t) (ZcD e)))
def Zqm{f:Fil}(hc:∀p∈f,Gn.Cl [] p.2)(sc:List Str)(hk:∀x∈sc,x∈f.map (·.1)):Kp f.ar sc []:=λx hx=>by
 have:∀(f:Fil),(∀p∈f,Gn.Cl [] p.2)->x∈f.map (·.1)->∃V,get f.ar x=J V/\Gn.Cl [] V:=by
  intro f;induction f with
  |nil=>intro _ z;cases z
  |cons p r ih=>
   intro hc z;rw[Fil.ar,Op,get];by_cases e:p.1=x
   . rw[if_pos e];exact⟨p.2,rfl,hc p Oi⟩
   . rw[if_neg e];rw[Op]at z;rcases O3.mp z with q|q
     . exact absurd q.symm e
     . exact ih (λp hp=>hc p (Oh _ hp)) q
 exact .inl (this f hc (hk x hx))
def ZsK(t u:T)(r:Red t)(c:Gn.Cl [] t)(hz:t.size<=300)(e:bec t=J u):Gn.Cl [] u/\u.size<=t.size*300:=by
 cases t with
 |call F A=>
  have z:=zc F A;cases F with
  |fn x b=>cases e;have zb:=zf x b;have fo:=Zql (t:=b) (f:=[(x,A)]) (by simp;lia);refine⟨ZbN b (Zqm (by simp;exact c.2) [x] (by simp)) c.1.1,OE fo (Nat.mul_le_mul_right _ (by rw[z,zb];lia))⟩
  |rcc f x b=>
   cases e;have zb:=zr f x b;have mem:∀p∈Zhl f (.rcc f x b) x A,p.2=.rcc f x b\/p.2=A:=by
    intro p hp;unfold Zhl at hp;split at hp
    . simp at hp;rw[hp];exact .inr rfl
    . simp at hp;rcases hp with rfl|rfl
      . exact .inl rfl
      . exact .inr rfl
   have fo:=Zql (t:=b) (f:=Zhl f (.rcc f x b) x A) (λp hp=>by rcases mem p hp with q|q<;>rw[q]<;>lia);refine⟨ZbN b (Zqm (λp hp=>by rcases mem p hp with q|q<;>rw[q];exact c.1;exact c.2) [x,f] (by unfold Zhl;split<;>simp_all)) c.1.1,OE fo (Nat.mul_le_mul_right _ (by rw[z,zb];lia))⟩
  |_=>cases e
 |iff a b d=>
  have z:=zi a b d;cases a with
  |num m=>
   simp only[bec,Option.some.injEq]at e;subst e;split
   . exact⟨c.2.2,by lia⟩
   . exact⟨c.2.1,by lia⟩
  |_=>cases e
 |op w a b=>
  cases a with
  |num x=>
   cases b with
   |num y=>cases e;have:=_root_.Rw.wk_ok w x y;exact⟨this,by simp[T.size,T.places]⟩
   |_=>cases e
  |_=>cases e
 |_=>cases r
def Zpt:∀(t:T) (u:T),Gn.Cl [] t->Gn.Cl [] u->Gn.Cl [] (Zc7 (pth t) u)/\(Zc7 (pth t) u).size<=t.size+u.size:=by
 have two:∀a b c u:Nat,a<=b+u->1+(a+c)<=1+(b+c)+u:=λa b c u q=>by lia
 have fv:∀a b c u:Nat,a<=b+u->1+(c+a)<=1+(c+b)+u:=λa b c u q=>by lia
 have z2:=zc;have o2:=zo;have i2:=zi;intro t u;induction t with
 |num _=>exact λ_ cu=>⟨cu,Wb _ _⟩
 |name _=>exact λ_ cu=>⟨cu,Wb _ _⟩
 |fn _ _ _=>exact λ_ cu=>⟨cu,Wb _ _⟩
 |rcc _ _ _ _=>exact λ_ cu=>⟨cu,Wb _ _⟩
 |call f a q1 q2=>
  intro c cu;cases hf:isV f with
  |false=>simp only[pth,hf,Zc7,p1c,p2c,p1o,p2o,p1i,OG,if_false];exact⟨⟨(q1 c.1 cu).1,c.2⟩,by rw[z2,z2];exact two _ _ _ _ (q1 c.1 cu).2⟩
  |true=>
   cases ha:isV a with
   |false=>simp only[pth,hf,ha,Zc7,p1c,p2c,p1o,p2o,p1i,OG,if_false,if_true];exact⟨⟨c.1,(q2 c.2 cu).1⟩,by rw[z2,z2];exact fv _ _ _ _ (q2 c.2 cu).2⟩
   |true=>simp only[pth,hf,ha,Zc7,if_true];exact⟨cu,Wb _ _⟩
 |op w f a q1 q2=>
  intro c cu;cases hf:isV f with
  |false=>simp only[pth,hf,Zc7,p1c,p2c,p1o,p2o,p1i,OG,if_false];exact⟨⟨(q1 c.1 cu).1,c.2⟩,by rw[o2,o2];exact two _ _ _ _ (q1 c.1 cu).2⟩
  |true=>
   cases ha:isV a with
   |false=>simp only[pth,hf,ha,Zc7,p1c,p2c,p1o,p2o,p1i,OG,if_false,if_true];exact⟨⟨c.1,(q2 c.2 cu).1⟩,by rw[o2,o2];exact fv _ _ _ _ (q2 c.2 cu).2⟩
   |true=>simp only[pth,hf,ha,Zc7,if_true];exact⟨cu,Wb _ _⟩
 |iff f a b q1 q2 q3=>
  intro c cu;cases hf:isV f with
  |false=>simp only[pth,hf,Zc7,p1c,p2c,p1o,p2o,p1i,OG,if_false];exact⟨⟨(q1 c.1 cu).1,c.2.1,c.2.2⟩,by rw[i2,i2];exact two _ _ _ _ (q1 c.1 cu).2⟩
  |true=>simp only[pth,hf,Zc7,if_true];exact⟨cu,Wb _ _⟩
def ZpQ{t u:T}(nv:isV t=Wy)(c:Gn.Cl [] t)(hz:t.size<=120)(e:next t=J u):Gn.Cl [] u/\u.size<=40000:=by obtain⟨v,e1,rfl⟩:=Oo.mp e;obtain⟨r1,r2,r3⟩:=Zew t nv c;obtain⟨b1,b2⟩:=ZsK (bot t) v r1 r2 (by lia) e1;obtain⟨p1,p2⟩:=Zpt t v c b1;have:(bot t).size*300<=120*300:=Nat.mul_le_mul_right _ (by lia);exact⟨p1,by lia⟩
end
end Tm
namespace Rw
open PySem L2 IV Gn
theorem Zqd(x:Str):∀ar:Ar,Tm.get (ra ar) x=(ar.get x).map rd
 |.nil=>rfl
 |.cons y v r=>by
  rw[ra,Tm.get,Ar.get];split
  . rfl
  . exact Zqd x r
mutual
theorem Zs9:∀v:Th,ZgG v->Cl [] (rd v)
 |.num n,h=>by rw[rd];exact h
 |.clo E ar,h=>by rw[rd];exact Tm.ZbN E (kp_ra ar h.2.2) h.2.1
theorem kp_ra:∀ar:Ar,ArOk ar->Tm.Kp (ra ar) ar.keys []
 |.nil,_=>λx hx=>by cases hx
 |.cons y v r,h=>λx hx=>by
  rw[ra,Tm.get];split
  . exact .inl ⟨rd v,rfl,Zs9 v h.1⟩
  . rename_i ne;rcases O3.mp hx with e|hx
    . exact absurd e.symm ne
    . exact kp_ra r h.2 x hx
end
theorem ZkU:∀{ar:Ar}{x:Str}{V:T},ArOk ar->Tm.get (ra ar) x=J V->Cl [] V
 |.nil,x,V,_,e=>by cases e
 |.cons y v r,x,V,h,e=>by
  rw[ra,Tm.get]at e;split at e
  . cases e;exact Zs9 v h.1
  . exact ZkU h.2 e
def Znt(h:ZgG v):Tm.isV (rd v)=Wx:=by
 cases v with
 |num n=>rfl
 |clo E ar=>
  cases E with
  |fn x e=>rfl
  |rcc f x e=>rfl
  |_=>cases h.1
theorem Zcw:∀(t:T) {sc:List Str}{ar:List (Str×Option T)},Cl sc t->(∀y∈sc,Tm.get ar y=M)->Tm.sub ar t=t
 |.num _,_,_,_,_=>rfl
 |.name x,_,_,c,n=>by rw[Tm.sub,n x c];rfl
 |.fn x e,sc,ar,c,n=>by
  rw[Tm.sub,Zcw e (sc:=x::sc) c.1 λy hy=>?_];rw[Tm.get];split
  . rfl
  . rename_i ne;rcases O3.mp hy with q|q
    . exact absurd q.symm ne
    . exact n y q
 |.rcc f x e,sc,ar,c,n=>by
  rw[Tm.sub,Zcw e (sc:=x::f::sc) c.1 λy hy=>?_];rw[Tm.get];split
  . rfl
  . rename_i nf;rw[Tm.get];split
    . rfl
    . rename_i nx;rcases O3.mp hy with q|q
      . exact absurd q.symm nx
      . rcases O3.mp q with q|q
        . exact absurd q.symm nf
        . exact n y q
 |.call f a,_,_,c,n=>by rw[Tm.sub,Zcw f c.1 n,Zcw a c.2 n]
 |.iff p q r,_,_,c,n=>by rw[Tm.sub,Zcw p c.1 n,Zcw q c.2.1 n,Zcw r c.2.2 n]
 |.op w f a,_,_,c,n=>by rw[Tm.sub,Zcw f c.1 n,Zcw a c.2 n]
def Cmp(r t k:List (Str×Option T)):Prop:=∀x,(∃V,Tm.get r x=J V/\Tm.get k x=J V/\Cl [] V)\/(Tm.get r x=M/\Tm.get k x=Tm.get t x)
def Cmp.none(c:Cmp r t k)(y:Str):Cmp ((y,M)::r) ((y,M)::t) ((y,M)::k):=λx=>by
 simp only[Tm.get];split
 . exact .inr ⟨rfl,rfl⟩
 . exact c x
theorem ZaR:∀(e:T) {r t k:List (Str×Option T)},Cmp r t k->Tm.sub t (Tm.sub r e)=Tm.sub k e
 |.num _,_,_,_,_=>rfl
 |.name x,r,t,k,c=>by
  rcases c x with⟨V,e1,e2,cl⟩|⟨e1,e2⟩
  . simp only[Tm.sub,e1,e2,Option.getD_some];exact Zcw V cl (λy hy=>by cases hy)
  . simp only[Tm.sub,e1,e2,Option.getD_none]
 |.fn x e,_,_,_,c=>by rw[Tm.sub,Tm.sub,Tm.sub,ZaR e (c.none x)]
 |.rcc f x e,_,_,_,c=>by rw[Tm.sub,Tm.sub,Tm.sub,ZaR e ((c.none x).none f)]
 |.call f a,_,_,_,c=>by rw[Tm.sub,Tm.sub,Tm.sub,ZaR f c,ZaR a c]
 |.iff p q s,_,_,_,c=>by rw[Tm.sub,Tm.sub,Tm.sub,ZaR p c,ZaR q c,ZaR s c]
 |.op w f a,_,_,_,c=>by rw[Tm.sub,Tm.sub,Tm.sub,ZaR f c,ZaR a c]
def ZtL{x:Str}{A:T}(ok:ArOk ar):Tm.sub [(x,J A)] (Tm.sub ((x,M)::ra ar) e)=Tm.sub ((x,J A)::ra ar) e:=by
 refine ZaR e λy=>?_;simp only[Tm.get];split
 . exact .inr ⟨rfl,rfl⟩
 . cases q:Tm.get (ra ar) y with
   |none=>exact .inr ⟨rfl,rfl⟩
   |some V=>exact .inl ⟨V,rfl,rfl,ZkU ok q⟩
def Zra{f x:Str}(ne:f≠x){F A:T}(ok:ArOk ar):Tm.sub [(f,J F),(x,J A)] (Tm.sub ((f,M)::(x,M)::ra ar) e)=Tm.sub ((x,J A)::(f,J F)::ra ar) e:=by
 refine ZaR e λy=>?_;simp only[Tm.get];by_cases q1:f=y
 . subst q1;rw[if_pos rfl,if_neg (YL ne),if_pos rfl,if_pos rfl];exact .inr ⟨rfl,rfl⟩
 . rw[if_neg q1,if_neg q1,if_neg q1];by_cases q2:x=y
   . rw[if_pos q2,if_pos q2,if_pos q2];exact .inr ⟨rfl,rfl⟩
   . rw[if_neg q2,if_neg q2,if_neg q2];cases q:Tm.get (ra ar) y with
     |none=>exact .inr ⟨rfl,rfl⟩
     |some V=>exact .inl ⟨V,rfl,rfl,ZkU ok q⟩
def fw:Wt->T->T
 |.arg A ar,t=>.call t (Tm.sub (ra ar) A)
 |.fn V,t=>.call (rd V) t
 |.iff a b ar,t=>.iff t (Tm.sub (ra ar) a) (Tm.sub (ra ar) b)
 |.right w F ar,t=>.op w t (Tm.sub (ra ar) F)
 |.left w V,t=>.op w (rd V) t
def rnd(ws:List Wt)(t:T):T:=ws.foldl (λt w=>fw w t) t
def read:Sta->T
 |.go E ar ws=>rnd ws (Tm.sub (ra ar) E)
 |.back V ws=>rnd ws (rd V)
structure Wn(t t':T)(k:Nat)(f:T->T):Prop where
 v:Tm.isV t'=Wy
 l:(Tm.pth t').length=(Tm.pth t).length+k
 b:Tm.bot t'=Tm.bot t
 p:∀u,Tm.Zc7 (Tm.pth t') u=f (Tm.Zc7 (Tm.pth t) u)
def Zw4(ok:Zh7 w)(nv:Tm.isV t=Wy):Wn t (fw w t) 1 (fw w):=by
 cases w with
 |arg A ar=>exact⟨rfl,by simp[fw,Tm.pth,nv],by simp[fw,Tm.bot,nv],λu=>by simp[fw,Tm.pth,nv,Tm.Zc7,Tm.ZdM]⟩
 |fn V=>have v:=Znt ok;exact⟨rfl,by simp[fw,Tm.pth,nv,v],by simp[fw,Tm.bot,nv,v],λu=>by simp[fw,Tm.pth,nv,v,Tm.Zc7,Tm.ZdM]⟩
 |iff a b ar=>exact⟨rfl,by simp[fw,Tm.pth,nv],by simp[fw,Tm.bot,nv],λu=>by simp[fw,Tm.pth,nv,Tm.Zc7,Tm.ZdM]⟩
 |right w F ar=>exact⟨rfl,by simp[fw,Tm.pth,nv],by simp[fw,Tm.bot,nv],λu=>by simp[fw,Tm.pth,nv,Tm.Zc7,Tm.ZdM]⟩
 |left w V=>have v:=Znt ok;exact⟨rfl,by simp[fw,Tm.pth,nv,v],by simp[fw,Tm.bot,nv,v],λu=>by simp[fw,Tm.pth,nv,v,Tm.Zc7,Tm.ZdM]⟩
theorem Zo1:∀(ws:List Wt) {t:T},(∀w∈ws,Zh7 w)->Tm.isV t=Wy->Wn t (rnd ws t) ws.length (rnd ws)
 |[],t,_,nv=>⟨nv,rfl,rfl,λ_=>rfl⟩
 |w::ws,t,ok,nv=>by have a:=Zw4 (ok w Oi) nv;have b:=Zo1 ws (λx hx=>ok x (Oh _ hx)) a.v;exact⟨b.v,by rw[show rnd (w::ws) t=rnd ws (fw w t)from rfl,b.l,a.l,Os];lia,b.b.trans a.b,λu=>by rw[show rnd (w::ws) t=rnd ws (fw w t)from rfl,b.p,a.p];rfl⟩
def ZtS(ok:∀w∈ws,Zh7 w)(nv:Tm.isV t=Wy)(hp:Tm.pth t=[])(hb:Tm.bot t=t):Tm.isV (rnd ws t)=Wy/\Tm.next (rnd ws t)=(Tm.bec t).map (rnd ws)/\(Tm.pth (rnd ws t)).length=ws.length:=by have a:=Zo1 ws ok nv;refine⟨a.v,?_,by rw[a.l,hp];exact Nat.zero_add _⟩;unfold Tm.next;rw[a.b,hb];refine congrArg (λf=>(Tm.bec t).map f) ?_;funext u;rw[a.p,hp];rfl
def At(s:Sta):Prop:=Tm.isV (read s)=Wy/\∃V ws,s=.back V ws/\(Tm.pth (read s)).length+1=ws.length
def Sim(s:Sta):Ans->Prop
 |.quiet s'=>read s'=read s
 |.loud s'=>At s/\Tm.next (read s)=J (read s')
 |.value=>∃V,s=.back V []/\Tm.isV (read s)=Wx
 |.stuck=>At s/\Tm.next (read s)=M
def Zfa(s:Sta)(ok:ZhN s):Sim s (step s):=by
 cases s with
 |go E ar ws=>
  cases E with
  |num z=>exact rfl
  |name x=>
   obtain⟨v,e⟩:=Ar.get_some (ar:=ar) ok.1;have:step (.go (.name x) ar ws)=.quiet (.back v ws):=by simp only[step,Zl4,e]
   rw[this];show rnd ws (rd v)=rnd ws (Tm.sub (ra ar) (.name x));rw[Tm.sub,Zqd,e];rfl
  |fn x e=>exact rfl
  |rcc f x e=>exact rfl
  |call F A=>exact rfl
  |iff C t e=>exact rfl
  |op w x y=>exact rfl
 |back V ws=>
  cases ws with
  |nil=>exact⟨V,rfl,Znt ok.1⟩
  |cons w r=>
   have cK:∀x∈r,Zh7 x:=λx hx=>ok.2 x (Oh _ hx);have a7:=ok.2 w Oi;have vV:=Znt ok.1;have at':∀t:T,fw w (rd V)=t->Tm.isV t=Wy->Tm.pth t=[]->Tm.bot t=t->At (.back V (w::r))/\Tm.next (read (.back V (w::r)))=(Tm.bec t).map (rnd r):=λt e nv hp hb=>by
    have q:=ZtS cK nv hp hb;have e2:read (.back V (w::r))=rnd r t:=by rw[<-e];rfl
    exact⟨⟨by rw[e2];exact q.1,V,w::r,rfl,by rw[e2,q.2.2];rfl⟩,by rw[e2];exact q.2.1⟩
   cases w with
   |arg A ar=>exact rfl
   |right w F ar=>exact rfl
   |fn W=>
    have vW:=Znt a7;obtain⟨a,n⟩:=at' _ rfl rfl (by simp[fw,Tm.pth,vV,vW]) (by simp[fw,Tm.bot,vV,vW]);cases W with
    |num z=>exact⟨a,n⟩
    |clo E ar=>
     cases E with
     |fn x e=>refine⟨a,n.trans ?_⟩;show J (rnd r (Tm.sub [(x,J (rd V))] (Tm.sub ((x,M)::ra ar) e)))=J (rnd r (Tm.sub ((x,J (rd V))::ra ar) e));rw[ZtL a7.2.2]
     |rcc f x e=>refine⟨a,n.trans ?_⟩;have ne:=a7.2.1.2.1;show J (rnd r (Tm.sub (Tm.Fil.ar (Tm.Zhl f (rd (.clo (.rcc f x e) ar)) x (rd V))) (Tm.sub ((f,M)::(x,M)::ra ar) e)))=J (rnd r (Tm.sub ((x,J (rd V))::(f,J (rd (.clo (.rcc f x e) ar)))::ra ar) e));rw[<-Zra ne a7.2.2,Tm.Zhl,if_neg ne];rfl
     |_=>cases a7.1
   |iff t e ar=>
    obtain⟨a,n⟩:=at' _ rfl rfl (by simp[fw,Tm.pth,vV]) (by simp[fw,Tm.bot,vV]);cases V with
    |num z=>refine⟨a,n.trans ?_⟩;show J (rnd r (if z=0 then Tm.sub (ra ar) e else Tm.sub (ra ar) t))=J (rnd r (Tm.sub (ra ar) (if z=0 then e else t)));split<;>rfl
    |clo E cH=>
     cases E with
     |fn x e=>exact⟨a,n⟩
     |rcc f x e=>exact⟨a,n⟩
     |_=>cases ok.1.1
   |left w W=>
    have vW:=Znt a7;obtain⟨a,n⟩:=at' _ rfl rfl (by simp[fw,Tm.pth,vV,vW]) (by simp[fw,Tm.bot,vV,vW]);cases W with
    |num y=>
     cases V with
     |num z=>exact⟨a,n⟩
     |clo E cH=>
      cases E with
      |fn x e=>exact⟨a,n⟩
      |rcc f x e=>exact⟨a,n⟩
      |_=>cases ok.1.1
    |clo E cH=>
     cases E with
     |fn x e=>exact⟨a,n⟩
     |rcc f x e=>exact⟨a,n⟩
     |_=>cases a7.1
section
variable {N:Nat}
def Bd(N:Nat)(E:T)(ar:Ar):Prop:=ar.len+2*E.size<=2*N
mutual
def ThN(N:Nat):Th->Prop
 |.num _=>True
 |.clo E ar=>Bd N E ar/\ArN N ar
def ArN(N:Nat):Ar->Prop
 |.nil=>True
 |.cons _ v r=>ThN N v/\ArN N r
end
def WtN(N:Nat):Wt->Prop
 |.arg A ar=>Bd N A ar/\ArN N ar
 |.fn V=>ThN N V
 |.iff t e ar=>(Bd N t ar/\Bd N e ar)/\ArN N ar
 |.right _ F ar=>Bd N F ar/\ArN N ar
 |.left _ V=>ThN N V
def StN(N:Nat):Sta->Prop
 |.go E ar ws=>Bd N E ar/\ArN N ar/\∀w∈ws,WtN N w
 |.back V ws=>ThN N V/\∀w∈ws,WtN N w
theorem ZkO:∀{ar:Ar},ArN N ar->ar.get x=J v->ThN N v
 |.nil,_,e=>by cases e
 |.cons y u r,h,e=>by
  rw[Ar.get]at e;split at e
  . cases e;exact h.1
  . exact ZkO h.2 e
def Zdh(h:Bd N E ar)(hf:F∈E.parts):Bd N F ar:=by
 have:=Tm.ZrJ hf;unfold Bd at *
 lia
def ZjH(ok:ZhN s)(b:StN N s)(e:step s=.quiet s'\/step s=.loud s'):ZhN s'/\StN N s':=by
 cases s with
 |go E ar ws=>
  cases E with
  |num z=>rcases e with e|e<;>cases e;exact⟨⟨ok.1,ok.2.2⟩,trivial,b.2.2⟩
  |name x=>
   obtain⟨v,q⟩:=Ar.get_some (ar:=ar) ok.1;have:step (.go (.name x) ar ws)=.quiet (.back v ws):=by simp only[step,Zl4,q]
   rw[this]at e;rcases e with e|e<;>cases e;exact⟨⟨ZiL ok.2.1 q,ok.2.2⟩,ZkO b.2.1 q,b.2.2⟩
  |fn x f=>rcases e with e|e<;>cases e;exact⟨⟨⟨rfl,ok.1,ok.2.1⟩,ok.2.2⟩,⟨b.1,b.2.1⟩,b.2.2⟩
  |rcc g x f=>rcases e with e|e<;>cases e;exact⟨⟨⟨rfl,ok.1,ok.2.1⟩,ok.2.2⟩,⟨b.1,b.2.1⟩,b.2.2⟩
  |call F A=>rcases e with e|e<;>cases e;exact⟨⟨ok.1.1,ok.2.1,Zay ⟨ok.1.2,ok.2.1⟩ ok.2.2⟩,Zdh b.1 (by simp[T.parts]),b.2.1,Zay ⟨Zdh b.1 (by simp[T.parts]),b.2.1⟩ b.2.2⟩
  |iff C t f=>rcases e with e|e<;>cases e;exact⟨⟨ok.1.1,ok.2.1,Zay ⟨ok.1.2.1,ok.1.2.2,ok.2.1⟩ ok.2.2⟩,Zdh b.1 (by simp[T.parts]),b.2.1,Zay ⟨⟨Zdh b.1 (by simp[T.parts]),Zdh b.1 (by simp[T.parts])⟩,b.2.1⟩ b.2.2⟩
  |op w x y=>rcases e with e|e<;>cases e;exact⟨⟨ok.1.1,ok.2.1,Zay ⟨ok.1.2,ok.2.1⟩ ok.2.2⟩,Zdh b.1 (by simp[T.parts]),b.2.1,Zay ⟨Zdh b.1 (by simp[T.parts]),b.2.1⟩ b.2.2⟩
 |back V ws=>
  cases ws with
  |nil=>rcases e with e|e<;>cases e
  |cons w r=>
   have cK:∀x∈r,Zh7 x:=λx hx=>ok.2 x (Oh _ hx);have br:∀x∈r,WtN N x:=λx hx=>b.2 x (Oh _ hx);have a7:=ok.2 w Oi;have bw:=b.2 w Oi;cases w with
   |arg A ar=>rcases e with e|e<;>cases e;exact⟨⟨a7.1,a7.2,Zay ok.1 cK⟩,bw.1,bw.2,Zay b.1 br⟩
   |right w F ar=>rcases e with e|e<;>cases e;exact⟨⟨a7.1,a7.2,Zay ok.1 cK⟩,bw.1,bw.2,Zay b.1 br⟩
   |fn W=>
    cases W with
    |num z=>rcases e with e|e<;>cases e
    |clo E ar=>
     cases E with
     |fn x f=>
      rcases e with e|e<;>cases e;refine⟨⟨a7.2.1.1,⟨ok.1,a7.2.2⟩,cK⟩,?_,⟨b.1,bw.2⟩,br⟩;have R:=bw.1;have h2:=Tm.Zb (.fn x f);simp only[T.parts,Op,Oy,OI,List.sum_nil]at h2;unfold Bd at *;rw[Ar.len]
      lia
     |rcc g x f=>
      rcases e with e|e<;>cases e;refine⟨⟨a7.2.1.1,⟨ok.1,a7,a7.2.2⟩,cK⟩,?_,⟨b.1,bw,bw.2⟩,br⟩;have R:=bw.1;have h2:=Tm.Zb (.rcc g x f);simp only[T.parts,Op,Oy,OI,List.sum_nil]at h2;unfold Bd at *;rw[Ar.len,Ar.len]
      lia
     |_=>cases a7.1
   |iff t f ar=>
    cases V with
    |num z=>
     rcases e with e|e<;>cases e;by_cases q:z=0
     . simp only[q,if_true];exact⟨⟨a7.2.1,a7.2.2,cK⟩,bw.1.2,bw.2,br⟩
     . simp only[if_neg q];exact⟨⟨a7.1,a7.2.2,cK⟩,bw.1.1,bw.2,br⟩
    |clo E cH=>rcases e with e|e<;>cases e
   |left w W=>
    cases W with
    |num y=>
     cases V with
     |num z=>rcases e with e|e<;>cases e;exact⟨⟨wk_ok w y z,cK⟩,trivial,br⟩
     |clo E cH=>rcases e with e|e<;>cases e
    |clo E cH=>rcases e with e|e<;>cases e
def Zsn(w:Wt)(t:T):t.size+1<=(fw w t).size:=by
 cases w with
 |arg A ar=>rw[fw,Tm.Zb (.call _ _)];simp[T.parts];lia
 |fn V=>rw[fw,Tm.Zb (.call _ _)];simp[T.parts];lia
 |iff a b ar=>rw[fw,Tm.Zb (.iff _ _ _)];simp[T.parts];lia
 |right w F ar=>rw[fw,Tm.Zb (.op _ _ _)];simp[T.parts];lia
 |left w V=>rw[fw,Tm.Zb (.op _ _ _)];simp[T.parts];lia
theorem Zfc:∀(ws:List Wt) (t:T),t.size+ws.length<=(rnd ws t).size
 |[],_=>Oq _
 |w::ws,t=>by
  have a:=Zsn w t;have b:=Zfc ws (fw w t);rw[Os,show rnd (w::ws) t=rnd ws (fw w t)from rfl]
  lia
noncomputable def wts:Sta->List Wt
 |.go _ _ ws=>ws
 |.back _ ws=>ws
end
end Rw
namespace Ce
open PySem L2 IV
set_option tactic.hygienic false
def ZaA:Sxs:=.w (.iff (.x .NotIn (.ix V0 K0) (.glo (O "FORMS"))) (.o (.ret (.tupl .n))) .n) (.ret (.sl V0 (J K1) (J (.bin .Add K1 (.ix (.ix (.glo (O "FORMS")) (.ix V0 K0)) K0)))))
def Zbw:Fd:=fd_ 1 ["E"] ZaA
def ZaI:Sxs:=.w (.iff (.x .NotIn (.ix V0 K0) (.glo (O "FORMS"))) (.o (.ret (.tupl .n))) .n) (.ret (.sl V0 (J (.bin .Add K1 (.ix (.ix (.glo (O "FORMS")) (.ix V0 K0)) K0))) M))
def Zdf:Fd:=fd_ 1 ["E"] ZaI
def ZgC:Sxs:=.w (.iff (.x .Is V0 (.cst .non)) (.o (.ret (.tupl (.o (.Ci_ "stuck"))))) .n) (.ret (.tupl (.w (.Ci_ "loud") V0)))
def Zds:Fd:=fd_ 1 ["state"] ZgC
def ZqP:Sxs:=.w (.iff (.nq (.ix V0 K0) (.Ci_ "num")) (.o (.ret (.cst .non))) .n) (.ret (.ite (.q (.ix V0 K1) K0) V2 V1))
def Zkm:Fd:=fd_ 3 ["C","T","E"] ZqP
def ZF:Sxs:=.y (.iff (.ors (.c (.nq (.ix V1 K0) (.Ci_ "num")) (.one (.nq (.ix V2 K0) (.Ci_ "num"))))) (.o (.ret (.cst .non))) .n) (.iff (.q V0 (.Ci_ "<")) (.o (.ret (.tupl (.w (.Ci_ "num") (.ite (.x .Lt (.ix V1 K1) (.ix V2 K1)) K1 K0))))) .n) (.iff (.q V0 (.Ci_ "+")) (.o (.ret (.tupl (.w (.Ci_ "num") (.bin .Mod (.bin .Add (.ix V1 K1) (.ix V2 K1)) (.glo (O "BEYOND"))))))) .n) (.iff (.q V0 (.Ci_ "-")) (.o (.ret (.tupl (.w (.Ci_ "num") (.bin .Mod (.bin .Sub (.ix V1 K1) (.ix V2 K1)) (.glo (O "BEYOND"))))))) .n) (.ret (.tupl (.w (.Ci_ "num") (.bin .Mod (.bin .Mult (.ix V1 K1) (.ix V2 K1)) (.glo (O "BEYOND"))))))
def Zfn:Fd:=fd_ 3 ["word","first","second"] ZF
def Zjy:Sxs:=.o (.ret (.tupl (.z K0 (.tupl .n) (.tupl .n) (.tupl .n))))
def Zfs:Fd:=fd_ 1 ["code"] Zjy
def ZlL:Sxs:=.u (.iff (.q (.ix V0 K0) (.Ci_ "num")) (.o (.ret V0)) .n) (.iff (.q (.ix V0 K0) (.Ci_ "fetch")) (.o (.ret (.ix V1 (.ix V0 K1)))) .n) (.ret (.tupl (.z (.Ci_ "clo") (.ix V0 K1) (.ix V0 K2) V1)))
def Zhm:Fd:=fd_ 2 ["row","around"] ZlL
def ZhX:Sxs:=.u (.iff (.q (.ix V0 K0) (.Ci_ "jump")) (.o (.ret (.bin .Add (.tupl (.o (.ix V0 K1))) (.sl V1 (J K1) M)))) .n) (.iff (.q (.ix V0 K0) (.Ci_ "back")) (.w (.s 2 (.ix (.ix V1 K3) K0)) (.ret (.tupl (.z (.ix V2 K0) (.ix V1 K1) (.ix V2 K1) (.sl (.ix V1 K3) (J K1) M))))) .n) (.ret (.tupl (.z (.bin .Add (.ix V1 K0) K1) (.bin .Add (.ix V1 K1) (.tupl (.o (.f "thing_of" (.w V0 (.ix V1 K2)))))) (.ix V1 K2) (.ix V1 K3))))
def ZeK:Fd:=fd_ 2 ["row","state","below"] ZhX
def Zoj:Sxs:=.w (.iff (.q (.blt .len (.o (.ix V0 K2))) K1) (.o (.ret (.bin .Add (.tupl (.o V1)) (.ix V0 K3)))) .n) (.ret (.bin .Add (.tupl (.w V1 V0)) (.ix V0 K3)))
def Zir:Fd:=fd_ 2 ["W","V"] Zoj
def Zok:Sxs:=.u (.s 2 (.ix V0 (.neg K2))) (.iff (.q (.ix V2 K0) (.Ci_ "num")) (.o (.ret (.cst .non))) .n) (.ret (.tupl (.z (.ix V2 K1) (.sl V0 M (J (.neg K2))) (.f "entered" (.w V2 (.ix V0 (.neg K1)))) V1)))
def Zit:Fd:=fd_ 2 ["stack","pile","W"] Zok
def ZiI:Sxs:=.u (.s 2 (.f "chosen" (.u (.ix (.ix V1 K1) (.neg K1)) (.bin .Add (.ix V1 K0) K1) V0))) (.iff (.x .Is V2 (.cst .non)) (.o (.ret (.cst .non))) .n) (.ret (.tupl (.z V2 (.sl (.ix V1 K1) M (J (.neg K1))) (.ix V1 K2) (.ix V1 K3))))
def Ziq:Fd:=fd_ 2 ["L","state","at"] ZiI
def ZhF:Sxs:=.z (.s 2 (.ix V1 K1)) (.s 3 (.f "worked" (.u V0 (.ix V2 (.neg K2)) (.ix V2 (.neg K1))))) (.iff (.x .Is V3 (.cst .non)) (.o (.ret (.cst .non))) .n) (.ret (.tupl (.z (.bin .Add (.ix V1 K0) K1) (.bin .Add (.sl V2 M (J (.neg K2))) (.tupl (.o V3))) (.ix V1 K2) (.ix V1 K3))))
def ZeV:Fd:=fd_ 2 ["word","state","stack","N"] ZhF
def Zjo:Sxs:=.z (.iff (.q (.ix V0 K0) (.Ci_ "call")) (.o (.ret (.f "applied" (.w (.ix V1 K1) (.bin .Add (.tupl (.o (.tupl (.w (.bin .Add (.ix V1 K0) K1) (.ix V1 K2))))) (.ix V1 K3)))))) .n) (.iff (.q (.ix V0 K0) (.Ci_ "hop")) (.o (.ret (.f "applied" (.w (.ix V1 K1) (.ix V1 K3))))) .n) (.iff (.q (.ix V0 K0) (.Ci_ "unless")) (.o (.ret (.f "gone_on" (.w (.ix V0 K1) V1)))) .n) (.ret (.f "reckoned" (.w (.ix V0 K1) V1)))
def Zfo:Fd:=fd_ 2 ["row","state"] Zjo
def ZkE:Sxs:=.z (.s 2 (.ix V0 (.ix V1 K0))) (.iff (.q (.ix V2 K0) (.Ci_ "end")) (.o (.ret (.tupl (.o (.Ci_ "value"))))) .n) (.iff (.x .In (.ix V2 K0) (.glo (O "LOUD"))) (.o (.ret (.f "loud_or_stuck" (.o (.f "loud_state" (.w V2 V1)))))) .n) (.ret (.tupl (.w (.Ci_ "quiet") (.f "quiet_state" (.w V2 V1)))))
def Zgl:Fd:=fd_ 2 ["code","state","row"] ZkE
def ZfE:Sxs:=.z (.s 1 K0) (.s 2 (.lstl (.o V0))) (.whl (.ex V2) (.u (.s 3 (.meth .pop V2 .n)) (.aug 1 .Add (.ite (.q (.ix V3 K0) (.Ci_ "if")) K2 K1)) (.iff (.nt (.ex (.f "bound_names" (.o V3)))) (.o (.drp (.meth .ext V2 (.o (.f "parts_of" (.o V3)))))) .n))) (.ret V1)
def Zfr:Fd:=fd_ 1 ["E","count","waiting","place"] ZfE
def Zh0:Sx:=.iff (.q (.ix V0 K0) (.Ci_ "call")) (.o (.ret (.lstl (.u (.tupl (.u (.Ci_ "part") (.ix V0 K1) (.cst (.bl Wy)))) (.tupl (.u (.Ci_ "part") (.ix V0 K2) (.cst (.bl Wy)))) (.tupl (.w (.Ci_ "row") (.ite (.ex V1) (.tupl (.o (.Ci_ "hop"))) (.tupl (.o (.Ci_ "call")))))))))) .n
def ZhZ:Sx:=.iff (.q (.ix V0 K0) (.Ci_ "if")) (.o (.ret (.lstl (.y (.tupl (.u (.Ci_ "part") (.ix V0 K1) (.cst (.bl Wy)))) (.tupl (.w (.Ci_ "row") (.tupl (.w (.Ci_ "unless") (.bin .Add (.f "count_rows" (.o (.ix V0 K2))) K2))))) (.tupl (.u (.Ci_ "part") (.ix V0 K2) V1)) (.tupl (.w (.Ci_ "row") (.tupl (.w (.Ci_ "jump") (.bin .Add (.f "count_rows" (.o (.ix V0 K3))) K1))))) (.tupl (.u (.Ci_ "part") (.ix V0 K3) V1)))))) .n
def ZhY:Sx:=.ret (.lstl (.u (.tupl (.u (.Ci_ "part") (.ix V0 K1) (.cst (.bl Wy)))) (.tupl (.u (.Ci_ "part") (.ix V0 K2) (.cst (.bl Wy)))) (.tupl (.w (.Ci_ "row") (.tupl (.w (.Ci_ "work") (.ix V0 K0)))))))
def ZkC:Sxs:=.u Zh0 ZhZ ZhY
def Zgi:Fd:=fd_ 2 ["E","last"] ZkC
def ZfD:Sxs:=.u (.s 1 (.lstl (.o K0))) (.forr (.nm 2) (.pl V0) (.o (.drp (.meth .app V1 (.o (.bin .Add (.ix V1 (.neg K1)) (.blt .len (.o (.a "Unit" V2 "rows"))))))))) (.ret V1)
def Zfq:Fd:=fd_ 1 ["units","firsts","unit"] ZfD
def ZhG:Sxs:=.u (.iff (.x .In (.ix V0 K0) (.glo (O "LEADING"))) (.o (.ret (.tupl (.w (.ix V0 K0) (.bin .Add V1 (.ix V0 K1)))))) .n) (.iff (.q (.ix V0 K0) (.Ci_ "close")) (.o (.ret (.tupl (.u (.Ci_ "close") (.ix V2 (.ix V0 K1)) (.ix V0 K2))))) .n) (.ret V0)
def Zhn:Fd:=fd_ 3 ["row","first","firsts"] ZhG
def ZkL:Sx:=.s 1 (.mk (O "Coder") .n)
def ZkK:Sx:=.drp (.m "Coder" "begin_unit" V1 (.u V0 (.tupl .n) (.Ci_ "end")))
def ZkJ:Sx:=.drp (.m "Coder" "do_all" V1 .n)
def ZkI:Sx:=.s 2 (.f "first_rows" (.o (.a "Coder" V1 "units")))
def ZkH:Sx:=.s 3 (.lstl .n)
def Zgs:Sx:=.forr (.nm 4) (.pl (.a "Coder" V1 "units")) (.w (.s 5 (.blt .len (.o V3))) (.drp (.meth .ext V3 (.o (.comp [O "row",O "first",O "firsts"] [M,J 5,J 2] (.pl (.a "Unit" V4 "rows")) (.nm 0) M (.f "numbered" (.u V0 V1 V2)))))))
def ZkG:Sx:=.ret V3
def ZiJ:Sxs:=.c ZkL (.c ZkK (.y ZkJ ZkI ZkH Zgs ZkG))
def Zis:Fd:=fd_ 1 ["E","coder","firsts","code","unit","first"] ZiJ
def Zdz:Sxs:=.w (.sa "Unit" V0 "around" V1) (.sa "Unit" V0 "rows" (.lstl .n))
def ZaD:Fd:=fd_ 2 ["self","around"] Zdz
def ZhL:Sxs:=.o (.iff (.x .In (.ix V1 K0) (.glo (O "LEADING"))) (.o (.drp (.meth .app (.a "Unit" V0 "rows") (.o (.tupl (.w (.ix V1 K0) (.bin .Add (.blt .len (.o (.a "Unit" V0 "rows"))) (.ix V1 K1)))))))) (.o (.drp (.meth .app (.a "Unit" V0 "rows") (.o V1)))))
def ZaU:Fd:=fd_ 2 ["self","row"] ZhL
def Zc4:Sxs:=.w (.sa "Coder" V0 "units" (.lstl .n)) (.sa "Coder" V0 "waiting" (.lstl .n))
def Zam:Fd:=fd_ 1 ["self"] Zc4
def Zgb:Sxs:=.o (.drp (.meth .ext (.a "Coder" V0 "waiting") (.o (.comp [O "piece",O "unit"] [M,J 1] (.rev V2) (.nm 0) M (.tupl (.w V1 V0))))))
def Zc1:Fd:=fd_ 3 ["self","unit","pieces"] Zgb
def Zeh:Sx:=.s 4 (.mk (O "Unit") (.o V2))
def Zeg:Sx:=.drp (.meth .app (.a "Coder" V0 "units") (.o V4))
def Zef:Sx:=.drp (.m "Coder" "wait_for" V0 (.w V4 (.lstl (.w (.tupl (.u (.Ci_ "part") V1 (.cmp .Eq V3 (.Ci_ "back")))) (.tupl (.w (.Ci_ "row") (.tupl (.o V3))))))))
def Ze3:Sxs:=.u Zeh Zeg Zef
def Zcc:Fd:=fd_ 4 ["self","E","around","ended","unit"] Ze3
def ZcQ:Sx:=.s 3 (.trev (.f "bound_names" (.o V2)))
def ZcP:Sx:=.drp (.m "Unit" "add_row" V1 (.o (.tupl (.u (.Ci_ "close") (.blt .len (.o (.a "Coder" V0 "units"))) V3))))
def ZcO:Sx:=.drp (.m "Coder" "begin_unit" V0 (.u (.ix (.f "parts_of" (.o V2)) K0) (.bin .Add V3 (.a "Unit" V1 "around")) (.Ci_ "back")))
def Zdn:Sxs:=.u ZcQ ZcP ZcO
def ZaZ:Fd:=fd_ 3 ["self","unit","E","names"] Zdn
def ZbR:Sxs:=.o (.iff (.q (.ix V2 K0) (.Ci_ "num")) (.o (.drp (.m "Unit" "add_row" V1 (.o V2)))) (.o (.iff (.q (.ix V2 K0) (.Ci_ "name")) (.o (.drp (.m "Unit" "add_row" V1 (.o (.tupl (.w (.Ci_ "fetch") (.tix (.a "Unit" V1 "around") (.ix V2 K1)))))))) (.o (.iff (.ex (.f "bound_names" (.o V2))) (.o (.drp (.m "Coder" "begin_function" V0 (.w V1 V2)))) (.o (.drp (.m "Coder" "wait_for" V0 (.w V1 (.f "pieces_of" (.w V2 V3)))))))))))
def Zdt:Fd:=fd_ 4 ["self","unit","E","last"] ZbR
def ZhM:Sxs:=.o (.whl (.ex (.a "Coder" V0 "waiting")) (.u (.s 1 (.meth .pop (.a "Coder" V0 "waiting") .n)) (.s 2 (.ix V1 K1)) (.iff (.q (.ix V2 K0) (.Ci_ "row")) (.o (.drp (.m "Unit" "add_row" (.ix V1 K0) (.o (.ix V2 K1))))) (.o (.drp (.m "Coder" "do_part" V0 (.u (.ix V1 K0) (.ix V2 K1) (.ix V2 K2))))))))
def ZdY:Fd:=fd_ 1 ["self","pair","piece"] ZhM
structure Cod(P:Pg):Prop where
 bound_names:P.tb.lookup (O "bound_names")=J Zbw
 parts_of:P.tb.lookup (O "parts_of")=J Zdf
 loud_or_stuck:P.tb.lookup (O "loud_or_stuck")=J Zds
 chosen:P.tb.lookup (O "chosen")=J Zkm
 worked:P.tb.lookup (O "worked")=J Zfn
 code_begun:P.tb.lookup (O "code_begun")=J Zfs
 thing_of:P.tb.lookup (O "thing_of")=J Zhm
 quiet_state:P.tb.lookup (O "quiet_state")=J ZeK
 entered:P.tb.lookup (O "entered")=J Zir
 applied:P.tb.lookup (O "applied")=J Zit
 gone_on:P.tb.lookup (O "gone_on")=J Ziq
 reckoned:P.tb.lookup (O "reckoned")=J ZeV
 loud_state:P.tb.lookup (O "loud_state")=J Zfo
 code_step:P.tb.lookup (O "code_step")=J Zgl
 count_rows:P.tb.lookup (O "count_rows")=J Zfr
 pieces_of:P.tb.lookup (O "pieces_of")=J Zgi
 first_rows:P.tb.lookup (O "first_rows")=J Zfq
 numbered:P.tb.lookup (O "numbered")=J Zhn
 code_of:P.tb.lookup (O "code_of")=J Zis
 n_Unit___init__:P.tb.lookup (mnm (O "Unit") (O "__init__"))=M
 Unit___init__:P.ms.lookup (mnm (O "Unit") (O "__init__"))=J ZaD
 n_Unit_add_row:P.tb.lookup (mnm (O "Unit") (O "add_row"))=M
 Unit_add_row:P.ms.lookup (mnm (O "Unit") (O "add_row"))=J ZaU
 n_Coder___init__:P.tb.lookup (mnm (O "Coder") (O "__init__"))=M
 Coder___init__:P.ms.lookup (mnm (O "Coder") (O "__init__"))=J Zam
 n_Coder_wait_for:P.tb.lookup (mnm (O "Coder") (O "wait_for"))=M
 Coder_wait_for:P.ms.lookup (mnm (O "Coder") (O "wait_for"))=J Zc1
 n_Coder_begin_unit:P.tb.lookup (mnm (O "Coder") (O "begin_unit"))=M
 Coder_begin_unit:P.ms.lookup (mnm (O "Coder") (O "begin_unit"))=J Zcc
 n_Coder_begin_function:P.tb.lookup (mnm (O "Coder") (O "begin_function"))=M
 Coder_begin_function:P.ms.lookup (mnm (O "Coder") (O "begin_function"))=J ZaZ
 n_Coder_do_part:P.tb.lookup (mnm (O "Coder") (O "do_part"))=M
 Coder_do_part:P.ms.lookup (mnm (O "Coder") (O "do_part"))=J Zdt
 n_Coder_do_all:P.tb.lookup (mnm (O "Coder") (O "do_all"))=M
 Coder_do_all:P.ms.lookup (mnm (O "Coder") (O "do_all"))=J ZdY
 g:P.G (O "FORMS")=J (.kd (O "FORMS"))
 gl:P.G (O "LEADING")=J (.tup [.str (O "unless"),.str (O "jump")])
 go:P.G (O "LOUD")=J (.tup [.str (O "call"),.str (O "hop"),.str (O "unless"),.str (O "work")])
 gb:P.G (O "BEYOND")=J (.int 1000000)
 gd:P.GD (O "FORMS")=J Gn.ZdS
 big:1000000<=P.L
section
variable {P:Pg}
noncomputable def bnd:T->List Str
 |.fn x _=>[x]
 |.rcc f x _=>[f,x]
 |_=>[]
section
variable {w:Wd}
@[simp]def Zox:(w.s=O "num")↔False:=by cases w<;>simp[Wd.s]
@[simp]def Zl0:(w.s=O "name")↔False:=by cases w<;>simp[Wd.s]
@[simp]def Zl1:(w.s=O "call")↔False:=by cases w<;>simp[Wd.s]
@[simp]def Zoy:(w.s=O "if")↔False:=by cases w<;>simp[Wd.s]
@[simp]def ZjD:ZbA Gn.ZdS (.inr w.s)=J (.tup [.int 0,.int 2]):=by cases w<;>rfl
end
def Cod.tre(H:Cod P):Gn.Tre P:=⟨H.parts_of,H.g,H.gd,H.big⟩
def ZgL(H:Cod P)(n:Nat)(t:T)(h:Hd):run P (n+1) (O "bound_names") [t.d] h=.ok (.tup ((bnd t).map .str)) h:=by
 have no:∀(w:Str) (ds:List D),ZbA Gn.ZdS (.inr w)=M->run P (n+1) (O "bound_names") [.tup (.str w::ds)] h=.ok (.tup []) h:=λw ds e=>by have w:xs2 (P.tbl n) ZaA [J (.tup (.str w::ds))] h=.ok (.rt (.tup []),_) h:=Zd ((Zj (Gn.ZgO H.tre ⟨rfl,rfl⟩ Gn.Zka e)).trans (Zd (Zu (d:=.tup []) rfl)));exact(Zf H.bound_names rfl).trans (congrArg Ze w)
 have yes:∀(w:Str) (ds:List D) (a b:Int),ZbA Gn.ZdS (.inr w)=J (.tup [.int a,.int b])->run P (n+1) (O "bound_names") [.tup (.str w::ds)] h=.ok (.tup (cutD (.str w::ds) (J 1) (J (1+a)))) h:=λw ds a b e=>by have w:xs2 (P.tbl n) ZaA [J (.tup (.str w::ds))] h=.ok (.rt (.tup (cutD (.str w::ds) (J 1) (J (1+a)))),_) h:=(Za ((Zg (Gn.ZgO H.tre ⟨rfl,rfl⟩ Gn.Zka e)).trans rfl)).trans (Zd (Zu ((Gn.Zic (x:=.tup (.str w::ds)) rfl rfl (Gn.ZmQ (Gn.Zqi H.tre ⟨rfl,rfl⟩ e))).trans rfl)));exact(Zf H.bound_names rfl).trans (congrArg Ze w)
 cases t with
 |num z=>exact no (O "num") _ rfl
 |name x=>exact no (O "name") _ rfl
 |fn x e=>exact yes (O "fn") _ 1 1 rfl
 |rcc f x e=>exact yes (O "rec") _ 2 1 rfl
 |call f a=>exact yes (O "call") _ 0 2 rfl
 |iff c a b=>exact yes (O "if") _ 0 3 rfl
 |op w a b=>exact yes w.s _ 0 2 ZjD
theorem ZgJ(H:Cod P)(n:Nat)(t:T)(h:Hd):run P (n+1) (O "parts_of") [t.d] h=.ok (.tup (t.parts.map T.d)) h:=Gn.ZgJ H.tre n t h
noncomputable def cnt:T->Nat
 |.call f a=>cnt f+cnt a+1
 |.op _ a b=>cnt a+cnt b+1
 |.iff c t e=>cnt c+cnt t+cnt e+2
 |_=>1
def inn(t:T):List T:=if bnd t=[]then t.parts else []
noncomputable def one:T->Int
 |.iff _ _ _=>2
 |_=>1
def Zsz(t:T):(cnt t:Int)=one t+((inn t).map cnt).sum:=by cases t<;>simp[cnt,one,inn,bnd,T.parts]<;>lia
def Zb(t:T):t.size=1+(t.parts.map T.size).sum:=by
 unfold T.size;rw[T.places_parts];simp only[Os,List.length_flatMap]
 lia
def ZoX(t:T):1+((inn t).map T.size).sum<=t.size:=by
 rw[Zb t];unfold inn;split
 . lia
 . simp
def Zm(t:T):1<=t.size:=by rw[Zb];lia
theorem Zj6:∀W:List T,W.length<=(W.map T.size).sum
 |[]=>by simp
 |t::W=>by
  have:=Zm t;have:=Zj6 W;simp
  lia
def lc1:Sx:=.s 3 (.meth .pop V2 .n)
def lc2:Ex:=.ite (.q (.ix V3 K0) (.Ci_ "if")) K2 K1
def lc3:Sx:=.iff (.nt (.ex (.f "bound_names" (.o V3)))) (.o (.drp (.meth .ext V2 (.o (.f "parts_of" (.o V3)))))) .n
def Zj4:Sxs:=.u lc1 (.aug 1 .Add lc2) lc3
def Ze4{U:Tb}(p:ev U o S h=.ok (.ref i) R)(hc:R[i]?=J (.ins C fs))(hl:fs.lookup f=J d):ev U (.att [C] o f) S h=.ok d R:=by rw[Zqr,p];simp only[Zl,ZfX,Zai,hc,if_pos (Ox.mpr rfl),hl];rfl
def ZeU{U:Tb}(p:ev U o S h=.ok (.tup (x::ds)) R):ev U (.ix o (.ci 0)) S h=.ok x R:=by refine(Zr p rfl).trans ?_;show qe.ofO (atI (x::ds) 0) R=_;rw[ZiK];rfl
def Zxp{U:Tb}(a:S[i]?=J (J (.int x)))(q:ev U e S h=.ok (.int y) R):xs1 U (.aug i .Add e) S h=.ok (.nx,S.set i (J (.int (x+y)))) R:=by show qe.bind (qe.ofO (S[i]?).join h) _=_;rw[a];show qe.bind (ev U e S h) _=_;rw[q];rfl
section
variable {h:Hd}
def Zya:Zcm .pop (.ref h.length) [] (h++[.lst (l++[d])])=.ok d (h++[.lst l]):=(ZcX ZbK).trans (by rw[ZjT])
def Zyh(hz:l.length+xs.length<=sizeLine):Zcm .ext (.ref h.length) [.tup xs] (h++[.lst l])=.ok .non (h++[.lst (l++xs)]):=by simp only[Zcm,ZbK,ZhT,Zr6];rw[if_pos hz,ZjT]
end
def Zxe{U:Tb}(t:T)(h:Hd)(a b c):ev U lc2 [a,b,c,J t.d] h=.ok (.int (one t)) h:=by
 have e:∀(w:Str) (ds:List D),ev U lc2 [a,b,c,J (.tup (.str w::ds))] h=.ok (.int (if w=O "if" then 2 else 1)) h:=λw ds=>by
  unfold lc2;rw[Zqp,Zcd (x:=w) (ZeU rfl) rfl,Zl];split
  . rename_i z;rw[if_pos (of_decide_eq_true z)];rfl
  . rename_i z;rw[if_neg λy=>z (decide_eq_true y)];rfl
 cases t with
 |op w x y=>exact(e w.s _).trans (by rw[if_neg λz=>Zoy.mp z];rfl)
 |_=>exact e _ _
theorem ZmF(H:Cod P){h:Hd}(n:Nat):∀(fuel:Nat) (W:List T) (c:Int) (p:Option D),(W.map T.size).sum<fuel->(W.map T.size).sum<=900000->∃p',
 Zaj (tst (P.tbl (n+1)) (.ex (.var 2))) (xs2 (P.tbl (n+1)) Zj4) fuel [J E,J (.int c),J (.ref h.length),p] (h++[.lst (W.map T.d)])
  = .ok (.nx,[J E,J (.int (c+(W.map cnt).sum)),J (.ref h.length),p']) (h++[.lst []])
 |0,W,c,p,R,h2=>by lia
 |fuel+1,W,c,p,R,h2=>by
  rcases List.eq_nil_or_concat W with rfl|⟨V,t,rfl⟩
  . exact⟨p,(ZgH (Zgd (ys:=[]) rfl ZbK)).trans (by rw[Oy,List.sum_nil,Int.natCast_zero,Int.add_zero])⟩
  . rw[List.concat_eq_append,List.map_append,List.sum_append]at R h2;rw[List.concat_eq_append,List.map_append];have e1:=ZoX t;have e2:=Zsz t;have e3:=Zj6 V;have e4:t.parts.length<=3:=by cases t<;>simp[T.parts]
    simp only[Op,Oy,OI,List.sum_nil]at R h2;obtain⟨p',e⟩:=ZmF H (h:=h) (E:=E) n fuel (V++inn t) (c+one t) (J t.d) (by rw[List.map_append,List.sum_append];lia) (by rw[List.map_append,List.sum_append];lia);rw[List.map_append]at e;refine⟨p',(Ze6 (Zi (Zgd rfl ZbK) (by simp)) ((Za (Zn (ZdC rfl ZbK rfl Zya))).trans ((Za (Zxp rfl (Zxe t _ _ _ _))).trans (Za (R:=h++[.lst (V.map T.d++(inn t).map T.d)]) ?_)))).trans (e.trans ?_)⟩
    . have rb:=ZgL H n t (h++[.lst (V.map T.d)]);unfold inn;cases hb:bnd t with
      |nil=>rw[hb]at rb;rw[if_pos rfl];exact(Zj (ZfA rb rfl rfl)).trans ((Za (ZU (ZdC rfl ZbK (Zc (Zt (ZgJ H n t _) rfl) rfl) (Zyh (by rw[YC,Yt,Yt];lia))))).trans rfl)
      |cons y ys=>rw[hb]at rb;rw[if_neg (by simp),Oy,Ys];exact(Zg (ZfA rb rfl rfl)).trans rfl
    . rw[show c+one t+(((V++inn t).map cnt).sum:Int)=c+((V++[t]).map cnt).sum by simp;lia]
def Zmi(H:Cod P)(n:Nat)(t:T)(h:Hd)(hz:t.size<=1000):run P (n+2) (O "count_rows") [t.d] h=.ok (.int (cnt t)) (h++[.lst []]):=by rw[Zf H.count_rows rfl];obtain⟨p',e⟩:=ZmF H (h:=h) (E:=t.d) n P.L [t] 0 M (by have:=H.big;simp;lia) (by simp;lia);rw[show(0+(([t].map cnt).sum:Nat):Int)=cnt t by simp]at e;have w:xs2 (P.tbl (n+1)) ZfE [J t.d,M,M,M] h=.ok (.rt (.int (cnt t)),_) (h++[.lst []]):=(Za (Zn rfl)).trans ((Za (Zn (Zhv (xs:=[t.d]) rfl (by decide:1<=1000)))).trans ((Za (s:=.whl (.ex (.var 2)) Zj4) (T:=P.tbl (n+1)) e).trans (Zd (Zu rfl))));exact congrArg Ze w
end
set_option tactic.hygienic true
section
inductive Rw where
 |num (n:Int)|fetch (i:Nat)|close (k:Int) (ns:List Str)|work (w:Wd)|call|hop|unl (k:Int)|jmp (k:Int)|back|fin
noncomputable def Rw.d:Rw->D
 |.num n=>.tup [.str (O "num"),.int n]
 |.fetch i=>.tup [.str (O "fetch"),.int (i:Int)]
 |.close k ns=>.tup [.str (O "close"),.int k,.tup (ns.map .str)]
 |.work w=>.tup [.str (O "work"),.str w.s]
 |.call=>.tup [.str (O "call")]
 |.hop=>.tup [.str (O "hop")]
 |.unl k=>.tup [.str (O "unless"),.int k]
 |.jmp k=>.tup [.str (O "jump"),.int k]
 |.back=>.tup [.str (O "back")]
 |.fin=>.tup [.str (O "end")]
noncomputable def wd:Rw->String
 |.num _ => "num" |.fetch _ => "fetch" |.close _ _ => "close" |.work _ => "work" |.call => "call" |.hop => "hop" |.unl _ => "unless" |.jmp _ => "jump" |.back => "back" |.fin => "end"
def Zkr(r:Rw):∃ds,r.d=.tup (.str (Str.ofString (wd r))::ds):=by cases r<;>exact⟨_,rfl⟩
noncomputable def Rw.up(p:Int):Rw->Rw
 |.unl k=>.unl (p+k)
 |.jmp k=>.jmp (p+k)
 |r=>r
inductive It where
 |row (r:Rw)|part (t:T) (last:Bool)
noncomputable def It.d:It->D
 |.row r=>.tup [.str (O "row"),r.d]
 |.part t b=>.tup [.str (O "part"),t.d,.bl b]
def its(last:Bool):T->List It
 |.call f a=>[.part f Wy,.part a Wy,.row (if last then .hop else .call)]
 |.op w a b=>[.part a Wy,.part b Wy,.row (.work w)]
 |.iff c t e=>[.part c Wy,.row (.unl (cnt t+2)),.part t last,.row (.jmp (cnt e+1)),.part e last]
 |_=>[]
structure Un where
 u:Nat
 r:Nat
 sc:List Str
 rows:List Rw
structure St(h0 h:Hd)(c us w:Nat)(U:List Un)(ws:List D):Prop where
 qc:h[c]?=J (.ins (O "Coder") [(O "units",.ref us),(O "waiting",.ref w)])
 qs:h[us]?=J (.lst (U.map λx=>.ref x.u))
 qw:h[w]?=J (.lst ws)
 qu:∀x∈U,h[x.u]?=J (.ins (O "Unit") [(O "around",.tup (x.sc.map .str)),(O "rows",.ref x.r)])
 qr:∀x∈U,h[x.r]?=J (.lst (x.rows.map Rw.d))
 nd:(U.map Un.r).Nodup
 d1:us≠w
 d2:∀x∈U,us≠x.r
 d3:∀x∈U,w≠x.r
 o1:h0.length<=us
 o2:h0.length<=w
 o3:∀x∈U,h0.length<=x.r
 ol:h0.length<=h.length
 old:∀i,i<h0.length->h[i]?=h0[i]?
variable {h0 h:Hd}{c us w:Nat}{U A B_:List Un}{x:Un}{ws:List D}
def Zah(e:h[i]?=J o):i<h.length:=by
 rcases Nat.lt_or_ge i h.length with q|q
 . exact q
 . rw[List.getElem?_eq_none q]at e;cases e
def keep{i:Nat}{o:DO}{g:Hd}(e:h[i]?=J o):(h++g)[i]?=J o:=by rw[Oe (Zah e)];exact e
def St.app(q:St h0 h c us w U ws){g:Hd}:St h0 (h++g) c us w U ws:=⟨keep q.qc,keep q.qs,keep q.qw,λx hx=>keep (q.qu x hx),λx hx=>keep (q.qr x hx),q.nd,q.d1,q.d2,q.d3,q.o1,q.o2,q.o3,by have:=q.ol;simp;lia,λi hi=>by rw[Oe (by have:=q.ol;lia)];exact q.old i hi⟩
def Zfi{i j:Nat}{C fs l}(e:h[i]?=J (.ins C fs))(e':h[j]?=J (.lst l)):j≠i:=by intro q;rw[q,e]at e';cases e'
def St.setW(q:St h0 h c us w U ws)(vs:List D):St h0 (h.set w (.lst vs)) c us w U vs:=by
 refine⟨?_,?_,?_,λx hx=>?_,λx hx=>?_,q.nd,q.d1,q.d2,q.d3,q.o1,q.o2,q.o3,by simpa using q.ol,λi hi=>by rw[Oc (by have:=q.o2;lia)];exact q.old i hi⟩
 . rw[Oc (Zfi q.qc q.qw)];exact q.qc
 . rw[Oc q.d1.symm];exact q.qs
 . rw[Ol (Zah q.qw)]
 . rw[Oc (Zfi (q.qu x hx) q.qw)];exact q.qu x hx
 . rw[Oc (q.d3 x hx)];exact q.qr x hx
def St.setR(q:St h0 h c us w (A++x::B_) ws)(vs:List Rw):St h0 (h.set x.r (.lst (vs.map Rw.d))) c us w (A++{x with rows:=vs}::B_) ws:=by
 have hx:x∈A++x::B_:=by simp
 have hr:=q.qr x hx;have hn:=q.nd;rw[List.map_append,Op,List.nodup_append]at hn;obtain⟨n1,n2,n3⟩:=hn;rw[List.nodup_cons]at n2;have ne:∀y,y∈A\/y∈B_->x.r≠y.r:=by
  intro y hy e;rcases hy with hy|hy
  . exact n3 y.r (List.mem_map_of_mem hy) x.r (Oi) e.symm
  . exact n2.1 (e▸List.mem_map_of_mem hy)
 have mem:∀y,y∈A++{x with rows:=vs}::B_->y={x with rows:=vs}\/(y∈A\/y∈B_):=by
  intro y hy;rcases OD.mp hy with hy|hy
  . exact .inr (.inl hy)
  . rcases O3.mp hy with hy|hy
    . exact .inl hy
    . exact .inr (.inr hy)
 have old:∀y,y∈A\/y∈B_->y∈A++x::B_:=by intro y hy;rcases hy with hy|hy<;>simp[hy]
 refine⟨?_,?_,?_,λy hy=>?_,λy hy=>?_,?_,q.d1,λy hy=>?_,λy hy=>?_,q.o1,q.o2,λy hy=>?_,by simpa using q.ol,λi hi=>by rw[Oc (by have:=q.o3 x hx;lia)];exact q.old i hi⟩
 . rw[Oc (Zfi q.qc hr)];exact q.qc
 . rw[Oc (q.d2 x hx).symm];have:=q.qs;simpa using this
 . rw[Oc (q.d3 x hx).symm];exact q.qw
 . rcases mem y hy with rfl|hy
   . rw[Oc (Zfi (q.qu x hx) hr)];exact q.qu x hx
   . rw[Oc (Zfi (q.qu y (old y hy)) hr)];exact q.qu y (old y hy)
 . rcases mem y hy with rfl|hy
   . rw[Ol (Zah hr)]
   . rw[Oc (ne y hy)];exact q.qr y (old y hy)
 . have:=q.nd;simpa using this
 . rcases mem y hy with rfl|hy
   . exact q.d2 x hx
   . exact q.d2 y (old y hy)
 . rcases mem y hy with rfl|hy
   . exact q.d3 x hx
   . exact q.d3 y (old y hy)
 . rcases mem y hy with rfl|hy
   . exact q.o3 x hx
   . exact q.o3 y (old y hy)
def St.more(q:St h0 h c us w U ws)(sc:List Str):St h0 (List.set (h++[.ins (O "Unit") [(O "around",.tup (sc.map .str)),(O "rows",.ref (h.length+1))],.lst []]) us (.lst ((U.map λx=>.ref x.u)++[.ref h.length]))) c us w (U++[⟨h.length,h.length+1,sc,[]⟩]) ws:=by
 have q1:=q.app (g:=[.ins (O "Unit") [(O "around",.tup (sc.map .str)),(O "rows",.ref (h.length+1))],.lst []]);have lu:=Zah q.qs;have new:∀y,y∈U++[⟨h.length,h.length+1,sc,[]⟩]->y∈U\/y=⟨h.length,h.length+1,sc,[]⟩:=λy hy=>by simpa using hy
 refine⟨?_,?_,?_,λy hy=>?_,λy hy=>?_,?_,q.d1,λy hy=>?_,λy hy=>?_,q.o1,q.o2,λy hy=>?_,by have:=q.ol;simp;lia,λi hi=>by rw[Oc (by have:=q.o1;lia)];exact q1.old i hi⟩
 . rw[Oc (Zfi q1.qc q1.qs)];exact q1.qc
 . rw[Ol (by simp;lia)];simp
 . rw[Oc q.d1];exact q1.qw
 . rcases new y hy with hy|rfl
   . rw[Oc (Zfi (q1.qu y hy) q1.qs)];exact q1.qu y hy
   . rw[Oc (by simp only;lia)];simp
 . rcases new y hy with hy|rfl
   . rw[Oc (q.d2 y hy)];exact q1.qr y hy
   . rw[Oc (by simp only;lia)];simp
 . rw[List.map_append,List.nodup_append];refine⟨q.nd,by simp,λa ha b hb e=>?_⟩;obtain⟨y,hy,rfl⟩:=List.mem_map.mp ha;have:=Zah (q.qr y hy);simp at hb
   lia
 . rcases new y hy with hy|rfl
   . exact q.d2 y hy
   . simp only;lia
 . rcases new y hy with hy|rfl
   . exact q.d3 y hy
   . have:=Zah q.qw;simp only;lia
 . rcases new y hy with hy|rfl
   . exact q.o3 y hy
   . have:=q.ol;simp only;lia
end
set_option tactic.hygienic false
section
variable {P:Pg}{h0 h:Hd}{c us w:Nat}{U:List Un}{x:Un}{ws:List D}
def Zs7{U:Tb}(q:ev U e S h=.ok (.int z) R):ev U (.tupl (.cons (.cst (.str a)) (.cons (.tupl (.cons (.cst (.str b)) (.cons e .nil))) .nil))) S h=.ok (.tup [.str a,.tup [.str b,.int z]]) R:=Zan (xs:=[_,_]) (Zc rfl (Zc (Zan (xs:=[_,_]) (Zc rfl (Zc q rfl)) (show 2<=1000 by decide)) rfl)) (show 2<=1000 by decide)
def Zo8(H:Cod P)(n:Nat)(t:T)(last:Bool)(h:Hd)(hz:t.size<=1000)(ht:its last t≠[]):∃g,run P (n+3) (O "pieces_of") [t.d,.bl last] h=.ok (.ref (h++g).length) ((h++g)++[.lst ((its last t).map It.d)]):=by
 rw[Zf H.pieces_of rfl];cases t with
 |call f a=>exact⟨[],by rw[Ys];cases last<;>exact rfl⟩
 |op w a b=>refine⟨[],?_⟩;rw[Ys];exact congrArg Ze ((Za ((Zg (Zi (Zcd (x:=w.s) rfl rfl) (decide_eq_false Zl1.mp))).trans rfl)).trans ((Za ((Zg (Zi (Zcd (x:=w.s) rfl rfl) (decide_eq_false Zoy.mp))).trans rfl)).trans (Zd (Zu rfl))))
 |iff c t e=>rw[Zb]at hz;simp only[T.parts,Op,Oy,OI,List.sum_nil]at hz;refine⟨[.lst []]++[.lst []],?_⟩;rw[<-Oz];exact congrArg Ze ((Za ((Zg rfl).trans rfl)).trans (Zd ((Zj rfl).trans (Zd (Zu (Zhv (xs:=[_,_,_,_,_]) (Zc rfl (Zc (Zs7 ((Zh (Zt (Zmi H n t h (by lia)) rfl) rfl).trans rfl)) (Zc rfl (Zc (Zs7 ((Zh (Zt (Zmi H n e _ (by lia)) rfl) rfl).trans rfl)) (Zc rfl rfl))))) (show 5<=1000 by decide)))))))
 |_=>exact absurd rfl ht
def Zsi{GD:Str->Option (List (Key×D))}{h:Hd}{x:String}:opC GD .In (.str (Str.ofString x)) (.tup [.str (O "unless"),.str (O "jump")]) h=.ok (.bl (Wz (x="unless" \/ x="jump"))) h:=by have:=@ZbX GD h [O "unless",O "jump"] (Str.ofString x);simpa using this
def ZoN(H:Cod P)(n:Nat)(r:Rw)(p:ev (P.tbl n) e S h=.ok r.d h):tst (P.tbl n) (.ex (.cmp .In (.ix e (.ci 0)) (.glo (O "LEADING")))) S h=.ok (Wz (wd r="unless" \/ wd r="jump")) h:=by obtain⟨ds,ed⟩:=Zkr r;rw[ed]at p;exact ZbM ((Zv (ZeU p) (by rw[Zhw,show(P.tbl n).G _=_ from H.gl];rfl)).trans Zsi)
def Zml(H:Cod P)(n:Nat)(q:St h0 h c us w U ws)(hx:x∈U)(aw:Rw)(hz:x.rows.length<=100000):
 run P (n+1) (mnm (O "Unit") (O "add_row")) [.ref x.u,aw.d] h=.ok .non (h.set x.r (.lst ((x.rows++[aw.up x.rows.length]).map Rw.d))):=by
 rw[Zz H.n_Unit_add_row H.Unit_add_row rfl,List.map_append];have qr:=q.qr x hx;have ea:∀d,ev (P.tbl n) (.att [O "Unit"] (.var 0) (O "rows")) [J (.ref x.u),d] h=.ok (.ref x.r) h:=λd=>Ze4 rfl (q.qu x hx) rfl;have app:∀{e o d},ev (P.tbl n) e [J (.ref x.u),o] h=.ok d h->xs2 (P.tbl n) (.cons (.drp (.meth .app (.att [O "Unit"] (.var 0) (O "rows")) (.cons e .nil))) .nil) [J (.ref x.u),o] h=.ok (.nx,[J (.ref x.u),o]) (h.set x.r (.lst (x.rows.map Rw.d++[d]))):=λp=>(Za (ZU (ZdC (ea _) qr (Zc p rfl) (ZaT qr (by rw[Yt,YC];lia))))).trans rfl;have t:=ZoN H n (e:=.var 1) (S:=[J (.ref x.u),J aw.d]) (h:=h) aw rfl;have two:∀{s:Str}{z:Int},ev (P.tbl n) (.tupl (.cons (.ix (.var 1) (.ci 0)) (.cons (.bin .Add (.blt .len (.cons (.att [O "Unit"] (.var 0) (O "rows")) .nil)) (.ix (.var 1) (.ci 1))) .nil))) [J (.ref x.u),J (.tup [.str s,.int z])] h=.ok (.tup [.str s,.int (x.rows.length+z)]) h:=λ{s z}=>Zan (Zc (ZeU rfl) (Zc ((Zh (Zf2 (Zc (ea _) rfl) (Zg9 qr)) (y:=.int z) rfl).trans (by rw[Yt];rfl)) rfl)) (show 2<=1000 by decide)
 have go:wd aw ≠ "unless" -> wd aw ≠ "jump" -> aw.up x.rows.length=aw->Ze (xs2 (P.tbl n) ZaU.body (ZE ZaU.N [.ref x.u,aw.d]) h)=.ok .non (h.set x.r (.lst (x.rows.map Rw.d++[aw.up x.rows.length].map Rw.d))):=λw1 w2 e=>by rw[e];exact congrArg Ze ((Za ((Zg (Zi t (decide_eq_false λz=>z.elim w1 w2))).trans (app rfl))).trans rfl)
 cases aw with
 |unl k=>exact congrArg Ze ((Za ((Zj (Zi t (decide_eq_true (.inl rfl)))).trans (app two))).trans rfl)
 |jmp k=>exact congrArg Ze ((Za ((Zj (Zi t (decide_eq_true (.inr rfl)))).trans (app two))).trans rfl)
 |_=>exact go (by simp[wd]) (by simp[wd]) rfl
theorem Zp1{U:Tb}{u k:Nat}{ps:List D}(e:h[k]?=J (.lst ps)):∀(ds ag:List D),ag.length+ds.length<=1000 ->
 ZV (J (k,ps)) (.nm 0) (tsto U M) (ev U (.tupl (.cons (.var 1) (.cons (.var 0) .nil)))) ds [M,J (.ref u)] ag h=.ok (ag++ds.map λd=>.tup [.ref u,d]) h
 |[],ag,hz=>by simp[ZV,Wk.stays,e]
 |d::ds,ag,hz=>by
  have ih:=Zp1 (U:=U) (u:=u) e ds (ag++[.tup [.ref u,d]]) (by simp at hz ⊢;lia);have fM:ag.length<16777216:=by simp at hz;lia
  rw[Z4];simp[Wk.stays,e,fM,YC];simpa using ih
def Zva{U:Tb}(p:ev U e S h=.ok (.ref i) R)(l:R[i]?=J (.lst ys)):evi U (.rev e) S h=.ok ⟨J (i,ys),ys.reverse⟩ R:=by rw[Zsr,p,Zl];simp only[Zoz,l];rfl
def Zti(e:h[i]?=J (.lst ys))(l:h[j]?=J (.lst zs))(hz:ys.length+zs.length<=sizeLine):Zcm .ext (.ref i) [.ref j] h=.ok .non (h.set i (.lst (ys++zs))):=by simp only[Zcm,e,ZhT,Zr6,l];rw[if_pos hz]
def Zo6(H:Cod P)(n:Nat)(q:St h0 h c us w U ws){u k:Nat}{ps:List D}(e:h[k]?=J (.lst ps))(hp:ps.length<=1000)(hz:ws.length<=100000):
 run P (n+1) (mnm (O "Coder") (O "wait_for")) [.ref c,.ref u,.ref k] h=.ok .non (List.set (h++[DO.lst (ps.reverse.map λd=>.tup [.ref u,d])]) w (.lst (ws++ps.reverse.map λd=>.tup [.ref u,d]))):=by
 rw[Zz H.n_Coder_wait_for H.Coder_wait_for rfl];have ec:=Zp1 (U:=P.tbl n) (u:=u) e ps.reverse [] (by simp;lia);exact congrArg Ze ((Za (ZU (ZdC (Ze4 rfl q.qc rfl) q.qw (Zc (Zko (Zva rfl e) ec) rfl) (Zti (keep q.qw) ZbK (by rw[YC];simp;lia))))).trans rfl)
def ZtU(H:Cod P)(n:Nat)(sc:List Str):Zgx (run P (n+1)) (O "Unit") [.tup (sc.map .str)] h=.ok (.ref h.length) (h++[.ins (O "Unit") [(O "around",.tup (sc.map .str)),(O "rows",.ref (h.length+1))],.lst []]):=by unfold Zgx;rw[Zz H.n_Unit___init__ H.Unit___init__ (by rfl)];generalize sc.map D.str=ds;simp[ZaD,Zdz,ZE,ZfL,Zg1,YC]
def ZuG{U:Tb}(p:evs U es S h=.ok xs R)(q:Zgx U.C C xs R=r):ev U (.mk C es) S h=r:=by rw[Ztj,p];exact q
noncomputable def ZdA(u:Nat)(is:List It):List D:=(is.map λi=>D.tup [.ref u,i.d]).reverse
def Zmk(H:Cod P)(n:Nat)(q:St h0 h c us w U ws)(t:T)(sc:List Str)(fn:Bool)(hU:U.length<=100000)(hw:ws.length<=100000):
 ∃h' y,run P (n+2) (mnm (O "Coder") (O "begin_unit")) [.ref c,t.d,.tup (sc.map .str),.str (Str.ofString (if fn then "back" else "end"))] h=.ok .non h'
  /\ y.sc=sc/\y.rows=[]/\St h0 h' c us w (U++[y]) (ws++ZdA y.u [.part t fn,.row (if fn then .back else .fin)]):=by
 rw[Zz H.n_Coder_begin_unit H.Coder_begin_unit rfl];have qa:=q.app (g:=[.ins (O "Unit") [(O "around",.tup (sc.map .str)),(O "rows",.ref (h.length+1))],.lst []]);have x2:=ZaT (d:=.ref h.length) qa.qs (by rw[YC];simp;lia);have q1:=q.more sc;generalize hh:List.set (h++[.ins (O "Unit") [(O "around",.tup (sc.map .str)),(O "rows",.ref (h.length+1))],.lst []]) us (.lst ((U.map λx=>.ref x.u)++[.ref h.length]))=R at q1 x2;have q2:=q1.app (g:=[.lst ([It.part t fn,.row (if fn then .back else .fin)].map It.d)]);have ew:=Zo6 H n q2 (u:=h.length) (k:=R.length) (ps:=[It.part t fn,.row (if fn then .back else .fin)].map It.d) ZbK (show 2<=1000 by decide) hw;refine⟨_,⟨h.length,h.length+1,sc,[]⟩,?_,rfl,rfl,(q2.app (g:=[.lst (([It.part t fn,.row (if fn then .back else .fin)].map It.d).reverse.map λd=>D.tup [.ref h.length,d])])).setW (ws++([It.part t fn,.row (if fn then .back else .fin)].map It.d).reverse.map λd=>D.tup [.ref h.length,d])⟩;exact congrArg Ze ((Za (Zn (ZuG rfl (ZtU H n sc)))).trans ((Za (ZU (ZdC (Ze4 rfl qa.qc rfl) qa.qs rfl x2))).trans ((Za (ZU (ZB rfl q1.qc rfl (Zc rfl (Zc (Zhv (xs:=[_,_]) (by cases fn<;>exact rfl) (show 2<=1000 by decide)) rfl)) ew))).trans rfl)))
end
set_option tactic.hygienic true
section
variable {P:Pg}{h0 h:Hd}{c us w:Nat}{A B_:List Un}{x:Un}{ws:List D}
theorem ZfP:∀{sc:List Str},y∈sc->∃i,Tx.place y sc=J i/\i<sc.length
 |[],h=>by cases h
 |z::r,h=>by
  unfold Tx.place;by_cases e:z=y
  . exact⟨0,by rw[if_pos e],by simp⟩
  . rw[if_neg e];have:y∈r:=by
     rcases O3.mp h with q|q
     . exact absurd q.symm e
     . exact q
    obtain⟨i,e1,e2⟩:=ZfP this;exact⟨i+1,by rw[e1];rfl,by simp;lia⟩
def Zrb(ss:List Str):strsOf (ss.map D.str)=J ss:=by
 induction ss with
 |nil=>rfl
 |cons s r ih=>simp[strsOf,ih]
def Zt3(H:Cod P)(n:Nat)(q:St h0 h c us w (A++x::B_) ws)(t e:T)(hp:t.parts=[e])(hb:bnd t≠[])(hx:x.rows.length<=100000)(hU:(A++x::B_).length<=90000)(hw:ws.length<=100000)(hs:x.sc.length<=100000):
 ∃h' y,run P (n+3) (mnm (O "Coder") (O "begin_function")) [.ref c,.ref x.u,t.d] h=.ok .non h'/\y.sc=(bnd t).reverse++x.sc/\y.rows=[]
  /\ St h0 h' c us w ((A++{x with rows:=x.rows++[.close (A++x::B_).length (bnd t).reverse]}::B_)++[y]) (ws++ZdA y.u [.part e Wx,.row .back]):=by
 rw[Zz H.n_Coder_begin_function H.Coder_begin_function rfl];have cM:x∈A++x::B_:=by simp
 have ea:=Zml H (n+1) q cM (.close (A++x::B_).length (bnd t).reverse) hx;have q1:=q.setR (x.rows++[.close (A++x::B_).length (bnd t).reverse]);simp only[Rw.up]at ea;generalize h.set x.r (.lst ((x.rows++[Rw.close (A++x::B_).length (bnd t).reverse]).map Rw.d))=R at ea q1;have ep:=ZgJ H (n+1) t R;rw[hp]at ep;obtain⟨h',y,e3,y1,y2,q3⟩:=Zmk H n q1 e ((bnd t).reverse++x.sc) Wx (by simp at hU ⊢;lia) hw;refine⟨h',y,?_,y1,y2,q3⟩;have lH:ZqQ (.tup ((bnd t).map .str)) h=.ok (.tup ((bnd t).reverse.map .str)) h:=by
  cases jr:bnd t with
  |nil=>exact absurd jr hb
  |cons b r=>rw[List.map_reverse];rfl
 have lK:opB .Add (.tup ((bnd t).reverse.map .str)) (.tup (x.sc.map .str)) R=.ok (.tup (((bnd t).reverse++x.sc).map .str)) R:=by
  have bl:(bnd t).length<=2:=by cases t<;>simp[bnd]
  rw[ZbY (by rw[YC];simp;lia),List.map_append]
 exact congrArg Ze ((Za (Zn (by rw[Zsu,Zt (ZgL H (n+1) t h) rfl];exact lH))).trans ((Za (ZU (ZB rfl (q.qu x cM) rfl (Zc (Zan (xs:=[_,_,_]) (Zc rfl (Zc ((Zf2 (Zc (Ze4 rfl q.qc rfl) rfl) (Zg9 q.qs)).trans (by rw[Yt])) rfl)) (show 3<=1000 by decide)) rfl) ea))).trans ((Za (ZU (ZB rfl q1.qc rfl (Zc ((Zr (Zt ep rfl) rfl).trans rfl) (Zc ((Zh rfl (Ze4 rfl (q1.qu {x with rows:=x.rows++[.close (A++x::B_).length (bnd t).reverse]} (by simp)) rfl)).trans lK) rfl)) e3))).trans rfl)))
end
set_option tactic.hygienic false
section
variable {P:Pg}{h0 h:Hd}{c us w:Nat}{A B_:List Un}{x:Un}{ws:List D}
def leaf(sc:List Str):T->Option Rw
 |.num n=>J (.num n)
 |.name y=>(Tx.place y sc).map .fetch
 |_=>M
def ZtZ(H:Cod P)(n:Nat)(q:St h0 h c us w (A++x::B_) ws)(t:T)(last:Bool)(hr:leaf x.sc t=J r)(hx:x.rows.length<=100000):
 ∃h',run P (n+4) (mnm (O "Coder") (O "do_part")) [.ref c,.ref x.u,t.d,.bl last] h=.ok .non h'/\St h0 h' c us w (A++{x with rows:=x.rows++[r]}::B_) ws:=by
 rw[Zz H.n_Coder_do_part H.Coder_do_part rfl];have cM:x∈A++x::B_:=by simp
 have hu:=q.qu x cM;cases t with
 |num m=>cases hr;exact⟨_,congrArg Ze ((Za ((Zj rfl).trans ((Za (ZU (ZB rfl hu rfl rfl (Zml H (n+2) q cM (.num m) hx)))).trans rfl))).trans rfl),q.setR _⟩
 |name y=>
  obtain⟨i,e1,rfl⟩:=Oo.mp hr;have ei:Zol (.tup (x.sc.map .str)) (.str y) h=.ok (.int (i:Int)) h:=by unfold Zol;simp only[Zrb,e1];rfl
  refine⟨_,congrArg Ze ((Za ((Zg rfl).trans ((Za ((Zj rfl).trans ((Za (ZU (ZB rfl hu rfl (Zc (Zan (xs:=[_,_]) (Zc rfl (Zc (by rw[Zvb,Ze4 rfl hu rfl];exact ei) rfl)) (show 2<=1000 by decide)) rfl) (Zml H (n+2) q cM (.fetch i) hx)))).trans rfl))).trans rfl))).trans rfl),q.setR _⟩
 |_=>cases hr
def Zpa(H:Cod P)(n:Nat)(q:St h0 h c us w (A++x::B_) ws)(t e:T)(last:Bool)(hp:t.parts=[e])(hb:bnd t≠[])(hx:x.rows.length<=100000)(hU:(A++x::B_).length<=90000)(hw:ws.length<=100000)(hs:x.sc.length<=100000):
 ∃h' y,run P (n+4) (mnm (O "Coder") (O "do_part")) [.ref c,.ref x.u,t.d,.bl last] h=.ok .non h'/\y.sc=(bnd t).reverse++x.sc/\y.rows=[]
  /\ St h0 h' c us w ((A++{x with rows:=x.rows++[.close (A++x::B_).length (bnd t).reverse]}::B_)++[y]) (ws++ZdA y.u [.part e Wx,.row .back]):=by
 rw[Zz H.n_Coder_do_part H.Coder_do_part (by rfl)];obtain⟨h',y,e1,y1,y2,q1⟩:=Zt3 H n q t e hp hb hx hU hw hs;refine⟨h',y,?_,y1,y2,q1⟩;have ha:∀(w:Str) (ds:List D),t.d=.tup (.str w::ds)->w≠O "num" -> w≠O "name" -> Ze (xs2 (P.tbl (n+3)) ZbR [J (.ref c),J (.ref x.u),J t.d,J (.bl last)] h)=.ok .non h':=λw ds ed n1 n2=>by
  have eb:=ZgL H (n+2) t h;cases gX:bnd t with
  |nil=>exact absurd gX hb
  |cons b r=>rw[gX]at eb;rw[ed]at e1 eb ⊢;exact congrArg Ze ((Za ((Zg (Zi (Zcd (ZeU rfl) rfl) (decide_eq_false n1))).trans ((Za ((Zg (Zi (Zcd (ZeU rfl) rfl) (decide_eq_false n2))).trans ((Za ((Zj (ZfA eb rfl rfl)).trans ((Za (ZU (ZB rfl q.qc rfl rfl e1))).trans rfl))).trans rfl))).trans rfl))).trans rfl)
 cases t with
 |fn a b=>exact ha _ _ rfl (by decide) (by decide)
 |rcc f a b=>exact ha _ _ rfl (by decide) (by decide)
 |_=>exact absurd rfl hb
def ZtX(H:Cod P)(n:Nat)(q:St h0 h c us w (A++x::B_) ws)(t:T)(last:Bool)(ht:its last t≠[])(hz:t.size<=1000)(hw:ws.length<=100000):
 ∃h',run P (n+4) (mnm (O "Coder") (O "do_part")) [.ref c,.ref x.u,t.d,.bl last] h=.ok .non h'/\St h0 h' c us w (A++x::B_) (ws++ZdA x.u (its last t)):=by
 rw[Zz H.n_Coder_do_part H.Coder_do_part (by rfl)];obtain⟨g,e1⟩:=Zo8 H n t last h hz ht;have q2:St h0 (h++g++[.lst ((its last t).map It.d)]) c us w (A++x::B_) ws:=q.app.app;have hl:(its last t).length<=5:=by cases t<;>simp[its]
 have e2:=Zo6 H (n+2) q2 (u:=x.u) (k:=(h++g).length) (ps:=(its last t).map It.d) ZbK (by simp;lia) hw;have q3:=(q2.app (g:=[.lst (((its last t).map It.d).reverse.map λd=>.tup [.ref x.u,d])])).setW (ws++((its last t).map It.d).reverse.map λd=>.tup [.ref x.u,d]);generalize (List.set (h++g++[.lst ((its last t).map It.d)]++[DO.lst (((its last t).map It.d).reverse.map λd=>.tup [.ref x.u,d])]) w (.lst (ws++((its last t).map It.d).reverse.map λd=>.tup [.ref x.u,d])))=h2 at e2 q3;rw[show((its last t).map It.d).reverse.map (λd=>D.tup [.ref x.u,d])=ZdA x.u (its last t) by simp[ZdA,List.map_reverse,Function.comp_def]]at q3;refine⟨h2,?_,q3⟩;have ha:∀(w:Str) (ds:List D),t.d=.tup (.str w::ds)->w≠O "num" -> w≠O "name" -> bnd t=[]->Ze (xs2 (P.tbl (n+3)) ZbR [J (.ref c),J (.ref x.u),J t.d,J (.bl last)] h)=.ok .non h2:=λw ds ed n1 n2 hb=>by have eb:=ZgL H (n+2) t h;rw[hb]at eb;rw[ed]at e1 eb ⊢;exact congrArg Ze ((Za ((Zg (Zi (Zcd (ZeU rfl) rfl) (decide_eq_false n1))).trans ((Za ((Zg (Zi (Zcd (ZeU rfl) rfl) (decide_eq_false n2))).trans ((Za ((Zg (ZfA eb rfl rfl)).trans ((Za (ZU (ZB rfl q.qc rfl (Zc rfl (Zc (Zt e1 rfl) rfl)) e2))).trans rfl))).trans rfl))).trans rfl))).trans rfl)
 cases t with
 |call f a=>exact ha _ _ rfl (by decide) (by decide) rfl
 |op wd a b=>exact ha _ _ rfl Zox.mp Zl0.mp rfl
 |iff a b d=>exact ha _ _ rfl (by decide) (by decide) rfl
 |_=>exact absurd rfl ht
def ZpW:Sxs:=.u (.s 1 (.meth .pop (.a "Coder" V0 "waiting") .n)) (.s 2 (.ix V1 K1)) (.iff (.q (.ix V2 K0) (.Ci_ "row")) (.o (.drp (.m "Unit" "add_row" (.ix V1 K0) (.o (.ix V2 K1))))) (.o (.drp (.m "Coder" "do_part" V0 (.u (.ix V1 K0) (.ix V2 K1) (.ix V2 K2))))))
def loop(P:Pg)(n c fuel:Nat)(pr pc:Option D)(h:Hd):qe (Fl×Ev):=Zaj (tst ⟨P.G,P.GD,run P (n+4),P.L⟩ (.ex (.att [O "Coder"] (.var 0) (O "waiting")))) (xs2 ⟨P.G,P.GD,run P (n+4),P.L⟩ ZpW) fuel [J (.ref c),pr,pc] h
inductive Sr(h0:Hd)(P:Pg)(n c us w:Nat)(A B_:List Un)(x:Un)(rr:Rw)(ws:List D)(h:Hd)(fuel:Nat)(pr pc:Option D):Prop
 |mk (h':Hd) (cI cJ:Option D) (e:loop P n c (fuel+1) pr pc h=loop P n c fuel cI cJ h') (q:St h0 h' c us w (A++{x with rows:=x.rows++[rr.up x.rows.length]}::B_) ws)
def s_row(H:Cod P)(n fuel:Nat)(q:St h0 h c us w (A++x::B_) (ws++[.tup [.ref x.u,(It.row rr).d]]))(hx:x.rows.length<=100000)(pr pc:Option D):
 Sr h0 P n c us w A B_ x rr ws h fuel pr pc:=by
 have cM:x∈A++x::B_:=by simp
 have q1:=q.setW ws;have bY:=ZcX (h:=h) (i:=w) q.qw;generalize h.set w (.lst ws)=hp at q1 bY;exact⟨_,J (.tup [.ref x.u,(It.row rr).d]),J (It.row rr).d,Ze6 (Zi (Zgd (Ze4 rfl q.qc rfl) q.qw) (by simp)) ((Za (Zn (ZdC (Ze4 rfl q.qc rfl) q.qw rfl bY))).trans ((Za (Zn rfl)).trans ((Za ((Zj rfl).trans ((Za (ZU (ZB rfl (q1.qu x cM) rfl rfl (Zml H (n+3) q1 cM rr hx)))).trans rfl))).trans rfl))),q1.setR _⟩
def Zk6(H:Cod P)(n fuel:Nat)(t:T)(last:Bool)(q:St h0 h c us w (A++x::B_) (ws++[.tup [.ref x.u,(It.part t last).d]]))(pr pc:Option D):
 ∃hp,St h0 hp c us w (A++x::B_) ws/\∀h',run P (n+4) (mnm (O "Coder") (O "do_part")) [.ref c,.ref x.u,t.d,.bl last] hp=.ok .non h'->∃cI cJ,loop P n c (fuel+1) pr pc h=loop P n c fuel cI cJ h':=by
 have q1:=q.setW ws;have bY:=ZcX (h:=h) (i:=w) q.qw;generalize h.set w (.lst ws)=hp at q1 bY;exact⟨hp,q1,λh' e=>⟨J (.tup [.ref x.u,(It.part t last).d]),J (It.part t last).d,Ze6 (Zi (Zgd (Ze4 rfl q.qc rfl) q.qw) (by simp)) ((Za (Zn (ZdC (Ze4 rfl q.qc rfl) q.qw rfl bY))).trans ((Za (Zn rfl)).trans ((Za ((Zg rfl).trans ((Za (ZU (ZB rfl q1.qc rfl rfl e))).trans rfl))).trans rfl)))⟩⟩
end
section
def comp:T->List Str->Bool->Nat->Nat->List Rw×List (List Rw)
 |.num n,_,_,_,_=>([.num n],[])
 |.name y,sc,_,_,_=>([.fetch ((Tx.place y sc).getD 0)],[])
 |.fn y e,sc,_,_,k=>([.close k [y]],((comp e (y::sc) Wx 0 (k+1)).1++[.back])::(comp e (y::sc) Wx 0 (k+1)).2)
 |.rcc f y e,sc,_,_,k=>([.close k [y,f]],((comp e (y::f::sc) Wx 0 (k+1)).1++[.back])::(comp e (y::f::sc) Wx 0 (k+1)).2)
 |.call f a,sc,l,p,k=>
  ((comp f sc Wy p k).1++((comp a sc Wy (p+cnt f) (k+(comp f sc Wy p k).2.length)).1++[if l then .hop else .call]),
   (comp f sc Wy p k).2++(comp a sc Wy (p+cnt f) (k+(comp f sc Wy p k).2.length)).2)
 |.op w f a,sc,_,p,k=>
  ((comp f sc Wy p k).1++((comp a sc Wy (p+cnt f) (k+(comp f sc Wy p k).2.length)).1++[.work w]),
   (comp f sc Wy p k).2++(comp a sc Wy (p+cnt f) (k+(comp f sc Wy p k).2.length)).2)
 |.iff c t e,sc,l,p,k=>
  ((comp c sc Wy p k).1++(.unl ((p+cnt c+1+cnt t+1:Nat):Int)::((comp t sc l (p+cnt c+1) (k+(comp c sc Wy p k).2.length)).1 ++
   (.jmp ((p+cnt c+1+cnt t+1+cnt e:Nat):Int)::(comp e sc l (p+cnt c+1+cnt t+1) (k+(comp c sc Wy p k).2.length+(comp t sc l (p+cnt c+1) (k+(comp c sc Wy p k).2.length)).2.length)).1))),
   (comp c sc Wy p k).2++((comp t sc l (p+cnt c+1) (k+(comp c sc Wy p k).2.length)).2 ++
    (comp e sc l (p+cnt c+1+cnt t+1) (k+(comp c sc Wy p k).2.length+(comp t sc l (p+cnt c+1) (k+(comp c sc Wy p k).2.length)).2.length)).2))
theorem ZA:∀(t:T) (sc:List Str) (l:Bool) (p k:Nat),(comp t sc l p k).1.length=cnt t
 |.num _,_,_,_,_=>rfl
 |.name _,_,_,_,_=>rfl
 |.fn _ _,_,_,_,_=>rfl
 |.rcc _ _ _,_,_,_,_=>rfl
 |.call f a,sc,l,p,k=>by simp[comp,ZA f,ZA a,cnt];lia
 |.op w f a,sc,l,p,k=>by simp[comp,ZA f,ZA a,cnt];lia
 |.iff c t e,sc,l,p,k=>by simp[comp,ZA c,ZA t,ZA e,cnt];lia
noncomputable def cost:T->Nat
 |.num _=>1
 |.name _=>1
 |.fn _ e=>cost e+2
 |.rcc _ _ e=>cost e+2
 |.call f a=>cost f+cost a+2
 |.op _ f a=>cost f+cost a+2
 |.iff c t e=>cost c+cost t+cost e+3
theorem ZcE:∀t:T,cnt t<=2*t.size
 |.num _=>by simp[cnt,T.size,T.places]
 |.name _=>by simp[cnt,T.size,T.places]
 |.fn _ e=>by rw[Zb];simp[cnt,T.parts];lia
 |.rcc _ _ e=>by rw[Zb];simp[cnt,T.parts];lia
 |.call f a=>by have:=ZcE f;have:=ZcE a;rw[Zb];simp[cnt,T.parts];lia
 |.op _ f a=>by have:=ZcE f;have:=ZcE a;rw[Zb];simp[cnt,T.parts];lia
 |.iff c t e=>by have:=ZcE c;have:=ZcE t;have:=ZcE e;rw[Zb];simp[cnt,T.parts];lia
theorem units_le:∀(t:T) (sc:List Str) (l:Bool) (p k:Nat),(comp t sc l p k).2.length+1<=t.size
 |.num _,_,_,_,_=>by simp[comp,T.size,T.places]
 |.name _,_,_,_,_=>by simp[comp,T.size,T.places]
 |.fn y e,sc,l,p,k=>by have:=units_le e (y::sc) Wx 0 (k+1);rw[Zb];simp[comp,T.parts];lia
 |.rcc f y e,sc,l,p,k=>by have:=units_le e (y::f::sc) Wx 0 (k+1);rw[Zb];simp[comp,T.parts];lia
 |.call f a,sc,l,p,k=>by have:=units_le f sc Wy p k;have:=units_le a sc Wy (p+cnt f) (k+(comp f sc Wy p k).2.length);rw[Zb];simp[comp,T.parts];lia
 |.op w f a,sc,l,p,k=>by have:=units_le f sc Wy p k;have:=units_le a sc Wy (p+cnt f) (k+(comp f sc Wy p k).2.length);rw[Zb];simp[comp,T.parts];lia
 |.iff c t e,sc,l,p,k=>by
  have:=units_le c sc Wy p k;have:=units_le t sc l (p+cnt c+1) (k+(comp c sc Wy p k).2.length);have:=units_le e sc l (p+cnt c+1+cnt t+1) (k+(comp c sc Wy p k).2.length+(comp t sc l (p+cnt c+1) (k+(comp c sc Wy p k).2.length)).2.length);rw[Zb];simp[comp,T.parts]
  lia
variable {P:Pg}{h0:Hd}{c us w:Nat}
structure Ri(m:Nat)(A B_:List Un)(x:Un)(ws:List D):Prop where
 z:m<=2000
 r:x.rows.length+m<=50000
 u:2*(A++x::B_).length+m<=100000
 w:2*ws.length+5*m<=100000
 s:x.sc.length+m<=50000
abbrev Rm(t:T):=Ri (2*t.size)
inductive Dn(h0:Hd)(P:Pg)(n c us w:Nat)(t:T)(last:Bool)(A B_:List Un)(x:Un)(ws:List D)(h:Hd)(fuel:Nat)(pr pc:Option D):Prop
 |mk (h':Hd) (cI cJ:Option D) (N:List Un) (e:loop P n c (fuel+cost t) pr pc h=loop P n c fuel cI cJ h') (m:N.map Un.rows=(comp t x.sc last x.rows.length (A++x::B_).length).2)
  (q:St h0 h' c us w (A++{x with rows:=x.rows++(comp t x.sc last x.rows.length (A++x::B_).length).1}::(B_++N)) ws)
def Done(h0:Hd)(P:Pg)(n c us w:Nat)(t:T)(last:Bool)(A B_:List Un)(x:Un)(ws:List D)(h:Hd):Prop:=∀fuel pr pc,Dn h0 P n c us w t last A B_ x ws h fuel pr pc
def Ziu(H:Cod P)(n:Nat)(t:T)(last:Bool)(rm:Rm t A B_ x ws)(hr:leaf x.sc t=J r)(hc:(comp t x.sc last x.rows.length (A++x::B_).length)=([r],[]))(R:cost t=1)
 (q:St h0 h c us w (A++x::B_) (ws++[.tup [.ref x.u,(It.part t last).d]])):Done h0 P n c us w t last A B_ x ws h:=by
 intro fuel pr pc;have nP:=rm.r;obtain⟨hp,q1,k⟩:=Zk6 H n fuel t last q pr pc;obtain⟨h',e1,q2⟩:=ZtZ H n q1 t last hr (by lia);obtain⟨cI,cJ,e2⟩:=k h' e1;refine⟨h',cI,cJ,[],by rw[R];exact e2,by rw[hc];rfl,?_⟩;rw[hc];simpa using q2
end
section
variable {P:Pg}{h0:Hd}{c us w:Nat}
def map_len{N:List Un}(e:N.map Un.rows=l):N.length=l.length:=by rw[<-e];simp
def Zkp(H:Cod P)(n:Nat)(t e:T)(last:Bool)(rm:Rm t A B_ x ws)(hp:t.parts=[e])(hb:bnd t≠[])(cm:cost t=cost e+2)
 (hc:comp t x.sc last x.rows.length (A++x::B_).length=([.close (A++x::B_).length (bnd t).reverse],((comp e ((bnd t).reverse++x.sc) Wx 0 ((A++x::B_).length+1)).1++[.back])::(comp e ((bnd t).reverse++x.sc) Wx 0 ((A++x::B_).length+1)).2))
 (ih:∀(A' B':List Un) (x':Un) (aB:List D) (h':Hd),x'.sc=(bnd t).reverse++x.sc->Rm e A' B' x' aB->St h0 h' c us w (A'++x'::B') (aB++[.tup [.ref x'.u,(It.part e Wx).d]])->Done h0 P n c us w e Wx A' B' x' aB h')
 (q:St h0 h c us w (A++x::B_) (ws++[.tup [.ref x.u,(It.part t last).d]])):Done h0 P n c us w t last A B_ x ws h:=by
 intro fuel pr pc;obtain⟨r5,r1,r2,r3,r4⟩:=rm;have sz:t.size=1+e.size:=by rw[Zb,hp];simp
 have ep:=Zm e;have bl:(bnd t).length<=2:=by cases t<;>simp[bnd]
 obtain⟨lN,q1,k⟩:=Zk6 H n (fuel+1+cost e) t last q pr pc;obtain⟨R,y,e1,y1,y2,q2⟩:=Zpa H n q1 t e last hp hb (by lia) (by lia) (by lia) (by lia);obtain⟨bT,bU,e2⟩:=k R e1;have pe:ws++ZdA y.u [.part e Wx,.row .back]=(ws++[.tup [.ref y.u,(It.row .back).d]])++[.tup [.ref y.u,(It.part e Wx).d]]:=by simp[ZdA]
 rw[pe]at q2;have bN:((A++{x with rows:=x.rows++[Rw.close (A++x::B_).length (bnd t).reverse]}::B_)++[y]).length=(A++x::B_).length+1:=by simp;lia
 have kT:Rm e (A++{x with rows:=x.rows++[Rw.close (A++x::B_).length (bnd t).reverse]}::B_) [] y (ws++[.tup [.ref y.u,(It.row .back).d]]):=⟨by lia,by rw[y2];simp;lia,by rw[bN];lia,by simp;lia,by rw[y1];simp;lia⟩
 obtain⟨h2,cR,cS,N,e3,n3,q3⟩:=ih _ [] y _ R y1 kT q2 (fuel+1) bT bU;rw[y1,y2,bN]at n3 q3;simp only[List.length_nil,OB]at n3 q3;obtain⟨h3,k4,la,e4,q4⟩:=s_row H n fuel q3 (by simp only[ZA];have:=ZcE e;lia) cR cS;refine⟨h3,k4,la,{y with rows:=(comp e ((bnd t).reverse++x.sc) Wx 0 ((A++x::B_).length+1)).1++[Rw.back]}::N,?_,?_,?_⟩
 . rw[cm,show fuel+(cost e+2)=fuel+1+cost e+1 by lia,e2,e3,e4]
 . rw[hc,Op,n3]
 . rw[hc];simpa[Rw.up,y1]using q4
noncomputable def It.cnt:It->Nat
 |.row _=>1
 |.part t _=>Ce.cnt t
def It.wt:It->Nat
 |.row _=>1
 |.part t _=>2*t.size
noncomputable def It.cost:It->Nat
 |.row _=>1
 |.part t _=>Ce.cost t
def It.comp(sc:List Str)(p k:Nat):It->List Rw×List (List Rw)
 |.row r=>([r.up p],[])
 |.part t l=>Ce.comp t sc l p k
def Zjg(sc:List Str):List It->Nat->Nat->List Rw×List (List Rw)
 |[],_,_=>([],[])
 |i::is,p,k=>((i.comp sc p k).1++(Zjg sc is (p+i.cnt) (k+(i.comp sc p k).2.length)).1,(i.comp sc p k).2++(Zjg sc is (p+i.cnt) (k+(i.comp sc p k).2.length)).2)
def PI(h0:Hd)(P:Pg)(n c us w:Nat)(sc:List Str):List It->Prop
 |[]=>True
 |.row _::is=>PI h0 P n c us w sc is
 |.part t l::is=>(∀(A B_:List Un) (x:Un) (ws:List D) (h:Hd),x.sc=sc->Rm t A B_ x ws->St h0 h c us w (A++x::B_) (ws++[.tup [.ref x.u,(It.part t l).d]])->Done h0 P n c us w t l A B_ x ws h)/\PI h0 P n c us w sc is
inductive Di(h0:Hd)(P:Pg)(n c us w:Nat)(co:Nat)(cp:List Rw×List (List Rw))(A B_:List Un)(x:Un)(ws:List D)(h:Hd)(fuel:Nat)(pr pc:Option D):Prop
 |mk (h':Hd) (cI cJ:Option D) (N:List Un) (e:loop P n c (fuel+co) pr pc h=loop P n c fuel cI cJ h') (m:N.map Un.rows=cp.2) (q:St h0 h' c us w (A++{x with rows:=x.rows++cp.1}::(B_++N)) ws)
theorem Zou:∀is:List It,is.length<=(is.map It.wt).sum
 |[]=>Oq _
 |i::is=>by
  have:=Zou is;have:1<=i.wt:=by
   cases i with
   |row _=>exact Oq _
   |part t _=>have:=Zm t;show 1<=2*t.size;lia
  rw[Op,OI,Os]
  lia
def Zw0(i:It)(sc:List Str)(p k:Nat):(i.comp sc p k).1.length=i.cnt/\i.cnt<=i.wt/\2*(i.comp sc p k).2.length<=i.wt:=by
 cases i with
 |row r=>exact⟨rfl,Oq _,Yw _⟩
 |part t l=>exact⟨ZA t sc l p k,ZcE t,by have:=units_le t sc l p k;show 2*(Ce.comp t sc l p k).2.length<=2*t.size;lia⟩
theorem items(H:Cod P)(n:Nat):∀(is:List It) (A B_:List Un) (x:Un) (ws:List D) (h:Hd),PI h0 P n c us w x.sc is->Ri (is.map It.wt).sum A B_ x ws->St h0 h c us w (A++x::B_) (ws++ZdA x.u is)->∀fuel pr pc,
 Di h0 P n c us w (is.map It.cost).sum (Zjg x.sc is x.rows.length (A++x::B_).length) A B_ x ws h fuel pr pc
 |[],A,B_,x,ws,h,pi,ri,q,fuel,pr,pc=>⟨h,pr,pc,[],rfl,rfl,by simpa[ZdA,Zjg]using q⟩
 |i::is,A,B_,x,ws,h,pi,ri,q,fuel,pr,pc=>by
  rw[Op,OI]at ri;obtain⟨z,r,u,w',s⟩:=ri;have l0:=Zw0 i x.sc x.rows.length (A++x::B_).length;have lw:=Zou is;rw[show ws++ZdA x.u (i::is)=(ws++ZdA x.u is)++[.tup [.ref x.u,i.d]] by simp[ZdA]]at q;have st:PI h0 P n c us w x.sc is/\Di h0 P n c us w i.cost (i.comp x.sc x.rows.length (A++x::B_).length) A B_ x (ws++ZdA x.u is) h (fuel+(is.map It.cost).sum) pr pc:=by
   cases i with
   |row rr=>obtain⟨R,bT,bU,e1,q1⟩:=s_row H n (fuel+(is.map It.cost).sum) q (by lia) pr pc;exact⟨pi,R,bT,bU,[],e1,rfl,by rw[Ys];exact q1⟩
   |part t l=>rw[show(It.part t l).wt=2*t.size from rfl]at z r u w' s;obtain⟨R,bT,bU,N,e1,m,q1⟩:=pi.1 A B_ x _ h rfl ⟨by lia,by lia,by lia,by simp only[OA,ZdA,List.length_reverse,Yt];lia,by lia⟩ q (fuel+(is.map It.cost).sum) pr pc;exact⟨pi.2,R,bT,bU,N,e1,m,q1⟩
  obtain⟨k7,R,bT,bU,N,e1,m,q1⟩:=st;have ml:=map_len m;have lx:(x.rows++(i.comp x.sc x.rows.length (A++x::B_).length).1).length=x.rows.length+i.cnt:=by rw[OA,l0.1]
  have lu:(A++{x with rows:=x.rows++(i.comp x.sc x.rows.length (A++x::B_).length).1}::(B_++N)).length=(A++x::B_).length+(i.comp x.sc x.rows.length (A++x::B_).length).2.length:=by rw[<-ml];simp only[OA,Os];lia
  obtain⟨h2,cR,cS,N2,e2,m2,q2⟩:=items H n is A (B_++N) {x with rows:=x.rows++(i.comp x.sc x.rows.length (A++x::B_).length).1} ws R k7 ⟨by lia,by rw[lx];lia,by rw[lu];lia,by lia,by show x.sc.length+_<=_;lia⟩ q1 fuel bT bU;rw[lx,lu]at m2 q2;refine⟨h2,cR,cS,N++N2,?_,?_,?_⟩
  . rw[Op,OI,YW i.cost,<-Nat.add_assoc];exact e1.trans e2
  . rw[List.map_append,m,m2];rfl
  . rw[<-Oz,show(Zjg x.sc (i::is) x.rows.length (A++x::B_).length).1=_++_ from rfl,<-Oz];exact q2
def Zhy(H:Cod P)(n:Nat)(t:T)(last:Bool)(rm:Rm t A B_ x ws)(ht:its last t≠[])(hw:((its last t).map It.wt).sum<=2*t.size)(cm:cost t=((its last t).map It.cost).sum+1)(hc:comp t x.sc last x.rows.length (A++x::B_).length=Zjg x.sc (its last t) x.rows.length (A++x::B_).length)
 (pi:PI h0 P n c us w x.sc (its last t)) (q:St h0 h c us w (A++x::B_) (ws++[.tup [.ref x.u,(It.part t last).d]])):Done h0 P n c us w t last A B_ x ws h:=by
 intro fuel pr pc;obtain⟨z,r,u,w',s⟩:=rm;obtain⟨lN,q1,k⟩:=Zk6 H n (fuel+((its last t).map It.cost).sum) t last q pr pc;obtain⟨R,e1,q2⟩:=ZtX H n q1 t last ht (by lia) (by lia);obtain⟨bT,bU,e2⟩:=k R e1;obtain⟨h2,cR,cS,N,e3,m,q3⟩:=items H n (its last t) A B_ x ws R pi ⟨by lia,by lia,by lia,by lia,by lia⟩ q2 fuel bT bU;rw[<-hc]at m q3;exact⟨h2,cR,cS,N,by rw[cm];exact e2.trans e3,m,q3⟩
theorem ZhS(H:Cod P)(n:Nat):∀ (t:T) (last:Bool) (A B_:List Un) (x:Un) (ws:List D) (h:Hd),Gn.Cl x.sc t->Rm t A B_ x ws->St h0 h c us w (A++x::B_) (ws++[.tup [.ref x.u,(It.part t last).d]])->Done h0 P n c us w t last A B_ x ws h
 |.num m,last,A,B_,x,ws,h,hc,rm,q=>Ziu H n (.num m) last rm (r:=.num m) rfl rfl rfl q
 |.name y,last,A,B_,x,ws,h,hc,rm,q=>by
   obtain⟨i,e1,_⟩:=ZfP (show y∈x.sc from hc);exact Ziu H n (.name y) last rm (r:=.fetch i) (by simp [leaf,e1]) (by simp [comp,e1]) rfl q
 |.fn y e,last,A,B_,x,ws,h,hc,rm,q=>Zkp H n (.fn y e) e last rm rfl (by simp [bnd]) rfl (by simp [comp,bnd]) (λA' B' x' aB h' hs rm' q'=>ZhS H n e Wx A' B' x' aB h' (by rw [hs];exact hc.1) rm' q') q
 |.rcc f y e,last,A,B_,x,ws,h,hc,rm,q=>Zkp H n (.rcc f y e) e last rm rfl (by simp [bnd]) rfl (by simp [comp,bnd]) (λA' B' x' aB h' hs rm' q'=>ZhS H n e Wx A' B' x' aB h' (by rw [hs];exact hc.1) rm' q') q
 |.call f a,last,A,B_,x,ws,h,hc,rm,q=>Zhy H n (.call f a) last rm nofun (by rw [Zb];simp [its,It.wt,T.parts];lia) (by simp [its,It.cost,cost];lia) (by cases last<;>simp [comp,Zjg,its,It.comp,It.cnt,Rw.up])
     ⟨λA' B' x' aB h' hs rm' q'=>ZhS H n f Wy A' B' x' aB h' (by rw [hs];exact hc.1) rm' q',λA' B' x' aB h' hs rm' q'=>ZhS H n a Wy A' B' x' aB h' (by rw [hs];exact hc.2) rm' q',trivial⟩ q
 |.op wd f a,last,A,B_,x,ws,h,hc,rm,q=>Zhy H n (.op wd f a) last rm nofun (by rw [Zb];simp [its,It.wt,T.parts];lia) (by simp [its,It.cost,cost];lia) (by simp [comp,Zjg,its,It.comp,It.cnt,Rw.up])
     ⟨λA' B' x' aB h' hs rm' q'=>ZhS H n f Wy A' B' x' aB h' (by rw [hs];exact hc.1) rm' q',λA' B' x' aB h' hs rm' q'=>ZhS H n a Wy A' B' x' aB h' (by rw [hs];exact hc.2) rm' q',trivial⟩ q
 |.iff f a b,last,A,B_,x,ws,h,hc,rm,q=>Zhy H n (.iff f a b) last rm nofun (by rw [Zb];simp [its,It.wt,T.parts];lia) (by simp [its,It.cost,cost];lia) (by
       simp only [comp,Zjg,its,It.comp,It.cnt,Rw.up,List.length_nil,Nat.add_zero,Ys,OB,List.cons_append];rw [show ((x.rows.length+cnt f:Nat):Int)+((cnt a:Int)+2)=((x.rows.length+cnt f+1+cnt a+1:Nat):Int) by lia,show ((x.rows.length+cnt f+1+cnt a:Nat):Int)+((cnt b:Int)+1)=((x.rows.length+cnt f+1+cnt a+1+cnt b:Nat):Int) by lia])
     ⟨λA' B' x' aB h' hs rm' q'=>ZhS H n f Wy A' B' x' aB h' (by rw [hs];exact hc.1) rm' q',λA' B' x' aB h' hs rm' q'=>ZhS H n a last A' B' x' aB h' (by rw [hs];exact hc.2.1) rm' q',λA' B' x' aB h' hs rm' q'=>ZhS H n b last A' B' x' aB h' (by rw [hs];exact hc.2.2) rm' q',trivial⟩ q
end
section
variable {P:Pg}{h0 h:Hd}{c us w:Nat}{U A:List Un}{x:Un}{ws:List D}
def ZpX(n fuel:Nat)(q:St h0 h c us w U [])(pr pc:Option D):loop P n c (fuel+1) pr pc h=.ok (.nx,[J (.ref c),pr,pc]) h:=by exact ZgH (Zi (Zgd (Ze4 rfl q.qc rfl) q.qw) rfl)
def Zwf(H:Cod P)(n:Nat)(t:T)(ct:Gn.Cl [] t)(hz:t.size<=1000)(hs:x.sc=[])(hr:x.rows=[])(q:St h0 h c us w [x] (ZdA x.u [.part t Wy,.row .fin])):
 ∃h' y N,run P (n+5) (mnm (O "Coder") (O "do_all")) [.ref c] h=.ok .non h'/\St h0 h' c us w (y::N) []/\(y::N).map Un.rows=((comp t [] Wy 0 1).1++[.fin])::(comp t [] Wy 0 1).2:=by
 rw[Zz H.n_Coder_do_all H.Coder_do_all (by rfl)];have cl:∀t:T,cost t<=3*t.size:=by
  intro t;induction t with
  |num m=>simp[cost,T.size,T.places]
  |name m=>simp[cost,T.size,T.places]
  |fn y e ih=>rw[Zb];simp[cost,T.parts];lia
  |rcc f y e ih=>rw[Zb];simp[cost,T.parts];lia
  |call f a i1 i2=>rw[Zb];simp[cost,T.parts];lia
  |op wd f a i1 i2=>rw[Zb];simp[cost,T.parts];lia
  |iff a b d i1 i2 i3=>rw[Zb];simp[cost,T.parts];lia
 have hb:=H.big;have nU:=cl t;obtain⟨m,hm⟩:∃m,P.L=(m+1+1)+cost t:=⟨P.L-2-cost t,by lia⟩
 have pe:ZdA x.u [.part t Wy,.row .fin]=[D.tup [.ref x.u,(It.row .fin).d]]++[.tup [.ref x.u,(It.part t Wy).d]]:=by simp[ZdA]
 rw[pe]at q;obtain⟨R,bT,bU,N,e1,n1,q1⟩:=ZhS H n t Wy [] [] x _ h (by rw[hs];exact ct) ⟨by lia,by rw[hr];simp;lia,by simp;lia,by simp;lia,by rw[hs];simp;lia⟩ q (m+1+1) M M;rw[hs,hr]at n1 q1;simp only[OB,List.length_nil,Os,Nat.zero_add]at n1 q1;obtain⟨h2,cR,cS,e2,q2⟩:=s_row H n (m+1) (A:=[]) (ws:=[]) (by simpa using q1) (by simp only[ZA];have:=ZcE t;lia) bT bU;have e3:=ZpX (P:=P) n m q2 cR cS;refine⟨h2,_,N,?_,q2,?_⟩
 . have e4:loop P n c P.L M M h=.ok (.nx,[J (.ref c),cR,cS]) h2:=by rw[hm,e1,e2,e3]
   exact congrArg Ze ((Za (s:=.whl (.ex (.att [O "Coder"] (.var 0) (O "waiting"))) ZpW) (T:=P.tbl (n+4)) e4).trans rfl)
 . rw[Op,n1];simp[Rw.up]
noncomputable def ZbC(a:Nat):List (List Rw)->List Nat
 |[]=>[a]
 |r::rs=>a::ZbC (a+r.length) rs
noncomputable def nmb(a:Nat)(F:List Nat):Rw->Rw
 |.unl k=>.unl (a+k)
 |.jmp k=>.jmp (a+k)
 |.close k ns=>.close (((F[k.toNat]?).getD 0:Nat):Int) ns
 |r=>r
def flat(F:List Nat)(a:Nat):List (List Rw)->List Rw
 |[]=>[]
 |r::rs=>r.map (nmb a F)++flat F (a+r.length) rs
def Zil:Sxs:=.o (.drp (.meth .app V1 (.o (.bin .Add (.ix V1 (.neg K1)) (.blt .len (.o (.a "Unit" V2 "rows")))))))
def Zqk{j:Nat}{L:List D}{g:Tg}{body:Ev->Hd->qe (Fl×Ev)}{d:D}{ds:List D}{S:Ev}{h:Hd}(e:h[j]?=J (.lst L)):ZJ (J (j,L)) g body (d::ds) S h=match ZbV g d S with
 |none=>.bad
 |some ρ1=>(body ρ1 h).bnd λp h2=>match p with
  |(.nx,ρ2)=>ZJ (J (j,L)) g body ds ρ2 h2
  |(.ct,ρ2)=>ZJ (J (j,L)) g body ds ρ2 h2
  |(.bk,ρ2)=>.ok (.nx,ρ2) h2
  |(.rt d,ρ2)=>.ok (.rt d,ρ2) h2:=by
 have:Wk.stays (J (j,L)) h=Wx:=by simp[Wk.stays,e]
 rw[ZJ,if_pos this];rfl
def Zqj(e:h[j]?=J (.lst L))(b:ZbV g d S=J ρ1)(q:body ρ1 h=.ok (.nx,ρ2) h2):ZJ (J (j,L)) g body (d::ds) S h=ZJ (J (j,L)) g body ds ρ2 h2:=by rw[Zqk e,b];simp only;rw[q];rfl
def ZlH{U:Tb}(p:ev U e S h=.ok (.ref i) R)(l:R[i]?=J (.lst ys)):evi U (.pl e) S h=.ok ⟨J (i,ys),ys⟩ R:=by rw[Zqo,p,Zl];simp only[Zbg,l];rfl
def Zkh{j:Nat}{L:List D}{g:Tg}{body:Ev->Hd->qe (Fl×Ev)}{S:Ev}{h:Hd}(e:h[j]?=J (.lst L)):ZJ (J (j,L)) g body [] S h=.ok (.nx,S) h:=by
 have:Wk.stays (J (j,L)) h=Wx:=by simp[Wk.stays,e]
 rw[ZJ,if_pos this]
theorem Zj7{T:Tb}(q:St h0 h c us w U ws){o0:Option D}:∀(V:List Un) (ag:List D) (a:Nat) (un:Option D),(∀y∈V,y∈U)->ag.length+V.length<=100000->∃dz,
 ZJ (J (us,U.map λx=>D.ref x.u)) (.nm 2) (xs2 T Zil) (V.map λx=>D.ref x.u) [o0,J (.ref h.length),un] (h++[.lst (ag++[.int (a:Int)])])
  = .ok (.nx,[o0,J (.ref h.length),dz]) (h++[.lst (ag++(ZbC a (V.map Un.rows)).map λ(n:Nat)=>D.int (n:Int))])
 |[],ag,a,un,hV,hz=>⟨un,by rw[Oy,Zkh (keep q.qs)];simp[ZbC]⟩
 |y::V,ag,a,un,hV,hz=>by
  obtain⟨dz,e⟩:=Zj7 (T:=T) q (o0:=o0) V (ag++[.int (a:Int)]) (a+y.rows.length) (J (.ref y.u)) (λz hz=>hV z (Oh _ hz)) (by simp at hz ⊢;lia);have hy:=hV y Oi;have k2:(h++[DO.lst (ag++[.int (a:Int)])])[y.r]?=_:=keep (q.qr y hy);have ix:ZbD T.GD (.ref h.length) (.int (-1)) (h++[.lst (ag++[.int (a:Int)])])=.ok (.int (a:Int)) (h++[.lst (ag++[.int (a:Int)])]):=by rw[ZZ ZbK,IV.Zei];rfl
  have x:xs2 T Zil [o0,J (.ref h.length),J (.ref y.u)] (h++[.lst (ag++[.int (a:Int)])])=.ok (.nx,[o0,J (.ref h.length),J (.ref y.u)]) (h++[.lst (ag++[.int (a:Int)]++[.int ((a+y.rows.length:Nat):Int)])]):=(Za (ZU (ZdC rfl ZbK (Zc ((Zh ((Zr rfl rfl).trans ix) (Zf2 (Zc (Ze4 rfl (keep (q.qu y hy)) rfl) rfl) (Zg9 k2))).trans (by rw[Yt];rfl)) rfl) ((ZaT ZbK (by rw[YC];simp at hz ⊢;lia)).trans (by rw[ZjT,Int.natCast_add]))))).trans rfl
  exact⟨dz,(Zqj (keep q.qs) rfl x).trans (e.trans (by rw[Oz];rfl))⟩
def Zpb(H:Cod P)(n:Nat)(q:St h0 h c us w U ws)(hU:U.length<=90000):run P (n+1) (O "first_rows") [.ref us] h=.ok (.ref h.length) (h++[.lst ((ZbC 0 (U.map Un.rows)).map λ(n:Nat)=>D.int (n:Int))]):=by rw[Zf H.first_rows (by rfl)];obtain⟨un,e⟩:=Zj7 (T:=P.tbl n) q (o0:=J (.ref us)) U [] 0 M (λy hy=>hy) (by simp;lia);have w:xs2 (P.tbl n) ZfD [J (.ref us),M,M] h=.ok (.rt (.ref h.length),_) _:=(Za (Zn (Zhv (xs:=[_]) rfl (show 1<=1000 by decide)))).trans ((Za ((ZfY (ZlH rfl (keep q.qs))).trans e)).trans (Zd (Zu rfl)));exact congrArg Ze w
end
section
variable {P:Pg}{h0:Hd}{c us w:Nat}{U:List Un}{ws:List D}
def ZdE(m:Nat):Rw->Prop
 |.close k _=>∃i:Nat,k=i/\i<m
 |_=>True
noncomputable def Fd'(F:List Nat):List D:=F.map λ(n:Nat)=>D.int (n:Int)
def Zwc(H:Cod P)(n:Nat)(r:Rw)(a fk:Nat)(F:List Nat)(h:Hd)(hf:h[fk]?=J (.lst (Fd' F)))(hr:ZdE F.length r):run P (n+1) (O "numbered") [r.d,.int (a:Int),.ref fk] h=.ok (nmb a F r).d h:=by
 rw[Zf H.numbered rfl];have t:=ZoN H n (e:=.var 0) (S:=[J r.d,J (.int (a:Int)),J (.ref fk)]) (h:=h) r rfl;have go:wd r ≠ "unless" -> wd r ≠ "jump" -> Str.ofString (wd r)≠O "close" -> nmb a F r=r->Ze (xs2 (P.tbl n) ZhG [J r.d,J (.int (a:Int)),J (.ref fk)] h)=.ok (nmb a F r).d h:=λw1 w2 w3 e=>by rw[e];obtain⟨ds,ed⟩:=Zkr r;rw[ed]at t ⊢;exact congrArg Ze ((Za ((Zg (Zi t (decide_eq_false λz=>z.elim w1 w2))).trans rfl)).trans ((Za ((Zg (Zi (Zcd (ZeU rfl) rfl) (decide_eq_false w3))).trans rfl)).trans (Zd (Zu rfl))))
 cases r with
 |close k ns=>
  obtain⟨i,rfl,hi⟩:=hr;have e:ZbD (P.tbl n).GD (.ref fk) (.int (i:Int)) h=.ok (.int ((F[i]'hi:Nat):Int)) h:=by rw[ZZ hf,IV.Zbz];simp[Fd',hi]
  exact(congrArg Ze ((Za ((Zg (Zi t (decide_eq_false (by simp[wd])))).trans rfl)).trans (Zd ((Zj rfl).trans (Zd (Zu (Zan (xs:=[_,_,_]) (Zc rfl (Zc ((Zr rfl rfl).trans e) rfl)) (show 3<=1000 by decide)))))))).trans (by simp[nmb,Rw.d,hi])
 |unl k=>exact congrArg Ze (Zd ((Zj (Zi t (decide_eq_true (.inl rfl)))).trans (Zd (Zu rfl))))
 |jmp k=>exact congrArg Ze (Zd ((Zj (Zi t (decide_eq_true (.inr rfl)))).trans (Zd (Zu rfl))))
 |_=>exact go (by simp[wd]) (by simp[wd]) (by simp[wd]) rfl
theorem Ztg(H:Cod P)(n:Nat){k a fk:Nat}(e:h[k]?=J (.lst ps))(hf:h[fk]?=J (.lst (Fd' F))):∀(ds:List Rw) (ag:List D),ag.length+ds.length<=100000->(∀r∈ds,ZdE F.length r) ->
 ZV (J (k,ps)) (.nm 0) (tsto ⟨P.G,P.GD,run P (n+1),P.L⟩ M) (ev ⟨P.G,P.GD,run P (n+1),P.L⟩ (.call (O "numbered") (.cons (.var 0) (.cons (.var 1) (.cons (.var 2) .nil))))) (ds.map Rw.d) [M,J (.int (a:Int)),J (.ref fk)] ag h=.ok (ag++(ds.map (nmb a F)).map Rw.d) h
 |[],ag,hz,hc=>by simp[ZV,Wk.stays,e]
 |d::ds,ag,hz,hc=>by
  have ih:=Ztg H n (a:=a) e hf ds (ag++[(nmb a F d).d]) (by simp at hz ⊢;lia) (λr hr=>hc r (Oh _ hr));have fM:ag.length<16777216:=by simp at hz;lia
  have en:=Zwc H n d a fk F h hf (hc d Oi);rw[Op,Z4];simp[Wk.stays,e,fM,YC,en];simpa using ih
structure Ct(h0 h:Hd)(c us w ck fk:Nat)(U:List Un)(ws:List D)(F:List Nat)(cs:List Rw):Prop where
 q:St h0 h c us w U ws
 f:h[fk]?=J (.lst (Fd' F))
 k:h[ck]?=J (.lst (cs.map Rw.d))
 n1:ck≠us
 n2:ck≠w
 n3:ck≠fk
 n4:∀y∈U,ck≠y.r
 n5:h0.length<=ck
theorem Ct.app(z:Ct h0 h c us w ck fk U ws F cs):Ct h0 (h++g) c us w ck fk U ws F cs:=⟨z.q.app,keep z.f,keep z.k,z.n1,z.n2,z.n3,z.n4,z.n5⟩
theorem Ct.set(z:Ct h0 h c us w ck fk U ws F cs)(ds:List Rw):Ct h0 (h.set ck (.lst (ds.map Rw.d))) c us w ck fk U ws F ds:=by
 have q:=z.q;refine⟨⟨?_,?_,?_,λy hy=>?_,λy hy=>?_,q.nd,q.d1,q.d2,q.d3,q.o1,q.o2,q.o3,by simpa using q.ol,λi hi=>by rw[Oc (by have:=z.n5;lia)];exact q.old i hi⟩,?_,?_,z.n1,z.n2,z.n3,z.n4,z.n5⟩
 . rw[Oc (Zfi q.qc z.k)];exact q.qc
 . rw[Oc z.n1];exact q.qs
 . rw[Oc z.n2];exact q.qw
 . rw[Oc (Zfi (q.qu y hy) z.k)];exact q.qu y hy
 . rw[Oc (z.n4 y hy)];exact q.qr y hy
 . rw[Oc z.n3];exact z.f
 . rw[Ol (Zah z.k)]
def Zr9:Sxs:=.w (.s 5 (.blt .len (.o V3))) (.drp (.meth .ext V3 (.o (.comp [O "row",O "first",O "firsts"] [M,J 5,J 2] (.pl (.a "Unit" V4 "rows")) (.nm 0) M (.f "numbered" (.u V0 V1 V2))))))
theorem Zp4(H:Cod P)(n:Nat):∀(V:List Un) (cs:List Rw) (h:Hd) (un fs:Option D),(∀y∈V,y∈U)->(∀y∈V,∀r∈y.rows,ZdE F.length r)->cs.length+(V.map λy=>y.rows.length).sum<=50000->Ct h0 h c us w ck fk U ws F cs->∃h' dz bh,
 ZJ (J (us,U.map λx=>D.ref x.u)) (.nm 4) (xs2 ⟨P.G,P.GD,run P (n+1),P.L⟩ Zr9) (V.map λx=>D.ref x.u) [o0,o1,J (.ref fk),J (.ref ck),un,fs] h=.ok (.nx,[o0,o1,J (.ref fk),J (.ref ck),dz,bh]) h'
  /\ Ct h0 h' c us w ck fk U ws F (cs++flat F cs.length (V.map Un.rows))
 |[],cs,h,un,fs,hV,hc,hz,z=>⟨h,un,fs,by rw[Oy,Zkh z.q.qs],by simpa[flat]using z⟩
 |y::V,cs,h,un,fs,hV,hc,hz,z=>by
  have hy:=hV y Oi;simp only[Op,OI]at hz;have ec:=Ztg H n (a:=cs.length) (z.q.qr y hy) z.f y.rows [] (by simp;lia) (hc y Oi);have z1:=(z.app (g:=[.lst ((y.rows.map (nmb cs.length F)).map Rw.d)])).set (cs++y.rows.map (nmb cs.length F));obtain⟨h',dz,bh,e,z2⟩:=Zp4 H n (o0:=o0) (o1:=o1) V _ _ (J (.ref y.u)) (J (.int (cs.length:Int))) (λr hr=>hV r (Oh _ hr)) (λr hr=>hc r (Oh _ hr)) (by simp;lia) z1;refine⟨h',dz,bh,?_,?_⟩
  . refine(Zqj z.q.qs rfl ?_).trans e;rw[List.map_append];exact(Za (Zn ((Zf2 rfl (Zg9 z.k)).trans (by rw[Yt])))).trans ((Za (ZU (ZdC rfl z.k (Zc (Zko (ZlH (Ze4 rfl (z.q.qu y hy) rfl) (z.q.qr y hy)) ec) rfl) (Zti (keep z.k) ZbK (by rw[YC];simp;lia))))).trans rfl)
  . have hl:(cs++y.rows.map (nmb cs.length F)).length=cs.length+y.rows.length:=by simp
    rw[hl]at z2;simpa[flat]using z2
end
set_option tactic.hygienic true
section
variable {P:Pg}
def ZdE.mono(h:m<=k)(c:ZdE m r):ZdE k r:=by
 cases r with
 |close a ns=>obtain⟨i,e,q⟩:=c;exact⟨i,e,by lia⟩
 |_=>trivial
theorem ZjV:∀(L:List (List Rw)) (a:Nat),(ZbC a L).length=L.length+1
 |[],a=>rfl
 |r::L,a=>by simp[ZbC,ZjV L]
def Rows(X:List Rw×List (List Rw))(Q:Rw->Prop):Prop:=(∀r∈X.1,Q r)/\∀u∈X.2,∀r∈u,Q r
def Rows.imp(h:Rows X Q)(f:∀r,Q r->Q' r):Rows X Q':=⟨λr hr=>f r (h.1 r hr),λu hu r hr=>f r (h.2 u hu r hr)⟩
def ZoG(hx:Rows X (ZdE (k+X.2.length)))(hy:Rows Y (ZdE (k+X.2.length+Y.2.length)))(h0:∀{m},ZdE m r0):Rows (X.1++(Y.1++[r0]),X.2++Y.2) (ZdE (k+(X.2++Y.2).length)):=by
 have bI:=hx.imp (λr hr=>hr.mono (k:=k+(X.2++Y.2).length) (by simp));have cL:=hy.imp (λr hr=>hr.mono (k:=k+(X.2++Y.2).length) (by simp;lia));refine⟨?_,?_⟩
 . intro r hr;simp only[OD,Ox]at hr;rcases hr with hr|hr|rfl
   . exact bI.1 r hr
   . exact cL.1 r hr
   . exact h0
 . intro u hu r hr;rcases OD.mp hu with hu|hu
   . exact bI.2 u hu r hr
   . exact cL.2 u hu r hr
def ZoK(hx:Rows X (ZdE (k+X.2.length)))(hy:Rows Y (ZdE (k+X.2.length+Y.2.length)))(hz:Rows Z_ (ZdE (k+X.2.length+Y.2.length+Z_.2.length))):Rows (X.1++(.unl a::(Y.1++(.jmp b::Z_.1))),X.2++(Y.2++Z_.2)) (ZdE (k+(X.2++(Y.2++Z_.2)).length)):=by
 have bI:=hx.imp (λr hr=>hr.mono (k:=k+(X.2++(Y.2++Z_.2)).length) (by simp));have cL:=hy.imp (λr hr=>hr.mono (k:=k+(X.2++(Y.2++Z_.2)).length) (by simp;lia));have eY:=hz.imp (λr hr=>hr.mono (k:=k+(X.2++(Y.2++Z_.2)).length) (by simp;lia));refine⟨?_,?_⟩
 . intro r hr;simp only[OD,O3]at hr;rcases hr with hr|rfl|hr|rfl|hr
   . exact bI.1 r hr
   . trivial
   . exact cL.1 r hr
   . trivial
   . exact eY.1 r hr
 . intro u hu r hr;simp only[OD]at hu;rcases hu with hu|hu|hu
   . exact bI.2 u hu r hr
   . exact cL.2 u hu r hr
   . exact eY.2 u hu r hr
theorem Zaz:∀(t:T) (sc:List Str) (l:Bool) (p k:Nat),Rows (comp t sc l p k) (ZdE (k+(comp t sc l p k).2.length))
 |.num _,_,_,_,_=>by simp[comp,Rows,ZdE]
 |.name _,_,_,_,_=>by simp[comp,Rows,ZdE]
 |.fn y e,sc,l,p,k=>by
  have ih:=Zaz e (y::sc) Wx 0 (k+1);have fL:=ih.imp (λr hr=>hr.mono (k:=k+((comp e (y::sc) Wx 0 (k+1)).2.length+1)) (by lia));refine⟨?_,?_⟩
  . intro r hr;simp[comp]at hr;subst hr;exact⟨k,rfl,by simp[comp]⟩
  . intro u hu r hr;simp only[comp,O3]at hu;rcases hu with rfl|hu
    . rcases OD.mp hr with hr|hr
      . exact fL.1 r hr
      . simp at hr;subst hr;trivial
    . exact fL.2 u hu r hr
 |.rcc f y e,sc,l,p,k=>by
  have ih:=Zaz e (y::f::sc) Wx 0 (k+1);have fL:=ih.imp (λr hr=>hr.mono (k:=k+((comp e (y::f::sc) Wx 0 (k+1)).2.length+1)) (by lia));refine⟨?_,?_⟩
  . intro r hr;simp[comp]at hr;subst hr;exact⟨k,rfl,by simp[comp]⟩
  . intro u hu r hr;simp only[comp,O3]at hu;rcases hu with rfl|hu
    . rcases OD.mp hr with hr|hr
      . exact fL.1 r hr
      . simp at hr;subst hr;trivial
    . exact fL.2 u hu r hr
 |.call f a,sc,l,p,k=>ZoG (Zaz f sc Wy p k) (Zaz a sc Wy (p+cnt f) (k+(comp f sc Wy p k).2.length)) (by cases l<;>(intro m;trivial))
 |.op w f a,sc,l,p,k=>ZoG (Zaz f sc Wy p k) (Zaz a sc Wy (p+cnt f) (k+(comp f sc Wy p k).2.length)) trivial
 |.iff c t e,sc,l,p,k=>ZoK (Zaz c sc Wy p k) (Zaz t sc l (p+cnt c+1) (k+(comp c sc Wy p k).2.length))
  (Zaz e sc l (p+cnt c+1+cnt t+1) (k+(comp c sc Wy p k).2.length+(comp t sc l (p+cnt c+1) (k+(comp c sc Wy p k).2.length)).2.length))
def units(t:T):List (List Rw):=((comp t [] Wy 0 1).1++[.fin])::(comp t [] Wy 0 1).2
def code(t:T):List Rw:=flat (ZbC 0 (units t)) 0 (units t)
def ZoE(t:T):∀u∈units t,∀r∈u,ZdE (ZbC 0 (units t)).length r:=by
 have q:=Zaz t [] Wy 0 1;have q':=q.imp (λr hr=>hr.mono (k:=(ZbC 0 (units t)).length) (by rw[ZjV];simp[units];lia));intro u hu r hr;simp only[units,O3]at hu;rcases hu with rfl|hu
 . rcases OD.mp hr with hr|hr
   . exact q'.1 r hr
   . simp at hr;subst hr;trivial
 . exact q'.2 u hu r hr
theorem ZaS:∀(t:T) (sc:List Str) (l:Bool) (p k:Nat),(comp t sc l p k).1.length+((comp t sc l p k).2.map List.length).sum<=3*t.size
 |.num _,_,_,_,_=>by simp[comp,T.size,T.places]
 |.name _,_,_,_,_=>by simp[comp,T.size,T.places]
 |.fn y e,sc,l,p,k=>by have:=ZaS e (y::sc) Wx 0 (k+1);rw[Zb];simp[comp,T.parts];lia
 |.rcc f y e,sc,l,p,k=>by have:=ZaS e (y::f::sc) Wx 0 (k+1);rw[Zb];simp[comp,T.parts];lia
 |.call f a,sc,l,p,k=>by have:=ZaS f sc Wy p k;have:=ZaS a sc Wy (p+cnt f) (k+(comp f sc Wy p k).2.length);rw[Zb];simp[comp,T.parts];lia
 |.op w f a,sc,l,p,k=>by have:=ZaS f sc Wy p k;have:=ZaS a sc Wy (p+cnt f) (k+(comp f sc Wy p k).2.length);rw[Zb];simp[comp,T.parts];lia
 |.iff c t e,sc,l,p,k=>by
  have:=ZaS c sc Wy p k;have:=ZaS t sc l (p+cnt c+1) (k+(comp c sc Wy p k).2.length);have:=ZaS e sc l (p+cnt c+1+cnt t+1) (k+(comp c sc Wy p k).2.length+(comp t sc l (p+cnt c+1) (k+(comp c sc Wy p k).2.length)).2.length);rw[Zb];simp[comp,T.parts]
  lia
def Zrl(H:Cod P)(n:Nat)(h:Hd):Zgx (run P (n+1)) (O "Coder") [] h=.ok (.ref h.length) (h++[.ins (O "Coder") [(O "units",.ref (h.length+1)),(O "waiting",.ref (h.length+2))],.lst [],.lst []]):=by unfold Zgx;rw[Zz H.n_Coder___init__ H.Coder___init__ (by rfl)];simp[Zam,Zc4,ZE,ZfL,Zg1,YC]
theorem Zpc (H:Cod P) (n:Nat) (t:T) (ct:Gn.Cl [] t) (hz:t.size<=1000) (h:Hd):∃ h' k,run P (n+6) (O "code_of") [t.d] h=.ok (.ref k) h'/\h'[k]?=J (.lst ((code t).map Rw.d))/\h.length<=k/\h.length<=h'.length/\∀ i,i<h.length->h'[i]?=h[i]? := by
 rw [Zf H.code_of (by rfl)];have e0:=Zrl H (n+4) h;have q0:St h (h++[.ins (O "Coder") [(O "units",.ref (h.length+1)),(O "waiting",.ref (h.length+2))],.lst [],.lst []]) h.length (h.length+1) (h.length+2) [] [] :=
   ⟨by simp,by simp,by simp,by simp,by simp,by simp,by lia,by simp,by simp,by lia,by lia,by simp,by simp,λi hi=>by rw [Oe hi]⟩
 have c0:=q0.qc;generalize (h++[.ins (O "Coder") [(O "units",.ref (h.length+1)),(O "waiting",.ref (h.length+2))],.lst [],.lst []])=R at *;obtain⟨h2,y,e1,y1,y2,q1⟩:=Zmk H (n+3) q0 t [] Wy (by simp) (by simp);simp only [OB] at q1;have c1:=q1.qc;obtain⟨h3,z,N,e2,q2,er⟩:=Zwf H n t ct hz y1 y2 q1;have c2:=q2.qc;have hl:(z::N).length=(units t).length:=by rw [<-Yt (f:=Un.rows),er];rfl
 have hu:=units_le t [] Wy 0 1;have e3:=Zpb H (n+4) q2 (by rw [hl];simp [units];lia);rw [er] at e3;have q3:Ct h (h3++[.lst (Fd' (ZbC 0 (units t)))]++[.lst []]) h.length (h.length+1) (h.length+2) (h3.length+1) h3.length (z::N) [] (ZbC 0 (units t)) []:=by
   have l1:=Zah q2.qs;have l2:=Zah q2.qw;exact⟨q2.app.app,by simp [Fd'],by simp,by lia,by lia,by lia,λx hx=>by have:=Zah (q2.qr x hx);lia,by have:=q2.ol;lia⟩
 have k2:(h3++[DO.lst (Fd' (ZbC 0 (units t)))]++[.lst []])[h.length+1]?=_:=q3.q.qs;have k3:(h3++[DO.lst (Fd' (ZbC 0 (units t)))]++[.lst []])[h.length]?=_:=q3.q.qc;have iP:∀ u∈z::N,u.rows∈units t:=λu hu=>by
   have:u.rows∈(z::N).map Un.rows:=List.mem_map_of_mem hu;rw [er] at this;exact this
 obtain⟨h4,un,fs,e4,q4⟩:=Zp4 H (n+4) (o0:=J t.d) (o1:=J (.ref h.length)) (z::N) [] _ M M (λy hy=>hy) (λy hy r hr=>ZoE t y.rows (iP y hy) r hr) (by
     have:((z::N).map λy=>y.rows.length).sum=((units t).map List.length).sum:=by
       rw [show (λy:Un=>y.rows.length)=List.length ∘ Un.rows from rfl,<-List.map_map,er];rfl
     rw [this];have:=ZaS t [] Wy 0 1;simp [units]
     lia) q3
 refine⟨h4,h3.length+1,?_,?_,by have:=q2.ol;lia,q4.q.ol,q4.q.old⟩
 . have x5:∀ S,ev (P.tbl (n+5)) (.lstl .nil) S (h3++[.lst (Fd' (ZbC 0 (units t)))])=.ok (.ref (h3.length+1)) (h3++[.lst (Fd' (ZbC 0 (units t)))]++[.lst []]):=λS=>(Zhv (xs:=[]) rfl (by decide)).trans (by rw [OA];rfl);have x6:xs1 (P.tbl (n+5)) Zgs [J t.d,J (.ref h.length),J (.ref h3.length),J (.ref (h3.length+1)),M,M] _=_:=(ZfY (ZlH (Ze4 rfl k3 rfl) k2)).trans e4;have w:xs2 (P.tbl (n+5)) ZiJ [J t.d,M,M,M,M,M] h=.ok (.rt (.ref (h3.length+1)),_) h4:=(Za (Zn (ZuG rfl e0))).trans ((Za (ZU (ZB rfl c0 rfl rfl e1))).trans ((Za (ZU (ZB rfl c1 rfl rfl e2))).trans ((Za (Zn (Zt e3 (Zc (Ze4 rfl c2 rfl) rfl)))).trans ((Za (Zn (x5 _))).trans ((Za x6).trans (Zd (Zu rfl)))))));exact congrArg Ze w
 . have:=q4.k;rw [er] at this;simpa [code,units] using this
end
set_option tactic.hygienic false
section
noncomputable def off(L:List (List Rw))(i:Nat):Nat:=((L.take i).map List.length).sum
theorem Zmp:∀(L:List (List Rw)) (a i:Nat),i<=L.length->(ZbC a L)[i]?=J (a+off L i)
 |[],a,i,h=>by simp at h;subst h;simp[ZbC,off]
 |r::L,a,0,h=>by simp[ZbC,off]
 |r::L,a,i+1,h=>by
  have:=Zmp L (a+r.length) i (by simpa using h);simp[ZbC,this,off]
  lia
theorem ZmO(F:List Nat):∀(L:List (List Rw)) (a i j:Nat) (u:List Rw) (r:Rw),L[i]?=J u->u[j]?=J r->(flat F a L)[off L i+j]?=J (nmb (a+off L i) F r)
 |[],a,i,j,u,r,hi,hj=>by simp at hi
 |v::L,a,0,j,u,r,hi,hj=>by simp at hi;subst hi;have hl:=(Ob.mp hj).1;rw[flat,show off (v::L) 0=0 by simp[off],Nat.zero_add,Oe (by simpa using hl),O2,hj];rfl
 |v::L,a,i+1,j,u,r,hi,hj=>by
  have ih:=ZmO F L (a+v.length) i j u r (by simpa using hi) hj;have e:off (v::L) (i+1)=v.length+off L i:=by simp[off]
  rw[flat,e,Om (by simp;lia)];rw[show v.length+off L i+j-(v.map (nmb a F)).length=off L i+j by simp;lia,ih];congr 2
  lia
def Plc(L:List (List Rw))(i p:Nat)(rs:List Rw):Prop:=∃u,L[i]?=J u/\∀j r,rs[j]?=J r->u[p+j]?=J r
def Uts(L:List (List Rw))(k:Nat)(us:List (List Rw)):Prop:=∀j u,us[j]?=J u->L[k+j]?=J u
variable {L:List (List Rw)}{i p k:Nat}
def Plc.left(h:Plc L i p (a++b)):Plc L i p a:=by obtain⟨u,R,h2⟩:=h;exact⟨u,R,λj r hr=>h2 j r (by rw[Oe (Ob.mp hr).1];exact hr)⟩
def Plc.right(h:Plc L i p (a++b)):Plc L i (p+a.length) b:=by
 obtain⟨u,R,h2⟩:=h;refine⟨u,R,λj r hr=>?_⟩;have:=h2 (a.length+j) r (by rw[Om (by lia)];simpa using hr);rw[<-this];congr 1
 lia
def Plc.head(h:Plc L i p (r::b)):(flat (ZbC 0 L) 0 L)[off L i+p]?=J (nmb (off L i) (ZbC 0 L) r):=by obtain⟨u,R,h2⟩:=h;have:=ZmO (ZbC 0 L) L 0 i p u r R (by simpa using h2 0 r rfl);simpa using this
def Plc.tail(h:Plc L i p (r::b)):Plc L i (p+1) b:=Plc.right (a:=[r]) h
def Uts.left(h:Uts L k (a++b)):Uts L k a:=λj u hu=>h j u (by rw[Oe (Ob.mp hu).1];exact hu)
def Uts.right(h:Uts L k (a++b)):Uts L (k+a.length) b:=λj u hu=>by
 have:=h (a.length+j) u (by rw[Om (by lia)];simpa using hu);rw[<-this];congr 1
 lia
def Uts.head(h:Uts L k (r::b)):Plc L k 0 r:=⟨r,by simpa using h 0 r rfl,λj x hx=>by simpa using hx⟩
def Uts.len(h:Uts L k (r::b)):k<L.length:=(Ob.mp (show L[k]?=J r by simpa using h 0 r rfl)).1
def Uts.tail(h:Uts L k (r::b)):Uts L (k+1) b:=Uts.right (a:=[r]) h
end
section
noncomputable def ZW(z:Int):D:=.tup [.str (O "num"),.int z]
noncomputable def Z1(q:Nat)(ns:List Str)(ds:List D):D:=.tup [.str (O "clo"),.int q,.tup (ns.map .str),.tup ds]
structure Ma where
 p:Nat
 S_:List D
 E:List D
 pl:List (Nat×List D)
noncomputable def fr(f:Nat×List D):D:=.tup [.int (f.1:Int),.tup f.2]
def Ma.d(s:Ma):D:=.tup [.int (s.p:Int),.tup s.S_,.tup s.E,.tup (s.pl.map fr)]
inductive Ans where
 |quiet (s:Ma)|loud (s:Ma)|value|stuck
noncomputable def Ans.d:Ans->D
 |.quiet s=>.tup [.str (O "quiet"),s.d]
 |.loud s=>.tup [.str (O "loud"),s.d]
 |.value=>.tup [.str (O "value")]
 |.stuck=>.tup [.str (O "stuck")]
section
variable {α:Type}{l:List α}{a b:α}
def ZqR:atI (l++[a,b]) (-1)=J b:=by have:=Zei (l:=l++[a]) (x:=b);simpa using this
def Znd:atI (l++[a,b]) (-2)=J a:=by
 unfold atI ixN;rw[if_neg (by decide),if_pos (by simp;lia)];have:(-2+((l++[a,b]).length:Int)).toNat=l.length:=by simp;lia
 simp only[Yz,this];simp
end
def Zvn:cutD (l++[a]) M (J (-1))=l:=by
 have e:HT.sIx (l++[a]).length (l++[a]).length (J (-1))=l.length:=by simp[HT.sIx];lia
 have e0:HT.sIx (l++[a]).length 0 M=0:=by simp[HT.sIx]
 unfold cutD;rw[e,e0];simp
def Zqy:cutD (l++[a,b]) M (J (-2))=l:=by
 have e:HT.sIx (l++[a,b]).length (l++[a,b]).length (J (-2))=l.length:=by simp[HT.sIx];lia
 have e0:HT.sIx (l++[a,b]).length 0 M=0:=by simp[HT.sIx]
 unfold cutD;rw[e,e0];simp
variable {P:Pg}{h:Hd}
def Zsh:opC GD .In (.str (Str.ofString x)) (.tup [.str (O "call"),.str (O "hop"),.str (O "unless"),.str (O "work")]) h=.ok (.bl (Wz (x="call" \/ x="hop" \/ x="unless" \/ x="work"))) h:=by have:=@ZbX GD h [O "call",O "hop",O "unless",O "work"] (Str.ofString x);simpa using this
def psh(E:List D):Rw->Option D
 |.num z=>J (ZW z)
 |.fetch i=>E[i]?
 |.close q ns=>J (.tup [.str (O "clo"),.int q,.tup (ns.map .str),.tup E])
 |_=>M
def ZcB(e:atI E i=J x):ZbD GD (.tup E) (.int i) h=.ok x h:=by show qe.ofO (atI E i) h=_;rw[e];rfl
def Zmf(H:Cod P)(n:Nat)(r:Rw)(E:List D)(hx:psh E r=J x):run P (n+1) (O "thing_of") [r.d,.tup E] h=.ok x h:=by
 rw[Zf H.thing_of rfl];cases r with
 |num z=>cases hx;exact rfl
 |fetch i=>exact congrArg Ze ((Za ((Zg rfl).trans rfl)).trans (Zd ((Zj rfl).trans (Zd (Zu ((Zr rfl rfl).trans (ZcB (by rw[IV.Zbz];exact hx))))))))
 |close q ns=>cases hx;exact rfl
 |_=>cases hx
def Zrj(H:Cod P)(n:Nat)(r:Rw)(s:Ma)(hx:psh s.E r=J x)(hz:s.S_.length<=10000):run P (n+2) (O "quiet_state") [r.d,s.d] h=.ok (Ma.d ⟨s.p+1,s.S_++[x],s.E,s.pl⟩) h:=by
 rw[Zf H.quiet_state rfl];have e1:=Zmf H n (h:=h) r s.E hx;have hw:Str.ofString (wd r)≠O "jump" /\ Str.ofString (wd r)≠O "back" := by cases r<;>first|(cases hx;done)|simp[wd]
 obtain⟨ds,ed⟩:=Zkr r;rw[ed]at e1 ⊢;exact congrArg Ze ((Za ((Zg (Zi (Zcd (ZeU rfl) rfl) (decide_eq_false hw.1))).trans rfl)).trans ((Za ((Zg (Zi (Zcd (ZeU rfl) rfl) (decide_eq_false hw.2))).trans rfl)).trans (Zd (Zu (Zan (xs:=[_,_,_,_]) (Zc rfl (Zc ((Zh (x:=.tup s.S_) rfl (Zan (xs:=[_]) (Zc (Zt e1 rfl) rfl) (show 1<=1000 by decide))).trans (ZbY (by rw[YC];simp;lia))) rfl)) (show 4<=1000 by decide))))))
def Zla(H:Cod P)(n:Nat)(q:Nat)(s:Ma):run P (n+1) (O "quiet_state") [(Rw.jmp q).d,s.d] h=.ok (Ma.d ⟨q,s.S_,s.E,s.pl⟩) h:=by rw[Zf H.quiet_state (by rfl)];have c1:∀a b c d:D,opB .Add (.tup [a]) (.tup [b,c,d]) h=.ok (.tup [a,b,c,d]) h:=λa b c d=>ZbY (by rw[YC];simp);exact rfl
def Zxi:cutD (a::l) (J 1) M=l:=by simp[cutD,HT.sIx]
def Zt4(H:Cod P)(n:Nat)(p q:Nat)(S_ E ds:List D)(pl:List (Nat×List D)):run P (n+1) (O "quiet_state") [Rw.back.d,Ma.d ⟨p,S_,E,(q,ds)::pl⟩] h=.ok (Ma.d ⟨q,S_,ds,pl⟩) h:=by rw[Zf H.quiet_state rfl];exact congrArg Ze ((Za ((Zg rfl).trans rfl)).trans (Zd ((Zj rfl).trans ((Za (Zn (ZeU (x:=fr (q,ds)) rfl))).trans (Zd (Zu (Zan (xs:=[_,_,_,_]) (Zc rfl (Zc rfl (Zc rfl (Zc ((Gn.Zic (x:=.tup (((q,ds)::pl).map fr)) rfl rfl rfl).trans (by rw[Op];show qe.ok (D.tup (cutD _ _ _)) h=_;rw[Zxi])) rfl)))) (show 4<=1000 by decide))))))))
def ent(q:Nat)(ns:List Str)(ds:List D)(v:D):List D:=if ns.length=1 then v::ds else v::Z1 q ns ds::ds
def Zny(H:Cod P)(n:Nat)(q:Nat)(ns:List Str)(ds:List D)(v:D)(hz:ds.length<=10000):run P (n+1) (O "entered") [Z1 q ns ds,v] h=.ok (.tup (ent q ns ds v)) h:=by
 rw[Zf H.entered rfl];unfold ent;have t:tst (P.tbl n) (.ex (.cmp .Eq (.blt .len (.cons (.ix (.var 0) (.ci 2)) .nil)) (.ci 1))) [J (Z1 q ns ds),J v] h=.ok (Wz (((ns.map D.str).length:Int)=1)) h:=ZeW rfl rfl;rw[Yt]at t;by_cases e:ns.length=1
 . rw[if_pos e];exact congrArg Ze (Zd ((Zj (Zi t (decide_eq_true (by lia)))).trans (Zd (Zu ((Zh rfl rfl).trans (ZbY (xs:=[v]) (by rw[YC];simp;lia)))))))
 . rw[if_neg e];exact congrArg Ze ((Za ((Zg (Zi t (decide_eq_false (by lia)))).trans rfl)).trans (Zd (Zu ((Zh rfl rfl).trans (ZbY (xs:=[v,Z1 q ns ds]) (by rw[YC];simp;lia))))))
def ZnC(H:Cod P)(n:Nat)(z:Int)(S_:List D)(V pl:D):run P (n+2) (O "applied") [.tup (S_++[ZW z,V]),pl] h=.ok .non h:=by rw[Zf H.applied rfl];exact congrArg Ze ((Za (Zn ((Zr rfl rfl).trans (ZcB Znd)))).trans (Zd ((Zj rfl).trans rfl)))
def Zih(H:Cod P)(n:Nat)(q:Nat)(ns:List Str)(ds:List D)(S_:List D)(V pl:D)(hz:ds.length<=10000):run P (n+2) (O "applied") [.tup (S_++[Z1 q ns ds,V]),pl] h=.ok (.tup [.int (q:Int),.tup S_,.tup (ent q ns ds V),pl]) h:=by rw[Zf H.applied rfl];exact congrArg Ze ((Za (Zn ((Zr rfl rfl).trans (ZcB Znd)))).trans ((Za ((Zg rfl).trans rfl)).trans (Zd (Zu (Zan (xs:=[_,_,_,_]) (Zc rfl (Zc ((Gn.Zic (x:=.tup (S_++[Z1 q ns ds,V])) rfl rfl rfl).trans (by show qe.ok (D.tup (cutD _ _ _)) h=_;rw[Zqy])) (Zc (Zt (Zny H n q ns ds V hz) (Zc rfl (Zc ((Zr rfl rfl).trans (ZcB ZqR)) rfl))) rfl))) (show 4<=1000 by decide))))))
def Zpd(H:Cod P)(n:Nat)(z:Int)(A B_:D):run P (n+1) (O "chosen") [ZW z,A,B_] h=.ok (if z=0 then B_ else A) h:=by
 rw[Zf H.chosen rfl];refine congrArg Ze ((Za ((Zg rfl).trans rfl)).trans (Zd (Zu ?_)));rw[Zqp,ZeW (x:=z) rfl rfl,Zl];by_cases e:z=0
 . rw[decide_eq_true e,if_pos rfl,if_pos e];rfl
 . rw[decide_eq_false e,if_neg (by decide),if_neg e];rfl
def ZiV(H:Cod P)(n:Nat)(q:Nat)(ns:List Str)(ds:List D)(A B_:D):run P (n+1) (O "chosen") [Z1 q ns ds,A,B_] h=.ok .non h:=by rw[Zf H.chosen (by rfl)];exact rfl
def Zo4(H:Cod P)(n:Nat)(w:Wd)(a b:Int)(ha:0<=a/\a<1000000)(hb:0<=b/\b<1000000):run P (n+1) (O "worked") [.str w.s,ZW a,ZW b] h=.ok (ZW (_root_.Rw.wk w a b)) h:=_root_.Rw.worked_nn H.worked H.gb n w ha hb
end
section
variable {P:Pg}{h:Hd}{C:List Rw}
def Zv2{U:Tb}(p:ev U e S h=.ok (.tup (S_++[x])) h):ev U (.sl e M (J (.neg (.ci 1)))) S h=.ok (.tup S_) h:=(Gn.Zic p rfl rfl).trans (by show qe.ok (D.tup (cutD _ _ _)) h=_;rw[Zvn])
def Zlc(H:Cod P)(n:Nat)(q p:Nat)(z:Int)(S_ E:List D)(pl:List (Nat×List D)):run P (n+2) (O "gone_on") [.int (q:Int),Ma.d ⟨p,S_++[ZW z],E,pl⟩] h=.ok (Ma.d ⟨if z=0 then q else p+1,S_,E,pl⟩) h:=by
 rw[Zf H.gone_on rfl];have e3:=Zpd H n (h:=h) z (.int ((p:Int)+1)) (.int q);have go:∀m:Nat,(if z=0 then D.int q else .int ((p:Int)+1))=.int m->Ze (xs2 (P.tbl (n+1)) ZiI [J (.int q),J (Ma.d ⟨p,S_++[ZW z],E,pl⟩),M] h)=.ok (Ma.d ⟨m,S_,E,pl⟩) h:=λm e=>by rw[e]at e3;exact congrArg Ze ((Za (Zn (Zt e3 (Zc ((Zr rfl rfl).trans (ZcB Zei)) rfl)))).trans ((Za ((Zg (Zu1 (x:=.int m) rfl nofun)).trans rfl)).trans (Zd (Zu (Zan (xs:=[_,_,_,_]) (Zc rfl (Zc (Zv2 rfl) rfl)) (show 4<=1000 by decide))))))
 exact go _ (by split<;>rfl)
def Zld(H:Cod P)(n:Nat)(q p:Nat)(k:Nat)(ns:List Str)(ds:List D)(S_ E:List D)(pl:List (Nat×List D)):run P (n+2) (O "gone_on") [.int (q:Int),Ma.d ⟨p,S_++[Z1 k ns ds],E,pl⟩] h=.ok .non h:=by rw[Zf H.gone_on rfl];exact congrArg Ze ((Za (Zn (Zt (ZiV H n k ns ds (.int ((p:Int)+1)) (.int q)) (Zc ((Zr rfl rfl).trans (ZcB Zei)) rfl)))).trans (Zd ((Zj (ZwX rfl)).trans rfl)))
def ZtV(H:Cod P)(n:Nat)(w:Wd)(p:Nat)(a b:Int)(S_ E:List D)(pl:List (Nat×List D))(ha:0<=a/\a<1000000)(hb:0<=b/\b<1000000)(hz:S_.length<=10000):run P (n+2) (O "reckoned") [.str w.s,Ma.d ⟨p,S_++[ZW a,ZW b],E,pl⟩] h=.ok (Ma.d ⟨p+1,S_++[ZW (_root_.Rw.wk w a b)],E,pl⟩) h:=by rw[Zf H.reckoned rfl];exact congrArg Ze ((Za (Zn rfl)).trans ((Za (Zn (Zt (Zo4 H n w a b ha hb) (Zc rfl (Zc ((Zr rfl rfl).trans (ZcB Znd)) (Zc ((Zr rfl rfl).trans (ZcB ZqR)) rfl)))))).trans ((Za ((Zg (Zu1 (x:=ZW _) rfl nofun)).trans rfl)).trans (Zd (Zu (Zan (xs:=[_,_,_,_]) (Zc rfl (Zc ((Zh ((Gn.Zic (x:=.tup (S_++[ZW a,ZW b])) rfl rfl rfl).trans (by show qe.ok (D.tup (cutD _ _ _)) h=_;rw[Zqy])) rfl).trans (ZbY (ys:=[ZW (_root_.Rw.wk w a b)]) (by rw[YC];simp;lia))) rfl)) (show 4<=1000 by decide)))))))
def Zts:D->Ans->Prop:=λd a=>(d=.non/\a=.stuck)\/∃s:Ma,d=s.d/\a=.loud s
def Znw(H:Cod P)(n:Nat)(ha:Zts d a):run P (n+1) (O "loud_or_stuck") [d] h=.ok a.d h:=by
 rw[Zf H.loud_or_stuck rfl];rcases ha with⟨rfl,rfl⟩|⟨s,rfl,rfl⟩
 . exact congrArg Ze (Zd ((Zj (ZwX rfl)).trans rfl))
 . exact congrArg Ze ((Za ((Zg (Zu1 (x:=s.d) rfl nofun)).trans rfl)).trans (Zd (Zu rfl)))
def Zif(H:Cod P)(n:Nat)(s:Ma)(hz:s.pl.length<=10000)(e:run P (n+2) (O "applied") [.tup s.S_,.tup (((s.p+1,s.E)::s.pl).map fr)] h=.ok d h):run P (n+3) (O "loud_state") [Rw.call.d,s.d] h=.ok d h:=by rw[Zf H.loud_state rfl];exact congrArg Ze (Zd ((Zj rfl).trans (Zd (Zu (Zt e (Zc rfl (Zc ((Zh rfl rfl).trans (ZbY (xs:=[fr (s.p+1,s.E)]) (by rw[YC];simp;lia))) rfl)))))))
def ZjO(H:Cod P)(n:Nat)(s:Ma)(e:run P (n+2) (O "applied") [.tup s.S_,.tup (s.pl.map fr)] h=.ok d h):run P (n+3) (O "loud_state") [Rw.hop.d,s.d] h=.ok d h:=by rw[Zf H.loud_state rfl];exact congrArg Ze ((Za ((Zg rfl).trans rfl)).trans (Zd ((Zj rfl).trans (Zd (Zu (Zt e rfl))))))
def ZjN(H:Cod P)(n:Nat)(q:Int)(s:Ma)(e:run P (n+2) (O "gone_on") [.int q,s.d] h=.ok d h):run P (n+3) (O "loud_state") [(Rw.unl q).d,s.d] h=.ok d h:=by rw[Zf H.loud_state rfl];exact congrArg Ze ((Za ((Zg rfl).trans rfl)).trans ((Za ((Zg rfl).trans rfl)).trans (Zd ((Zj rfl).trans (Zd (Zu (Zt e rfl)))))))
def Zie(H:Cod P)(n:Nat)(w:Wd)(s:Ma)(e:run P (n+2) (O "reckoned") [.str w.s,s.d] h=.ok d h):run P (n+3) (O "loud_state") [(Rw.work w).d,s.d] h=.ok d h:=by rw[Zf H.loud_state rfl];exact congrArg Ze ((Za ((Zg rfl).trans rfl)).trans ((Za ((Zg rfl).trans rfl)).trans ((Za ((Zg rfl).trans rfl)).trans (Zd (Zu (Zt e rfl))))))
def ZbL{GD:Str->Option (List (Key×D))}{k p:Nat}{r:Rw}(hk:h[k]?=J (.lst (C.map Rw.d)))(hc:C[p]?=J r):ZbD GD (.ref k) (.int (p:Int)) h=.ok r.d h:=by rw[ZZ hk,IV.Zbz,O2,hc];rfl
noncomputable def Zte:Rw->Bool
 |.call|.hop|.unl _|.work _=>Wx
 |_=>Wy
noncomputable def Zlf:Rw->Bool
 |.num _|.fetch _|.close _ _|.jmp _|.back=>Wx
 |_=>Wy
def Zk8(H:Cod P)(n:Nat)(s:Ma){k:Nat}(hk:h[k]?=J (.lst (C.map Rw.d)))(hc:C[s.p]?=J .fin):run P (n+1) (O "code_step") [.ref k,s.d] h=.ok Ans.value.d h:=by rw[Zf H.code_step rfl];exact congrArg Ze ((Za (Zn ((Zr rfl rfl).trans (ZbL hk hc)))).trans (Zd ((Zj rfl).trans (Zd (Zu rfl)))))
def Zsa{r:Rw}(hr:Zte r=Wx):Str.ofString (wd r)≠O "end" /\ (wd r="call" \/ wd r="hop" \/ wd r="unless" \/ wd r="work"):=by cases r<;>first|(cases hr;done)|simp[wd]
def Zph{r:Rw}(hr:Zlf r=Wx):Str.ofString (wd r)≠O "end" /\ ¬ (wd r="call" \/ wd r="hop" \/ wd r="unless" \/ wd r="work"):=by cases r<;>first|(cases hr;done)|simp[wd]
def ZoM(H:Cod P)(p:ev (P.tbl n) e S h=.ok (.str (Str.ofString x)) h):tst (P.tbl n) (.ex (.cmp .In e (.glo (O "LOUD")))) S h=.ok (Wz (x="call" \/ x="hop" \/ x="unless" \/ x="work")) h:=ZbM ((Zv p (by rw[Zhw,show(P.tbl n).G _=_ from H.go];rfl)).trans Zsh)
def Z2(H:Cod P)(n:Nat)(s:Ma){k:Nat}{r:Rw}(hk:h[k]?=J (.lst (C.map Rw.d)))(hc:C[s.p]?=J r)(hr:Zte r=Wx){d:D}{a:Ans}(ha:Zts d a)(e1:run P (n+3) (O "loud_state") [r.d,s.d] h=.ok d h):run P (n+4) (O "code_step") [.ref k,s.d] h=.ok a.d h:=by rw[Zf H.code_step rfl];obtain⟨ds,ed⟩:=Zkr r;have e:=ZbL (GD:=P.GD) hk hc;rw[ed]at e e1;have hw:=Zsa hr;exact congrArg Ze ((Za (Zn ((Zr rfl rfl).trans e))).trans ((Za ((Zg (Zi (Zcd (ZeU rfl) rfl) (decide_eq_false hw.1))).trans rfl)).trans (Zd ((Zj (Zi (ZoM (n:=n+3) H (ZeU rfl)) (decide_eq_true hw.2))).trans (Zd (Zu (Zt (Znw H (n+2) ha) (Zc (Zt e1 rfl) rfl))))))))
def Zc6(H:Cod P)(n:Nat)(s s':Ma){k:Nat}{r:Rw}(hk:h[k]?=J (.lst (C.map Rw.d)))(hc:C[s.p]?=J r)(hr:Zlf r=Wx)(e1:run P (n+3) (O "quiet_state") [r.d,s.d] h=.ok s'.d h):run P (n+4) (O "code_step") [.ref k,s.d] h=.ok (Ans.quiet s').d h:=by rw[Zf H.code_step rfl];obtain⟨ds,ed⟩:=Zkr r;have e:=ZbL (GD:=P.GD) hk hc;rw[ed]at e e1;have hw:=Zph hr;exact congrArg Ze ((Za (Zn ((Zr rfl rfl).trans e))).trans ((Za ((Zg (Zi (Zcd (ZeU rfl) rfl) (decide_eq_false hw.1))).trans rfl)).trans ((Za ((Zg (Zi (ZoM (n:=n+3) H (ZeU rfl)) (decide_eq_false hw.2))).trans rfl)).trans (Zd (Zu (Zan (xs:=[_,_]) (Zc rfl (Zc (Zt e1 rfl) rfl)) (show 2<=1000 by decide)))))))
end
set_option tactic.hygienic true
inductive Cd(C:List Rw):List Str->Bool->Nat->T->Nat->Prop
 |num {sc:List Str}{l:Bool}{p:Nat}{n:Int}:C[p]?=J (.num n)->Cd C sc l p (.num n) (p+1)
 |name {sc:List Str}{l:Bool}{p i:Nat}{x:Str}:C[p]?=J (.fetch i)->Tx.place x sc=J i->Cd C sc l p (.name x) (p+1)
 |fn {sc:List Str}{l:Bool}{p q q':Nat}{x:Str}{e:T}:C[p]?=J (.close (q:Int) [x])->Cd C (x::sc) Wx q e q'->C[q']?=J .back->Cd C sc l p (.fn x e) (p+1)
 |rcc {sc:List Str}{l:Bool}{p q q':Nat}{f x:Str}{e:T}:C[p]?=J (.close (q:Int) [x,f])->Cd C (x::f::sc) Wx q e q'->C[q']?=J .back->Cd C sc l p (.rcc f x e) (p+1)
 |call {sc:List Str}{l:Bool}{p p1 p2:Nat}{f a:T}:Cd C sc Wy p f p1->Cd C sc Wy p1 a p2->C[p2]?=J (if l then .hop else .call)->Cd C sc l p (.call f a) (p2+1)
 |op {sc:List Str}{l:Bool}{p p1 p2:Nat}{w:Wd}{a b:T}:Cd C sc Wy p a p1->Cd C sc Wy p1 b p2->C[p2]?=J (.work w)->Cd C sc l p (.op w a b) (p2+1)
 |iff {sc:List Str}{l:Bool}{p p1 p2 p3:Nat}{c t e:T}:Cd C sc Wy p c p1->C[p1]?=J (.unl ((p2+1:Nat):Int))->Cd C sc l (p1+1) t p2->C[p2]?=J (.jmp (p3:Int))->Cd C sc l (p2+1) e p3->Cd C sc l p (.iff c t e) p3
section
variable {L:List (List Rw)}{i p k:Nat}
def Zkx{ns:List Str}{r:List Rw}{us:List (List Rw)}(hp:Plc L i p [.close k ns])(hu:Uts L k (r::us)):(flat (ZbC 0 L) 0 L)[off L i+p]?=J (.close ((off L k:Nat):Int) ns):=by
 have e:nmb (off L i) (ZbC 0 L) (.close k ns)=.close ((off L k:Nat):Int) ns:=by have:=Zmp L 0 k (Yy hu.len);simp[nmb,this]
 rw[<-e];exact hp.head
def ZqG{m:Nat}{rs:List Rw}{us:List (List Rw)}(hu:Uts L k ((rs++[.back])::us))(hm:rs.length=m):(flat (ZbC 0 L) 0 L)[off L k+(0+m)]?=J .back:=by have:=hu.head.right.head;rw[hm]at this;exact this
theorem Zbx:∀(t:T) (sc:List Str) (l:Bool) (p k i:Nat),Gn.Cl sc t->Plc L i p (comp t sc l p k).1->Uts L k (comp t sc l p k).2->Cd (flat (ZbC 0 L) 0 L) sc l (off L i+p) t (off L i+(p+cnt t))
 |.num m,sc,l,p,k,i,ct,hp,hu=>.num hp.head
 |.name y,sc,l,p,k,i,ct,hp,hu=>by obtain⟨j,e1,e2⟩:=ZfP (show y∈sc from ct);have hc:=hp.head;simp only[e1,Option.getD_some]at hc;exact .name hc e1
 |.fn y e,sc,l,p,k,i,ct,hp,hu=>.fn (Zkx hp hu) (Zbx e (y::sc) Wx 0 (k+1) k ct.1 hu.head.left hu.tail) (ZqG hu (ZA e _ _ _ _))
 |.rcc f y e,sc,l,p,k,i,ct,hp,hu=>.rcc (Zkx hp hu) (Zbx e (y::f::sc) Wx 0 (k+1) k ct.1 hu.head.left hu.tail) (ZqG hu (ZA e _ _ _ _))
 |.call f a,sc,l,p,k,i,ct,hp,hu=>by have p2:=hp.right;rw[ZA]at p2;have p3:=p2.right;rw[ZA]at p3;have:=Cd.call (l:=l) (Zbx f sc Wy p k i ct.1 hp.left hu.left) (Zbx a sc Wy (p+cnt f) _ i ct.2 p2.left hu.right) (by cases l<;>exact p3.head);rw[show off L i+(p+cnt (T.call f a))=off L i+(p+cnt f+cnt a)+1 by simp only[cnt];lia];exact this
 |.op w f a,sc,l,p,k,i,ct,hp,hu=>by have p2:=hp.right;rw[ZA]at p2;have p3:=p2.right;rw[ZA]at p3;have:=Cd.op (l:=l) (Zbx f sc Wy p k i ct.1 hp.left hu.left) (Zbx a sc Wy (p+cnt f) _ i ct.2 p2.left hu.right) p3.head;rw[show off L i+(p+cnt (T.op w f a))=off L i+(p+cnt f+cnt a)+1 by simp only[cnt];lia];exact this
 |.iff c t e,sc,l,p,k,i,ct,hp,hu=>by have p2:=hp.right;rw[ZA]at p2;have p3:=p2.tail;have p4:=p3.right;rw[ZA]at p4;have hh:=p2.head;have hj:=p4.head;simp only[nmb]at hh hj;rw[show((off L i:Nat):Int)+((p+cnt c+1+cnt t+1:Nat):Int)=((off L i+(p+cnt c+1+cnt t)+1:Nat):Int) by lia]at hh;rw[show((off L i:Nat):Int)+((p+cnt c+1+cnt t+1+cnt e:Nat):Int)=((off L i+(p+cnt c+1+cnt t+1+cnt e):Nat):Int) by lia]at hj;have:=Cd.iff (l:=l) (Zbx c sc Wy p k i ct.1 hp.left hu.left) hh (Zbx t sc l (p+cnt c+1) _ i ct.2.1 p3.left hu.right.left) hj (Zbx e sc l (p+cnt c+1+cnt t+1) _ i ct.2.2 p4.tail hu.right.right);rw[show p+cnt (T.iff c t e)=p+cnt c+1+cnt t+1+cnt e by simp[cnt];lia];exact this
end
def ZsC(t:T)(ct:Gn.Cl [] t):Cd (code t) [] Wy 0 t (cnt t)/\(code t)[cnt t]?=J .fin:=by
 have hp:Plc (units t) 0 0 ((comp t [] Wy 0 1).1++[.fin]):=⟨_,rfl,λj x hx=>by simpa using hx⟩
 have hu:Uts (units t) 1 (comp t [] Wy 0 1).2:=λj u hu=>by rw[YW];simpa[units]using hu
 have R:=hp.right.head;rw[ZA]at R;have h2:=Zbx (L:=units t) t [] Wy 0 1 0 ct hp.left hu;have z:off (units t) 0=0:=by simp[off]
 rw[z]at R h2;simp only[Nat.zero_add]at R h2;exact⟨h2,R⟩
section
inductive Stp(C:List Rw):Ma->Bool->Ma->Prop
 |push {p:Nat}{S_ E:List D}{pl:List (Nat×List D)}{r:Rw}{x:D} (hc:C[p]?=J r) (hx:psh E r=J x) (hz:S_.length<=10000):Stp C ⟨p,S_,E,pl⟩ Wy ⟨p+1,S_++[x],E,pl⟩
 |jmp {p q:Nat}{S_ E:List D}{pl:List (Nat×List D)} (hc:C[p]?=J (.jmp (q:Int))):Stp C ⟨p,S_,E,pl⟩ Wy ⟨q,S_,E,pl⟩
 |back {p q:Nat}{S_ E ds:List D}{pl:List (Nat×List D)} (hc:C[p]?=J .back):Stp C ⟨p,S_,E,(q,ds)::pl⟩ Wy ⟨q,S_,ds,pl⟩
 |call {p q:Nat}{ns:List Str}{V:D}{S_ E ds:List D}{pl:List (Nat×List D)} (hc:C[p]?=J .call) (hd:ds.length<=10000) (hp:pl.length<=10000):Stp C ⟨p,S_++[Z1 q ns ds,V],E,pl⟩ Wx ⟨q,S_,ent q ns ds V,(p+1,E)::pl⟩
 |hop {p q:Nat}{ns:List Str}{V:D}{S_ E ds:List D}{pl:List (Nat×List D)} (hc:C[p]?=J .hop) (hd:ds.length<=10000):Stp C ⟨p,S_++[Z1 q ns ds,V],E,pl⟩ Wx ⟨q,S_,ent q ns ds V,pl⟩
 |work {p:Nat}{w:Wd}{a b:Int}{S_ E:List D}{pl:List (Nat×List D)} (hc:C[p]?=J (.work w)) (ha:0<=a/\a<1000000) (hb:0<=b/\b<1000000) (hz:S_.length<=10000):Stp C ⟨p,S_++[ZW a,ZW b],E,pl⟩ Wx ⟨p+1,S_++[ZW (_root_.Rw.wk w a b)],E,pl⟩
 |unl {p q:Nat}{z:Int}{S_ E:List D}{pl:List (Nat×List D)} (hc:C[p]?=J (.unl (q:Int))):Stp C ⟨p,S_++[ZW z],E,pl⟩ Wx ⟨if z=0 then q else p+1,S_,E,pl⟩
noncomputable def Zyv(ld:Bool)(s:Ma):Ans:=if ld then .loud s else .quiet s
def Zwo{E:List D}{r:Rw}{x:D}(h:psh E r=J x):Zlf r=Wx:=by cases r<;>first|rfl|cases h
variable {P:Pg}{h:Hd}{C:List Rw}
def Zta(H:Cod P)(n:Nat){k:Nat}{s s':Ma}{ld:Bool}(hk:h[k]?=J (.lst (C.map Rw.d)))(q:Stp C s ld s'):run P (n+4) (O "code_step") [.ref k,s.d] h=.ok (Zyv ld s').d h:=by
 cases q with
 |push hc hx hz=>exact Zc6 H n _ _ hk hc (Zwo hx) (Zrj H (n+1) _ _ hx hz)
 |jmp hc=>exact Zc6 H n _ _ hk hc rfl (Zla H (n+2) _ _)
 |back hc=>exact Zc6 H n _ _ hk hc rfl (Zt4 H (n+2) _ _ _ _ _ _)
 |@call p q ns V S_ E ds pl hc hd hp=>exact Z2 H n _ hk hc rfl (.inr ⟨_,rfl,rfl⟩) (Zif H n ⟨p,S_++[Z1 q ns ds,V],E,pl⟩ hp (Zih H n _ _ _ _ _ _ hd))
 |@hop p q ns V S_ E ds pl hc hd=>exact Z2 H n _ hk hc rfl (.inr ⟨⟨q,S_,ent q ns ds V,pl⟩,rfl,rfl⟩) (ZjO H n ⟨p,S_++[Z1 q ns ds,V],E,pl⟩ (Zih H n _ _ _ _ _ _ hd))
 |work hc ha hb hz=>exact Z2 H n _ hk hc rfl (.inr ⟨_,rfl,rfl⟩) (Zie H n _ _ (ZtV H n _ _ _ _ _ _ _ ha hb hz))
 |unl hc=>exact Z2 H n _ hk hc rfl (.inr ⟨_,rfl,rfl⟩) (ZjN H n _ _ (Zlc H n _ _ _ _ _ _))
end
end Ce
namespace Cs
open PySem IV Gn
open Rw (Th Ar Wt Sta ZgG ArOk Zh7 ZhN StN read rnd rd ra)
open Ce (Cd Ma Z1 ZW ent psh Stp)
section
mutual
inductive Vr(C:List Ce.Rw):D->Th->Prop
 |num {z:Int}:Vr C (ZW z) (.num z)
 |fn {q q':Nat}{x:Str}{e:T}{ds:List D}{sc:List Str}{ar:Ar} (c:Cd C (x::sc) Wx q e q') (b:C[q']?=J .back) (r:Er C ds sc ar):Vr C (Z1 q [x] ds) (.clo (.fn x e) ar)
 |rcc {q q':Nat}{f x:Str}{e:T}{ds:List D}{sc:List Str}{ar:Ar} (c:Cd C (x::f::sc) Wx q e q') (b:C[q']?=J .back) (r:Er C ds sc ar):Vr C (Z1 q [x,f] ds) (.clo (.rcc f x e) ar)
inductive Er(C:List Ce.Rw):List D->List Str->Ar->Prop
 |nil:Er C [] [] .nil
 |cons {d:D}{v:Th}{ds:List D}{sc:List Str}{ar:Ar} (x:Str) (h:Vr C d v) (r:Er C ds sc ar):Er C (d::ds) (x::sc) (.cons x v ar)
end
variable {C:List Ce.Rw}
def ZbE(q:Cd C sc l p t p'):p<p':=by
 induction q with
 |num _=>lia
 |name _ _=>lia
 |fn _ _ _ _=>lia
 |rcc _ _ _ _=>lia
 |call _ _ _ a b=>lia
 |op _ _ _ a b=>lia
 |iff _ _ _ _ _ a b d=>lia
theorem Er.get:∀{ds:List D}{sc:List Str}{ar:Ar}{i:Nat},Er C ds sc ar->L2.Tx.place x sc=J i->∃d v,ds[i]?=J d/\ar.get x=J v/\Vr C d v
 |_,_,_,i,.nil,h=>by cases h
 |_,_,_,i,.cons y hv r,h=>by
  rw[L2.Tx.place]at h;rw[Ar.get];split at h
  . rename_i e;cases h;exact⟨_,_,rfl,if_pos e,hv⟩
  . rename_i ne;cases q:L2.Tx.place x _ with
    |none=>rw[q]at h;cases h
    |some j=>rw[q]at h;cases h;obtain⟨d,v,e1,e2,e3⟩:=r.get q;exact⟨d,v,by simpa using e1,by rw[if_neg ne];exact e2,e3⟩
theorem Er.len:∀{ds:List D}{sc:List Str}{ar:Ar},Er C ds sc ar->ds.length=ar.len
 |_,_,_,.nil=>rfl
 |_,_,_,.cons x h r=>by rw[Os,Ar.len,r.len]
def Hp(r:Ce.Rw)(b:Bool)(S_:List D)(ws:List Wt):Prop:=(r=.call/\(b=Wx->ws≠[]))\/(r=.hop/\b=Wx/\S_=[]/\ws=[])
def Ls(l b:Bool)(S_:List D)(ws:List Wt):Prop:=(l=Wx->b=Wx/\S_=[]/\ws=[])/\(l=Wy->b=Wx->ws≠[])
def Ls.no:Ls Wy b S_ (w::ws):=⟨nofun,nofun⟩
inductive Cx(C:List Ce.Rw):Bool->List Str->Ar->Nat->List D->List Wt->Prop
 |fin {sc:List Str}{ar:Ar}{p:Nat} (hc:C[p]?=J .fin):Cx C Wy sc ar p [] []
 |back {sc:List Str}{ar:Ar}{p:Nat} (hc:C[p]?=J .back):Cx C Wx sc ar p [] []
 |jmp {b:Bool}{sc:List Str}{ar:Ar}{p q:Nat}{S_:List D}{ws:List Wt} (hc:C[p]?=J (.jmp (q:Int))) (hq:p<q) (k:Cx C b sc ar q S_ ws):Cx C b sc ar p S_ ws
 |app {b:Bool}{sc:List Str}{ar:Ar}{p:Nat}{S_:List D}{ws:List Wt}{r:Ce.Rw}{d:D}{W:Th} (hc:C[p]?=J r) (hr:Hp r b S_ ws) (v:Vr C d W) (k:Cx C b sc ar (p+1) S_ ws):Cx C b sc ar p (S_++[d]) (.fn W::ws)
 |arg {b:Bool}{sc:List Str}{ar:Ar}{p p1:Nat}{S_:List D}{ws:List Wt}{r:Ce.Rw}{A:T} (c:Cd C sc Wy p A p1) (hc:C[p1]?=J r) (hr:Hp r b S_ ws) (k:Cx C b sc ar (p1+1) S_ ws):Cx C b sc ar p S_ (.arg A ar::ws)
 |work {b:Bool}{sc:List Str}{ar:Ar}{p:Nat}{S_:List D}{ws:List Wt}{w:Wd}{d:D}{W:Th} (hc:C[p]?=J (.work w)) (v:Vr C d W) (k:Cx C b sc ar (p+1) S_ ws):Cx C b sc ar p (S_++[d]) (.left w W::ws)
 |right {b:Bool}{sc:List Str}{ar:Ar}{p p1:Nat}{S_:List D}{ws:List Wt}{w:Wd}{F:T} (c:Cd C sc Wy p F p1) (hc:C[p1]?=J (.work w)) (k:Cx C b sc ar (p1+1) S_ ws):Cx C b sc ar p S_ (.right w F ar::ws)
 |cho {b l:Bool}{sc:List Str}{ar:Ar}{p p2 p3:Nat}{S_:List D}{ws:List Wt}{t e:T} (hc:C[p]?=J (.unl ((p2+1:Nat):Int))) (ct:Cd C sc l (p+1) t p2) (hj:C[p2]?=J (.jmp (p3:Int))) (ce:Cd C sc l (p2+1) e p3) (hl:Ls l b S_ ws) (k:Cx C b sc ar p3 S_ ws):Cx C b sc ar p S_ (.iff t e ar::ws)
inductive Dx(C:List Ce.Rw):Bool->List (Nat×List D)->List D->List Wt->Prop
 |nil:Dx C Wy [] [] []
 |cons {b:Bool}{sc:List Str}{ar:Ar}{p:Nat}{E S_ S0:List D}{ws vs:List Wt}{pl:List (Nat×List D)} (r:Er C E sc ar) (k:Cx C b sc ar p S_ ws) (hw:b=Wx->ws≠[]) (hc:∃p0,p=p0+1/\C[p0]?=J .call) (x:Dx C b pl S0 vs):Dx C Wx ((p,E)::pl) (S0++S_) (ws++vs)
inductive Rc(C:List Ce.Rw):Ma->Sta->Prop
 |go {b l:Bool}{sc:List Str}{ar:Ar}{p p':Nat}{E S_ S0:List D}{ws vs:List Wt}{pl:List (Nat×List D)}{t:T} (r:Er C E sc ar) (c:Cd C sc l p t p') (hl:Ls l b S_ ws) (k:Cx C b sc ar p' S_ ws) (x:Dx C b pl S0 vs):Rc C ⟨p,S0++S_,E,pl⟩ (.go t ar (ws++vs))
 |back {b:Bool}{sc:List Str}{ar:Ar}{p:Nat}{E S_ S0:List D}{ws vs:List Wt}{pl:List (Nat×List D)}{d:D}{V:Th} (r:Er C E sc ar) (v:Vr C d V) (k:Cx C b sc ar p S_ ws) (x:Dx C b pl S0 vs):Rc C ⟨p,S0++S_++[d],E,pl⟩ (.back V (ws++vs))
inductive Qs:Sta->Sta->Prop
 |refl {s:Sta}:Qs s s
 |step {s s' t:Sta} (e:Rw.step s=.quiet s') (q:Qs s' t):Qs s t
def Qs.trans(a:Qs s t)(b:Qs t u):Qs s u:=by
 induction a with
 |refl=>exact b
 |step e _ ih=>exact .step e (ih b)
noncomputable def atm:T->Bool
 |.num _|.name _|.fn _ _|.rcc _ _ _=>Wx
 |_=>Wy
theorem down:∀{t:T}{b l:Bool}{sc:List Str}{ar:Ar}{p p':Nat}{S_:List D}{ws vs:List Wt},Cd C sc l p t p'->Ls l b S_ ws->Cx C b sc ar p' S_ ws->∃t0 l0 p0 bE,atm t0=Wx/\Cd C sc l0 p t0 p0/\Ls l0 b S_ bE/\Cx C b sc ar p0 S_ bE/\Qs (.go t ar (ws++vs)) (.go t0 ar (bE++vs))
 |.num _,_,_,_,_,_,_,_,_,_,c,hl,k=>⟨_,_,_,_,rfl,c,hl,k,.refl⟩
 |.name _,_,_,_,_,_,_,_,_,_,c,hl,k=>⟨_,_,_,_,rfl,c,hl,k,.refl⟩
 |.fn _ _,_,_,_,_,_,_,_,_,_,c,hl,k=>⟨_,_,_,_,rfl,c,hl,k,.refl⟩
 |.rcc _ _ _,_,_,_,_,_,_,_,_,_,c,hl,k=>⟨_,_,_,_,rfl,c,hl,k,.refl⟩
 |.call f a,b,l,sc,ar,p,p',S_,ws,vs,c,hl,k=>by
  cases c with
  |call c1 c2 hc=>
   have hr:Hp (if l then .hop else .call) b S_ ws:=by
    cases l with
    |true=>exact .inr ⟨rfl,hl.1 rfl⟩
    |false=>exact .inl ⟨rfl,hl.2 rfl⟩
   obtain⟨t0,l0,p0,bE,R,h2,h3,h4,h5⟩:=down (b:=b) (vs:=vs) c1 .no (.arg c2 hc hr k);exact⟨t0,l0,p0,bE,R,h2,h3,h4,.step rfl h5⟩
 |.op w x y,b,l,sc,ar,p,p',S_,ws,vs,c,hl,k=>by
  cases c with
  |op c1 c2 hc=>obtain⟨t0,l0,p0,bE,R,h2,h3,h4,h5⟩:=down (b:=b) (vs:=vs) c1 .no (.right c2 hc k);exact⟨t0,l0,p0,bE,R,h2,h3,h4,.step rfl h5⟩
 |.iff x t e,b,l,sc,ar,p,p',S_,ws,vs,c,hl,k=>by
  cases c with
  |iff c1 hc c2 hj c3=>obtain⟨t0,l0,p0,bE,R,h2,h3,h4,h5⟩:=down (b:=b) (vs:=vs) c1 .no (.cho hc c2 hj c3 hl k);exact⟨t0,l0,p0,bE,R,h2,h3,h4,.step rfl h5⟩
end
end Cs
namespace Cs
open PySem IV Gn
open Rw (Th Ar Wt Sta ZgG ArOk Zh7 ZhN StN WtN ThN read rnd rd ra wts)
open Ce (Cd Ma Z1 ZW ent psh Stp)
section
variable {C:List Ce.Rw}{N:Nat}
inductive Stk(C:List Ce.Rw):Ma->Prop
 |app {p:Nat}{r:Ce.Rw}{z:Int}{V:D}{S_ E:List D}{pl:List (Nat×List D)} (hc:C[p]?=J r) (hr:r=.call\/r=.hop) (hp:pl.length<=10000):Stk C ⟨p,S_++[ZW z,V],E,pl⟩
 |unl {p q k:Nat}{ns:List Str}{ds S_ E:List D}{pl:List (Nat×List D)} (hc:C[p]?=J (.unl (q:Int))):Stk C ⟨p,S_++[Z1 k ns ds],E,pl⟩
 |work {p:Nat}{w:Wd}{A B_:D}{S_ E:List D}{pl:List (Nat×List D)}{V W:Th} (hc:C[p]?=J (.work w)) (va:Vr C A W) (vb:Vr C B_ V) (hn:¬ ∃a b,A=ZW a/\B_=ZW b):Stk C ⟨p,S_++[A,B_],E,pl⟩
inductive Sc(C:List Ce.Rw)(s:Ma)(Z:Sta):Ce.Ans->Prop
 |quiet {s':Ma}{σ':Sta} (e:Stp C s Wy s') (r:Rc C s' σ') (q:Qs Z σ'):Sc C s Z (.quiet s')
 |loud {s':Ma}{σ0 σ1 σ':Sta} (e:Stp C s Wx s') (q0:Qs Z σ0) (h:Rw.step σ0=.loud σ1) (r:Rc C s' σ') (q:Qs σ1 σ'):Sc C s Z (.loud s')
 |value {σ0:Sta} (e:C[s.p]?=J .fin) (q:Qs Z σ0) (h:Rw.step σ0=.value):Sc C s Z .value
 |stuck {σ0:Sta} (e:Stk C s) (q:Qs Z σ0) (h:Rw.step σ0=.stuck):Sc C s Z .stuck
def Sc.pre(q:Qs Z σ0)(h:Sc C s σ0 a):Sc C s Z a:=by
 cases h with
 |quiet e r q'=>exact .quiet e r (q.trans q')
 |loud e q0 h r q'=>exact .loud e (q.trans q0) h r q'
 |value e q' h=>exact .value e (q.trans q') h
 |stuck e q' h=>exact .stuck e (q.trans q') h
def Zk1(r:Er C E sc ar)(c:Cd C sc l p t p')(hl:Ls l b S_ ws)(k:Cx C b sc ar p' S_ ws)(x:Dx C b pl S0 vs)(hz:(S0++S_).length<=10000):∃a,Sc C ⟨p,S0++S_,E,pl⟩ (.go t ar (ws++vs)) a:=by
 obtain⟨t0,l0,p0,bE,R,h2,h3,h4,h5⟩:=down (vs:=vs) c hl k;have fin:∀{rw:Ce.Rw}{d:D}{V:Th},C[p]?=J rw->psh E rw=J d->p0=p+1->Vr C d V->Rw.step (.go t0 ar (bE++vs))=.quiet (.back V (bE++vs))->∃a,Sc C ⟨p,S0++S_,E,pl⟩ (.go t ar (ws++vs)) a:=λhc hd ep hv hs=>by subst ep;exact⟨_,.quiet (.push hc hd hz) (.back r hv h4 x) (h5.trans (.step hs .refl))⟩
 cases t0 with
 |num n=>cases h2 with|num hc=>exact fin hc rfl rfl .num rfl
 |name y=>
  cases h2 with
  |name hc e=>obtain⟨d,v,e1,e2,e3⟩:=r.get e;exact fin hc e1 rfl e3 (by simp only[Rw.step,Rw.Zl4,e2])
 |fn y e=>cases h2 with|fn hc c hb=>exact fin hc rfl rfl (.fn c hb r) rfl
 |rcc f y e=>cases h2 with|rcc hc c hb=>exact fin hc rfl rfl (.rcc c hb r) rfl
 |_=>cases R
def Zxr:S0++(S_++[a])++[d]=(S0++S_)++[a,d]:=by simp
def ZoY(r:Er C E sc ar)(v:Vr C d V)(k:Cx C b sc ar p S_ ws)(x:Dx C b pl S0 vs)(hz:(S0++S_).length<=9000)(hp:pl.length<=9000)(hN:N<=5000)(ok:ZhN (.back V (ws++vs)))(on:StN N (.back V (ws++vs))):∃a,Sc C ⟨p,S0++S_++[d],E,pl⟩ (.back V (ws++vs)) a:=by
 cases k with
 |fin hc=>cases x;exact⟨_,.value hc .refl rfl⟩
 |back hc=>
  cases x with
  |cons r' k' hw cF x'=>have h:=Rc.back r' v k' x';rw[Ys];exact⟨_,.quiet (.back hc) h .refl⟩
 |jmp hc hq k=>exact⟨_,.quiet (.jmp hc) (.back r v k x) .refl⟩
 |arg c hc hr k=>obtain⟨a,h⟩:=Zk1 (vs:=vs) r c .no (.app hc hr v k) x (by simp at hz ⊢;lia);rw[<-Oz]at h;exact⟨a,h.pre (.step rfl .refl)⟩
 |right c hc k=>obtain⟨a,h⟩:=Zk1 (vs:=vs) r c .no (.work hc v k) x (by simp at hz ⊢;lia);rw[<-Oz]at h;exact⟨a,h.pre (.step rfl .refl)⟩
 |@app _ _ _ _ S_ ws rw dW W hc hr vW k=>
  rw[Zxr];rw[<-Oz,OA]at hz;have jP:ZgG W:=ok.2 _ Oi;have jO:ThN N W:=on.2 _ Oi;have dJ:rw=.call\/rw=.hop:=hr.elim (λz=>.inl z.1) (λz=>.inr z.1);have call:∀{q q':Nat}{ns aG:List Str}{ds:List D}{e:T}{cH:Ar},dW=Z1 q ns ds->ds.length<=10000->Er C (ent q ns ds d) aG cH->Cd C aG Wx q e q'->C[q']?=J .back->Rw.step (.back V (.fn W::ws++vs))=.loud (.go e cH (ws++vs))->∃a,Sc C ⟨p,S0++S_++[dW,d],E,pl⟩ (.back V (.fn W::ws++vs)) a:=λ{q q' ns aG ds e cH} ed hd er cd hb hs=>by
   subst ed;rcases hr with⟨rfl,hw⟩|⟨rfl,rfl,rfl,rfl⟩
   . refine⟨_,.loud (.call hc hd (by lia)) .refl hs ?_ .refl⟩;have:=Rc.go (S_:=[]) (ws:=[]) er cd ⟨λ_=>⟨rfl,rfl,rfl⟩,nofun⟩ (.back hb) (.cons r k hw ⟨_,rfl,hc⟩ x);rw[Ys]at this;exact this
   . refine⟨_,.loud (.hop hc hd) .refl hs ?_ .refl⟩;exact Rc.go (S_:=[]) (ws:=[]) er cd ⟨λ_=>⟨rfl,rfl,rfl⟩,nofun⟩ (.back hb) x
  cases vW with
  |num=>exact⟨_,.stuck (.app hc dJ (by lia)) .refl rfl⟩
  |fn c hb er=>have R:=jO.1;unfold Rw.Bd at R;exact call rfl (by rw[er.len];lia) (.cons _ v er) c hb rfl
  |@rcc q q' f y e ds aG cH c hb er=>have R:=jO.1;unfold Rw.Bd at R;exact call rfl (by rw[er.len];lia) (.cons _ v (.cons _ (.rcc c hb er) er)) c hb rfl
 |@work _ _ _ _ S_ ws w dW W hc vW k=>
  rw[Zxr];rw[<-Oz,OA]at hz;have jP:ZgG W:=ok.2 _ Oi;have lf:=ok.1;have st:(¬ ∃a b,dW=ZW a/\d=ZW b)->Rw.step (.back V (.left w W::ws++vs))=.stuck->∃a,Sc C ⟨p,S0++S_++[dW,d],E,pl⟩ (.back V (.left w W::ws++vs)) a:=λhn hs=>⟨_,.stuck (.work hc vW v hn) .refl hs⟩
  cases vW with
  |num=>
   cases v with
   |num=>exact⟨_,.loud (.work hc jP lf (by lia)) .refl rfl (.back r .num k x) .refl⟩
   |fn c hb er=>exact st (λ⟨_,_,_,z⟩=>by cases z) rfl
   |rcc c hb er=>exact st (λ⟨_,_,_,z⟩=>by cases z) rfl
  |fn c hb er=>exact st (λ⟨_,_,z,_⟩=>by cases z) rfl
  |rcc c hb er=>exact st (λ⟨_,_,z,_⟩=>by cases z) rfl
 |@cho _ l _ _ _ p2 p3 _ ws t e hc ct hj ce hl k=>
  cases v with
  |@num z=>
   by_cases q:z=0
   . subst q;have:=Stp.unl (z:=0) (S_:=S0++S_) (E:=E) (pl:=pl) hc;rw[if_pos rfl]at this;exact⟨_,.loud this .refl rfl (.go r ce hl k x) .refl⟩
   . have:=Stp.unl (z:=z) (S_:=S0++S_) (E:=E) (pl:=pl) hc;rw[if_neg q]at this;refine⟨_,.loud this .refl rfl ?_ .refl⟩;simp only[if_neg q];exact .go r ct hl (.jmp hj (Nat.lt_of_succ_lt (ZbE ce)) k) x
  |fn c hb er=>exact⟨_,.stuck (.unl hc) .refl rfl⟩
  |rcc c hb er=>exact⟨_,.stuck (.unl hc) .refl rfl⟩
def Cx.lens(k:Cx C b sc ar p S_ ws):S_.length<=ws.length:=by
 induction k with
 |fin _=>exact Oq _
 |back _=>exact Oq _
 |jmp _ _ _ ih=>exact ih
 |app _ _ _ _ ih=>simpa using ih
 |arg _ _ _ _ ih=>exact Nat.le_succ_of_le ih
 |work _ _ _ ih=>simpa using ih
 |right _ _ _ ih=>exact Nat.le_succ_of_le ih
 |cho _ _ _ _ _ _ ih=>exact Nat.le_succ_of_le ih
theorem Dx.lens(x:Dx C b pl S_ vs):S_.length<=vs.length/\pl.length<=vs.length+(if b then 1 else 0):=by
 induction x with
 |nil=>exact⟨Oq _,Oq _⟩
 |@cons b _ _ _ _ _ _ ws _ _ r k hw hc x ih=>
  have R:=k.lens;simp only[OA,Os,if_true];refine⟨by lia,?_⟩;cases b with
  |false=>simp only[OG,if_false]at ih;lia
  |true=>
   have h2:0<ws.length:=List.length_pos_iff.mpr (hw rfl);simp only[if_true]at ih
   lia
theorem Rc.lens(r:Rc C s Z):s.S_.length<=(wts Z).length+1/\s.pl.length<=(wts Z).length+1:=by
 cases r with
 |@go b _ _ _ _ _ _ _ _ _ _ _ _ r c hl k x=>have R:=k.lens;have h2:=x.lens;simp only[wts,OA];refine⟨by lia,?_⟩;split at h2<;>lia
 |@back b _ _ _ _ _ _ _ _ _ _ _ r v k x=>have R:=k.lens;have h2:=x.lens;simp only[wts,OA,Os,List.length_nil];refine⟨by lia,?_⟩;split at h2<;>lia
def sim(r:Rc C s Z)(hz:(wts Z).length<=8000)(hN:N<=5000)(ok:ZhN Z)(on:StN N Z):∃a,Sc C s Z a:=by
 have hl:=r.lens;cases r with
 |go r c fV k x=>exact Zk1 r c fV k x (by simp only at hl;lia)
 |back r v k x=>exact ZoY r v k x (by simp only[OA]at hl ⊢;lia) (by simp only at hl;lia) hN ok on
end
end Cs
namespace Pw
open PySem L2 IV
def Zb4:Sxs:=.w (.drp (.m "Pen" "take_place" V0 .n)) (.ret (.bin .Add V1 V2))
def Zft:Fd:=fd_ 3 ["self","front","parts"] Zb4
def ZlR:Sxs:=.w (.s 2 (.f "opened" (.o V1))) (.ret (.m "Pen" "filled" V0 (.w (.ix V2 K0) (.ix V2 K1))))
def Zhu:Fd:=fd_ 2 ["self","thing","pair"] ZlR
structure Pnw(P:Pg):Prop where
 t:Tm.Trb P
 wd:Tm.Wid P
 gw:P.G (O "WIDEST")=J (.int 120)
 n_Pen_joined:P.tb.lookup (mnm (O "Pen") (O "joined"))=M
 Pen_joined:P.ms.lookup (mnm (O "Pen") (O "joined"))=J Zft
 n_Pen_told:P.tb.lookup (mnm (O "Pen") (O "told"))=M
 Pen_told:P.ms.lookup (mnm (O "Pen") (O "told"))=J Zhu
end Pw
namespace Pw
open PySem L2 IV Tm
section
variable {P:Pg}{h0 h:Hd}{pk:Nat}
def Zv7(q:ev U e S h=r):Ze (xs2 U (.cons (.ret e) .nil) S h)=r:=by rw[xs2,ZiN,q];cases r<;>rfl
section
variable {u N:Nat}(H:Pnw P)(n:Nat)(hN:1<=N)(ko:N<=45000)
include H hN ko
omit hN ko
theorem Znx(fs ps:List D)(a:Aft h0 h pk (.int 120) (u:Int))(hu:u<120)(hz:fs.length+ps.length<=1000):run P (n+2) (mnm (O "Pen") (O "joined")) [.ref pk,.tup fs,.tup ps] h=.ok (.tup (fs++ps)) (h.set pk (Zbc (.int 120) ((u:Int)+1))):=by have e:=Zo7 H.t n (u:=(u:Int)) (.inr ⟨120,rfl,by lia⟩) a.1;rw[Zz H.n_Pen_joined H.Pen_joined (by rfl)];have x1:xs1 (P.tbl (n+1)) (hdS Zb4) [J (.ref pk),J (.tup fs),J (.tup ps)] h=.ok (.nx,[J (.ref pk),J (.tup fs),J (.tup ps)]) (h.set pk (Zbc (.int 120) ((u:Int)+1))):=ZU (ZB rfl a.1 rfl rfl e);exact(congrArg Ze (nx1 (U:=P.tbl (n+1)) (ss:=Zb4) x1 rfl)).trans (Zv7 ((Zh rfl rfl).trans (ZbY (by rw[YC];lia))))
theorem Zo9(fs ps:List D)(a:Aft h0 h pk (.int 120) (120:Int)):run P (n+2) (mnm (O "Pen") (O "joined")) [.ref pk,.tup fs,.tup ps] h=.exc (O "Wide") h:=by have e:=ZjM H.t H.wd n a.1;rw[Zz H.n_Pen_joined H.Pen_joined (by rfl)];exact congrArg Ze (ZcR (U:=P.tbl (n+1)) (r:=tlS Zb4) (Zhx (ZB rfl a.1 rfl rfl e)))
end
end
end Pw
namespace Cr
open PySem L2 IV
def ZgB:Tx:=.q (.blt .len (.o V0)) K1
def Ze1:Sx:=.ret (.tupl (.u (.Ci_ "fn") (.ix V0 K0) V1))
def Zgz:Sxs:=.o Ze1
def ZgE:Sx:=.iff ZgB Zgz .n
def ZgD:Sx:=.ret (.tupl (.z (.Ci_ "rec") (.ix V0 K1) (.ix V0 K0) V1))
def Zh5:Sxs:=.w ZgE ZgD
def ZeM:Fd:=fd_ 2 ["names","E"] Zh5
def Zee:Sx:=.sa "Decoder" V0 "code" V1
def Zed:Sx:=.sa "Decoder" V0 "at" (.ix V2 K0)
def Zec:Sx:=.seta [O "Decoder",O "Unit"] V0 (O "around") (.ix V2 K2)
def Zeb:Sx:=.sa "Decoder" V0 "pile" (.ix V2 K3)
def Zea:Sx:=.sa "Decoder" V0 "pen" (.mk (O "Pen") (.o (.glo (O "WIDEST"))))
def Zd9:Sx:=.sa "Decoder" V0 "done" (.lstl .n)
def Zd8:Sx:=.sa "Decoder" V0 "begun" (.lstl .n)
def Zck:Sxs:=.c Zee (.c Zed (.y Zec Zeb Zea Zd9 Zd8))
def ZaG:Fd:=fd_ 3 ["self","code","state"] Zck
def Ze2:Sx:=.drp (.m "Pen" "take_place" (.a "Decoder" V0 "pen") .n)
def Zcf:Tx:=.q (.ix V1 K0) (.Ci_ "clo")
def ZdG:Sx:=.drp (.meth .app (.a "Decoder" V0 "begun") (.o (.tupl (.z (.Ci_ "function") (.ix V1 K2) (.a "Decoder" V0 "at") (.att [O "Decoder",O "Unit"] V0 (O "around"))))))
def Zbf:Sx:=.sa "Decoder" V0 "at" (.ix V1 K1)
def Zaf:Sx:=.seta [O "Decoder",O "Unit"] V0 (O "around") (.bin .Add (.blt .tup (.o (.comp [O "name"] [M] (.pl (.ix V1 K2)) (.nm 0) M (.tupl (.w (.Ci_ "name") V0))))) (.ix V1 K3))
def ZdH:Sx:=.drp (.meth .app (.a "Decoder" V0 "done") (.o V1))
def Z3:Sxs:=.u ZdG Zbf Zaf
def ZaH:Sxs:=.o ZdH
def Zcj:Sx:=.iff Zcf Z3 ZaH
def Zbp:Sxs:=.w Ze2 Zcj
def ZcY:Fd:=fd_ 2 ["self","thing"] Zbp
def ZS:Sx:=.s 3 (.blt .tup (.o (.sl (.a "Decoder" V0 "done") (J (.neg V2)) M)))
def ZR:Sx:=.sa "Decoder" V0 "done" (.sl (.a "Decoder" V0 "done") M (J (.neg V2)))
def ZaB:Sx:=.drp (.meth .app (.a "Decoder" V0 "done") (.o (.m "Pen" "joined" (.a "Decoder" V0 "pen") (.w (.tupl (.o V1)) V3))))
def Zdk:Sxs:=.u ZS ZR ZaB
def ZaW:Fd:=fd_ 3 ["self","word","count","parts"] Zdk
def ZcK:Sx:=.ret (.ands (.w (.cmp .Gt (.blt .len (.o (.a "Decoder" V0 "begun"))) K0) (.cmp .Eq (.ix (.ix (.a "Decoder" V0 "begun") (.neg K1)) K0) (.Ci_ "if"))))
def Za3:Sxs:=.o ZcK
def ZaX:Fd:=fd_ 1 ["self"] Za3
def ZcL:Sx:=.ret (.ands (.w (.m "Decoder" "is_within_if" V0 .n) (.cmp .Eq (.ix (.ix (.a "Decoder" V0 "begun") (.neg K1)) K1) (.a "Decoder" V0 "at"))))
def Za4:Sxs:=.o ZcL
def ZaY:Fd:=fd_ 1 ["self"] Za4
def Zbj:Tx:=.nt (.ex (.m "Decoder" "is_within_if" V0 .n))
def ZeD:Sx:=.sa "Decoder" V0 "at" (.ix V1 K1)
def ZfU:Sxs:=.o ZeD
def Zf9:Sx:=.iff Zbj ZfU .n
def Za2:Sxs:=.o Zf9
def ZdX:Fd:=fd_ 2 ["self","row"] Za2
def Zau:Tx:=.ex (.a "Decoder" V0 "begun")
def Za6:Sx:=.s 1 (.meth .pop (.a "Decoder" V0 "begun") .n)
def Za5:Sx:=.drp (.meth .app (.a "Decoder" V0 "done") (.o (.f "function_of" (.w (.ix V1 K1) (.meth .pop (.a "Decoder" V0 "done") .n)))))
def Z6:Sx:=.sa "Decoder" V0 "at" (.ix V1 K2)
def ZI:Sx:=.seta [O "Decoder",O "Unit"] V0 (O "around") (.ix V1 K3)
def Zdl:Sx:=.sa "Decoder" V0 "at" (.ix (.ix (.a "Decoder" V0 "pile") K0) K0)
def Za7:Sx:=.seta [O "Decoder",O "Unit"] V0 (O "around") (.ix (.ix (.a "Decoder" V0 "pile") K0) K1)
def Z7:Sx:=.sa "Decoder" V0 "pile" (.sl (.a "Decoder" V0 "pile") (J K1) M)
def Zex:Sxs:=.z Za6 Za5 Z6 ZI
def ZeA:Sxs:=.u Zdl Za7 Z7
def ZeE:Sx:=.iff Zau Zex ZeA
def ZN:Sxs:=.o ZeE
def Zco:Fd:=fd_ 1 ["self","function"] ZN
def Zcg:Tx:=.x .In (.ix V1 K0) (.glo (O "CALLS"))
def ZdI:Sx:=.drp (.m "Decoder" "put_together" V0 (.w (.Ci_ "call") K2))
def ZdF:Tx:=.q (.ix V1 K0) (.Ci_ "work")
def ZcM:Sx:=.drp (.m "Decoder" "put_together" V0 (.w (.ix V1 K1) K2))
def ZcG:Tx:=.q (.ix V1 K0) (.Ci_ "unless")
def Zb5:Sx:=.drp (.meth .app (.a "Decoder" V0 "begun") (.o (.tupl (.w (.Ci_ "if") (.ix (.ix (.a "Decoder" V0 "code") (.bin .Sub (.ix V1 K1) K1)) K1)))))
def Zb2:Tx:=.q (.ix V1 K0) (.Ci_ "jump")
def Zbq:Sx:=.drp (.m "Decoder" "jump" V0 (.o V1))
def Zbk:Tx:=.q (.ix V1 K0) (.Ci_ "back")
def ZaN:Sx:=.drp (.m "Decoder" "go_back" V0 .n)
def ZaO:Sx:=.drp (.m "Decoder" "put_on" V0 (.o (.f "thing_of" (.w V1 (.att [O "Decoder",O "Unit"] V0 (O "around"))))))
def Zbh:Sxs:=.o ZaN
def Zbi:Sxs:=.o ZaO
def Zbr:Sx:=.iff Zbk Zbh Zbi
def Zb0:Sxs:=.o Zbq
def Zb1:Sxs:=.o Zbr
def Zb6:Sx:=.iff Zb2 Zb0 Zb1
def ZcA:Sxs:=.o Zb5
def ZcC:Sxs:=.o Zb6
def ZcN:Sx:=.iff ZcG ZcA ZcC
def ZdB:Sxs:=.o ZcM
def ZdD:Sxs:=.o ZcN
def ZdJ:Sx:=.iff ZdF ZdB ZdD
def ZeS:Sxs:=.o ZdI
def ZeX:Sxs:=.o ZdJ
def ZaJ:Sx:=.iff Zcg ZeS ZeX
def Zas:Sxs:=.o ZaJ
def ZcZ:Fd:=fd_ 2 ["self","row"] Zas
def Zav:Tx:=.ex (.m "Decoder" "is_behind_if" V0 .n)
def Zdm:Sx:=.drp (.meth .pop (.a "Decoder" V0 "begun") .n)
def Za8:Sx:=.drp (.m "Decoder" "put_together" V0 (.w (.Ci_ "if") K3))
def Z8:Sx:=.auga [O "Decoder"] V0 (O "at") K1
def Za9:Sx:=.drp (.m "Decoder" "do_row" V0 (.o (.ix (.a "Decoder" V0 "code") (.bin .Sub (.a "Decoder" V0 "at") K1))))
def Zey:Sxs:=.w Zdm Za8
def ZeB:Sxs:=.w Z8 Za9
def ZeF:Sx:=.iff Zav Zey ZeB
def ZO:Sxs:=.o ZeF
def Zcp:Fd:=fd_ 1 ["self"] ZO
def Zx:Sx:=.drp (.m "Decoder" "put_on" V0 (.o V1))
def Zbe:Tx:=.ex (.a "Decoder" V0 "begun")
def Zc3:Sx:=.drp (.m "Decoder" "do_next" V0 .n)
def Zbd:Sxs:=.o Zc3
def Zo:Sx:=.whl Zbe Zbd
def ZeC:Sxs:=.w Zx Zo
def ZbU:Fd:=fd_ 2 ["self","thing"] ZeC
def Z5:Tx:=.ors (.c (.ex (.a "Decoder" V0 "begun")) (.one (.nq (.ix (.ix (.a "Decoder" V0 "code") (.a "Decoder" V0 "at")) K0) (.Ci_ "end"))))
def Zd7:Sx:=.drp (.m "Decoder" "do_next" V0 .n)
def Zcb:Sxs:=.o Zd7
def Z9:Sx:=.whl Z5 Zcb
def ZaK:Sx:=.ret (.ix (.a "Decoder" V0 "done") K0)
def Zga:Sxs:=.w Z9 ZaK
def Zc0:Fd:=fd_ 1 ["self"] Zga
def ZcJ:Sx:=.s 2 (.mk (O "Decoder") (.w V0 V1))
def ZhV:Ix:=.pl (.ix V1 K1)
def ZgF:Sx:=.drp (.m "Decoder" "put_whole" V2 (.o V3))
def Zab:Sxs:=.o ZgF
def ZcI:Sx:=.forr (.nm 3) ZhV Zab
def Zby:Sx:=.ret (.m "Decoder" "do_all" V2 .n)
def ZkF:Sxs:=.u ZcJ ZcI Zby
def Zgm:Fd:=fd_ 2 ["code","state","decoder","thing"] ZkF
structure Dec(P:Pg):Prop where
 c:Ce.Cod P
 p:Pw.Pnw P
 gc:P.G (O "CALLS")=J (.tup [.str (O "call"),.str (O "hop")])
 function_of:P.tb.lookup (O "function_of")=J ZeM
 n_Decoder___init__:P.tb.lookup (mnm (O "Decoder") (O "__init__"))=M
 Decoder___init__:P.ms.lookup (mnm (O "Decoder") (O "__init__"))=J ZaG
 n_Decoder_put_on:P.tb.lookup (mnm (O "Decoder") (O "put_on"))=M
 Decoder_put_on:P.ms.lookup (mnm (O "Decoder") (O "put_on"))=J ZcY
 n_Decoder_put_together:P.tb.lookup (mnm (O "Decoder") (O "put_together"))=M
 Decoder_put_together:P.ms.lookup (mnm (O "Decoder") (O "put_together"))=J ZaW
 n_Decoder_is_within_if:P.tb.lookup (mnm (O "Decoder") (O "is_within_if"))=M
 Decoder_is_within_if:P.ms.lookup (mnm (O "Decoder") (O "is_within_if"))=J ZaX
 n_Decoder_is_behind_if:P.tb.lookup (mnm (O "Decoder") (O "is_behind_if"))=M
 Decoder_is_behind_if:P.ms.lookup (mnm (O "Decoder") (O "is_behind_if"))=J ZaY
 n_Decoder_jump:P.tb.lookup (mnm (O "Decoder") (O "jump"))=M
 Decoder_jump:P.ms.lookup (mnm (O "Decoder") (O "jump"))=J ZdX
 n_Decoder_go_back:P.tb.lookup (mnm (O "Decoder") (O "go_back"))=M
 Decoder_go_back:P.ms.lookup (mnm (O "Decoder") (O "go_back"))=J Zco
 n_Decoder_do_row:P.tb.lookup (mnm (O "Decoder") (O "do_row"))=M
 Decoder_do_row:P.ms.lookup (mnm (O "Decoder") (O "do_row"))=J ZcZ
 n_Decoder_do_next:P.tb.lookup (mnm (O "Decoder") (O "do_next"))=M
 Decoder_do_next:P.ms.lookup (mnm (O "Decoder") (O "do_next"))=J Zcp
 n_Decoder_put_whole:P.tb.lookup (mnm (O "Decoder") (O "put_whole"))=M
 Decoder_put_whole:P.ms.lookup (mnm (O "Decoder") (O "put_whole"))=J ZbU
 n_Decoder_do_all:P.tb.lookup (mnm (O "Decoder") (O "do_all"))=M
 Decoder_do_all:P.ms.lookup (mnm (O "Decoder") (O "do_all"))=J Zc0
 code_read:P.tb.lookup (O "code_read")=J Zgm
end Cr
namespace Cr
open PySem L2 IV
open Tm (Zbc grown)
open Ce (fr Z1 ZW keep Zah ZbL)
section
variable {P:Pg}{h0 h:Hd}{C:List Ce.Rw}{k c pk bk dk p u:Nat}{A dn:List D}{pl:List (Nat×List D)}
def Zfx(k p:Nat)(A:List D)(pl:List (Nat×List D))(pk dk bk:Nat):DO:=.ins (O "Decoder") [(O "code",.ref k),(O "at",.int (p:Int)),(O "around",.tup A),(O "pile",.tup (pl.map fr)),(O "pen",.ref pk),(O "done",.ref dk),(O "begun",.ref bk)]
inductive Bg where
 |fn (ns:List Str) (p:Nat) (A:List D)|iff (q:Nat)
def Bg.d:Bg->D
 |.fn ns p A=>.tup [.str (O "function"),.tup (ns.map .str),.int (p:Int),.tup A]
 |.iff q=>.tup [.str (O "if"),.int (q:Int)]
variable {bg:List Bg}
noncomputable def tp(bg:List Bg):Option Nat:=match bg.getLast? with
 |some (.iff q)=>J q
 |_=>M
structure Dq(C:List Ce.Rw)(k c pk bk:Nat)(h0 h:Hd)(dk p:Nat)(A:List D)(pl:List (Nat×List D))(dn:List D)(bg:List Bg)(u:Nat):Prop where
 o:h[c]?=J (Zfx k p A pl pk dk bk)
 q:h[pk]?=J (Zbc (.int 120) (u:Int))
 d:h[dk]?=J (.lst dn)
 b:h[bk]?=J (.lst (bg.map Bg.d))
 kc:h[k]?=J (.lst (C.map Ce.Rw.d))
 ne:dk≠bk
 ok:k<h0.length
 oc:h0.length<=c
 op:h0.length<=pk
 od:h0.length<=dk
 ob:h0.length<=bk
 ol:h0.length<=h.length
 old:∀i,i<h0.length->h[i]?=h0[i]?
def Ds(C:List Ce.Rw)(k c pk bk:Nat)(h0 h:Hd)(p:Nat)(A:List D)(pl:List (Nat×List D))(dn:List D)(bg:List Bg)(u:Nat):Prop:=∃dk,Dq C k c pk bk h0 h dk p A pl dn bg u
def neq{i j:Nat}{a b:DO}(e:h[i]?=J a)(e':h[j]?=J b)(n:a≠b):i≠j:=λz=>by rw[z,e']at e;cases e;exact n rfl
section
variable (s:Dq C k c pk bk h0 h dk p A pl dn bg u)
include s
theorem Dq.cp:c≠pk:=neq s.o s.q (by simp[Zfx,Zbc])
theorem Dq.cd:c≠dk:=neq s.o s.d nofun
theorem Dq.cb:c≠bk:=neq s.o s.b nofun
theorem Dq.pd:pk≠dk:=neq s.q s.d nofun
theorem Dq.pb:pk≠bk:=neq s.q s.b nofun
theorem Dq.app(g:Hd):Dq C k c pk bk h0 (h++g) dk p A pl dn bg u:=⟨keep s.o,keep s.q,keep s.d,keep s.b,keep s.kc,s.ne,s.ok,s.oc,s.op,s.od,s.ob,by have:=s.ol;simp;lia,λi hi=>by rw[Oe (by have:=s.ol;lia)];exact s.old i hi⟩
theorem Dq.set{i:Nat}{o:DO}(hi:h0.length<=i):(∀j,j≠i->(h.set i o)[j]?=h[j]?)/\h0.length<=(h.set i o).length/\∀j,j<h0.length->(h.set i o)[j]?=h0[j]? :=⟨λj hj=>Oc (YL hj),by simpa using s.ol,λj hj=>by rw[Oc (by lia)];exact s.old j hj⟩
theorem Dq.setO(p':Nat)(A':List D)(bB:List (Nat×List D)):Dq C k c pk bk h0 (h.set c (Zfx k p' A' bB pk dk bk)) dk p' A' bB dn bg u:=by have z:=s.set (o:=Zfx k p' A' bB pk dk bk) s.oc;exact⟨by rw[Ol (Zah s.o)],by rw[z.1 _ (YL s.cp)];exact s.q,by rw[z.1 _ (YL s.cd)];exact s.d,by rw[z.1 _ (YL s.cb)];exact s.b,by rw[z.1 _ (by have:=s.ok;have:=s.oc;lia)];exact s.kc,s.ne,s.ok,s.oc,s.op,s.od,s.ob,z.2.1,z.2.2⟩
theorem Dq.setN{dk':Nat}{aM:List D}(e:h[dk']?=J (.lst aM))(ne:dk'≠bk)(o:h0.length<=dk'):Dq C k c pk bk h0 (h.set c (Zfx k p A pl pk dk' bk)) dk' p A pl aM bg u:=by have z:=s.set (o:=Zfx k p A pl pk dk' bk) s.oc;exact⟨by rw[Ol (Zah s.o)],by rw[z.1 _ (YL s.cp)];exact s.q,by rw[z.1 _ (YL (neq s.o e nofun))];exact e,by rw[z.1 _ (YL s.cb)];exact s.b,by rw[z.1 _ (by have:=s.ok;have:=s.oc;lia)];exact s.kc,ne,s.ok,s.oc,s.op,o,s.ob,z.2.1,z.2.2⟩
theorem Dq.setD(aM:List D):Dq C k c pk bk h0 (h.set dk (.lst aM)) dk p A pl aM bg u:=by have z:=s.set (o:=.lst aM) s.od;exact⟨by rw[z.1 _ s.cd];exact s.o,by rw[z.1 _ s.pd];exact s.q,by rw[Ol (Zah s.d)],by rw[z.1 _ (YL s.ne)];exact s.b,by rw[z.1 _ (by have:=s.ok;have:=s.od;lia)];exact s.kc,s.ne,s.ok,s.oc,s.op,s.od,s.ob,z.2.1,z.2.2⟩
theorem Dq.setB(bb:List Bg):Dq C k c pk bk h0 (h.set bk (.lst (bb.map Bg.d))) dk p A pl dn bb u:=by have z:=s.set (o:=.lst (bb.map Bg.d)) s.ob;exact⟨by rw[z.1 _ s.cb];exact s.o,by rw[z.1 _ s.pb];exact s.q,by rw[z.1 _ s.ne];exact s.d,by rw[Ol (Zah s.b)],by rw[z.1 _ (by have:=s.ok;have:=s.ob;lia)];exact s.kc,s.ne,s.ok,s.oc,s.op,s.od,s.ob,z.2.1,z.2.2⟩
theorem Dq.setP(u':Nat):Dq C k c pk bk h0 (h.set pk (Zbc (.int 120) (u':Int))) dk p A pl dn bg u':=by have z:=s.set (o:=Zbc (.int 120) (u':Int)) s.op;exact⟨by rw[z.1 _ s.cp];exact s.o,by rw[Ol (Zah s.q)],by rw[z.1 _ (YL s.pd)];exact s.d,by rw[z.1 _ (YL s.pb)];exact s.b,by rw[z.1 _ (by have:=s.ok;have:=s.op;lia)];exact s.kc,s.ne,s.ok,s.oc,s.op,s.od,s.ob,z.2.1,z.2.2⟩
theorem Dq.gone:∃g,h=h0++g:=grown s.ol s.old
end
section
variable {U:Tb}{S:Ev}{R:Hd}{Cs:List Str}{f:Str}{fs:List (Str×D)}{d:D}{e:Ex}
def g_a(hρ:(S[0]?).join=J (.ref c))(hc:h[c]?=J (.ins (O "Decoder") fs))(hC:O "Decoder" ∈ Cs)(hl:fs.lookup f=J d):ev U (.att Cs (.var 0) f) S h=.ok d h:=by rw[Zqr,Zjc,hρ];simp only[ofO_some,Zl,ZfX,Zai,hc,if_pos hC,hl]
def s_a(q:ev U e S h=.ok d R)(hρ:(S[0]?).join=J (.ref c))(hc:R[c]?=J (.ins (O "Decoder") fs))(hC:O "Decoder" ∈ Cs)(hf:fs.length<1000):xs1 U (.seta Cs (.var 0) f e) S h=.ok (.nx,S) (R.set c (.ins (O "Decoder") (Zg1 f d fs))):=by rw[Zoq,q,Zl,Zjc,hρ];simp only[ofO_some,Zl,ZfL,hc,if_pos (show O "Decoder" ∈ Cs/\fs.length<1000 from⟨hC,hf⟩)]
end
def Zae:O "Decoder" ∈ [O "Decoder"]:=by simp
def cls2:O "Decoder" ∈ [O "Decoder",O "Unit"]:=by simp
def ZmJ(e:h[i]?=J (.lst (l++[x]))):ZbD GD (.ref i) (.int (-1)) h=.ok x h:=by rw[ZZ e,IV.Zei];rfl
def ZjL(H:Dec P)(n:Nat)(s:Dq C k c pk bk h0 h dk p A pl dn bg u):run P (n+1) (mnm (O "Decoder") (O "is_within_if")) [.ref c] h=.ok (.bl (tp bg).isSome) h:=by
 rw[Zz H.n_Decoder_is_within_if H.Decoder_is_within_if (by rfl)];have eb:ev (P.tbl n) (.att [O "Decoder"] (.var 0) (O "begun")) [J (.ref c)] h=.ok (.ref bk) h:=g_a rfl s.o Zae rfl;have el:ev (P.tbl n) (.blt .len (.cons (.att [O "Decoder"] (.var 0) (O "begun")) .nil)) [J (.ref c)] h=.ok (.int (bg.length:Int)) h:=by refine(Zf2 (Zc eb rfl) (Zg9 s.b)).trans ?_;rw[Yt]
 have e1:ev (P.tbl n) (.cmp .Gt (.blt .len (.cons (.att [O "Decoder"] (.var 0) (O "begun")) .nil)) (.ci 0)) [J (.ref c)] h=.ok (.bl (Wz ((0:Int)<bg.length))) h:=(Zv el rfl).trans rfl;have fin:∀b,evAnd (P.tbl n) (.cons (.cmp .Gt (.blt .len (.cons (.att [O "Decoder"] (.var 0) (O "begun")) .nil)) (.ci 0)) (.cons (.cmp .Eq (.ix (.ix (.att [O "Decoder"] (.var 0) (O "begun")) (.neg (.ci 1))) (.ci 0)) (.Ci_ "if")) .nil)) [J (.ref c)] h=.ok (.bl b) h->Ze (xs2 (P.tbl n) Za3 [J (.ref c)] h)=.ok (.bl b) h:=λb e=>congrArg Ze (Zd (Zu (Zje.trans e)));refine fin _ ?_;rw[Zet,e1];rcases List.eq_nil_or_concat bg with rfl|⟨l,x,rfl⟩
 . rfl
 . rw[decide_eq_true (by simp)];have sb:=s.b;rw[List.concat_eq_append,List.map_append]at sb;have e2:ev (P.tbl n) (.ix (.att [O "Decoder"] (.var 0) (O "begun")) (.neg (.ci 1))) [J (.ref c)] h=.ok x.d h:=(Zr eb rfl).trans (ZmJ sb);show ev (P.tbl n) (.cmp .Eq _ _) [J (.ref c)] h=_;cases x with
   |fn ns q B_=>refine(Zv (x:=.str (O "function")) ((Zr e2 rfl).trans rfl) rfl).trans ?_;rw[ZfR,ZdO];simp[tp]
   |iff q=>refine(Zv (x:=.str (O "if")) ((Zr e2 rfl).trans rfl) rfl).trans ?_;rw[ZfR,ZdO];simp[tp]
def ZjR(H:Dec P)(n:Nat)(s:Dq C k c pk bk h0 h dk p A pl dn bg u):run P (n+2) (mnm (O "Decoder") (O "is_behind_if")) [.ref c] h=.ok (.bl (Wz (tp bg=J p))) h:=by
 rw[Zz H.n_Decoder_is_behind_if H.Decoder_is_behind_if (by rfl)];have ew:ev (P.tbl (n+1)) (.mcl (O "Decoder") (O "is_within_if") (.var 0) .nil) [J (.ref c)] h=.ok (.bl (tp bg).isSome) h:=ZB rfl s.o rfl rfl (ZjL H n s);have fin:∀b,evAnd (P.tbl (n+1)) (.cons (.mcl (O "Decoder") (O "is_within_if") (.var 0) .nil) (.cons (.cmp .Eq (.ix (.ix (.att [O "Decoder"] (.var 0) (O "begun")) (.neg (.ci 1))) (.ci 1)) (.att [O "Decoder"] (.var 0) (O "at"))) .nil)) [J (.ref c)] h=.ok (.bl b) h->Ze (xs2 (P.tbl (n+1)) Za4 [J (.ref c)] h)=.ok (.bl b) h:=λb e=>congrArg Ze (Zd (Zu (Zje.trans e)));refine fin _ ?_;rw[Zet,ew];cases q:tp bg with
 |none=>rfl
 |some j=>
  rcases List.eq_nil_or_concat bg with rfl|⟨l,x,rfl⟩
  . cases q
  . have sb:=s.b;rw[List.concat_eq_append,List.map_append]at sb;cases x with
    |fn ns q' B_=>simp[tp]at q
    |iff i=>
     have:i=j:=by simpa[tp]using q
     subst this;have eb:ev (P.tbl (n+1)) (.att [O "Decoder"] (.var 0) (O "begun")) [J (.ref c)] h=.ok (.ref bk) h:=g_a rfl s.o Zae rfl;have e2:ev (P.tbl (n+1)) (.ix (.att [O "Decoder"] (.var 0) (O "begun")) (.neg (.ci 1))) [J (.ref c)] h=.ok (Bg.iff i).d h:=(Zr eb rfl).trans (ZmJ sb);refine(Zv (x:=.int (i:Int)) (y:=.int (p:Int)) ((Zr e2 rfl).trans rfl) (g_a rfl s.o Zae rfl)).trans ?_;rw[ZfR,Zg5];congr 2;simp only[Option.some.injEq];rw[Bool.eq_iff_iff,if_neg (by simp),decide_eq_true_iff,decide_eq_true_iff]
     lia
end
section
variable {P:Pg}{h0 h:Hd}{C:List Ce.Rw}{k c pk bk dk p u:Nat}{A dn:List D}{pl:List (Nat×List D)}{bg:List Bg}
def Zqx(hr:r≠[]):cutD (l++r) (J (-(r.length:Int))) M=r:=by
 have hp:0<r.length:=List.length_pos_iff.mpr hr;have e:HT.sIx (l++r).length 0 (J (-(r.length:Int)))=l.length:=by simp[HT.sIx];lia
 have e0:HT.sIx (l++r).length (l++r).length M=(l++r).length:=by simp[HT.sIx]
 unfold cutD;rw[e,e0];simp
def Zqz(hr:r≠[]):cutD (l++r) M (J (-(r.length:Int)))=l:=by
 have hp:0<r.length:=List.length_pos_iff.mpr hr;have e:HT.sIx (l++r).length (l++r).length (J (-(r.length:Int)))=l.length:=by simp[HT.sIx];lia
 have e0:HT.sIx (l++r).length 0 M=0:=by simp[HT.sIx]
 unfold cutD;rw[e,e0];simp
inductive On(C:List Ce.Rw)(k c pk bk:Nat)(h0:Hd)(p:Nat)(A:List D)(pl:List (Nat×List D))(dn:List D)(bg:List Bg)(u:Nat):qe D->Prop
 |ok {h':Hd} (le:u<=120) (s:Ds C k c pk bk h0 h' p A pl dn bg u):On C k c pk bk h0 p A pl dn bg u (.ok .non h')
 |ex {g:Hd} (lt:120<u):On C k c pk bk h0 p A pl dn bg u (.exc (O "Wide") (h0++g))
def ZfS(q:ev U e S h=r)(o:On C k c pk bk h0 p A pl dn bg u r):On C k c pk bk h0 p A pl dn bg u (Ze (xs2 U (.cons (.drp e) .nil) S h)):=by
 cases o with
 |ok le s=>rw[Za (ZU q)];exact .ok le s
 |ex lt=>rw[ZcR (Zhx q)];exact .ex lt
noncomputable def vp(c:Nat)(w:D)(m:Nat)(o:Option D):Ev:=[J (.ref c),J w,J (.int (m:Int)),o]
def Zlb(H:Dec P)(n:Nat)(s:Dq C k c pk bk h0 h dk p A pl (dn++ps) bg u)(hu:u<=120)(hr:ps≠[])(fb:ps.length<=10)(hd:dn.length<=1000):On C k c pk bk h0 p A pl (dn++[.tup (.str w::ps)]) bg (u+1) (run P (n+3) (mnm (O "Decoder") (O "put_together")) [.ref c,.str w,.int (ps.length:Int)] h):=by
 rw[Zz H.n_Decoder_put_together H.Decoder_put_together (by rfl)];have s1:=s.app [.lst ps];have s2:=s.app ([.lst ps]++[.lst dn]);rw[<-Oz]at s2;have x1:xs1 (P.tbl (n+2)) ZS (vp c (.str w) ps.length M) h=.ok (.nx,vp c (.str w) ps.length (J (.tup ps))) (h++[.lst ps]):=by
  have q:ev (P.tbl (n+2)) (.sl (.att [O "Decoder"] (.var 0) (O "done")) (J (.neg (.var 2))) M) (vp c (.str w) ps.length M) h=.ok (.ref h.length) (h++[.lst ps]):=by rw[ZmR,g_a (d:=.ref dk) rfl s.o Zae rfl,Zl];show Zgw (.ref dk) (J (-(ps.length:Int))) M h=_;simp only[Zgw,lstOf,s.d];rw[Zqx hr];rfl
  exact Zn (Zf2 (Zc q rfl) (ZsY (ys:=ps) (by simp)))
 have x2:∃h2,xs1 (P.tbl (n+2)) ZR (vp c (.str w) ps.length (J (.tup ps))) (h++[.lst ps])=.ok (.nx,vp c (.str w) ps.length (J (.tup ps))) h2/\Dq C k c pk bk h0 h2 (h.length+1) p A pl dn bg u:=by
  have q:ev (P.tbl (n+2)) (.sl (.att [O "Decoder"] (.var 0) (O "done")) M (J (.neg (.var 2)))) (vp c (.str w) ps.length (J (.tup ps))) (h++[.lst ps])=.ok (.ref (h.length+1)) (h++[.lst ps]++[.lst dn]):=by rw[ZmR,g_a (d:=.ref dk) rfl s1.o Zae rfl,Zl];show Zgw (.ref dk) M (J (-(ps.length:Int))) (h++[.lst ps])=_;simp only[Zgw,lstOf,s1.d];rw[Zqz hr];simp[Zda]
  refine⟨_,s_a q rfl s2.o Zae (by simp),?_⟩;exact s2.setN (dk':=h.length+1) (by simp) (by have:=Zah s.b;lia) (by have:=s.ol;lia)
 obtain⟨h2,x2,s3⟩:=x2;show On C k c pk bk h0 p A pl (dn++[.tup (.str w::ps)]) bg (u+1) (Ze (xs2 (P.tbl (n+2)) (.cons ZS (.cons ZR (.cons ZaB .nil))) (vp c (.str w) ps.length M) h));rw[Za x1,Za x2];have ed:ev (P.tbl (n+2)) (.att [O "Decoder"] (.var 0) (O "done")) (vp c (.str w) ps.length (J (.tup ps))) h2=.ok (.ref (h.length+1)) h2:=g_a rfl s3.o Zae rfl;have ep:ev (P.tbl (n+2)) (.att [O "Decoder"] (.var 0) (O "pen")) (vp c (.str w) ps.length (J (.tup ps))) h2=.ok (.ref pk) h2:=g_a rfl s3.o Zae rfl;have es:evs (P.tbl (n+2)) (.cons (.tupl (.cons (.var 1) .nil)) (.cons (.var 3) .nil)) (vp c (.str w) ps.length (J (.tup ps))) h2=.ok [.tup [.str w],.tup ps] h2:=rfl;have af:Tm.Aft h2 h2 pk (.int 120) (u:Int):=⟨s3.q,Oq _,λ_ _ _=>rfl⟩
 by_cases q:u=120
 . subst q;have ej:=ZB ep s3.q rfl es (Pw.Zo9 H.p n [.str w] ps af);have em:ev (P.tbl (n+2)) (.meth .app (.att [O "Decoder"] (.var 0) (O "done")) (.cons (.mcl (O "Pen") (O "joined") (.att [O "Decoder"] (.var 0) (O "pen")) (.cons (.tupl (.cons (.var 1) .nil)) (.cons (.var 3) .nil))) .nil)) (vp c (.str w) ps.length (J (.tup ps))) h2=.exc (O "Wide") h2:=by rw[ZmS,ed,Zl,Zip s3.d,if_pos rfl,Zw9 ej];rfl
   obtain⟨g,rfl⟩:=s3.gone;exact ZfS em (.ex (by lia))
 . have ej:=ZB ep s3.q rfl es (Pw.Znx H.p n [.str w] ps af (by lia) (by simp;lia));have s4:=s3.setP (u+1);rw[show((u:Int)+1)=((u+1:Nat):Int) by lia]at ej;have em:=ZdC (m:=.app) ed s3.d (Zc ej ZH) (ZaT s4.d (by rw[YC];lia));exact ZfS em (.ok (by lia) ⟨_,s4.setD _⟩)
def Znu(H:Dec P)(n:Nat)(s:Dq C k c pk bk h0 h dk p A pl dn bg u)(hu:u<120):run P (n+1) (mnm (O "Pen") (O "take_place")) [.ref pk] h=.ok .non (h.set pk (Zbc (.int 120) ((u+1:Nat):Int))):=Tm.Zo7 H.p.t n (.inr ⟨120,rfl,by lia⟩) s.q
noncomputable def vt(c:Nat)(d:D):Ev:=[J (.ref c),J d]
def Ztb(H:Dec P)(n:Nat)(s:Dq C k c pk bk h0 h dk p A pl dn bg 120):On C k c pk bk h0 p' A' pl aM bb 121 (run P (n+2) (mnm (O "Decoder") (O "put_on")) [.ref c,d] h):=by rw[Zz H.n_Decoder_put_on H.Decoder_put_on (by rfl)];have ep:ev (P.tbl (n+1)) (.att [O "Decoder"] (.var 0) (O "pen")) (vt c d) h=.ok (.ref pk) h:=g_a rfl s.o Zae rfl;have q:=ZB (U:=P.tbl (n+1)) (C:=O "Pen") (m:=O "take_place") ep s.q rfl ZH (Tm.ZjM H.p.t H.p.wd n s.q);obtain⟨g,rfl⟩:=s.gone;have x:xs2 (P.tbl (n+1)) Zbp (vt c d) (h0++g)=.exc (O "Wide") (h0++g):=ZcR (Zhx q);show On C k c pk bk h0 p' A' pl aM bb 121 (Ze (xs2 (P.tbl (n+1)) Zbp (vt c d) (h0++g)));rw[x];exact .ex (by decide)
def Zpi(H:Dec P)(n:Nat)(s:Dq C k c pk bk h0 h dk p A pl dn bg u)(hu:u<120)(ed:d=.tup (.str w::ds)):∃R,Dq C k c pk bk h0 R dk p A pl dn bg (u+1)/\run P (n+2) (mnm (O "Decoder") (O "put_on")) [.ref c,d] h=Ze (xs2 (P.tbl (n+1)) (if w=O "clo" then Z3 else ZaH) (vt c d) R):=by
 refine⟨_,s.setP (u+1),?_⟩;rw[Zz H.n_Decoder_put_on H.Decoder_put_on (by rfl)];have ep:ev (P.tbl (n+1)) (.att [O "Decoder"] (.var 0) (O "pen")) (vt c d) h=.ok (.ref pk) h:=g_a rfl s.o Zae rfl;have q:=ZB (U:=P.tbl (n+1)) (C:=O "Pen") (m:=O "take_place") ep s.q rfl ZH (Znu H n s hu);have one:∀(U:Tb) (st:Sx) (S:Ev) (h:Hd),xs2 U (.cons st .nil) S h=xs1 U st S h:=λU st S h=>by
  rw[xs2];cases xs1 U st S h with
  |bad=>rfl
  |exc c h=>rfl
  |ok p h=>obtain⟨f,S⟩:=p;cases f<;>rfl
 have t:∀h',tst (P.tbl (n+1)) Zcf (vt c d) h'=.ok (Wz (w=O "clo")) h':=λh'=>Zcd ((Zr (x:=d) rfl rfl).trans (by rw[ed];simp)) rfl;have e2:∀h',xs2 (P.tbl (n+1)) (.cons Zcj .nil) (vt c d) h'=xs2 (P.tbl (n+1)) (if w=O "clo" then Z3 else ZaH) (vt c d) h':=λh'=>by
  rw[one];by_cases z:w=O "clo"
  . rw[if_pos z];exact Zj (Zi (t h') (decide_eq_true z))
  . rw[if_neg z];exact Zg (Zi (t h') (decide_eq_false z))
 exact congrArg Ze ((Za (ZU q)).trans (e2 _))
def Zmg(H:Dec P)(n:Nat)(s:Dq C k c pk bk h0 h dk p A pl dn bg u)(hu:u<=120)(ed:d=.tup (.str w::ds))(hw:w≠O "clo")(hd:dn.length<=1000):On C k c pk bk h0 p A pl (dn++[d]) bg (u+1) (run P (n+2) (mnm (O "Decoder") (O "put_on")) [.ref c,d] h):=by
 by_cases q:u=120
 . subst q;exact Ztb H n s
 . obtain⟨R,s1,e⟩:=Zpi H n s (by lia) ed;rw[e,if_neg hw];exact ZfS (ZdC (m:=.app) (g_a rfl s1.o Zae rfl) s1.d (Zc rfl rfl) (ZaT s1.d (by rw[YC];lia))) (.ok (by lia) ⟨_,s1.setD _⟩)
noncomputable def names(ns:List Str):List D:=ns.map λx=>.tup [.str (O "name"),.str x]
theorem Zm2:∀(ns:List Str) (ag:List D),ag.length+ns.length<=1000->ZV M (.nm 0) (tsto U M) (ev U (.tupl (.cons (.Ci_ "name") (.cons (.var 0) .nil)))) (ns.map .str) [M] ag h=.ok (ag++names ns) h
 |[],ag,_=>by simp[ZV,Wk.stays,names]
 |x::ns,ag,hz=>by rw[Os]at hz;rw[Op,Z4,if_pos ⟨rfl,by rw[YC];lia⟩];have:=Zm2 (U:=U) ns (ag++[.tup [.str (O "name"),.str x]]) (by simp;lia);rw[Oz]at this;exact this
def Zmh(H:Dec P)(n:Nat)(s:Dq C k c pk bk h0 h dk p A pl dn bg u)(hu:u<=120)(hn:ns.length<=10)(hd:ds.length<=100000)(hb:bg.length<=1000):On C k c pk bk h0 q (names ns++ds) pl dn (bg++[.fn ns p A]) (u+1) (run P (n+2) (mnm (O "Decoder") (O "put_on")) [.ref c,Z1 q ns ds] h):=by
 by_cases z:u=120
 . subst z;exact Ztb H n s
 . obtain⟨R,s1,e⟩:=Zpi H n s (d:=Z1 q ns ds) (by lia) rfl;rw[e,if_pos rfl];have e1:evs (P.tbl (n+1)) (.cons (.tupl (.cons (.Ci_ "function") (.cons (.ix (.var 1) (.ci 2)) (.cons (.att [O "Decoder"] (.var 0) (O "at")) (.cons (.att [O "Decoder",O "Unit"] (.var 0) (O "around")) .nil))))) .nil) (vt c (Z1 q ns ds)) R=.ok [(Bg.fn ns p A).d] R:=Zc (Zan (xs:=[.str (O "function"),.tup (ns.map .str),.int (p:Int),.tup A]) (Zc rfl (Zc rfl (Zc (g_a rfl s1.o Zae rfl) (Zc (g_a rfl s1.o cls2 rfl) rfl)))) (by simp)) rfl;have x1:=ZU (U:=P.tbl (n+1)) (S:=vt c (Z1 q ns ds)) (ZdC (m:=.app) (g_a (Cs:=[O "Decoder"]) (f:=O "begun") rfl s1.o Zae rfl) s1.b e1 (ZaT s1.b (by simp[YC];lia)));have s2:=s1.setB (bg++[.fn ns p A]);rw[List.map_append]at s2;have x2:=s_a (U:=P.tbl (n+1)) (S:=vt c (Z1 q ns ds)) (Cs:=[O "Decoder"]) (f:=O "at") (e:=.ix (.var 1) (.ci 1)) (d:=.int (q:Int)) rfl rfl s2.o Zae (by simp);have s3:=s2.setO q A pl;have ec:∀h',ev (P.tbl (n+1)) (.bin .Add (.blt .tup (.cons (.comp [O "name"] [M] (.pl (.ix (.var 1) (.ci 2))) (.nm 0) M (.tupl (.cons (.Ci_ "name") (.cons (.var 0) .nil)))) .nil)) (.ix (.var 1) (.ci 3))) (vt c (Z1 q ns ds)) h'=.ok (.tup (names ns++ds)) (h'++[.lst (names ns)]):=λh'=>(Zh (x:=.tup (names ns)) (y:=.tup ds) (Zf2 (Zc (Zko (Zjb (xs:=ns.map .str) rfl) (Zm2 ns [] (by simp;lia))) rfl) (ZsY ZbK)) rfl).trans (ZbY (by simp[names,YC];lia))
   have s4:=s3.app [.lst (names ns)];have x3:=s_a (U:=P.tbl (n+1)) (S:=vt c (Z1 q ns ds)) (Cs:=[O "Decoder",O "Unit"]) (f:=O "around") (ec _) rfl s4.o cls2 (by simp);have:=(Za (r:=.cons Zbf (.cons Zaf .nil)) x1).trans ((Za (r:=.cons Zaf .nil) x2).trans ((Za (r:=.nil) x3).trans rfl));rw[show xs2 (P.tbl (n+1)) Z3 (vt c (Z1 q ns ds)) R=_ from this];exact .ok (by lia) ⟨_,s4.setO q (names ns++ds) pl⟩
noncomputable def fnT(ns:List Str)(e:T):T:=match ns with
 |[x]=>.fn x e
 |x::f::_=>.rcc f x e
 |[]=>e
def Zpa(H:Dec P)(n:Nat){ns:List Str}(hn:ns.length=1\/ns.length=2)(e:T)(h:Hd):run P (n+1) (O "function_of") [.tup (ns.map .str),e.d] h=.ok (fnT ns e).d h:=by
 rw[Zf H.function_of (by rfl)]
 match ns,hn with
 |[x],_=>exact rfl
 |[x,f],_=>exact rfl
def ZnB(H:Dec P)(n:Nat){ns:List Str}(s:Dq C k c pk bk h0 h dk p A pl (dn++[e.d]) (bg++[.fn ns q B_]) u)(hn:ns.length=1\/ns.length=2)(hu:u<=120)(hd:dn.length<=1000):On C k c pk bk h0 q B_ pl (dn++[(fnT ns e).d]) bg u (run P (n+2) (mnm (O "Decoder") (O "go_back")) [.ref c] h):=by rw[Zz H.n_Decoder_go_back H.Decoder_go_back (by rfl)];have sb:=s.b;rw[List.map_append]at sb;have eb:∀S:Ev,(S[0]?).join=J (.ref c)->ev (P.tbl (n+1)) (.att [O "Decoder"] (.var 0) (O "begun")) S h=.ok (.ref bk) h:=λS hρ=>g_a hρ s.o Zae rfl;have t:tst (P.tbl (n+1)) Zau [J (.ref c),M] h=.ok Wx h:=Zi (Zgd (eb _ rfl) sb) (by simp);have x1:xs1 (P.tbl (n+1)) Za6 [J (.ref c),M] h=.ok (.nx,[J (.ref c),J (Bg.fn ns q B_).d]) (h.set bk (.lst (bg.map Bg.d))):=Zn (ZdC (m:=.pop) (eb _ rfl) sb ZH (ZcX sb));have s1:=s.setB bg;have ed:∀{h':Hd}{dk':Nat}{aM:List D}{bb:List Bg}{p':Nat}{A':List D} (s':Dq C k c pk bk h0 h' dk' p' A' pl aM bb u),ev (P.tbl (n+1)) (.att [O "Decoder"] (.var 0) (O "done")) [J (.ref c),J (Bg.fn ns q B_).d] h'=.ok (.ref dk') h':=λs'=>g_a rfl s'.o Zae rfl;have s2:=s1.setD dn;have e2:=Zc (U:=P.tbl (n+1)) (Zt (Zpa H n hn e _) (Zc (a:=.ix (.var 1) (.ci 1)) (S:=[J (.ref c),J (Bg.fn ns q B_).d]) (x:=.tup (ns.map .str)) rfl (Zc (ZdC (m:=.pop) (ed s1) s1.d ZH (ZcX s1.d)) ZH))) ZH;have x2:=ZU (ZdC (m:=.app) (ed s1) s1.d e2 (ZaT s2.d (by rw[YC];lia)));have s3:=s2.setD (dn++[(fnT ns e).d]);have x3:=s_a (U:=P.tbl (n+1)) (S:=[J (.ref c),J (Bg.fn ns q B_).d]) (Cs:=[O "Decoder"]) (f:=O "at") (e:=.ix (.var 1) (.ci 2)) (d:=.int (q:Int)) rfl rfl s3.o Zae (by simp);have s4:=s3.setO q A pl;have x4:=s_a (U:=P.tbl (n+1)) (S:=[J (.ref c),J (Bg.fn ns q B_).d]) (Cs:=[O "Decoder",O "Unit"]) (f:=O "around") (e:=.ix (.var 1) (.ci 3)) (d:=.tup B_) rfl rfl s4.o cls2 (by simp);have w:=(Za (r:=.cons Za5 (.cons Z6 (.cons ZI .nil))) x1).trans ((Za (r:=.cons Z6 (.cons ZI .nil)) x2).trans ((Za (r:=.cons ZI .nil) x3).trans ((Za (r:=.nil) x4).trans rfl)));have w2:xs2 (P.tbl (n+1)) ZN [J (.ref c),M] h=_:=(Za ((Zj t).trans w)).trans rfl;show On C k c pk bk h0 q B_ pl (dn++[(fnT ns e).d]) bg u (Ze (xs2 (P.tbl (n+1)) ZN [J (.ref c),M] h));rw[w2];exact .ok hu ⟨_,s4.setO q B_ pl⟩
def ZnA(H:Dec P)(n:Nat)(s:Dq C k c pk bk h0 h dk p A ((q,B_)::pl) dn [] u)(hu:u<=120):On C k c pk bk h0 q B_ pl dn [] u (run P (n+2) (mnm (O "Decoder") (O "go_back")) [.ref c] h):=by
 rw[Zz H.n_Decoder_go_back H.Decoder_go_back (by rfl)];have t:tst (P.tbl (n+1)) Zau [J (.ref c),M] h=.ok Wy h:=Zgd (g_a rfl s.o Zae rfl) s.b;have ep:∀{h':Hd}{p':Nat}{A':List D} (s':Dq C k c pk bk h0 h' dk p' A' ((q,B_)::pl) dn [] u),ev (P.tbl (n+1)) (.att [O "Decoder"] (.var 0) (O "pile")) [J (.ref c),M] h'=.ok (.tup (((q,B_)::pl).map fr)) h':=λs'=>g_a rfl s'.o Zae rfl;have x1:=s_a (Cs:=[O "Decoder"]) (f:=O "at") ((Zr (y:=.int 0) (b:=.ci 0) ((Zr (y:=.int 0) (b:=.ci 0) (ep s) rfl).trans (show _=qe.ok (fr (q,B_)) h by rw[Op,Zfg,ZiK];rfl)) rfl).trans (show _=qe.ok (.int (q:Int)) h by rw[fr,Zfg,ZiK];rfl)) rfl s.o Zae (by simp);have s1:=s.setO q A ((q,B_)::pl);have x2:=s_a (Cs:=[O "Decoder",O "Unit"]) (f:=O "around") ((Zr (y:=.int 1) (b:=.ci 1) ((Zr (y:=.int 0) (b:=.ci 0) (ep s1) rfl).trans (show _=qe.ok (fr (q,B_)) _ by rw[Op,Zfg,ZiK];rfl)) rfl).trans (show _=qe.ok (.tup B_) _ by rw[fr,Zfg,Zxq];rfl)) rfl s1.o cls2 (by simp);have s2:=s1.setO q B_ ((q,B_)::pl);have e3:∀{h':Hd}{p':Nat}{A':List D} (s':Dq C k c pk bk h0 h' dk p' A' ((q,B_)::pl) dn [] u),ev (P.tbl (n+1)) (.sl (.att [O "Decoder"] (.var 0) (O "pile")) (J (.ci 1)) M) [J (.ref c),M] h'=.ok (.tup (pl.map fr)) h':=λ{h'}{_}{_} s'=>by rw[ZmR,ep s',Zl];show qe.ok (D.tup (cutD (fr (q,B_)::pl.map fr) (J 1) M)) h'=_;rw[Zn9]
 have x3:=s_a (Cs:=[O "Decoder"]) (f:=O "pile") (e3 s2) rfl s2.o Zae (by simp);have w:=(Za (r:=.cons Za7 (.cons Z7 .nil)) x1).trans ((Za (r:=.cons Z7 .nil) x2).trans ((Za (r:=.nil) x3).trans rfl));have w2:xs2 (P.tbl (n+1)) ZN [J (.ref c),M] h=_:=(Za ((Zg t).trans w)).trans rfl;show On C k c pk bk h0 q B_ pl dn [] u (Ze (xs2 (P.tbl (n+1)) ZN [J (.ref c),M] h));rw[w2];exact .ok hu ⟨_,s2.setO q B_ pl⟩
def Zla(H:Dec P)(n:Nat)(s:Dq C k c pk bk h0 h dk p A pl dn bg u)(hu:u<=120):On C k c pk bk h0 (if (tp bg).isSome then p else q) A pl dn bg u (run P (n+2) (mnm (O "Decoder") (O "jump")) [.ref c,(Ce.Rw.jmp (q:Int)).d] h):=by
 rw[Zz H.n_Decoder_jump H.Decoder_jump (by rfl)];have t:tst (P.tbl (n+1)) Zbj (vt c (Ce.Rw.jmp (q:Int)).d) h=.ok (!(tp bg).isSome) h:=by rw[Zbj,ZkY,ZbM (ZB rfl s.o rfl rfl (ZjL H n s))];rfl
 show On C k c pk bk h0 _ A pl dn bg u (Ze (xs2 (P.tbl (n+1)) Za2 (vt c (Ce.Rw.jmp (q:Int)).d) h));cases z:(tp bg).isSome with
 |true=>rw[z]at t;rw[show xs2 (P.tbl (n+1)) Za2 (vt c (Ce.Rw.jmp (q:Int)).d) h=.ok (.nx,vt c (Ce.Rw.jmp (q:Int)).d) h from(Za ((Zg t).trans rfl)).trans rfl];exact .ok hu ⟨_,s⟩
 |false=>rw[z]at t;have x:=s_a (U:=P.tbl (n+1)) (S:=vt c (Ce.Rw.jmp (q:Int)).d) (Cs:=[O "Decoder"]) (f:=O "at") (e:=.ix (.var 1) (.ci 1)) (d:=.int (q:Int)) rfl rfl s.o Zae (by simp);rw[show xs2 (P.tbl (n+1)) Za2 (vt c (Ce.Rw.jmp (q:Int)).d) h=_ from(Za ((Zj t).trans ((Za (r:=.nil) x).trans rfl))).trans rfl];exact .ok hu ⟨_,s.setO q A pl⟩
end
end Cr
namespace Cr
open PySem L2 IV
open Tm (Zbc grown)
open Ce (fr Z1 ZW keep Zah ZbL psh wd)
section
variable {P:Pg}{h0 h:Hd}{C:List Ce.Rw}{k c pk bk dk p u:Nat}{A dn:List D}{pl:List (Nat×List D)}{bg:List Bg}
def ZG:xs2 U (.cons s .nil) S h=xs1 U s S h:=by
 rw[xs2];cases xs1 U s S h with
 |bad=>rfl
 |exc c h=>rfl
 |ok p h=>obtain⟨f,S⟩:=p;cases f<;>rfl
def Zid(H:Dec P)(n:Nat){r:Ce.Rw}(q:xs1 (P.tbl n) ZaJ (vt c r.d) h=xs1 (P.tbl n) (.drp e) (vt c r.d) h)(z:ev (P.tbl n) e (vt c r.d) h=o)(on:On C k c pk bk h0 p' A' bB aM bb u' o):On C k c pk bk h0 p' A' bB aM bb u' (run P (n+1) (mnm (O "Decoder") (O "do_row")) [.ref c,r.d] h):=by
 rw[Zz H.n_Decoder_do_row H.Decoder_do_row (by rfl)];have w:xs2 (P.tbl n) Zas (vt c r.d) h=xs2 (P.tbl n) (.cons (.drp e) .nil) (vt c r.d) h:=by rw[show Zas=.cons ZaJ .nil from rfl,ZG,ZG,q]
 show On C k c pk bk h0 p' A' bB aM bb u' (Ze (xs2 (P.tbl n) Zas (vt c r.d) h));rw[w];exact ZfS z on
def Zej(H:Dec P)(n:Nat):tst (P.tbl n) Zcg (vt c r.d) h=.ok (Wz (wd r="call" \/ wd r="hop")) h:=by
 have eg:ev (P.tbl n) (.glo (O "CALLS")) (vt c r.d) h=.ok (.tup [.str (O "call"),.str (O "hop")]) h:=by show qe.ofO (P.G (O "CALLS")) h=_;rw[H.gc];rfl
 obtain⟨ds,ed⟩:=Ce.Zkr r;refine ZbM ((Zv (x:=.str (Str.ofString (wd r))) ((Zr (x:=r.d) rfl rfl).trans (by rw[ed];simp)) eg).trans ?_);have:=@ZbX P.GD h [O "call",O "hop"] (Str.ofString (wd r));show opC P.GD .In (.str (Str.ofString (wd r))) (.tup [.str (O "call"),.str (O "hop")]) h=_;simpa using this
def ZaP(n:Nat)(w:String):tst (P.tbl n) (.ex (.cmp .Eq (.ix (.var 1) (.ci 0)) (.cst (.str (Str.ofString w))))) (vt c r.d) h=.ok (Wz (wd r=w)) h:=by obtain⟨ds,ed⟩:=Ce.Zkr r;refine Zi (Zcd (x:=Str.ofString (wd r)) ((Zr (x:=r.d) rfl rfl).trans (by rw[ed];simp)) rfl) ?_;simp
def ZfO(H:Dec P)(n:Nat){r:Ce.Rw}(hr:r=.call\/r=.hop)(s:Dq C k c pk bk h0 h dk p A pl (dn++[a,b]) bg u)(hu:u<=120)(hd:dn.length<=1000):On C k c pk bk h0 p A pl (dn++[.tup [.str (O "call"),a,b]]) bg (u+1) (run P (n+4) (mnm (O "Decoder") (O "do_row")) [.ref c,r.d] h):=by
 have hw:wd r="call" \/ wd r="hop" := by rcases hr with rfl|rfl;exact .inl rfl;exact .inr rfl
 exact Zid H (n+3) ((Zj (Zi (Zej H (n+3)) (decide_eq_true hw))).trans ZG) (ZB rfl s.o rfl rfl rfl) (Zlb H n (ps:=[a,b]) s hu (by simp) (by simp) hd)
def ZfN(H:Dec P)(n:Nat){w:Wd}(s:Dq C k c pk bk h0 h dk p A pl (dn++[a,b]) bg u)(hu:u<=120)(hd:dn.length<=1000):On C k c pk bk h0 p A pl (dn++[.tup [.str w.s,a,b]]) bg (u+1) (run P (n+4) (mnm (O "Decoder") (O "do_row")) [.ref c,(Ce.Rw.work w).d] h):=Zid H (n+3) ((Zg (Zi (Zej H (n+3)) (by simp[wd]))).trans (ZG.trans ((Zj (Zi (ZaP (n+3) "work") (by simp[wd]))).trans ZG))) (ZB rfl s.o rfl (Zc rfl rfl) rfl) (Zlb H n (ps:=[a,b]) s hu (by simp) (by simp) hd)
def ZjP(H:Dec P)(n:Nat){q q':Nat}(s:Dq C k c pk bk h0 h dk p A pl dn bg u)(hu:u<=120)(hj:C[q]?=J (.jmp (q':Int)))(hb:bg.length<=1000):On C k c pk bk h0 p A pl dn (bg++[.iff q']) u (run P (n+4) (mnm (O "Decoder") (O "do_row")) [.ref c,(Ce.Rw.unl ((q+1:Nat):Int)).d] h):=by
 have e1:ev (P.tbl (n+3)) (.bin .Sub (.ix (.var 1) (.ci 1)) (.ci 1)) (vt c (Ce.Rw.unl ((q+1:Nat):Int)).d) h=.ok (.int (q:Int)) h:=by
  refine(Zh (x:=.int ((q+1:Nat):Int)) rfl rfl).trans ?_;rw[Zen];congr 2
  lia
 have e2:evs (P.tbl (n+3)) (.cons (.tupl (.cons (.Ci_ "if") (.cons (.ix (.ix (.att [O "Decoder"] (.var 0) (O "code")) (.bin .Sub (.ix (.var 1) (.ci 1)) (.ci 1))) (.ci 1)) .nil))) .nil) (vt c (Ce.Rw.unl ((q+1:Nat):Int)).d) h=.ok [(Bg.iff q').d] h:=Zc (Zan (xs:=[.str (O "if"),.int (q':Int)]) (Zc rfl (Zc ((Zr ((Zr (g_a rfl s.o Zae rfl) e1).trans (ZbL s.kc hj)) rfl).trans rfl) rfl)) (by simp)) rfl;have s2:=s.setB (bg++[.iff q']);rw[List.map_append]at s2;exact Zid H (n+3) ((Zg (Zi (Zej H (n+3)) (by simp[wd]))).trans (ZG.trans ((Zg (Zi (ZaP (n+3) "work") (by simp[wd]))).trans (ZG.trans ((Zj (Zi (ZaP (n+3) "unless") (by simp[wd]))).trans ZG))))) (ZdC (m:=.app) (g_a rfl s.o Zae rfl) s.b e2 (ZaT s.b (by simp[YC];lia))) (.ok hu ⟨_,s2⟩)
def ZgZ(H:Dec P)(n:Nat){q:Nat}(s:Dq C k c pk bk h0 h dk p A pl dn bg u)(hu:u<=120):On C k c pk bk h0 (if (tp bg).isSome then p else q) A pl dn bg u (run P (n+4) (mnm (O "Decoder") (O "do_row")) [.ref c,(Ce.Rw.jmp (q:Int)).d] h):=Zid H (n+3) ((Zg (Zi (Zej H (n+3)) (by simp[wd]))).trans (ZG.trans ((Zg (Zi (ZaP (n+3) "work") (by simp[wd]))).trans (ZG.trans ((Zg (Zi (ZaP (n+3) "unless") (by simp[wd]))).trans (ZG.trans ((Zj (Zi (ZaP (n+3) "jump") (by simp[wd]))).trans ZG))))))) (ZB rfl s.o rfl (Zc rfl rfl) rfl) (Zla H (n+1) s hu)
def Zig(H:Dec P)(n:Nat){p':Nat}(s:Dq C k c pk bk h0 h dk p A pl dn bg u)(on:On C k c pk bk h0 p' A' bB aM bb u (run P (n+3) (mnm (O "Decoder") (O "go_back")) [.ref c] h)):On C k c pk bk h0 p' A' bB aM bb u (run P (n+4) (mnm (O "Decoder") (O "do_row")) [.ref c,Ce.Rw.back.d] h):=Zid H (n+3) ((Zg (Zi (Zej H (n+3)) (by simp[wd]))).trans (ZG.trans ((Zg (Zi (ZaP (n+3) "work") (by simp[wd]))).trans (ZG.trans ((Zg (Zi (ZaP (n+3) "unless") (by simp[wd]))).trans (ZG.trans ((Zg (Zi (ZaP (n+3) "jump") (by simp[wd]))).trans (ZG.trans ((Zj (Zi (ZaP (n+3) "back") (by simp[wd]))).trans ZG))))))))) (ZB rfl s.o rfl ZH rfl) on
def ZjQ(H:Dec P)(n:Nat)(s:Dq C k c pk bk h0 h dk p A pl dn bg u)(hd:psh A r=J d)(on:On C k c pk bk h0 p' A' bB aM bb u' (run P (n+3) (mnm (O "Decoder") (O "put_on")) [.ref c,d] h)):On C k c pk bk h0 p' A' bB aM bb u' (run P (n+4) (mnm (O "Decoder") (O "do_row")) [.ref c,r.d] h):=by
 have hw:¬ (wd r="call" \/ wd r="hop")/\wd r ≠ "work" /\ wd r ≠ "unless" /\ wd r ≠ "jump" /\ wd r ≠ "back" := by cases r<;>first|(cases hd;done)|simp[wd]
 exact Zid H (n+3) ((Zg (Zi (Zej H (n+3)) (decide_eq_false hw.1))).trans (ZG.trans ((Zg (Zi (ZaP (n+3) "work") (decide_eq_false hw.2.1))).trans (ZG.trans ((Zg (Zi (ZaP (n+3) "unless") (decide_eq_false hw.2.2.1))).trans (ZG.trans ((Zg (Zi (ZaP (n+3) "jump") (decide_eq_false hw.2.2.2.1))).trans (ZG.trans ((Zg (Zi (ZaP (n+3) "back") (decide_eq_false hw.2.2.2.2))).trans ZG))))))))) (ZB rfl s.o rfl (Zc (Zt (Ce.Zmf H.c (n+2) r A hd) (Zc rfl (Zc (g_a rfl s.o cls2 rfl) rfl))) rfl) rfl) on
def ZK(H:Dec P)(n:Nat)(s:Ds C k c pk bk h0 h p A pl dn bg u)(hb:tp bg≠J p)(hc:C[p]?=J r)(on:∀{h':Hd}{dk:Nat},Dq C k c pk bk h0 h' dk (p+1) A pl dn bg u->On C k c pk bk h0 p' A' bB aM bb u' (run P (n+4) (mnm (O "Decoder") (O "do_row")) [.ref c,r.d] h')):On C k c pk bk h0 p' A' bB aM bb u' (run P (n+5) (mnm (O "Decoder") (O "do_next")) [.ref c] h):=by
 obtain⟨dk,s⟩:=s;rw[Zz H.n_Decoder_do_next H.Decoder_do_next (by rfl)];have t:tst (P.tbl (n+4)) Zav [J (.ref c)] h=.ok Wy h:=(ZbM (ZB rfl s.o rfl ZH (ZjR H (n+2) s))).trans (by rw[decide_eq_false hb]);have s1:=s.setO (p+1) A pl;have x1:xs1 (P.tbl (n+4)) Z8 [J (.ref c)] h=.ok (.nx,[J (.ref c)]) (h.set c (Zfx k (p+1) A pl pk dk bk)):=by have so:=s.o;unfold Zfx at so;rw[Z8,Zos];simp[ZfX,Zai,so,Wm,ZfL,Zg1,Zfx]
 have ei:∀{h':Hd} (s':Dq C k c pk bk h0 h' dk (p+1) A pl dn bg u),ev (P.tbl (n+4)) (.ix (.att [O "Decoder"] (.var 0) (O "code")) (.bin .Sub (.att [O "Decoder"] (.var 0) (O "at")) (.ci 1))) [J (.ref c)] h'=.ok r.d h':=λs'=>by refine(Zr (g_a rfl s'.o Zae rfl) ((Zh (g_a (d:=.int ((p+1:Nat):Int)) rfl s'.o Zae rfl) rfl).trans (show _=qe.ok (D.int (p:Int)) _ by rw[Zen];congr 2;lia))).trans (ZbL s'.kc hc)
 have w:xs2 (P.tbl (n+4)) ZO [J (.ref c)] h=xs2 (P.tbl (n+4)) (.cons Za9 .nil) [J (.ref c)] (h.set c (Zfx k (p+1) A pl pk dk bk)):=ZG.trans ((Zg t).trans (Za x1));show On C k c pk bk h0 p' A' bB aM bb u' (Ze (xs2 (P.tbl (n+4)) ZO [J (.ref c)] h));rw[w];exact ZfS (ZB rfl s1.o rfl (Zc (ei s1) rfl) rfl) (on s1)
def Zmz(H:Dec P)(n:Nat)(s:Ds C k c pk bk h0 h p A pl (dn++[x,y,z]) (bg++[.iff p]) u)(hu:u<=120)(hd:dn.length<=1000):On C k c pk bk h0 p A pl (dn++[.tup [.str (O "if"),x,y,z]]) bg (u+1) (run P (n+5) (mnm (O "Decoder") (O "do_next")) [.ref c] h):=by obtain⟨dk,s⟩:=s;rw[Zz H.n_Decoder_do_next H.Decoder_do_next (by rfl)];have t:tst (P.tbl (n+4)) Zav [J (.ref c)] h=.ok Wx h:=(ZbM (ZB rfl s.o rfl ZH (ZjR H (n+2) s))).trans (by simp[tp]);have sb:=s.b;rw[List.map_append]at sb;have x1:=ZU (U:=P.tbl (n+4)) (S:=[J (.ref c)]) (ZdC (m:=.pop) (g_a (Cs:=[O "Decoder"]) (f:=O "begun") rfl s.o Zae rfl) sb ZH (ZcX sb));have s1:=s.setB bg;have w:xs2 (P.tbl (n+4)) ZO [J (.ref c)] h=xs2 (P.tbl (n+4)) (.cons Za8 .nil) [J (.ref c)] (h.set bk (.lst (bg.map Bg.d))):=ZG.trans ((Zj t).trans (Za x1));show On C k c pk bk h0 p A pl (dn++[.tup [.str (O "if"),x,y,z]]) bg (u+1) (Ze (xs2 (P.tbl (n+4)) ZO [J (.ref c)] h));rw[w];exact ZfS (ZB rfl s1.o rfl (Zc rfl (Zc rfl rfl)) rfl) (Zlb H (n+1) (ps:=[x,y,z]) s1 hu (by simp) (by simp) hd)
end
end Cr
namespace Cr
open PySem L2 IV
open Rw (Th Ar ThN rd ra)
open Cs (Vr Er ZbE)
open Ce (fr Z1 ZW Cd psh)
open Tm (sub get)
section
variable {P:Pg}{h0 h:Hd}{C:List Ce.Rw}{k c pk bk n N:Nat}
structure Lpk(P:Pg)(n:Nat)(C:List Ce.Rw)(k c pk bk:Nat)(h0:Hd)(L:Bool)(W:Nat->Hd->qe (Fl×Ev)):Prop where
 ok:∀{f:Nat}{h h':Hd}{p:Nat}{A:List D}{pl:List (Nat×List D)}{dn:List D}{bg:List Bg}{u:Nat},Ds C k c pk bk h0 h p A pl dn bg u->(bg≠[]\/(L=Wx/\∃r,C[p]?=J r/\r≠.fin))->run P (n+5) (mnm (O "Decoder") (O "do_next")) [.ref c] h=.ok .non h'->W (f+1) h=W f h'
 ex:∀{f:Nat}{h h':Hd}{w:Str}{p:Nat}{A:List D}{pl:List (Nat×List D)}{dn:List D}{bg:List Bg}{u:Nat},Ds C k c pk bk h0 h p A pl dn bg u->(bg≠[]\/(L=Wx/\∃r,C[p]?=J r/\r≠.fin))->run P (n+5) (mnm (O "Decoder") (O "do_next")) [.ref c] h=.exc w h'->W (f+1) h=.exc w h'
inductive Pc(C:List Ce.Rw)(k c pk bk:Nat)(h0:Hd)(W:Nat->Hd->qe (Fl×Ev))(h:Hd)(p:Nat)(A:List D)(pl:List (Nat×List D))(dn:List D)(bg:List Bg)(u B_ X:Nat):Prop
 |ok {h':Hd}{m:Nat} (le:u<=120) (hm:m<=B_) (s:Ds C k c pk bk h0 h' p A pl dn bg u) (e:∀f,W (m+f) h=W f h'):Pc C k c pk bk h0 W h p A pl dn bg u B_ X
 |ex {g:Hd}{m:Nat} (lt:120<u) (hm:m<=X) (e:∀f,W (m+f) h=.exc (O "Wide") (h0++g)):Pc C k c pk bk h0 W h p A pl dn bg u B_ X
section
variable {W:Nat->Hd->qe (Fl×Ev)}{L:Bool}{p p1 p2 u u1 u2 B_ B1 B2 X X1 X2:Nat}{A A1 A2 dn g8 kz:List D}{pl gE jM:List (Nat×List D)}{bg hJ kE:List Bg}
def Pc.bind(a:Pc C k c pk bk h0 W h p1 A1 gE g8 hJ u1 B1 X1)(b:∀R,Ds C k c pk bk h0 R p1 A1 gE g8 hJ u1->u1<=120->Pc C k c pk bk h0 W R p2 A2 jM kz kE u2 B2 X2)(hu:u1<=u2)(hB:B1+B2<=B_)(hX:X1<=X)(hY:u1<=120->B1+X2<=X):Pc C k c pk bk h0 W h p2 A2 jM kz kE u2 B_ X:=by
 cases a with
 |ex lt hm e=>exact .ex (by lia) (by lia) e
 |@ok h' m le hm s e=>
  cases b h' s le with
  |@ok h2 m2 le2 hm2 s2 e2=>exact .ok le2 (m:=m+m2) (by lia) s2 λf=>by rw[Nat.add_assoc,e,e2]
  |@ex g m2 lt hm2 e2=>exact .ex lt (m:=m+m2) (by have:=hY le;lia) λf=>by rw[Nat.add_assoc,e,e2]
def Pc.turn(K:Lpk P n C k c pk bk h0 L W)(s:Ds C k c pk bk h0 h p A pl dn bg u)(hc:bg≠[]\/(L=Wx/\∃r,C[p]?=J r/\r≠.fin))(o:On C k c pk bk h0 p1 A1 gE g8 hJ u1 (run P (n+5) (mnm (O "Decoder") (O "do_next")) [.ref c] h)):Pc C k c pk bk h0 W h p1 A1 gE g8 hJ u1 1 1:=by
 generalize hr:run P (n+5) (mnm (O "Decoder") (O "do_next")) [.ref c] h=r at o;cases o with
 |ok le s1=>exact .ok le (m:=1) (Oq _) s1 λf=>by rw[YW];exact K.ok s hc hr
 |ex lt=>exact .ex lt (m:=1) (Oq _) λf=>by rw[YW];exact K.ex s hc hr
theorem Pc.le(a:Pc C k c pk bk h0 W h p A pl dn bg u B_ X)(R:B_<=B')(h2:X<=X'):Pc C k c pk bk h0 W h p A pl dn bg u B' X':=by
 cases a with
 |ok le hm s e=>exact .ok le (by lia) s e
 |ex lt hm e=>exact .ex lt (by lia) e
end
inductive Eu(C:List Ce.Rw)(N:Nat):List D->List Str->List (Str×Option T)->Prop
 |nil:Eu C N [] [] []
 |nm {A:List D}{sc:List Str}{S:List (Str×Option T)} (x:Str) (r:Eu C N A sc S):Eu C N ((T.name x).d::A) (x::sc) ((x,M)::S)
 |val {A:List D}{sc:List Str}{S:List (Str×Option T)}{d:D}{v:Th} (x:Str) (h:Vr C d v) (hn:ThN N v) (r:Eu C N A sc S):Eu C N (d::A) (x::sc) ((x,J (rd v))::S)
theorem Eu.of:∀{ds:List D}{sc:List Str}{ar:Ar},Er C ds sc ar->Rw.ArN N ar->Eu C N ds sc (ra ar)
 |_,_,_,.nil,_=>.nil
 |_,_,_,.cons x h r,z=>.val x h z.1 (Eu.of r z.2)
theorem Eu.get:∀{A:List D}{sc:List Str}{S:List (Str×Option T)}{i:Nat},Eu C N A sc S->Tx.place x sc=J i->∃d,A[i]?=J d/\((d=(T.name x).d/\get S x=M)\/∃v,Vr C d v/\ThN N v/\get S x=J (rd v))
 |_,_,_,i,.nil,h=>by cases h
 |_,_,_,i,.nm y r,h=>by
  rw[Tx.place]at h;rw[Tm.get];split at h
  . rename_i e;cases h;subst e;exact⟨_,rfl,.inl ⟨rfl,if_pos rfl⟩⟩
  . rename_i ne;cases q:Tx.place x _ with
    |none=>rw[q]at h;cases h
    |some j=>rw[q]at h;cases h;obtain⟨d,e1,e2⟩:=r.get q;exact⟨d,by simpa using e1,by rw[if_neg ne];exact e2⟩
 |_,_,_,i,.val y hv hn r,h=>by
  rw[Tx.place]at h;rw[Tm.get];split at h
  . rename_i e;cases h;exact⟨_,rfl,.inr ⟨_,hv,hn,if_pos e⟩⟩
  . rename_i ne;cases q:Tx.place x _ with
    |none=>rw[q]at h;cases h
    |some j=>rw[q]at h;cases h;obtain⟨d,e1,e2⟩:=r.get q;exact⟨d,by simpa using e1,by rw[if_neg ne];exact e2⟩
def Zhh(h:get r x=get t x):get ((y,o)::r) x=get ((y,o)::t) x:=by rw[Tm.get,Tm.get,h]
theorem Zbu:∀(e:T) {r t:List (Str×Option T)},(∀x,get r x=get t x)->sub r e=sub t e
 |.num _,_,_,_=>rfl
 |.name x,_,_,h=>by rw[sub,sub,h x]
 |.fn x e,r,t,h=>by rw[sub,sub,Zbu e λy=>Zhh (h y)]
 |.rcc f x e,r,t,h=>by rw[sub,sub,Zbu e λy=>Zhh (Zhh (h y))]
 |.call f a,_,_,h=>by rw[sub,sub,Zbu f h,Zbu a h]
 |.iff p q s,_,_,h=>by rw[sub,sub,Zbu p h,Zbu q h,Zbu s h]
 |.op w f a,_,_,h=>by rw[sub,sub,Zbu f h,Zbu a h]
def Zek:sub ((x,M)::(f,M)::r) e=sub ((f,M)::(x,M)::r) e:=Zbu e λy=>by rw[Tm.get,Tm.get,Tm.get,Tm.get];split<;>split<;>rfl
end
end Cr
namespace Cr
open PySem L2 IV
open Rw (Th Ar ThN rd ra)
open Cs (Vr Er ZbE)
open Ce (fr Z1 ZW Cd psh)
open Tm (sub get Zb Zm)
section
variable {P:Pg}{h0 h:Hd}{C:List Ce.Rw}{k c pk bk n N:Nat}{W:Nat->Hd->qe (Fl×Ev)}{L:Bool}
def Nb(bg:List Bg)(p p':Nat):Prop:=∀q,tp bg=J q->q<p\/p'<=q
def Nb.at(h:Nb bg p p')(R:p<=q)(h2:q<p'):tp bg≠J q:=λz=>by have:=h q z;lia
def Nb.sub(h:Nb bg p p')(R:p<=q)(h2:q'<=p'):Nb bg q q':=λj z=>by have:=h j z;lia
def ZoJ:tp (bg++[.fn ns p A])=M:=by simp[tp]
def ZgS:tp (bg++[.iff q])=J q:=by simp[tp]
def Zdo:bg++[x]≠[]:=by simp
section
variable (H:Dec P)(K:Lpk P n C k c pk bk h0 L W)(hN:2*N<=40000)
include H K
theorem Zqv(s:Ds C k c pk bk h0 h q (names ns++ds) pl dn (bg++[.fn ns p A]) (u+1))(hb:C[q']?=J .back)(hn:ns.length=1\/ns.length=2)(hu:u+1<=120)(hd:dn.length<=u)(et:t=fnT ns (sub S e))(zt:t.size=1+(sub S e).size)
 (ih:Pc C k c pk bk h0 W h q' (names ns++ds) pl (dn++[(sub S e).d]) (bg++[.fn ns p A]) (u+1+(sub S e).size) (4*(sub S e).size-3) (4*(121-(u+1)))):Pc C k c pk bk h0 W h p A pl (dn++[t.d]) bg (u+t.size) (4*t.size-4) (4*(121-u)-1):=by
 have sp:=Zm (sub S e);refine ih.bind (u2:=u+t.size) (B2:=1) (X2:=1) (λR s1 az=>?_) (by lia) (by lia) (by lia) (λz=>by lia);rw[show u+t.size=u+1+(sub S e).size by lia,et];exact Pc.turn K s1 (.inl Zdo) (ZK H n s1 (by rw[ZoJ];nofun) hb λsq=>Zig H n sq (ZnB H (n+1) sq hn az (by lia)))
include hN
theorem dec:∀(m:Nat) (t:T) {sc:List Str}{l:Bool}{p p' u:Nat}{A dn:List D}{pl:List (Nat×List D)}{bg:List Bg}{S:List (Str×Option T)}{h:Hd},(sub S t).size<=m->Cd C sc l p t p'->Eu C N A sc S->A.length+2*t.size<=50000->Ds C k c pk bk h0 h p A pl dn bg u->u<=120->dn.length<=u->bg.length<=2*u->(L=Wx\/bg≠[])->Nb bg p p' ->
 Pc C k c pk bk h0 W h p' A pl (dn++[(sub S t).d]) bg (u+(sub S t).size) (4*(sub S t).size-3) (4*(121-u)):=by
 intro m;induction m with
 |zero=>intro t sc l p p' u A dn pl bg S h z;have:=Zm (sub S t);lia
 |succ m ih=>
  intro t sc l p p' u A dn pl bg S h hz cd eu hA s hu hd kf hL nb;have cond:∀{q:Nat}{r:Ce.Rw},C[q]?=J r->r≠.fin->(bg≠[]\/(L=Wx/\∃r,C[q]?=J r/\r≠.fin)):=λhc nf=>hL.elim (λz=>.inr ⟨z,_,hc,nf⟩) .inl;have leaf:∀{r:Ce.Rw}{w:Str}{ds:List D}{d:D},C[p]?=J r->r≠.fin->p'=p+1->psh A r=J d->d=.tup (.str w::ds)->w≠O "clo" -> (sub S t).d=d->(sub S t).size=1->Pc C k c pk bk h0 W h p' A pl (dn++[(sub S t).d]) bg (u+(sub S t).size) (4*(sub S t).size-3) (4*(121-u)):=λ{r w ds d} hc nf ep hp ed hw e1 e2=>by rw[e1,e2,ep];refine(Pc.turn K s (cond hc nf) (ZK H n s (nb.at (Oq _) (ZbE cd)) hc λsq=>ZjQ H n sq hp ?_)).le (by lia) (by lia);exact Zmg H (n+1) sq hu ed hw (by lia)
  have cP:∀{r:Ce.Rw}{ns aG:List Str}{q q':Nat}{ds:List D}{e:T}{ρ':List (Str×Option T)},C[p]?=J r->r≠.fin->p'=p+1->psh A r=J (Z1 q ns ds)->(ns.length=1\/ns.length=2)->Cd C aG Wx q e q'->C[q']?=J .back->Eu C N (names ns++ds) aG ρ'->(names ns++ds).length+2*e.size<=50000->sub S t=fnT ns (sub ρ' e)->(sub S t).size=1+(sub ρ' e).size->Pc C k c pk bk h0 W h p' A pl (dn++[(sub S t).d]) bg (u+(sub S t).size) (4*(sub S t).size-3) (4*(121-u)):=λ{r ns aG q q' ds e ρ'} hc nf ep hp hn cq hb eq hq e1 e2=>by
   subst ep;have sp:=Zm (sub ρ' e);have hl:(names ns).length=ns.length:=by simp[names]
   rw[OA,hl]at hq;have a:Pc C k c pk bk h0 W h q (names ns++ds) pl dn (bg++[.fn ns (p+1) A]) (u+1) 1 1:=Pc.turn K s (cond hc nf) (ZK H n s (nb.at (Oq _) (ZbE cd)) hc λsq=>ZjQ H n sq hp (Zmh H (n+1) sq hu (by lia) (by lia) (by lia)));refine a.bind (B2:=4*(sub S t).size-4) (X2:=4*(121-u)-1) (λR s1 az=>?_) (by lia) (by lia) (by lia) (λz=>by lia);exact Zqv H K s1 hb hn az hd e1 e2 (ih e (by lia) cq eq (by rw[OA,hl];exact hq) s1 az (by lia) (by simp;lia) (.inr Zdo) (λj z=>by rw[ZoJ]at z;cases z))
  have two:∀{f a:T}{p1 p2:Nat}{w:Str},Cd C sc Wy p f p1->Cd C sc Wy p1 a p2->p'=p2+1->(sub S t).d=.tup [.str w,(sub S f).d,(sub S a).d]->(sub S t).size=1+((sub S f).size+(sub S a).size)->t.size=1+(f.size+a.size)->(∃r,C[p2]?=J r/\r≠.fin/\∀{h':Hd}{dk u':Nat}{x y:D},Dq C k c pk bk h0 h' dk (p2+1) A pl (dn++[x,y]) bg u'->u'<=120->On C k c pk bk h0 (p2+1) A pl (dn++[.tup [.str w,x,y]]) bg (u'+1) (run P (n+4) (mnm (O "Decoder") (O "do_row")) [.ref c,r.d] h'))->Pc C k c pk bk h0 W h p' A pl (dn++[(sub S t).d]) bg (u+(sub S t).size) (4*(sub S t).size-3) (4*(121-u)):=λ{f a p1 p2 w} c1 c2 ep e1 e2 e3 ⟨r,hc,nf,on⟩=>by subst ep;have l1:=ZbE c1;have l2:=ZbE c2;have sf:=Zm (sub S f);have sa:=Zm (sub S a);refine(ih f (by lia) c1 eu (by lia) s hu hd kf hL (nb.sub (Oq _) (by lia))).bind (B2:=4*(sub S a).size-2) (X2:=4*(121-(u+(sub S f).size))+1) (λR s1 az=>?_) (by lia) (by lia) (by lia) (λz=>by lia);refine(ih a (by lia) c2 eu (by lia) s1 az (by simp;lia) (by lia) hL (nb.sub (by lia) (by lia))).bind (B2:=1) (X2:=1) (λh2 s2 bW=>?_) (by lia) (by lia) (by lia) (λz=>by lia);rw[Oz]at s2;have o:=ZK H n s2 (nb.at (by lia) (by lia)) hc λsq=>on sq bW;rw[e1,e2,show u+(1+((sub S f).size+(sub S a).size))=u+(sub S f).size+(sub S a).size+1 by lia];exact Pc.turn K s2 (cond hc nf) o
  cases cd with
  |num hc=>exact leaf hc nofun rfl rfl rfl (by decide) rfl rfl
  |@name _ _ _ i x hc hp=>
   obtain⟨d,e1,e2⟩:=eu.get hp;rcases e2 with⟨rfl,eg⟩|⟨v,hv,hn,eg⟩
   . exact leaf hc nofun rfl e1 rfl (by decide) (by rw[sub,eg];rfl) (by rw[sub,eg];rfl)
   . have es:sub S (.name x)=rd v:=by rw[sub,eg];rfl
     cases hv with
     |num=>exact leaf hc nofun rfl e1 rfl (by decide) (by rw[es];rfl) (by rw[es];rfl)
     |@fn q q' y e ds aG ar cq hb r=>have z:=hn.1;unfold Rw.Bd at z;have z2:=Zb (.fn y e);simp only[T.parts,Op,Oy,OI,List.sum_nil]at z2;refine cP (ns:=[y]) (ρ':=(y,M)::ra ar) hc nofun rfl e1 (.inl rfl) cq hb (.nm y (Eu.of r hn.2)) (by simp[names,r.len];lia) (by rw[es,rd];rfl) ?_;rw[es,rd,sub,Zb];simp[T.parts]
     |@rcc q q' f y e ds aG ar cq hb r=>have z:=hn.1;unfold Rw.Bd at z;have z2:=Zb (.rcc f y e);simp only[T.parts,Op,Oy,OI,List.sum_nil]at z2;refine cP (ns:=[y,f]) (ρ':=(y,M)::(f,M)::ra ar) hc nofun rfl e1 (.inr rfl) cq hb (.nm y (.nm f (Eu.of r hn.2))) (by simp[names,r.len];lia) (by rw[es,rd,sub,Zek];rfl) ?_;rw[es,rd,sub,Zb,Zek];simp[T.parts]
  |@fn _ _ _ q q' y e hc cq hb=>have z2:=Zb (.fn y e);simp only[T.parts,Op,Oy,OI,List.sum_nil]at z2;refine cP (ns:=[y]) (ρ':=(y,M)::S) hc nofun rfl rfl (.inl rfl) cq hb (.nm y eu) (by simp[names];lia) rfl ?_;rw[sub,Zb];simp[T.parts]
  |@rcc _ _ _ q q' f y e hc cq hb=>have z2:=Zb (.rcc f y e);simp only[T.parts,Op,Oy,OI,List.sum_nil]at z2;refine cP (ns:=[y,f]) (ρ':=(y,M)::(f,M)::S) hc nofun rfl rfl (.inr rfl) cq hb (.nm y (.nm f eu)) (by simp[names];lia) (by rw[sub,Zek];rfl) ?_;rw[sub,Zb,Zek];simp[T.parts]
  |@call _ _ _ p1 p2 f a c1 c2 hc=>have z2:=Zb (.call f a);have z3:=Zb (.call (sub S f) (sub S a));simp[T.parts]at z2 z3;exact two c1 c2 rfl rfl z3 z2 ⟨_,hc,by cases l<;>nofun,λsq iX=>ZfO H n (by cases l;exact .inl rfl;exact .inr rfl) sq iX (by lia)⟩
  |@op _ _ _ p1 p2 w f a c1 c2 hc=>have z2:=Zb (.op w f a);have z3:=Zb (.op w (sub S f) (sub S a));simp[T.parts]at z2 z3;exact two c1 c2 rfl rfl z3 z2 ⟨_,hc,nofun,λsq iX=>ZfN H n sq iX (by lia)⟩
  |@iff _ _ _ p1 p2 p3 x y z c1 R c2 h2 c3=>have z2:=Zb (.iff x y z);have z3:=Zb (.iff (sub S x) (sub S y) (sub S z));simp[T.parts]at z2 z3;have l1:=ZbE c1;have l2:=ZbE c2;have l3:=ZbE c3;have sx:=Zm (sub S x);have sy:=Zm (sub S y);have sz:=Zm (sub S z);rw[show(sub S (.iff x y z))=.iff (sub S x) (sub S y) (sub S z)from rfl]at hz ⊢;refine(ih x (by lia) c1 eu (by lia) s hu hd kf hL (nb.sub (Oq _) (by lia))).bind (B2:=4*((sub S y).size+(sub S z).size)-3) (X2:=4*(121-(u+(sub S x).size))+3) (λnZ s1 az=>?_) (by lia) (by lia) (by lia) (λq=>by lia);refine(Pc.turn K s1 (cond R nofun) (ZK H n s1 (nb.at (by lia) (by lia)) R λsq=>ZjP H n sq az h2 (by lia))).bind (B2:=4*((sub S y).size+(sub S z).size)-4) (X2:=4*(121-(u+(sub S x).size))+2) (λjB s2 bW=>?_) (by lia) (by lia) (by lia) (λq=>by lia);refine(ih y (by lia) c2 eu (by lia) s2 bW (by simp;lia) (by simp;lia) (.inr Zdo) (λj q=>by rw[ZgS]at q;cases q;lia)).bind (B2:=4*(sub S z).size-1) (X2:=4*(121-(u+(sub S x).size+(sub S y).size))+2) (λgm s3 iW=>?_) (by lia) (by lia) (by lia) (λq=>by lia);have oj:=ZK H n s3 (by rw[ZgS];intro q;cases q;lia) h2 λsq=>ZgZ H n sq iW;rw[ZgS]at oj;refine(Pc.turn K s3 (.inl Zdo) oj).bind (B2:=4*(sub S z).size-2) (X2:=4*(121-(u+(sub S x).size+(sub S y).size))+1) (λnY s4 iV=>?_) (by lia) (by lia) (by lia) (λq=>by lia);refine(ih z (by lia) c3 eu (by lia) s4 iV (by simp;lia) (by simp;lia) (.inr Zdo) (λj q=>by rw[ZgS]at q;cases q;lia)).bind (B2:=1) (X2:=1) (λnX s5 iU=>?_) (by lia) (by lia) (by lia) (λq=>by lia);rw[Oz,Oz]at s5;have o:=Zmz H n s5 iU (by lia);rw[z3,show u+(1+((sub S x).size+((sub S y).size+(sub S z).size)))=u+(sub S x).size+(sub S y).size+(sub S z).size+1 by lia];exact Pc.turn K s5 (.inl Zdo) o
end
end
end Cr
namespace Cr
open PySem L2 IV
open Rw (Th Ar Wt ThN WtN rd ra fw rnd)
open Cs (Vr Er Cx Dx Hp Ls ZbE)
open Ce (fr Z1 ZW Cd psh)
open Tm (sub get Zb Zm)
section
variable {P:Pg}{h0 h:Hd}{C:List Ce.Rw}{k c pk bk n N:Nat}{W:Nat->Hd->qe (Fl×Ev)}
noncomputable def vs1:Wt->List Th
 |.fn V=>[V]
 |.left _ V=>[V]
 |_=>[]
def tv(ws:List Wt):List Th:=ws.reverse.flatMap vs1
def Zal(w:Wt)(ws:List Wt):tv (w::ws)=tv ws++vs1 w:=by simp[tv]
def ZkV(a b:List Wt):tv (a++b)=tv b++tv a:=by simp[tv]
inductive Sv(C:List Ce.Rw):List D->List Th->Prop
 |nil:Sv C [] []
 |cons {S_:List D}{vs:List Th}{d:D}{v:Th} (h:Vr C d v) (s:Sv C S_ vs):Sv C (d::S_) (v::vs)
def Sv.app(a:Sv C S_ vs)(b:Sv C S' vs'):Sv C (S_++S') (vs++vs'):=by
 induction a with
 |nil=>exact b
 |cons h s ih=>exact .cons h ih
def Cx.sv(x:Cx C b sc ar p S_ ws):Sv C S_ (tv ws):=by
 induction x with
 |fin _=>exact .nil
 |back _=>exact .nil
 |jmp _ _ _ ih=>exact ih
 |app _ _ v _ ih=>rw[Zal];exact ih.app (.cons v .nil)
 |arg _ _ _ _ ih=>rw[Zal];simpa[vs1]using ih
 |work _ v _ ih=>rw[Zal];exact ih.app (.cons v .nil)
 |right _ _ _ ih=>rw[Zal];simpa[vs1]using ih
 |cho _ _ _ _ _ _ ih=>rw[Zal];simpa[vs1]using ih
theorem Dx.sv(x:Dx C b pl S_ vs):Sv C S_ (tv vs):=by
 induction x with
 |nil=>exact .nil
 |cons r kx hw hc x ih=>rw[ZkV];exact ih.app (Cx.sv kx)
def dns(vs:List Th):List D:=vs.map λv=>(rd v).d
def szs(vs:List Th):Nat:=(vs.map λv=>(rd v).size).sum
def Zeu(a b:List Th):dns (a++b)=dns a++dns b:=by simp[dns]
def ZaQ(a b:List Th):szs (a++b)=szs a+szs b:=by simp[szs]
def ZaE(a:List Th):(dns a).length<=szs a:=by
 induction a with
 |nil=>exact Oq _
 |cons v a ih=>have:=Zm (rd v);simp[dns,szs]at *;lia
inductive Fo(C:List Ce.Rw)(k c pk bk:Nat)(h0:Hd)(W:Nat->Hd->qe (Fl×Ev))(h:Hd)(t:T)(B_:Nat):Prop
 |ok {h':Hd}{m p:Nat}{A:List D} (le:t.size<=120) (hm:m<=B_) (hc:C[p]?=J .fin) (s:Ds C k c pk bk h0 h' p A [] [t.d] [] t.size) (e:∀f,W (m+f) h=W f h'):Fo C k c pk bk h0 W h t B_
 |ex {g:Hd}{m:Nat} (lt:120<t.size) (hm:m<=B_) (e:∀f,W (m+f) h=.exc (O "Wide") (h0++g)):Fo C k c pk bk h0 W h t B_
def Fo.bind(a:Pc C k c pk bk h0 W h p A pl dn bg u B1 X1)(b:∀R,Ds C k c pk bk h0 R p A pl dn bg u->u<=120->Fo C k c pk bk h0 W R t B2)(hu:u<=t.size)(hX:X1<=B_)(hB:u<=120->B1+B2<=B_):Fo C k c pk bk h0 W h t B_:=by
 cases a with
 |ex lt hm e=>exact .ex (by lia) (by lia) e
 |@ok h' m le hm s e=>
  have:=hB le;cases b h' s le with
  |@ok h2 m2 p2 A2 le2 hm2 hc s2 e2=>exact .ok le2 (m:=m+m2) (by lia) hc s2 λf=>by rw[Nat.add_assoc,e,e2]
  |@ex g m2 lt hm2 e2=>exact .ex lt (m:=m+m2) (by lia) λf=>by rw[Nat.add_assoc,e,e2]
noncomputable def mx(G p l u:Nat):Nat:=4*(121-u)+8+3*(G-p)+l*(3*G+3)
def Zgt(e:C[p]?=J r):p<C.length:=(Ob.mp e).1
def Zad(ws:List Wt)(t:T):t.size+szs (tv ws)<=(rnd ws t).size:=by
 induction ws generalizing t with
 |nil=>simp[tv,szs,rnd]
 |cons w ws ih=>
  have q:=ih (fw w t);rw[Zal,ZaQ,show rnd (w::ws) t=rnd ws (fw w t)from rfl];have:t.size+szs (vs1 w)<=(fw w t).size:=by
   cases w with
   |arg A ar=>rw[fw,Zb (.call _ _)];simp[T.parts,vs1,szs];lia
   |fn V=>rw[fw,Zb (.call _ _)];simp[T.parts,vs1,szs];lia
   |iff a b ar=>rw[fw,Zb (.iff _ _ _)];simp[T.parts,vs1,szs];lia
   |right w F ar=>rw[fw,Zb (.op _ _ _)];simp[T.parts,vs1,szs];lia
   |left w V=>rw[fw,Zb (.op _ _ _)];simp[T.parts,vs1,szs];lia
  lia
section
variable (H:Dec P)(K:Lpk P n C k c pk bk h0 Wx W)(hN:2*N<=40000)
include H K hN
theorem ctx(kx:Cx C b sc ar p S_ ws):∀{E:List D}{pl:List (Nat×List D)}{vs:List Wt}{t:T}{h:Hd},Er C E sc ar->(∀w∈ws,WtN N w)->(∀{t:T}{h:Hd}{p':Nat}{A:List D},(b=Wx->C[p']?=J .back)->(b=Wy->C[p']?=J .fin)->Ds C k c pk bk h0 h p' A pl (dns (tv vs)++[t.d]) [] (szs (tv vs)+t.size)->szs (tv vs)+t.size<=120->Fo C k c pk bk h0 W h (rnd vs t) (mx C.length C.length pl.length (szs (tv vs)+t.size))) ->
 Ds C k c pk bk h0 h p E pl (dns (tv vs)++dns (tv ws)++[t.d]) [] (szs (tv vs)+szs (tv ws)+t.size)->szs (tv vs)+szs (tv ws)+t.size<=120->Fo C k c pk bk h0 W h (rnd vs (rnd ws t)) (mx C.length p pl.length (szs (tv vs)+szs (tv ws)+t.size)):=by
 have nt:∀q,tp ([]:List Bg)≠J q:=nofun
 have mono:∀{h:Hd}{t:T}{B_ B':Nat},Fo C k c pk bk h0 W h t B_->B_<=B'->Fo C k c pk bk h0 W h t B':=λf hb=>by
  cases f with
  |ok le hm hc s e=>exact .ok le (by lia) hc s e
  |ex lt hm e=>exact .ex lt (by lia) e
 induction kx with
 |fin hc=>intro E pl vs t h er hw fin s hu;rw[show dns (tv ([]:List Wt))=[]from rfl,Ys]at s;rw[show szs (tv ([]:List Wt))=0 from rfl,Nat.add_zero]at s hu ⊢;show Fo C k c pk bk h0 W h (rnd vs t) _;exact mono (fin nofun (λ_=>hc) s hu) (by simp only[mx];lia)
 |back hc=>intro E pl vs t h er hw fin s hu;rw[show dns (tv ([]:List Wt))=[]from rfl,Ys]at s;rw[show szs (tv ([]:List Wt))=0 from rfl,Nat.add_zero]at s hu ⊢;show Fo C k c pk bk h0 W h (rnd vs t) _;exact mono (fin (λ_=>hc) nofun s hu) (by simp only[mx];lia)
 |@jmp b sc ar p q S_ ws hc hq kx ih=>intro E pl vs t h er hw fin s hu;have lp:=Zgt hc;have o:=ZK H n s (nt _) hc λsq=>ZgZ H n sq hu;exact Fo.bind (Pc.turn K s (.inr ⟨rfl,_,hc,nofun⟩) o) (λR s1 az=>ih er hw fin s1 az) (by have:=Zad vs (rnd ws t);have:=Zad ws t;lia) (by simp only[mx];lia) (λz=>by simp only[mx];lia)
 |@app b sc ar p S_ ws r d V hc hr v kx ih=>
  intro E pl vs t h er hw fin s hu;have lp:=Zgt hc;have zc:=Zb (.call (rd V) t);simp[T.parts]at zc;have e1:dns (tv (.fn V::ws))=dns (tv ws)++[(rd V).d]:=by rw[Zal,Zeu];rfl
  have e2:szs (tv (.fn V::ws))=szs (tv ws)+(rd V).size:=by rw[Zal,ZaQ];simp[vs1,szs]
  rw[e1]at s;rw[e2]at s hu ⊢;rw[<-Oz,Oz _ [(rd V).d]]at s;have l1:=ZaE (tv vs);have l2:=ZaE (tv ws);have dJ:r=.call\/r=.hop:=hr.elim (λz=>.inl z.1) (λz=>.inr z.1);have o:=ZK H n s (nt _) hc λsq=>ZfO H n dJ sq hu (by simp;lia);have nf:r≠.fin:=by rcases dJ with rfl|rfl<;>nofun
  rw[show szs (tv vs)+(szs (tv ws)+(rd V).size)+t.size+1=szs (tv vs)+szs (tv ws)+(T.call (rd V) t).size by lia]at o;have zr:=Zad ws (.call (rd V) t);have zq:=Zad vs (rnd ws (.call (rd V) t));exact Fo.bind (Pc.turn K s (.inr ⟨rfl,_,hc,nf⟩) o) (λR s1 az=>ih (t:=.call (rd V) t) er (λw cB=>hw w (Oh _ cB)) fin s1 az) (by show _<=(rnd vs (rnd ws (.call (rd V) t))).size;lia) (by simp only[mx];lia) (λz=>by simp only[mx];lia)
 |@work b sc ar p S_ ws w d V hc v kx ih=>
  intro E pl vs t h er hw fin s hu;have lp:=Zgt hc;have zc:=Zb (.op w (rd V) t);simp[T.parts]at zc;have e1:dns (tv (.left w V::ws))=dns (tv ws)++[(rd V).d]:=by rw[Zal,Zeu];rfl
  have e2:szs (tv (.left w V::ws))=szs (tv ws)+(rd V).size:=by rw[Zal,ZaQ];simp[vs1,szs]
  rw[e1]at s;rw[e2]at s hu ⊢;rw[<-Oz,Oz _ [(rd V).d]]at s;have l1:=ZaE (tv vs);have l2:=ZaE (tv ws);have o:=ZK H n s (nt _) hc λsq=>ZfN H n sq hu (by simp;lia);rw[show szs (tv vs)+(szs (tv ws)+(rd V).size)+t.size+1=szs (tv vs)+szs (tv ws)+(T.op w (rd V) t).size by lia]at o;have zr:=Zad ws (.op w (rd V) t);have zq:=Zad vs (rnd ws (.op w (rd V) t));exact Fo.bind (Pc.turn K s (.inr ⟨rfl,_,hc,nofun⟩) o) (λR s1 az=>ih (t:=.op w (rd V) t) er (λw cB=>hw w (Oh _ cB)) fin s1 az) (by show _<=(rnd vs (rnd ws (.op w (rd V) t))).size;lia) (by simp only[mx];lia) (λz=>by simp only[mx];lia)
 |@arg b sc ar p p1 S_ ws r A cd hc hr kx ih=>
  intro E pl vs t h er hw fin s hu;have lp:=Zgt hc;have lc:=ZbE cd;have wn:=hw _ Oi;have bd:=wn.1;unfold Rw.Bd at bd;have sa:=Zm (sub (ra ar) A);have zc:=Zb (.call t (sub (ra ar) A));simp[T.parts]at zc;have e1:tv (.arg A ar::ws)=tv ws:=by rw[Zal];simp[vs1]
  rw[e1]at s hu ⊢;have l1:=ZaE (tv vs);have l2:=ZaE (tv ws);have dJ:r=.call\/r=.hop:=hr.elim (λz=>.inl z.1) (λz=>.inr z.1);have nf:r≠.fin:=by rcases dJ with rfl|rfl<;>nofun
  have zr:=Zad ws (.call t (sub (ra ar) A));have zq:=Zad vs (rnd ws (.call t (sub (ra ar) A)));have st:=Zm t;refine Fo.bind (dec H K hN _ A (Oq _) cd (Eu.of er wn.2) (by rw[er.len];lia) s hu (by simp;lia) (by simp) (.inl rfl) nofun) (B2:=1+mx C.length (p1+1) pl.length (szs (tv vs)+szs (tv ws)+(T.call t (sub (ra ar) A)).size)) (λR s1 az=>?_) (by show _<=(rnd vs (rnd ws (.call t (sub (ra ar) A)))).size;lia) (by simp only[mx];lia) (λz=>by simp only[mx];lia);rw[Oz _ [t.d]]at s1;have o:=ZK H n s1 (nt _) hc λsq=>ZfO H n dJ sq az (by simp;lia);rw[show szs (tv vs)+szs (tv ws)+t.size+(sub (ra ar) A).size+1=szs (tv vs)+szs (tv ws)+(T.call t (sub (ra ar) A)).size by lia]at o;exact Fo.bind (Pc.turn K s1 (.inr ⟨rfl,_,hc,nf⟩) o) (λh2 s2 bW=>ih (t:=.call t (sub (ra ar) A)) er (λw cB=>hw w (Oh _ cB)) fin s2 bW) (by show _<=(rnd vs (rnd ws (.call t (sub (ra ar) A)))).size;lia) (by lia) (λz=>by lia)
 |@right b sc ar p p1 S_ ws w A cd hc kx ih=>
  intro E pl vs t h er hw fin s hu;have lp:=Zgt hc;have lc:=ZbE cd;have wn:=hw _ Oi;have bd:=wn.1;unfold Rw.Bd at bd;have sa:=Zm (sub (ra ar) A);have zc:=Zb (.op w t (sub (ra ar) A));simp[T.parts]at zc;have e1:tv (.right w A ar::ws)=tv ws:=by rw[Zal];simp[vs1]
  rw[e1]at s hu ⊢;have l1:=ZaE (tv vs);have l2:=ZaE (tv ws);have zr:=Zad ws (.op w t (sub (ra ar) A));have zq:=Zad vs (rnd ws (.op w t (sub (ra ar) A)));have st:=Zm t;refine Fo.bind (dec H K hN _ A (Oq _) cd (Eu.of er wn.2) (by rw[er.len];lia) s hu (by simp;lia) (by simp) (.inl rfl) nofun) (B2:=1+mx C.length (p1+1) pl.length (szs (tv vs)+szs (tv ws)+(T.op w t (sub (ra ar) A)).size)) (λR s1 az=>?_) (by show _<=(rnd vs (rnd ws (.op w t (sub (ra ar) A)))).size;lia) (by simp only[mx];lia) (λz=>by simp only[mx];lia);rw[Oz _ [t.d]]at s1;have o:=ZK H n s1 (nt _) hc λsq=>ZfN H n sq az (by simp;lia);rw[show szs (tv vs)+szs (tv ws)+t.size+(sub (ra ar) A).size+1=szs (tv vs)+szs (tv ws)+(T.op w t (sub (ra ar) A)).size by lia]at o;exact Fo.bind (Pc.turn K s1 (.inr ⟨rfl,_,hc,nofun⟩) o) (λh2 s2 bW=>ih (t:=.op w t (sub (ra ar) A)) er (λw cB=>hw w (Oh _ cB)) fin s2 bW) (by show _<=(rnd vs (rnd ws (.op w t (sub (ra ar) A)))).size;lia) (by lia) (λz=>by lia)
 |@cho b l sc ar p p2 p3 S_ ws x y hc ct hj ce hl kx ih=>
  intro E pl vs t h er hw fin s hu;have lp:=Zgt hc;have lj:=Zgt hj;have lc:=ZbE ct;have le:=ZbE ce;have wn:=hw _ Oi;have bx:=wn.1.1;have nw:=wn.1.2;unfold Rw.Bd at bx nw;have sx:=Zm (sub (ra ar) x);have sy:=Zm (sub (ra ar) y);have st:=Zm t;have zc:=Zb (.iff t (sub (ra ar) x) (sub (ra ar) y));simp[T.parts]at zc;have e1:tv (.iff x y ar::ws)=tv ws:=by rw[Zal];simp[vs1]
  rw[e1]at s hu ⊢;have l1:=ZaE (tv vs);have l2:=ZaE (tv ws);generalize hq:T.iff t (sub (ra ar) x) (sub (ra ar) y)=q at *;have zr:=Zad ws q;have zq:=Zad vs (rnd ws q);have zz:(rnd vs (rnd (.iff x y ar::ws) t))=rnd vs (rnd ws q):=by rw[<-hq];rfl
  rw[zz];have jR:∀{a b':Nat},b'<=p3->Nb ([]++[.iff p3]) a b':=λhb j z=>by rw[ZgS]at z;cases z;exact .inr hb
  generalize hM:mx C.length p3 pl.length (szs (tv vs)+szs (tv ws)+q.size)=qd at ih;have mU:szs (tv vs)+szs (tv ws)+q.size<=121->4*(1+((sub (ra ar) x).size+(sub (ra ar) y).size))+qd+3<=mx C.length p pl.length (szs (tv vs)+szs (tv ws)+t.size):=λz=>by rw[<-hM];simp only[mx];lia
  have nV:4*(121-(szs (tv vs)+szs (tv ws)+t.size))+8+3<=mx C.length p pl.length (szs (tv vs)+szs (tv ws)+t.size):=by simp only[mx];lia
  generalize mx C.length p pl.length (szs (tv vs)+szs (tv ws)+t.size)=G at *;have a1:=Pc.turn K s (.inr ⟨rfl,_,hc,nofun⟩) (ZK H n s (nt _) hc λsq=>ZjP H n sq hu hj (by simp));have a2:Pc C k c pk bk h0 W h p3 E pl (dns (tv vs)++dns (tv ws)++[q.d]) [] (szs (tv vs)+szs (tv ws)+q.size) (4*(1+((sub (ra ar) x).size+(sub (ra ar) y).size))+3) (4*(121-(szs (tv vs)+szs (tv ws)+t.size))+8):=by
   refine a1.bind (B2:=4*(1+((sub (ra ar) x).size+(sub (ra ar) y).size))+2) (X2:=4*(121-(szs (tv vs)+szs (tv ws)+t.size))+7) (λR s1 az=>?_) (by lia) (by lia) (by lia) (λz=>by lia);refine(dec H K hN _ x (Oq _) ct (Eu.of er wn.2) (by rw[er.len];lia) s1 az (by simp;lia) (by simp;lia) (.inl rfl) (jR (by lia))).bind (B2:=4*(1+(sub (ra ar) y).size)+2) (X2:=4*(121-(szs (tv vs)+szs (tv ws)+t.size+(sub (ra ar) x).size))+7) (λh2 s2 bW=>?_) (by lia) (by lia) (by lia) (λz=>by lia);have oj:=ZK H n s2 (by rw[ZgS];intro q;cases q;lia) hj λsq=>ZgZ H n sq bW;rw[ZgS]at oj;refine(Pc.turn K s2 (.inl Zdo) oj).bind (B2:=4*(1+(sub (ra ar) y).size)+1) (X2:=4*(121-(szs (tv vs)+szs (tv ws)+t.size+(sub (ra ar) x).size))+6) (λh3 s3 iW=>?_) (by lia) (by lia) (by lia) (λz=>by lia);refine(dec H K hN _ y (Oq _) ce (Eu.of er wn.2) (by rw[er.len];lia) s3 iW (by simp;lia) (by simp;lia) (.inl rfl) (jR (Oq _))).bind (B2:=1) (X2:=1) (λh4 s4 iV=>?_) (by lia) (by lia) (by lia) (λz=>by lia);rw[Oz _ [t.d],Oz _ _ [(sub (ra ar) y).d]]at s4;have o:=Zmz H n s4 iV (by simp;lia);rw[show szs (tv vs)+szs (tv ws)+t.size+(sub (ra ar) x).size+(sub (ra ar) y).size+1=szs (tv vs)+szs (tv ws)+q.size by lia]at o;have ed:q.d=.tup [.str (O "if"),t.d,(sub (ra ar) x).d,(sub (ra ar) y).d]:=by rw[<-hq];rfl
   rw[ed];exact Pc.turn K s4 (.inl Zdo) o
  exact Fo.bind (B2:=qd) a2 (λh5 s5 iU=>by rw[<-hM];exact ih (t:=q) er (λw cB=>hw w (Oh _ cB)) fin s5 iU) (by lia) (by lia) (λz=>by have:=mU (by lia);lia)
end
end
end Cr
namespace Cr
open PySem L2 IV
open Rw (Th Ar Wt ThN WtN StN rd ra fw rnd read Sta)
open Cs (Vr Er Cx Dx Rc ZbE)
open Ce (fr Z1 ZW Cd psh Ma Zah keep ZbL)
open Tm (sub get Zb Zm Zbc grown)
section
variable {P:Pg}{h0 h:Hd}{C:List Ce.Rw}{k c pk bk n N p u:Nat}{A dn:List D}{pl:List (Nat×List D)}
def wW(P:Pg)(n c:Nat)(d:D)(f:Nat)(h:Hd):qe (Fl×Ev):=Zaj (tst (P.tbl (n+5)) Zbe) (xs2 (P.tbl (n+5)) Zbd) f (vt c d) h
def wA(P:Pg)(n c:Nat)(f:Nat)(h:Hd):qe (Fl×Ev):=Zaj (tst (P.tbl (n+5)) Z5) (xs2 (P.tbl (n+5)) Zcb) f [J (.ref c)] h
def Ze8(hρ:(S[0]?).join=J (.ref c))(s:Ds C k c pk bk h0 h p A pl dn bg u):tst U (.ex (.att [O "Decoder"] (.var 0) (O "begun"))) S h=.ok (!bg.isEmpty) h:=by obtain⟨dk,s⟩:=s;refine Zi (Zgd (g_a hρ s.o Zae rfl) s.b) ?_;cases bg<;>rfl
def ZuE(h:bg≠[]):(!bg.isEmpty)=Wx:=by cases bg;exact absurd rfl h;rfl
def kW:Lpk P n C k c pk bk h0 Wy (wW P n c d):=by
 constructor
 . intro f h h' p A pl dn bg u s hc e;obtain⟨dk,s'⟩:=id s;have hb:bg≠[]:=hc.elim id (λz=>by cases z.1);exact Ze6 (Zi (Ze8 rfl s) (ZuE hb)) ((Za (ZU (ZB rfl s'.o rfl ZH e))).trans rfl)
 . intro f h h' w p A pl dn bg u s hc e;obtain⟨dk,s'⟩:=id s;have hb:bg≠[]:=hc.elim id (λz=>by cases z.1);exact ZlZ (Zi (Ze8 rfl s) (ZuE hb)) (ZcR (Zhx (ZB rfl s'.o rfl ZH e)))
def Zs0(s:Ds C k c pk bk h0 h p A pl dn bg u)(hb:bg=[])(hc:C[p]?=J r):tst (P.tbl (n+5)) Z5 [J (.ref c)] h=.ok (!Wz (Ce.wd r="end")) h:=by subst hb;have t1:=Ze8 (U:=P.tbl (n+5)) (S:=[J (.ref c)]) rfl s;obtain⟨dk,s⟩:=s;refine Zlk t1 ?_;obtain⟨ds,ed⟩:=Ce.Zkr r;have e1:ev (P.tbl (n+5)) (.ix (.ix (.att [O "Decoder"] (.var 0) (O "code")) (.att [O "Decoder"] (.var 0) (O "at"))) (.ci 0)) [J (.ref c)] h=.ok (.str (Str.ofString (Ce.wd r))) h:=(Zr (x:=r.d) ((Zr (g_a rfl s.o Zae rfl) (g_a (d:=.int (p:Int)) rfl s.o Zae rfl)).trans (ZbL s.kc hc)) rfl).trans (by rw[ed];simp);refine ZbM ((Zv e1 rfl).trans ?_);rw[Zln,ZdO];simp
def kA:Lpk P n C k c pk bk h0 Wx (wA P n c):=by
 have tt:∀{h:Hd}{p:Nat}{A:List D}{pl:List (Nat×List D)}{dn:List D}{bg:List Bg}{u:Nat},Ds C k c pk bk h0 h p A pl dn bg u->(bg≠[]\/(Wx=Wx/\∃r,C[p]?=J r/\r≠.fin))->tst (P.tbl (n+5)) Z5 [J (.ref c)] h=.ok Wx h:=λ{h p A pl dn bg u} s hc=>by
  by_cases hb:bg=[]
  . obtain⟨_,r,e,nf⟩:=hc.elim (λz=>absurd hb z) id;refine Zi (Zs0 s hb e) ?_;cases r<;>first|exact absurd rfl nf|simp[Ce.wd]
  . exact ZrK (Zi (Ze8 rfl s) (ZuE hb))
 constructor
 . intro f h h' p A pl dn bg u s hc e;obtain⟨dk,s'⟩:=id s;exact Ze6 (tt s hc) ((Za (ZU (ZB rfl s'.o rfl ZH e))).trans rfl)
 . intro f h h' w p A pl dn bg u s hc e;obtain⟨dk,s'⟩:=id s;exact ZlZ (tt s hc) (ZcR (Zhx (ZB rfl s'.o rfl ZH e)))
def ZiS(H:Dec P)(hN:2*N<=40000)(hv:Vr C d v)(hn:ThN N v)(s:Ds C k c pk bk h0 h p A pl dn [] u)(hu:u<=120)(hd:dn.length<=u):On C k c pk bk h0 p A pl (dn++[(rd v).d]) [] (u+(rd v).size) (run P (n+6) (mnm (O "Decoder") (O "put_whole")) [.ref c,d] h):=by
 have hL:1000000<=P.L:=H.c.big;obtain⟨dk,s⟩:=s;rw[Zz H.n_Decoder_put_whole H.Decoder_put_whole (by rfl)];show On C k c pk bk h0 p A pl (dn++[(rd v).d]) [] (u+(rd v).size) (Ze (xs2 (P.tbl (n+5)) (.cons Zx (.cons Zo .nil)) (vt c d) h));have fin:∀{R h2:Hd}{m:Nat},m<=900000->(∀f,wW P n c d (m+f) R=wW P n c d f h2)->Ds C k c pk bk h0 h2 p A pl (dn++[(rd v).d]) [] (u+(rd v).size)->u+(rd v).size<=120->On C k c pk bk h0 p A pl (dn++[(rd v).d]) [] (u+(rd v).size) (Ze (xs2 (P.tbl (n+5)) (.cons Zo .nil) (vt c d) R)):=λ{R h2 m} hm e s2 le=>by
  obtain⟨f,hf⟩:∃f,P.L=m+(f+1):=⟨P.L-m-1,by lia⟩
  have q:xs1 (P.tbl (n+5)) Zo (vt c d) R=.ok (.nx,vt c d) h2:=by show wW P n c d P.L R=_;rw[hf,e];exact ZgH (Ze8 rfl s2)
  rw[Za q];exact .ok le s2
 have o1:∀{p' u':Nat}{A' aM:List D}{bb:List Bg},On C k c pk bk h0 p' A' pl aM bb u' (run P (n+5) (mnm (O "Decoder") (O "put_on")) [.ref c,d] h)->(120<u'->120<u+(rd v).size)->(∀R,Ds C k c pk bk h0 R p' A' pl aM bb u'->u'<=120->On C k c pk bk h0 p A pl (dn++[(rd v).d]) [] (u+(rd v).size) (Ze (xs2 (P.tbl (n+5)) (.cons Zo .nil) (vt c d) R)))->On C k c pk bk h0 p A pl (dn++[(rd v).d]) [] (u+(rd v).size) (Ze (xs2 (P.tbl (n+5)) (.cons Zx (.cons Zo .nil)) (vt c d) h)):=λ{p' u' A' aM bb} o hx hk=>by
  generalize hr:run P (n+5) (mnm (O "Decoder") (O "put_on")) [.ref c,d] h=r at o;cases o with
  |@ok R le s1=>have x:xs1 (P.tbl (n+5)) Zx (vt c d) h=.ok (.nx,vt c d) R:=ZU (ZB rfl s.o rfl (Zc rfl rfl) hr);rw[Za x];exact hk _ s1 le
  |@ex g lt=>have x:xs1 (P.tbl (n+5)) Zx (vt c d) h=.exc (O "Wide") (h0++g):=Zhx (ZB rfl s.o rfl (Zc rfl rfl) hr);rw[ZcR x];exact .ex (hx lt)
 have fn:∀{q q':Nat}{ns sc:List Str}{ds:List D}{e:T}{S:List (Str×Option T)},d=Z1 q ns ds->(ns.length=1\/ns.length=2)->Cd C sc Wx q e q'->C[q']?=J .back->Eu C N (names ns++ds) sc S->(names ns++ds).length+2*e.size<=50000->rd v=fnT ns (sub S e)->(rd v).size=1+(sub S e).size->On C k c pk bk h0 p A pl (dn++[(rd v).d]) [] (u+(rd v).size) (Ze (xs2 (P.tbl (n+5)) (.cons Zx (.cons Zo .nil)) (vt c d) h)):=λ{q q' ns sc ds e S} ed hl cq hb eu hz e1 e2=>by
  have fV:(names ns).length=ns.length:=by simp[names]
  have eY:=hz;rw[OA,fV]at eY;refine o1 (by rw[ed];exact Zmh H (n+3) s hu (by lia) (by lia) (by simp)) (by lia) λR s1 az=>?_;have sp:=Zm (sub S e);have pc:=Zqv H (kW (P:=P) (n:=n) (d:=d)) s1 hb hl az hd e1 e2 (dec H kW hN _ e (Oq _) cq eu hz s1 az (by lia) (by simp;lia) (.inr Zdo) (λj z=>by rw[ZoJ]at z;cases z));cases pc with
  |ok le hm s2 e'=>exact fin (by lia) e' s2 le
  |@ex g m lt hm e'=>
   obtain⟨f,hf⟩:∃f,P.L=m+f:=⟨P.L-m,by lia⟩
   have q:xs1 (P.tbl (n+5)) Zo (vt c d) R=.exc (O "Wide") (h0++g):=by show wW P n c d P.L R=_;rw[hf,e']
   rw[ZcR q];exact .ex lt
 cases hv with
 |@num z=>exact o1 (Zmg H (n+3) s hu rfl (by decide) (by lia)) (λz=>z) λR s1 az=>fin (m:=0) (by lia) (λf=>by rw[Nat.zero_add]) s1 az
 |@fn q q' y e ds aG ar cq hb r=>have z:=hn.1;unfold Rw.Bd at z;have z2:=Zb (.fn y e);simp only[T.parts,Op,Oy,OI,List.sum_nil]at z2;refine fn (ns:=[y]) (S:=(y,M)::ra ar) rfl (.inl rfl) cq hb (.nm y (Eu.of r hn.2)) (by simp[names,r.len];lia) (by rw[rd];rfl) ?_;rw[rd,sub,Zb];simp[T.parts]
 |@rcc q q' f y e ds aG ar cq hb r=>have z:=hn.1;unfold Rw.Bd at z;have z2:=Zb (.rcc f y e);simp only[T.parts,Op,Oy,OI,List.sum_nil]at z2;refine fn (ns:=[y,f]) (S:=(y,M)::(f,M)::ra ar) rfl (.inr rfl) cq hb (.nm y (.nm f (Eu.of r hn.2))) (by simp[names,r.len];lia) (by rw[rd,sub,Zek];rfl) ?_;rw[rd,sub,Zb,Zek];simp[T.parts]
inductive Of'(C:List Ce.Rw)(k c pk bk:Nat)(h0:Hd)(p:Nat)(A:List D)(pl:List (Nat×List D))(dn:List D)(u:Nat)(S:Option D->Ev):qe (Fl×Ev)->Prop
 |ok {h':Hd}{o:Option D} (le:u<=120) (s:Ds C k c pk bk h0 h' p A pl dn [] u):Of' C k c pk bk h0 p A pl dn u S (.ok (.nx,S o) h')
 |ex {g:Hd} (lt:120<u):Of' C k c pk bk h0 p A pl dn u S (.exc (O "Wide") (h0++g))
noncomputable def vc(kk:Nat)(sd:D)(c:Nat)(o:Option D):Ev:=[J (.ref kk),J sd,J (.ref c),o]
theorem ZmD(H:Dec P)(hN:2*N<=40000):∀{S_:List D}{vs:List Th},Sv C S_ vs->(∀v∈vs,ThN N v)->∀{h:Hd}{dn:List D}{u:Nat}{o:Option D},Ds C k c pk bk h0 h p A pl dn [] u->u<=120->dn.length<=u->Of' C k c pk bk h0 p A pl (dn++dns vs) (u+szs vs) (vc kk sd c) (ZJ M (.nm 3) (xs2 (P.tbl (n+6)) Zab) S_ (vc kk sd c o) h)
 |_,_,.nil,_,h,dn,u,o,s,hu,hd=>by rw[show dns ([]:List Th)=[]from rfl,show szs ([]:List Th)=0 from rfl,Ys];exact .ok hu s
 |_,_,.cons (d:=d) (v:=v) (S_:=S_) (vs:=vs) hv sv,hn,h,dn,u,o,s,hu,hd=>by
  have q:=ZiS H (n:=n) hN hv (hn v Oi) s hu hd;have sp:=Zm (rd v);obtain⟨dk,s'⟩:=id s;rw[show dns (v::vs)=[(rd v).d]++dns vs from rfl,show szs (v::vs)=(rd v).size+szs vs by simp[szs],<-Oz,<-Nat.add_assoc];generalize hr:run P (n+6) (mnm (O "Decoder") (O "put_whole")) [.ref c,d] h=r at q;cases q with
  |@ok R le s1=>have x:xs2 (P.tbl (n+6)) Zab (vc kk sd c (J d)) h=.ok (.nx,vc kk sd c (J d)) R:=(Za (ZU (ZB rfl s'.o rfl (Zc rfl rfl) hr))).trans rfl;rw[ZfZ rfl x];exact ZmD H hN sv (λw hw=>hn w (Oh _ hw)) s1 le (by simp;lia)
  |@ex g lt=>have x:xs2 (P.tbl (n+6)) Zab (vc kk sd c (J d)) h=.exc (O "Wide") (h0++g):=ZcR (Zhx (ZB rfl s'.o rfl (Zc rfl rfl) hr));rw[Zw5 rfl x];exact .ex (by lia)
end
section
variable {P:Pg}{h0 h:Hd}{C:List Ce.Rw}{k c pk bk n N p:Nat}{A:List D}
def ZiR(a b:List Wt)(t:T):rnd (a++b) t=rnd b (rnd a t):=List.foldl_append
def Zwq(H:Dec P)(hN:2*N<=40000)(x:Dx C b pl S0 vs):(∀w∈vs,WtN N w)->∀{t:T}{h:Hd}{p':Nat}{A:List D},(b=Wx->C[p']?=J .back)->(b=Wy->C[p']?=J .fin)->Ds C k c pk bk h0 h p' A pl (dns (tv vs)++[t.d]) [] (szs (tv vs)+t.size)->szs (tv vs)+t.size<=120->Fo C k c pk bk h0 (wA P n c) h (rnd vs t) (mx C.length C.length pl.length (szs (tv vs)+t.size)):=by
 induction x with
 |nil=>intro hw t h p' A hb hf s hu;have e0:szs (tv ([]:List Wt))+t.size=t.size:=Nat.zero_add _;rw[e0]at s hu;exact .ok (m:=0) hu (Yw _) (hf rfl) s (λf=>by rw[Nat.zero_add])
 |@cons b sc ar p E S_ S0 ws vs pl r kx cB gW x ih=>
  intro hw t h p' A hb hf s hu;rw[ZkV,Zeu,ZaQ]at s;rw[ZkV,ZaQ]at hu ⊢;rw[ZiR];have hc:=hb rfl;have lp:=Zgt hc;have o:=ZK H n s nofun hc λsq=>Zig H n sq (ZnA H (n+1) sq hu);have zr:=Zad ws t;have zq:=Zad vs (rnd ws t);refine Fo.bind (Pc.turn kA s (.inr ⟨rfl,_,hc,nofun⟩) o) (λR s1 az=>ctx H kA hN kx r (λw z=>hw w (Yr _ z)) (ih (λw z=>hw w (Ov _ z))) s1 az) (by lia) (by simp only[mx,Os];lia) (λz=>?_);simp only[mx,Os,Nat.add_mul,Nat.one_mul]
  lia
inductive Rd(h0:Hd)(t:T):qe D->Prop
 |ok {g:Hd} (le:t.size<=120):Rd h0 t (.ok t.d (h0++g))
 |ex {g:Hd} (lt:120<t.size):Rd h0 t (.exc (O "Wide") (h0++g))
def Zt1(H:Dec P)(s0:Dq C k c pk bk h0 h dk p0 A0 pl dn0 bg u0)(f:Fo C k c pk bk h0 (wA P n c) h t B_)(hB:B_<=900000):Rd h0 t (run P (n+6) (mnm (O "Decoder") (O "do_all")) [.ref c] h):=by
 have hL:1000000<=P.L:=H.c.big;rw[Zz H.n_Decoder_do_all H.Decoder_do_all (by rfl)];show Rd h0 t (Ze (xs2 (P.tbl (n+5)) (.cons Z9 (.cons ZaK .nil)) [J (.ref c)] h));cases f with
 |@ok h' m p A le hm hc s e=>
  obtain⟨f,hf⟩:∃f,P.L=m+(f+1):=⟨P.L-m-1,by lia⟩
  have q:xs1 (P.tbl (n+5)) Z9 [J (.ref c)] h=.ok (.nx,[J (.ref c)]) h':=by show wA P n c P.L h=_;rw[hf,e];exact ZgH (Zi (Zs0 s rfl hc) rfl)
  obtain⟨dk,s⟩:=s;have x2:xs1 (P.tbl (n+5)) ZaK [J (.ref c)] h'=.ok (.rt t.d,[J (.ref c)]) h':=Zu ((Zr (g_a rfl s.o Zae rfl) rfl).trans (by rw[ZZ s.d,ZiK];rfl));rw[Za q,Zd x2];obtain⟨g,rfl⟩:=s.gone;exact .ok le
 |@ex g m lt hm e=>
  obtain⟨f,hf⟩:∃f,P.L=m+f:=⟨P.L-m,by lia⟩
  have q:xs1 (P.tbl (n+5)) Z9 [J (.ref c)] h=.exc (O "Wide") (h0++g):=by show wA P n c P.L h=_;rw[hf,e]
  rw[ZcR q];exact .ex lt
def Znz(H:Dec P)(n:Nat){k:Nat}{s:Ma}(h:Hd):Zgx (run P (n+2)) (O "Decoder") [.ref k,s.d] h=.ok (.ref h.length) (h++[Zfx k s.p s.E s.pl (h.length+1) (h.length+2) (h.length+3),Zbc (.int 120) 0,.lst [],.lst []]):=by
 have k9:∀fs:List (Str×D),ev (P.tbl (n+1)) (.mk (O "Pen") (.cons (.glo (O "WIDEST")) .nil)) [J (.ref h.length),J (.ref k),J s.d] (h++[.ins (O "Decoder") fs])=.ok (.ref (h.length+1)) (h++[.ins (O "Decoder") fs,Zbc (.int 120) 0]):=λfs=>by rw[Ce.ZuG (Zc (show ev (P.tbl (n+1)) (.glo (O "WIDEST")) _ _=.ok (.int 120) _ by rw[Zhw,show(P.tbl (n+1)).G _=_ from H.p.gw];rfl) rfl) (Tm.Zwb H.p.t n (.int 120) _)];simp
 have st:∀{Cs f e d g g' fs} (C:O "Decoder" ∈ Cs) (q:ev (P.tbl (n+1)) e [J (.ref h.length),J (.ref k),J s.d] (h++.ins (O "Decoder") fs::g)=.ok d (h++.ins (O "Decoder") fs::g')) (z:fs.length<1000),xs1 (P.tbl (n+1)) (.seta Cs (.var 0) f e) [J (.ref h.length),J (.ref k),J s.d] (h++.ins (O "Decoder") fs::g)=.ok (.nx,[J (.ref h.length),J (.ref k),J s.d]) (h++.ins (O "Decoder") (Zg1 f d fs)::g'):=λC q z=>(s_a q rfl ZbK C z).trans (by rw[ZjT]);have w:xs2 (P.tbl (n+1)) Zck [J (.ref h.length),J (.ref k),J s.d] (h++[.ins (O "Decoder") []])=.ok (.nx,[J (.ref h.length),J (.ref k),J s.d]) (h++[Zfx k s.p s.E s.pl (h.length+1) (h.length+2) (h.length+3),Zbc (.int 120) 0,.lst [],.lst []]):=(Za (st Zae rfl (by decide))).trans ((Za (st (fs:=[_]) Zae rfl (show 1<1000 by decide))).trans ((Za (st (fs:=[_,_]) cls2 rfl (show 2<1000 by decide))).trans ((Za (st (fs:=[_,_,_]) Zae rfl (show 3<1000 by decide))).trans ((Za (st (fs:=[_,_,_,_]) Zae (k9 _) (show 4<1000 by decide))).trans ((Za (st (fs:=[_,_,_,_,_]) (d:=.ref (h.length+2)) (g':=[Zbc (.int 120) 0,.lst []]) Zae ((Zhv (xs:=[]) rfl (by decide)).trans (by simp)) (show 5<1000 by decide))).trans ((Za (st (fs:=[_,_,_,_,_,_]) (d:=.ref (h.length+3)) (g':=[Zbc (.int 120) 0,.lst [],.lst []]) Zae ((Zhv (xs:=[]) rfl (by decide)).trans (by simp)) (show 6<1000 by decide))).trans rfl))))))
 unfold Zgx;rw[Zz H.n_Decoder___init__ H.Decoder___init__ rfl];exact congrArg (λr=>(Ze r).bind _) w
def Zq3(hw:∀w∈ws,WtN N w):∀v∈tv ws,ThN N v:=λv hv=>by
 obtain⟨w,R,h2⟩:=List.mem_flatMap.mp hv;have q:=hw w (List.mem_reverse.mp R);cases w with
 |fn V=>rw[vs1,Ox]at h2;subst h2;exact q
 |left w V=>rw[vs1,Ox]at h2;subst h2;exact q
 |_=>cases h2
def rest(H:Dec P)(hN:2*N<=40000)(r:Rc C s Z)(on:StN N Z):∃vs:List Th,Sv C s.S_ vs/\(∀v∈vs,ThN N v)/\szs vs<=(read Z).size/\∀{h:Hd},Ds C k c pk bk h0 h s.p s.E s.pl (dns vs) [] (szs vs)->szs vs<=120->Fo C k c pk bk h0 (wA P n c) h (read Z) (484+mx C.length 0 s.pl.length 0):=by
 cases r with
 |@go b l sc ar p p' E S_ S0 ws vs pl t r cd hl kx x=>have dF:∀w∈ws,WtN N w:=λw z=>on.2.2 w (Yr _ z);have dE:∀w∈vs,WtN N w:=λw z=>on.2.2 w (Ov _ z);have bd:=on.1;unfold Rw.Bd at bd;have zr:=Zad ws (sub (ra ar) t);have zq:=Zad vs (rnd ws (sub (ra ar) t));have e:read (.go t ar (ws++vs))=rnd vs (rnd ws (sub (ra ar) t)):=ZiR _ _ _;refine⟨tv vs++tv ws,(Dx.sv x).app (Cx.sv kx),λv hv=>(OD.mp hv).elim (Zq3 dE v) (Zq3 dF v),by rw[e,ZaQ];lia,λ{h} s hu=>?_⟩;rw[Zeu]at s;rw[ZaQ]at s hu;rw[e];have sp:=Zm (sub (ra ar) t);have l1:=ZaE (tv vs);have l2:=ZaE (tv ws);exact Fo.bind (dec H kA hN _ t (Oq _) cd (Eu.of r on.2.1) (by rw[r.len];lia) s hu (by simp;lia) (by simp) (.inl rfl) nofun) (λR s1 az=>ctx H kA hN kx r dF (Zwq H hN x dE) s1 az) (by lia) (by simp only[mx];lia) (λz=>by simp only[mx];lia)
 |@back b sc ar p E S_ S0 ws vs pl d V r v kx x=>
  have dF:∀w∈ws,WtN N w:=λw z=>on.2 w (Yr _ z);have dE:∀w∈vs,WtN N w:=λw z=>on.2 w (Ov _ z);have zr:=Zad ws (rd V);have zq:=Zad vs (rnd ws (rd V));have e:read (.back V (ws++vs))=rnd vs (rnd ws (rd V)):=ZiR _ _ _;have eV:szs [V]=(rd V).size:=by simp[szs]
  refine⟨tv vs++tv ws++[V],((Dx.sv x).app (Cx.sv kx)).app (.cons v .nil),λw hv=>?_,by rw[e,ZaQ,ZaQ,eV];lia,λ{h} s hu=>?_⟩
  . rcases OD.mp hv with q|q
    . exact(OD.mp q).elim (Zq3 dE w) (Zq3 dF w)
    . rw[Ox]at q;subst q;exact on.1
  . rw[Zeu,Zeu]at s;rw[ZaQ,ZaQ,eV]at s hu;rw[e];have f:=ctx H kA hN kx r dF (Zwq (n:=n) H hN x dE) (t:=rd V) s hu;cases f with
    |ok le hm hc s e=>exact .ok le (by simp only[mx]at *;lia) hc s e
    |ex lt hm e=>exact .ex lt (by simp only[mx]at *;lia) e
theorem ZtW (H:Dec P) (n:Nat) (hN:2*N<=40000) {s:Ma} (r:Rc C s Z) (on:StN N Z) (hG:C.length<=500) (hp:s.pl.length<=500) {k:Nat} (h:Hd) (hk:h[k]?=J (.lst (C.map Ce.Rw.d))):Rd h (read Z) (run P (n+7) (O "code_read") [.ref k,s.d] h):=by
 obtain⟨vs,sv,hn,hz,fo⟩:=rest (k:=k) (c:=h.length) (pk:=h.length+1) (bk:=h.length+3) (h0:=h) (n:=n) H hN r on;rw [Zf H.code_read (by rfl)];have s0:Dq C k h.length (h.length+1) (h.length+3) h (h++[Zfx k s.p s.E s.pl (h.length+1) (h.length+2) (h.length+3),Zbc (.int 120) 0,.lst [],.lst []]) (h.length+2) s.p s.E s.pl [] [] 0 :=
   ⟨by simp,by simp,by simp,by simp,keep hk,by lia,Zah hk,by lia,by lia,by lia,by lia,by simp,λi hi=>by rw [Oe hi]⟩
 have x1:xs1 (P.tbl (n+6)) ZcJ [J (.ref k),J s.d,M,M] h=.ok (.nx,vc k s.d h.length M) _:=Zn (by rw [Ztj,Zc rfl (Zc rfl rfl)];exact Znz H (n+4) h);have ls:=ZmD (n:=n) H hN (kk:=k) (sd:=s.d) sv hn (o:=M) ⟨_,s0⟩ (by decide) (by simp);rw [OB,Nat.zero_add] at ls;generalize (h++[Zfx k s.p s.E s.pl (h.length+1) (h.length+2) (h.length+3),Zbc (.int 120) 0,.lst [],.lst []])=R at *;show Rd h (read Z) (Ze (xs2 (P.tbl (n+6)) (.cons ZcJ (.cons ZcI (.cons Zby .nil))) [J (.ref k),J s.d,M,M] h));rw [Za x1];have x2:xs1 (P.tbl (n+6)) ZcI (vc k s.d h.length M) R=ZJ M (.nm 3) (xs2 (P.tbl (n+6)) Zab) s.S_ (vc k s.d h.length M) R:=ZfY (w:=⟨M,s.S_⟩) (Zjb rfl);generalize ZJ M (.nm 3) (xs2 (P.tbl (n+6)) Zab) s.S_ (vc k s.d h.length M) R=rr at *;cases ls with
 |@ok h2 o le s2 =>
   rw [Za x2];have f:=fo s2 le;obtain⟨dk,s2⟩:=s2;have q:=Zt1 H s2 f (by
     have:s.pl.length*(3*C.length+3)<=500*1503:=Nat.mul_le_mul hp (by lia);simp only [mx]
     lia)
   generalize hr:run P (n+6) (mnm (O "Decoder") (O "do_all")) [.ref h.length] h2=r2 at q;cases q with
   |@ok g le2 =>
     have x3:xs1 (P.tbl (n+6)) Zby (vc k s.d h.length o) h2=.ok (.rt (read Z).d,vc k s.d h.length o) (h++g):=Zu (ZB rfl s2.o rfl ZH hr);rw [Zd x3];exact .ok le2
   |@ex g lt =>
     have x3:xs1 (P.tbl (n+6)) Zby (vc k s.d h.length o) h2=.exc (O "Wide") (h++g):=Zv6 (ZB rfl s2.o rfl ZH hr);rw [ZcR x3];exact .ex lt
 |@ex g lt =>
   rw [ZcR x2];exact .ex (by lia)
end
end Cr
namespace Cs
open PySem IV Gn
open Rw (Th Ar Wt Sta ZgG ArOk Zh7 ZhN StN WtN ThN read rnd rd ra wts)
open Ce (Cd Ma Z1 ZW ent psh Stp)
section
variable {P:Pg}{C:List Ce.Rw}{N:Nat}{h:Hd}
structure Ci(C:List Ce.Rw)(N:Nat)(s:Ma)(Z:Sta):Prop where
 r:Rc C s Z
 ok:ZhN Z
 on:StN N Z
def Qs.keeps(q:Qs Z σ'):ZhN Z->StN N Z->ZhN σ'/\StN N σ'/\read σ'=read Z:=by
 induction q with
 |refl=>exact λa b=>⟨a,b,rfl⟩
 |@step s s' t e _ ih=>intro a b;have i:=Rw.ZjH a b (.inl e);have m:=Rw.Zfa s a;rw[e]at m;obtain⟨R,h2,h3⟩:=ih i.1 i.2;exact⟨R,h2,h3.trans m⟩
inductive Sp(C:List Ce.Rw)(N:Nat)(t:T):Ce.Ans->Prop
 |quiet {s:Ma}{Z:Sta} (d:Ci C N s Z) (e:read Z=t):Sp C N t (.quiet s)
 |loud {s:Ma}{Z:Sta} (d:Ci C N s Z) (nv:Tm.isV t=Wy) (e:Tm.next t=J (read Z)):Sp C N t (.loud s)
 |value (v:Tm.isV t=Wx):Sp C N t .value
 |stuck (nv:Tm.isV t=Wy) (e:Tm.next t=M):Sp C N t .stuck
def Sc.sp(d:Ci C N s Z)(h:Sc C s Z a):Sp C N (read Z) a:=by
 cases h with
 |quiet e r q=>obtain⟨R,h2,h3⟩:=q.keeps d.ok d.on;exact .quiet ⟨r,R,h2⟩ h3
 |@loud s' σ0 σ1 σ' e q0 hs r q=>obtain⟨R,h2,h3⟩:=q0.keeps d.ok d.on;have i:=Rw.ZjH R h2 (.inr hs);have m:=Rw.Zfa σ0 R;rw[hs]at m;obtain⟨g1,g2,g3⟩:=q.keeps i.1 i.2;have m1:=m.1.1;have m2:=m.2;rw[h3]at m1 m2;exact .loud ⟨r,g1,g2⟩ m1 (by rw[m2,g3])
 |@value σ0 e q hs=>obtain⟨R,h2,h3⟩:=q.keeps d.ok d.on;have m:=Rw.Zfa σ0 R;rw[hs]at m;obtain⟨V,_,m⟩:=m;rw[h3]at m;exact .value m
 |@stuck σ0 e q hs=>obtain⟨R,h2,h3⟩:=q.keeps d.ok d.on;have m:=Rw.Zfa σ0 R;rw[hs]at m;have m1:=m.1.1;have m2:=m.2;rw[h3]at m1 m2;exact .stuck m1 m2
def Zo5(H:Ce.Cod P)(n:Nat)(w:Wd){A B_:D}(va:Vr C A W)(vb:Vr C B_ V)(hn:¬ ∃a b,A=ZW a/\B_=ZW b):run P (n+1) (O "worked") [.str w.s,A,B_] h=.ok .non h:=by
 rw[Zf H.worked rfl];have no:∀{z:Int}{q:Nat}{ns:List Str}{ds:List D},A=Z1 q ns ds\/A=ZW z/\B_=Z1 q ns ds->Ze (xs2 (P.tbl n) Ce.ZF [J (.str w.s),J A,J B_] h)=.ok .non h:=by
  rintro z q ns ds (rfl|⟨rfl,rfl⟩)
  . exact congrArg Ze (Zd ((Zj (ZrK rfl)).trans rfl))
  . exact congrArg Ze (Zd ((Zj (Zlk rfl rfl)).trans rfl))
 cases va with
 |num=>
  cases vb with
  |num=>exact absurd ⟨_,_,rfl,rfl⟩ hn
  |fn _ _ _=>exact no (.inr ⟨rfl,rfl⟩)
  |rcc _ _ _=>exact no (.inr ⟨rfl,rfl⟩)
 |fn _ _ _=>exact no (z:=0) (.inl rfl)
 |rcc _ _ _=>exact no (z:=0) (.inl rfl)
def Zwa(H:Ce.Cod P)(n:Nat){k:Nat}(hk:h[k]?=J (.lst (C.map Ce.Rw.d)))(q:Stk C s):run P (n+4) (O "code_step") [.ref k,s.d] h=.ok Ce.Ans.stuck.d h:=by
 cases q with
 |@app p r z V S_ E pl hc hr hp=>
  have e:=Ce.ZnC H n (h:=h) z S_ V;rcases hr with rfl|rfl
  . exact Ce.Z2 H n _ hk hc rfl (.inl ⟨rfl,rfl⟩) (Ce.Zif H n ⟨p,S_++[ZW z,V],E,pl⟩ hp (e _))
  . exact Ce.Z2 H n _ hk hc rfl (.inl ⟨rfl,rfl⟩) (Ce.ZjO H n ⟨p,S_++[ZW z,V],E,pl⟩ (e _))
 |unl hc=>exact Ce.Z2 H n _ hk hc rfl (.inl ⟨rfl,rfl⟩) (Ce.ZjN H n _ _ (Ce.Zld H n _ _ _ _ _ _ _ _))
 |@work p w A B_ S_ E pl V W hc va vb hn=>refine Ce.Z2 H n _ hk hc rfl (.inl ⟨rfl,rfl⟩) (Ce.Zie H n _ _ ?_);rw[Zf H.reckoned (by rfl)];have e1:=Ce.ZqR (l:=S_) (a:=A) (b:=B_);have e2:=Ce.Znd (l:=S_) (a:=A) (b:=B_);have e4:=Zo5 H n (h:=h) w va vb hn;simp[Ma.d,Ce.ZeV,Ce.ZhF,ZE,e1,e2,e4,YC]
def ZoR(q:Stp C s ld s'):s'.pl.length<=s.pl.length+1:=by
 cases q with
 |back hc=>exact OE (Nat.le_succ _) (Nat.le_succ _)
 |call hc hd hp=>exact Oq _
 |_=>exact Nat.le_succ _
theorem Sc.run(sc:Sc C s Z a)(H:Ce.Cod P)(n:Nat)(hk:h[k]?=J (.lst (C.map Ce.Rw.d))):run P (n+4) (O "code_step") [.ref k,s.d] h=.ok a.d h:=by
 cases sc with
 |quiet e r q=>exact Ce.Zta H n hk e
 |loud e q0 hs r q=>exact Ce.Zta H n hk e
 |value e q hs=>exact Ce.Zk8 H (n+3) s hk e
 |stuck e q hs=>exact Zwa H n hk e
def Ci.begin(t:T)(c:Gn.Cl [] t):Ci (Ce.code t) t.size ⟨0,[],[],[]⟩ (.go t .nil []):=by
 obtain⟨cd,hf⟩:=Ce.ZsC t c;refine⟨Rc.go (b:=false) (S_:=[]) (S0:=[]) (ws:=[]) (vs:=[]) .nil cd ⟨nofun,nofun⟩ (.fin hf) .nil,⟨c,trivial,nofun⟩,?_,trivial,nofun⟩;unfold Rw.Bd;rw[Ar.len]
 lia
def ZhD(er:Er C E sc ar)(cd:Cd C sc l p t p'):∃r,C[p]?=J r/\∀i,r=.fetch i->i<E.length:=by
 induction cd with
 |num hc=>exact⟨_,hc,nofun⟩
 |name hc hp=>obtain⟨d,v,e1,_,_⟩:=er.get hp;exact⟨_,hc,λi z=>by cases z;exact(Ob.mp e1).1⟩
 |fn hc _ _ _=>exact⟨_,hc,nofun⟩
 |rcc hc _ _ _=>exact⟨_,hc,nofun⟩
 |call _ _ _ ih _=>exact ih er
 |op _ _ _ ih _=>exact ih er
 |iff _ _ _ _ _ ih _ _=>exact ih er
def Rc.row(r:Rc C s Z):∃r,C[s.p]?=J r/\∀i,r=.fetch i->i<s.E.length:=by
 cases r with
 |go r c hl k x=>exact ZhD r c
 |back r v k x=>
  cases k with
  |fin hc=>exact⟨_,hc,nofun⟩
  |back hc=>exact⟨_,hc,nofun⟩
  |jmp hc _ _=>exact⟨_,hc,nofun⟩
  |app hc hr _ _=>exact⟨_,hc,λi z=>by rcases hr with⟨rfl,_⟩|⟨rfl,_⟩<;>cases z⟩
  |arg c _ _ _=>exact ZhD r c
  |work hc _ _=>exact⟨_,hc,nofun⟩
  |right c _ _=>exact ZhD r c
  |cho hc _ _ _ _ _=>exact⟨_,hc,nofun⟩
def Cx.has(er:Er C E sc ar)(k:Cx C b sc ar p S_ ws):p<C.length:=by
 have lt:∀{p:Nat}{r:Ce.Rw},C[p]?=J r->p<C.length:=λe=>(Ob.mp e).1;cases k with
 |fin hc=>exact lt hc
 |back hc=>exact lt hc
 |jmp hc _ _=>exact lt hc
 |app hc hr _ _=>exact lt hc
 |arg c _ _ _=>obtain⟨_,e,_⟩:=ZhD er c;exact lt e
 |work hc _ _=>exact lt hc
 |right c _ _=>obtain⟨_,e,_⟩:=ZhD er c;exact lt e
 |cho hc _ _ _ _ _=>exact lt hc
theorem Dx.has(x:Dx C b pl S_ vs):∀f∈pl,f.1<C.length/\∃p0,f.1=p0+1/\C[p0]?=J .call:=by
 induction x with
 |nil=>nofun
 |cons r k hw hc x ih=>
  intro f hf;rcases O3.mp hf with rfl|hf
  . exact⟨k.has r,hc⟩
  . exact ih f hf
theorem Rc.has(r:Rc C s Z):∀f∈s.pl,f.1<C.length/\∃p0,f.1=p0+1/\C[p0]?=J .call:=by
 cases r with
 |go r c hl k x=>exact x.has
 |back r v k x=>exact x.has
def Zot(Z:Sta):(wts Z).length+1<=(read Z).size:=by
 cases Z with
 |go E ar ws=>have:=Rw.Zfc ws (Tm.sub (ra ar) E);have:=Tm.Zm (Tm.sub (ra ar) E);exact OE (by simp only[wts];lia) (Rw.Zfc ws (Tm.sub (ra ar) E))
 |back V ws=>have:=Tm.Zm (rd V);exact OE (by simp only[wts];lia) (Rw.Zfc ws (rd V))
end
end Cs
namespace Gn
open PySem L2 IV
inductive Sl(rd:Nat->Option PyData)(ds:List D)(n k:Nat):Prop
 |mk (p:List PyData) (e:D.pys rd ds=J p) (s:PyData.showableAll p=Wx) (i:PyData.intsShortAll 13 p=Wx) (w:PyData.weightAll p<=70*n+21*k) (d:PyData.depthAll p<=n)
inductive Sh(rd:Nat->Option PyData)(x:D)(n:Nat):Prop
 |mk (p:List PyData) (e:D.py rd x=J (.tuple p)) (s:PyData.showableAll p=Wx) (i:PyData.intsShortAll 13 p=Wx) (w:PyData.weightAll p<70*n) (d:PyData.depthAll p<n)
def Sl.nl:Sl rd [] 0 0:=⟨[],rfl,rfl,rfl,Oq _,Oq _⟩
def Sl.st(h:x.cps.size<=20):Sl rd ds n k->Sl rd (.str x::ds) n (k+1)
 |⟨p,e,s,i,w,d⟩=>⟨.str x::p,by simp[D.pys,D.py,e],by simp[PyData.showableAll,PyData.showable,s],by simp[PyData.intsShortAll,PyData.intsShort,i],by simp only[PyData.weightAll,PyData.weight];lia,by simp only[PyData.depthAll,PyData.depth];lia⟩
def Sl.cn(q:Sh rd x a):Sl rd ds n k->Sl rd (x::ds) (a+n) k
 |⟨p,e,s,i,w,d⟩=>by obtain⟨p',e',s',i',w',d'⟩:=q;exact⟨.tuple p'::p,by simp[D.pys,e,e'],by simp[PyData.showableAll,PyData.showable,s,s'],by simp[PyData.intsShortAll,PyData.intsShort,i,i'],by simp only[PyData.weightAll,PyData.weight];lia,by simp only[PyData.depthAll,PyData.depth];lia⟩
def Sl.it(h:0<=z/\z<1000000):Sl rd [.int z] 0 1:=by
 obtain⟨h0,R⟩:=h;have hl:z.natAbs.log2<20:=by
  by_cases e:z.natAbs=0
  . rw[e];decide
  . exact(Nat.log2_lt e).mpr (by lia)
 have ht:(toString z).length<=7:=int_text_length_le10 (k:=6) (by decide) (by lia);have q:(PyData.shown (.int z)).length<=13:=by show(Str.ofString (toString z)).length<=13;rw[ofString_length];lia
 refine⟨[.int z],rfl,?_,?_,?_,Oq _⟩
 . simp only[PyData.showable,PyData.showableAll,Bool.and_true,decide_eq_true_eq];lia
 . simp only[PyData.intsShort,PyData.intsShortAll,Bool.and_true];exact decide_eq_true q
 . simp only[PyData.weight,PyData.weightAll];split<;>lia
def Sl.tp(hk:k<=3):Sl rd ds n k->Sh rd (.tup ds) (n+1)
 |⟨p,e,s,i,w,d⟩=>⟨p,by simp[D.py,e],s,i,by lia,by lia⟩
theorem ZhQ:∀(t:T) (sc:List Str),(∀y∈sc,Wl 20 y)->Cl sc t->Sh rd t.d t.size
 |.num n,sc,hs,c=>((Sl.it c).st (by decide)).tp (by decide)
 |.name x,sc,hs,c=>((Sl.nl.st (hs x c).2).st (by decide)).tp (by decide)
 |.fn x e,sc,hs,c=>by rw[Tm.zf,YW];exact(((Sl.nl.cn (ZhQ e (x::sc) (List.forall_mem_cons.mpr ⟨c.2,hs⟩) c.1)).st c.2.2).st (by decide)).tp (by decide)
 |.rcc f x e,sc,hs,c=>by rw[Tm.zr,YW];exact((((Sl.nl.cn (ZhQ e (x::f::sc) (List.forall_mem_cons.mpr ⟨c.2.2.2,List.forall_mem_cons.mpr ⟨c.2.2.1,hs⟩⟩) c.1)).st c.2.2.2.2).st c.2.2.1.2).st (by decide)).tp (by decide)
 |.call f a,sc,hs,c=>by rw[Tm.zc,YW];exact(((Sl.nl.cn (ZhQ a sc hs c.2)).cn (ZhQ f sc hs c.1)).st (by decide)).tp (by decide)
 |.op w f a,sc,hs,c=>by rw[Tm.zo,YW];exact(((Sl.nl.cn (ZhQ a sc hs c.2)).cn (ZhQ f sc hs c.1)).st (by cases w<;>decide)).tp (by decide)
 |.iff p f a,sc,hs,c=>by rw[Tm.zi,YW];exact((((Sl.nl.cn (ZhQ a sc hs c.2.2)).cn (ZhQ f sc hs c.2.1)).cn (ZhQ p sc hs c.1)).st (by decide)).tp (by decide)
def Zv4(c:Cl [] t)(hz:t.size<=500)(h:Hd):∃x,shD t.d h=.ok x h:=by
 obtain⟨p,e,s,i,w,d⟩:=ZhQ (rd:=Zgu h 4) t [] nofun c;refine⟨PyData.shown (.tuple p),?_⟩;have ok:L2.Znp (.tuple p)=Wx:=by simp only[L2.Znp,Oa,decide_eq_true_eq];exact⟨rfl,s,i,by simp only[PyData.weight];lia,by simp only[PyData.depth];lia⟩
 unfold shD Zgv;rw[e];simp only[ok,if_true]
end Gn
namespace K54L
open PySem L2 IV
def Zh1:Sx:=.ret (.ands (.w (.blt .isi (.w V0 (.cst (.ty "int")))) (.nt (.blt .isi (.w V0 (.cst (.ty "bool")))))))
def ZkD:Sxs:=.o Zh1
def Zgj:Fd:=fd_ 1 ["_law_found"] ZkD
def Zjq:Sx:=.s 2 (.cst .non)
def Zdi:Sx:=.trw 2 3 (O "code_read") (.w V0 V1) (O "StrideError") (O "Wide") (O "wide")
def Zjp:Sx:=.ret V2
def ZeY:Sxs:=.u Zjq Zdi Zjp
def Zhp:Fd:=fd_ 2 ["_law_code","_law_state","_law_told","e"] ZeY
def ZfC:Sx:=.s 2 (.bin .Sub (.blt .len (.o V0)) (.ix V1 K0))
def Zi6:Ix:=.pl (.ix V1 K3)
def ZhH:Sx:=.s 2 (.bin .Sub (.bin .Add V2 (.blt .len (.o V0))) V3)
def Zfk:Sxs:=.o ZhH
def Zjs:Sx:=.forr (.two 3 4) Zi6 Zfk
def Zjr:Sx:=.ret V2
def ZlO:Sxs:=.u ZfC Zjs Zjr
def Zhr:Fd:=fd_ 2 ["_law_code","_law_state","_law_many","_law_row","_law_around"] ZlO
def ZeQ:Sx:=.ret (.bin .Add (.bin .Sub (.blt .len (.o V0)) (.ix V1 K0)) (.blt .sum (.o (.comp [O "below",O "code"] [M,J 0] (.pl (.ix V1 K3)) (.nm 0) M (.bin .Sub (.blt .len (.o V1)) (.ix V0 K0))))))
def ZkM:Sxs:=.o ZeQ
def Zgn:Fd:=fd_ 2 ["code","state"] ZkM
def Znb:Sx:=.s 1 (.f "_law_program" (.w V0 K1))
def Zna:Sx:=.s 2 (.f "code_of" (.o V1))
def Zm9:Sx:=.s 3 (.f "code_begun" (.o V2))
def ZsN:Sx:=.s 4 V1
def Zm8:Sx:=.s 5 (.tupl (.u (.Ci_ "+") V1 (.tupl (.w (.Ci_ "num") K1))))
def Zm7:Sx:=.s 6 (.f "code_of" (.o V5))
def Zi7:Ix:=.rng (.bin .Add K1 (.bin .Mod (.f "_law_mixed" (.w (.f "_law_cell_at" (.w V0 K0)) K1)) (.ci 59)))
def Zf7:Sx:=.s 8 (.f "_law_read" (.w V2 V3))
def Zod:Tx:=.ex (.blt .isi (.w V8 (.cst (.ty "list"))))
def Zjx:Sx:=.ret (.ands (.u (.cmp .Eq V8 (.lstl (.w (.Ci_ "wide") (.cst (.bl Wx))))) (.cmp .Gt V7 K0) (.cmp .Eq (.f "_law_read" (.w V2 V3)) V8)))
def Zn0:Sxs:=.o Zjx
def Zoi:Sx:=.iff Zod Zn0 .n
def Ziy:Tx:=.ex (.rpn (.f "_law_read" (.w V6 (.f "code_begun" (.o V6)))) V5)
def Zjw:Sx:=.ret (.cst (.bl Wy))
def ZnZ:Sxs:=.o Zjw
def Zoh:Sx:=.iff Ziy ZnZ .n
def Zix:Tx:=.ors (.c (.ex (.rpn V8 (.f "_law_read" (.w V2 V3)))) (.one (.x .Gt (.f "_law_width" (.o V8)) (.ci 120))))
def Zjv:Sx:=.ret (.cst (.bl Wy))
def ZnY:Sxs:=.o Zjv
def Zog:Sx:=.iff Zix ZnY .n
def ZiH:Sx:=.s 9 (.f "code_left" (.w V2 V3))
def Zf5:Tx:=.ors (.c (.nt (.ex (.f "_law_whole" (.o V9)))) (.c (.nq V9 (.f "_law_left" (.w V2 V3))) (.one (.ands (.c (.x .IsNot V4 (.cst .non)) (.one (.ex (.rpn V8 V4))))))))
def Zju:Sx:=.ret (.cst (.bl Wy))
def ZnX:Sxs:=.o Zju
def Zof:Sx:=.iff Zf5 ZnX .n
def ZiG:Sx:=.s 10 (.f "code_step" (.w V2 V3))
def Zoc:Tx:=.ands (.c (.nq (.ix V10 K0) (.Ci_ "quiet")) (.one (.nq (.ix V10 K0) (.Ci_ "loud"))))
def Zjt:Sx:=.ret (.cst (.bl Wx))
def ZnW:Sxs:=.o Zjt
def ZiF:Sx:=.iff Zoc ZnW .n
def ZiE:Sx:=.s 3 (.ix V10 K1)
def ZhK:Sx:=.s 4 (.cst .non)
def ZlK:Tx:=.q (.ix V10 K0) (.Ci_ "quiet")
def Zh4:Sx:=.s 4 V8
def ZcF:Tx:=.nt (.ex (.cmp2 .LtE .Lt K0 (.f "code_left" (.w V2 V3)) V9))
def Zf6:Sx:=.ret (.cst (.bl Wy))
def ZhU:Sxs:=.o Zf6
def Zh3:Sx:=.iff ZcF ZhU .n
def Zlz:Sxs:=.w Zh4 Zh3
def ZhJ:Sx:=.iff ZlK Zlz .n
def Zbv:Sxs:=.c Zf7 (.c Zoi (.c Zoh (.c Zog (.c ZiH (.c Zof (.y ZiG ZiF ZiE ZhK ZhJ))))))
def Zm6:Sx:=.forr (.nm 7) Zi7 Zbv
def ZsM:Sx:=.ret (.cst (.bl Wx))
def ZqO:Sxs:=.c Znb (.c Zna (.c Zm9 (.y ZsN Zm8 Zm7 Zm6 ZsM)))
def Zkl:Fd:=fd_ 1 ["_law_script","_law_program_here","_law_code","_law_state","_law_told","_law_other","_law_behind","_law_step","_law_found","_law_left_here","_law_answer"] ZqO
structure Lw(P:Pg):Prop where
 m:Gn.Mkr P
 d:Cr.Dec P
 cell:P.tb.lookup (O "_law_cell_at")=J Gn.Zax
 law_whole:P.tb.lookup (O "_law_whole")=J Zgj
 law_read:P.tb.lookup (O "_law_read")=J Zhp
 law_left:P.tb.lookup (O "_law_left")=J Zhr
 code_left:P.tb.lookup (O "code_left")=J Zgn
 law:P.tb.lookup (O "law")=J Zkl
end K54L
namespace Cs
open PySem IV Gn
open Rw (Sta StN read wts)
open Ce (Cd Ma Stp)
section
variable {C:List Ce.Rw}
noncomputable def left(C:List Ce.Rw)(s:Ma):Nat:=(C.length-s.p)+(s.pl.map λf=>C.length-f.1).sum
def ZqF(c:Cd C sc l p t p'):C[p]?≠J (.jmp q):=by
 induction c with
 |num hc=>rw[hc];nofun
 |name hc _=>rw[hc];nofun
 |fn hc _ _ _=>rw[hc];nofun
 |rcc hc _ _ _=>rw[hc];nofun
 |call _ _ _ ih _=>exact ih
 |op _ _ _ ih _=>exact ih
 |iff _ _ _ _ _ ih _ _=>exact ih
def Zvm(k:Cx C b sc ar p S_ ws)(hc:C[p]?=J (.jmp ((q:Nat):Int))):p<q:=by
 cases k with
 |fin h=>rw[h]at hc;cases hc
 |back h=>rw[h]at hc;cases hc
 |jmp h hq _=>rw[h]at hc;injection hc with hc;injection hc with hc;lia
 |app h hr _ _=>rw[h]at hc;rcases hr with⟨rfl,_⟩|⟨rfl,_⟩<;>cases hc
 |arg c _ _ _=>exact absurd hc (ZqF c)
 |work h _ _=>rw[h]at hc;cases hc
 |right c _ _=>exact absurd hc (ZqF c)
 |cho h _ _ _ _ _=>rw[h]at hc;cases hc
def ZtT(r:Rc C s Z)(hc:C[s.p]?=J (.jmp ((q:Nat):Int))):s.p<q:=by
 cases r with
 |go r c hl k x=>exact absurd hc (ZqF c)
 |back r v k x=>exact Zvm k hc
def Zsb(r:Rc C s Z)(e:Stp C s Wy s'):left C s'<left C s:=by
 have lt:∀{p:Nat}{r:Ce.Rw},C[p]?=J r->p<C.length:=λe=>(Ob.mp e).1;cases e with
 |push hc _ _=>have:=lt hc;simp only[left];lia
 |jmp hc=>have:=lt hc;have:=ZtT r hc;simp only[left]at *;lia
 |back hc=>have:=lt hc;simp only[left,Op,OI];lia
end
end Cs
namespace K54L
open PySem L2 IV
open Rw (Sta StN read wts)
open Cs (Ci Sp Sc left)
open Ce (Ma keep fr)
open Gn (Cl)
section
variable {P:Pg}{h:Hd}{C:List Ce.Rw}{N k:Nat}{U:Tb}{S:Ev}
theorem ZhR(rd cA:Nat->Option PyData):∀t:T,D.py rd t.d=D.py cA t.d
 |.num _=>rfl
 |.name _=>rfl
 |.fn _ e=>by simp only[T.d,D.py,D.pys,ZhR rd cA e]
 |.rcc _ _ e=>by simp only[T.d,D.py,D.pys,ZhR rd cA e]
 |.call f a=>by simp only[T.d,D.py,D.pys,ZhR rd cA f,ZhR rd cA a]
 |.op _ f a=>by simp only[T.d,D.py,D.pys,ZhR rd cA f,ZhR rd cA a]
 |.iff p f a=>by simp only[T.d,D.py,D.pys,ZhR rd cA p,ZhR rd cA f,ZhR rd cA a]
def ZxU(c:Cl [] t)(hz:t.size<=500):∃x,∀h,shD t.d h=.ok x h:=by
 obtain⟨x,e⟩:=Gn.Zv4 c hz [];refine⟨x,λh=>?_⟩;unfold shD Zgv at e ⊢;rw[ZhR (Zgu h 4) (Zgu [] 4)];split at e
 . rename_i d q;split at e
   . rename_i z;injection e with e _;simp only[z,if_true,e]
   . cases e
 . cases e
def ZtR(c:Cl [] t)(hz:t.size<=500)(p:ev U a S h=.ok t.d R)(q:ev U b S R=.ok t.d h2):tst U (.ex (.rpn a b)) S h=.ok Wy h2:=by obtain⟨x,s⟩:=ZxU c hz;refine ZbM (b:=false) ?_;rw[Zvc,p,Zl,s,Zl,q,Zl,s,Zl,decide_eq_true rfl];rfl
def ZtF(p:evs U es S h=.ok xs R)(q:U.C f xs R=.ok d h2):xs1 U (.trw i n f es c W w) S h=.ok (.nx,S.set i (J d)) h2:=by rw[xs1,p];show Zjh W w i n S (U.C f xs R)=_;rw[q];rfl
def ZvN(p:evs U es S h=.ok xs R)(q:U.C f xs R=.exc W h2):xs1 U (.trw i n f es c W w) S h=.ok (.nx,((S.set n M).set i (J (.ref h2.length))).set n M) (h2++[.lst [.str w,.bl Wx]]):=by rw[xs1,p];show Zjh W w i n S (U.C f xs R)=_;rw[q];exact if_pos rfl
noncomputable abbrev wl:List D:=[.str (O "wide"),.bl Wx]
inductive Rl(h:Hd)(t:T):qe D->Prop
 |ok {g:Hd} (le:t.size<=120):Rl h t (.ok t.d (h++g))
 |ex {g:Hd}{i:Nat} (lt:120<t.size) (e:(h++g)[i]?=J (.lst wl)):Rl h t (.ok (.ref i) (h++g))
def ZgK(H:Lw P)(n:Nat)(hN:N<=5000)(d:Ci C N s Z)(hG:C.length<=500)(hp:s.pl.length<=500)(hk:h[k]?=J (.lst (C.map Ce.Rw.d))):Rl h (read Z) (run P (n+8) (O "_law_read") [.ref k,s.d] h):=by
 have q:=Cr.ZtW H.d n (by lia) d.r d.on hG hp h hk;rw[Zf H.law_read (by rfl)];generalize hr:run P (n+7) (O "code_read") [.ref k,s.d] h=r at q;cases q with
 |@ok g le=>have x2:xs1 (P.tbl (n+7)) Zdi [J (.ref k),J s.d,J .non,M] h=.ok (.nx,[J (.ref k),J s.d,J (read Z).d,M]) (h++g):=ZtF rfl hr;have e:Ze (xs2 (P.tbl (n+7)) ZeY [J (.ref k),J s.d,M,M] h)=.ok (read Z).d (h++g):=congrArg Ze ((Za rfl).trans ((Za x2).trans (Zd rfl)));exact e▸.ok le
 |@ex g lt=>
  have x2:xs1 (P.tbl (n+7)) Zdi [J (.ref k),J s.d,J .non,M] h=.ok (.nx,[J (.ref k),J s.d,J (.ref (h++g).length),M]) (h++g++[.lst wl]):=ZvN rfl hr;have e:Ze (xs2 (P.tbl (n+7)) ZeY [J (.ref k),J s.d,M,M] h)=.ok (.ref (h++g).length) (h++(g++[.lst wl])):=by rw[<-Oz];exact congrArg Ze ((Za rfl).trans ((Za x2).trans (Zd rfl)))
  exact e▸.ex lt (by rw[<-Oz];simp)
def el(hk:h[k]?=J (.lst (C.map Ce.Rw.d)))(p:ev U a S h=.ok (.ref k) h):ev U (.blt .len (.cons a .nil)) S h=.ok (.int (C.length:Int)) h:=(Zf2 (Zc p rfl) (Zg9 hk)).trans (by rw[Yt])
theorem Zp2(hk:h[k]?=J (.lst (C.map Ce.Rw.d))):∀(fs:List (Nat×List D)),(∀f∈fs,f.1<C.length)->∀(m:Nat) (o3 o4:Option D),∃p3 p4,ZJ M (.two 3 4) (xs2 U Zfk) (fs.map fr) [J (.ref k),J x,J (.int (m:Int)),o3,o4] h=.ok (.nx,[J (.ref k),J x,J (.int ((m+(fs.map λf=>C.length-f.1).sum:Nat):Int)),p3,p4]) h
 |[],_,m,o3,o4=>⟨o3,o4,rfl⟩
 |(q,B_)::fs,hf,m,o3,o4=>by have R:q<C.length:=hf _ Oi;obtain⟨p3,p4,e⟩:=Zp2 hk fs (λf z=>hf f (Oh _ z)) (m+(C.length-q)) (J (.int (q:Int))) (J (.tup B_));refine⟨p3,p4,(ZfZ (ρ1:=[J (.ref k),J x,J (.int (m:Int)),J (.int (q:Int)),J (.tup B_)]) rfl ((Za (Zn ((Zh ((Zh rfl (el hk rfl)).trans ZgN) rfl).trans Zen))).trans rfl)).trans ?_⟩;rw[Op,OI,<-Nat.add_assoc,<-e,show(m:Int)+C.length-q=((m+(C.length-q):Nat):Int) by lia];rfl
def ZtY(H:Lw P)(n:Nat)(d:Ci C N s Z)(hk:h[k]?=J (.lst (C.map Ce.Rw.d))):run P (n+1) (O "_law_left") [.ref k,s.d] h=.ok (.int (left C s:Int)) h:=by rw[Zf H.law_left (by rfl)];obtain⟨r,hc,_⟩:=d.r.row;have hp:=(Ob.mp hc).1;obtain⟨p3,p4,e⟩:=Zp2 (U:=P.tbl n) (x:=s.d) hk s.pl (λf z=>(d.r.has f z).1) (C.length-s.p) M M;have x1:xs1 (P.tbl n) ZfC [J (.ref k),J s.d,M,M,M] h=.ok (.nx,[J (.ref k),J s.d,J (.int ((C.length-s.p:Nat):Int)),M,M]) h:=Zn ((Zh (el hk rfl) (y:=.int (s.p:Int)) rfl).trans (by rw[Zen];congr 2;lia));exact congrArg Ze ((Za x1).trans ((Za ((ZfY (w:=⟨M,s.pl.map fr⟩) (Zjb rfl)).trans e)).trans (Zd rfl)))
theorem ZqJ(hk:h[k]?=J (.lst (C.map Ce.Rw.d))):∀(fs:List (Nat×List D)) (ag:List D),ag.length+fs.length<=1000->(∀f∈fs,f.1<C.length)->ZV M (.nm 0) (tsto U M) (ev U (.bin .Sub (.blt .len (.cons (.var 1) .nil)) (.ix (.var 0) (.ci 0)))) (fs.map fr) [M,J (.ref k)] ag h=.ok (ag++fs.map λf=>.int ((C.length-f.1:Nat):Int)) h
 |[],ag,_,_=>by rw[Oy,Oy,Ys];rfl
 |(q,B_)::fs,ag,hz,hf=>by have R:q<C.length:=hf _ Oi;have hl:ag.length<sizeLine:=Ot (show ag.length<1001 by lia) (by decide);have e:ev U (.bin .Sub (.blt .len (.cons (.var 1) .nil)) (.ix (.var 0) (.ci 0))) [J (fr (q,B_)),J (.ref k)] h=.ok (.int ((C.length-q:Nat):Int)) h:=(Zh (el hk rfl) (y:=.int (q:Int)) rfl).trans (by rw[Zen];congr 2;lia);rw[Op,Z4,if_pos ⟨rfl,hl⟩];show qe.bnd (ev U _ [J (fr (q,B_)),J (.ref k)] h) _=_;rw[e,Zl,ZqJ hk fs _ (by simp only[OA,Os,List.length_nil]at *;lia) (λf z=>hf f (Oh _ z)),Op,Oz];rfl
theorem Zqb(f:α->Nat):∀l:List α,intsOf (l.map λa=>.int (f a:Int))=J (l.map λa=>(f a:Int))/\(l.map λa=>(f a:Int)).sum=((l.map f).sum:Nat)
 |[]=>⟨rfl,rfl⟩
 |a::l=>by obtain⟨R,h2⟩:=Zqb f l;rw[Op,intsOf,R,Op,OI,h2,Op,OI];exact⟨rfl,rfl⟩
def Zmj(H:Lw P)(n:Nat)(d:Ci C N s Z)(hl:s.pl.length<=500)(hk:h[k]?=J (.lst (C.map Ce.Rw.d))):∃g,run P (n+1) (O "code_left") [.ref k,s.d] h=.ok (.int (left C s:Int)) (h++g):=by
 rw[Zf H.code_left (by rfl)];obtain⟨r,hc,_⟩:=d.r.row;have hp:=(Ob.mp hc).1;have e:=ZqJ (U:=P.tbl n) hk s.pl [] (by simp;lia) (λf z=>(d.r.has f z).1);have ec:ev (P.tbl n) (.comp [O "below",O "code"] [M,J 0] (.pl (.ix (.var 1) (.ci 3))) (.nm 0) M (.bin .Sub (.blt .len (.cons (.var 1) .nil)) (.ix (.var 0) (.ci 0)))) [J (.ref k),J s.d] h=.ok (.ref h.length) (h++[.lst (s.pl.map λf=>.int ((C.length-f.1:Nat):Int))]):=Zko (Zjb (xs:=s.pl.map fr) rfl) e;obtain⟨i1,i2⟩:=Zqb (λf:Nat×List D=>C.length-f.1) s.pl;have es:ev (P.tbl n) (.blt .sum (.cons (.comp [O "below",O "code"] [M,J 0] (.pl (.ix (.var 1) (.ci 3))) (.nm 0) M (.bin .Sub (.blt .len (.cons (.var 1) .nil)) (.ix (.var 0) (.ci 0)))) .nil)) [J (.ref k),J s.d] h=.ok (.int ((s.pl.map λf=>C.length-f.1).sum:Nat)) (h++[.lst (s.pl.map λf=>.int ((C.length-f.1:Nat):Int))]):=by refine Zf2 (Zc ec rfl) ?_;simp only[ZbO,Zom,lstOf,Om (Oq _),Nat.sub_self,OJ,Yz,i1,Yu,qe.ofO_some,i2]
 have x1:xs1 (P.tbl n) ZeQ [J (.ref k),J s.d] h=.ok (.rt (.int (left C s:Int)),[J (.ref k),J s.d]) (h++[.lst (s.pl.map λf=>.int ((C.length-f.1:Nat):Int))]):=Zu ((Zh ((Zh (el hk rfl) (y:=.int (s.p:Int)) rfl).trans Zen) es).trans (by rw[ZgN];congr 2;simp only[left];lia));exact⟨_,congrArg Ze (Zd x1)⟩
end
end K54L
namespace K54L
open PySem L2 IV
open Rw (Sta StN read wts)
open Cs (Ci Sp Sc left)
open Ce (Ma keep)
open Gn (Cl)
section
variable {P:Pg}{h R h2:Hd}{C:List Ce.Rw}{N k:Nat}{U:Tb}{S:Ev}
noncomputable def vl(ro td:D)(k:Nat)(sd tl od:D)(kb:Nat)(a b c e:Option D):Ev:=[J ro,J td,J (.ref k),J sd,J tl,J od,J (.ref kb),a,b,c,e]
def Ztc(d:Ci C N s Z)(hz:(read Z).size<=120):s.pl.length<=120:=by
 have:=d.r.lens;have:=Cs.Zot Z
 lia
def Zq2(i k:Nat):ZP (i:Int) (k+1)=.int (i:Nat)::ZP ((i+1:Nat):Int) k:=by
 unfold ZP;rw[List.range_succ_eq_map,Op,List.map_map];refine congr (congrArg _ (by simp)) (List.map_congr_left λa _=>?_);simp only[Function.comp_apply];congr 1
 lia
def Zlq(p:ev U a S h=.ok (.str x) R)(q:ev U b S R=.ok (.str y) h2):tst U (.ex (.cmp .NotEq a b)) S h=.ok (!Wz (x=y)) h2:=ZbM ((Zv p q).trans (by rw[Zln,ZdO];rfl))
def Zwm(e:h[i]?=J (.lst wl)):Zgv h (.ref i)=J (.list [.str (O "wide"),.bool Wx]):=by simp only[Zgv,D.py,Zgu,e,D.pys,Yz,Yu]
def Ztk(p:h[i]?=J (.lst wl))(q:h[j]?=J (.lst wl)):opC GD .Eq (.ref i) (.ref j) h=.ok (.bl Wx) h:=by rw[ZfR,IV.Zc8,Zwm p,Zwm q];exact(if_pos (by decide)).trans rfl
def ZwW(e:h[i]?=J (.lst xs)):ZbO GD .isi [.ref i,.ty "list"] h=.ok (.bl Wx) h:=by simp only[ZbO,ZsQ,ZtA,lstOf,e];rfl
def ZwV(t:T):ZbO GD .isi [t.d,.ty "list"] h=.ok (.bl Wy) h:=by cases t<;>rfl
def Zyw(p:ev U a S h=.ok (.bl Wx) R)(q:ev U b S R=.ok (.bl Wx) h2)(r:ev U c S h2=.ok x h3):ev U (.ands (.cons a (.cons b (.cons c .nil)))) S h=.ok x h3:=by rw[Zje,Zet,p,Zl];show evAnd U _ S R=_;rw[Zet,q,Zl];exact r
def Zvo(p:ev U a S h=.ok (.int x) h)(q:ev U b S h=.ok (.int y) R)(hx:x<=y)(r:ev U c S R=.ok (.int z) R):ev U (.cmp2 .LtE .Lt a b c) S h=.ok (.bl (Wz (y<z))) R:=by show qe.bind (ev U a S h) _=_;rw[p,qe.bind_ok,q,qe.bind_ok,Zuy,decide_eq_true hx];show qe.bind (ev U c S R) _=_;rw[r];rfl
def ZiS(H:Lw P)(n:Nat)(z:Int):run P (n+1) (O "_law_whole") [.int z] h=.ok (.bl Wx) h:=by rw[Zf H.law_whole (by rfl)];exact rfl
inductive Lg:qe (Fl×Ev)->Prop
 |nx {S:Ev}{h:Hd}:Lg (.ok (.nx,S) h)
 |rt {S:Ev}{h:Hd}:Lg (.ok (.rt (.bl Wx),S) h)
section
variable {ro td:D}{u:T}{kb:Nat}{Cb:List D}
theorem Zp3(H:Lw P)(n:Nat)(hn:200<=n)(hN:N<=5000)(hG:C.length<=500)(cu:Cl [] u)(zu:u.size<=500)(rb:∀h:Hd,h[kb]?=J (.lst Cb)->∃g,run P (n+8) (O "_law_read") [.ref kb,Ma.d ⟨0,[],[],[]⟩] h=.ok u.d (h++g)):
 ∀(m i:Nat) {s:Ma}{Z:Sta}{tl:D}{a b c e:Option D}{h:Hd},Ci C N s Z->Cl [] (read Z)->(i=0->(read Z).size<=120)->s.pl.length<=500->(tl=.non\/tl=(read Z).d)->h[k]?=J (.lst (C.map Ce.Rw.d))->h[kb]?=J (.lst Cb)->Lg (ZJ M (.nm 7) (xs2 (P.tbl (n+8)) Zbv) (ZP (i:Int) m) (vl ro td k s.d tl u.d kb a b c e) h)
 |0,i,s,Z,tl,a,b,c,e,h,d,ct,h0,hp,ht,hk,hb=>.nx
 |m+1,i,s,Z,tl,a,b,c,e,h,d,ct,h0,hp,ht,hk,hb=>by
  have q:=ZgK H n hN d hG hp hk;generalize hr:run P (n+8) (O "_law_read") [.ref k,s.d] h=r at q;rw[Zq2];have fin:∀{ρ':Ev}{h':Hd},xs2 (P.tbl (n+8)) Zbv (vl ro td k s.d tl u.d kb (J (.int (i:Int))) b c e) h=.ok (.rt (.bl Wx),ρ') h'->Lg (ZJ M (.nm 7) (xs2 (P.tbl (n+8)) Zbv) (.int (i:Nat)::ZP ((i+1:Nat):Int) m) (vl ro td k s.d tl u.d kb a b c e) h):=λq=>by rw[Zu8 rfl q];exact .rt
  have go:∀{ρ':Ev}{h':Hd},xs2 (P.tbl (n+8)) Zbv (vl ro td k s.d tl u.d kb (J (.int (i:Int))) b c e) h=.ok (.nx,ρ') h'->Lg (ZJ M (.nm 7) (xs2 (P.tbl (n+8)) Zbv) (ZP ((i+1:Nat):Int) m) ρ' h')->Lg (ZJ M (.nm 7) (xs2 (P.tbl (n+8)) Zbv) (.int (i:Nat)::ZP ((i+1:Nat):Int) m) (vl ro td k s.d tl u.d kb a b c e) h):=λq l=>by rw[ZfZ rfl q];exact l
  cases q with
  |@ex g j lt e1=>
   have x1:xs1 (P.tbl (n+8)) Zf7 (vl ro td k s.d tl u.d kb (J (.int (i:Int))) b c e) h=.ok (.nx,vl ro td k s.d tl u.d kb (J (.int (i:Int))) (J (.ref j)) c e) (h++g):=Zn (Zt hr rfl);have ji:=keep (g:=g) hk;generalize h++g=R at *;have q2:=ZgK H n hN d hG hp (keep (g:=[.lst wl]) ji);generalize hr2:run P (n+8) (O "_law_read") [.ref k,s.d] (R++[.lst wl])=r2 at q2;cases q2 with
   |ok le=>lia
   |@ex g2 j2 _ e2=>have y:=Zyw (U:=P.tbl (n+8)) (S:=vl ro td k s.d tl u.d kb (J (.int (i:Int))) (J (.ref j)) c e) ((Zv (a:=.var 8) (x:=.ref j) (R:=R) rfl (Zhv (xs:=wl) (R:=R) (es:=.cons (.Ci_ "wide") (.cons (.cst (.bl Wx)) .nil)) rfl (by decide))).trans (Ztk (keep e1) (by simp))) ((Zv (a:=.var 7) (b:=.ci 0) (op:=.Gt) (x:=.int (i:Int)) rfl rfl).trans (by rw[Zuz,decide_eq_true (by lia)])) ((Zv (op:=.Eq) (a:=.call (O "_law_read") (.cons (.var 2) (.cons (.var 3) .nil))) (Zt hr2 rfl) (b:=.var 8) rfl).trans (Ztk e2 (keep (keep e1))));exact fin ((Za x1).trans (Zd ((Zj (ZbM (Zf2 (Zc rfl (Zc rfl rfl)) (ZwW e1)))).trans (Zd (Zu y)))))
  |@ok g le=>
   have v3:∀{tl:D}{c e:Option D}{h h':Hd},run P (n+8) (O "_law_read") [.ref kb,Ma.d ⟨0,[],[],[]⟩] h=.ok u.d h'->tst (P.tbl (n+8)) Ziy (vl ro td k s.d tl u.d kb (J (.int (i:Int))) (J (read Z).d) c e) h=.ok Wy h':=λ{tl c e h h'} er=>ZtR cu zu (Zt er (Zc (x:=.ref kb) (R:=h) rfl (Zc (Zt (y:=.ok (Ma.d ⟨0,[],[],[]⟩) h) (by show run P (n+8) _ _ _=_;rw[Zf H.d.c.code_begun (by rfl)];exact rfl) rfl) rfl))) rfl;have x1:xs1 (P.tbl (n+8)) Zf7 (vl ro td k s.d tl u.d kb (J (.int (i:Int))) b c e) h=.ok (.nx,vl ro td k s.d tl u.d kb (J (.int (i:Int))) (J (read Z).d) c e) (h++g):=Zn (Zt hr rfl);have ji:=keep (g:=g) hk;have kh:=keep (g:=g) hb;generalize h++g=R at *;obtain⟨g,e3⟩:=rb R kh;have gT:=keep (g:=g) ji;have mM:=keep (g:=g) kh;generalize R++g=h2 at *;have q:=ZgK H n hN d hG hp gT;generalize hr2:run P (n+8) (O "_law_read") [.ref k,s.d] h2=r2 at q;cases q with
   |ex lt _=>lia
   |@ok g _=>
    have jh:=keep (g:=g) gT;have mL:=keep (g:=g) mM;generalize h2++g=h3 at *;obtain⟨g,e4⟩:=Gn.ZgR H.m (n+8) (read Z) h3 (by have:=Tm.ZcD (read Z);lia);have j7:=keep (g:=g) jh;have mK:=keep (g:=g) mL;generalize h3++g=h4 at *;obtain⟨g,e5⟩:=Zmj H (n+7) d hp j7;have fX:=keep (g:=g) j7;have kg:=keep (g:=g) mK;generalize h4++g=h5 at *;have hw:=Cs.Zot Z;obtain⟨an,sc⟩:=Cs.sim d.r (by lia) hN d.ok d.on;have t4:tst (P.tbl (n+8)) Zix (vl ro td k s.d tl u.d kb (J (.int (i:Int))) (J (read Z).d) c e) h2=.ok Wy h4:=Zlk (ZtR ct (by lia) (R:=h2) rfl (Zt hr2 rfl)) (Zi (Zu6 (Zt e4 rfl) rfl) (decide_eq_false (by lia)));have x5:xs1 (P.tbl (n+8)) ZiH (vl ro td k s.d tl u.d kb (J (.int (i:Int))) (J (read Z).d) c e) h4=.ok (.nx,vl ro td k s.d tl u.d kb (J (.int (i:Int))) (J (read Z).d) (J (.int (left C s:Int))) e) h5:=Zn (Zt e5 rfl);have t6:tst (P.tbl (n+8)) Zf5 (vl ro td k s.d tl u.d kb (J (.int (i:Int))) (J (read Z).d) (J (.int (left C s:Int))) e) h5=.ok Wy h5:=by
     rw[Zf5,ZiO,Zc5,ZkY,ZbM (Zt (ZiS H (n+7) _) rfl),Zl];show tstOr _ _ _ h5=_;rw[Zc5,ZbM (b:=false) ((Zv (x:=.int (left C s:Int)) rfl (Zt (ZtY H (n+7) d fX) rfl)).trans (by rw[Zln,Zg5,decide_eq_true rfl];rfl)),Zl];show tst _ _ _ h5=_;rcases ht with rfl|rfl
     . exact ZqV (Zi (Zp9 (x:=.non) rfl) (by rw[decide_eq_true rfl];rfl))
     . exact ZiM (Zi (Zp9 (x:=(read Z).d) rfl) (by rw[decide_eq_false (by cases read Z<;>nofun)];rfl)) (ZtR (a:=.var 8) (b:=.var 4) ct (by lia) rfl rfl)
    have x7:xs1 (P.tbl (n+8)) ZiG (vl ro td k s.d tl u.d kb (J (.int (i:Int))) (J (read Z).d) (J (.int (left C s:Int))) e) h5=.ok (.nx,vl ro td k s.d tl u.d kb (J (.int (i:Int))) (J (read Z).d) (J (.int (left C s:Int))) (J an.d)) h5:=Zn (Zt (sc.run H.d.c (n+4) fX) rfl);have pre:xs2 (P.tbl (n+8)) Zbv (vl ro td k s.d tl u.d kb (J (.int (i:Int))) b c e) h=xs2 (P.tbl (n+8)) (.cons ZiF (.cons ZiE (.cons ZhK (.cons ZhJ .nil)))) (vl ro td k s.d tl u.d kb (J (.int (i:Int))) (J (read Z).d) (J (.int (left C s:Int))) (J an.d)) h5:=(Za x1).trans ((Za ((Zg (ZbM (Zf2 (Zc (x:=(read Z).d) (R:=R) rfl (Zc rfl rfl)) (ZwV (read Z))))).trans rfl)).trans ((Za ((Zg (v3 e3)).trans rfl)).trans ((Za ((Zg t4).trans rfl)).trans ((Za x5).trans ((Za ((Zg t6).trans rfl)).trans (Za x7))))))
    have sp:=sc.sp d;cases sp with
    |value v=>exact fin (pre.trans (Zd ((Zj (ZiM (Zi (Zlq (x:=O "value") rfl rfl) rfl) (Zi (Zlq (x:=O "value") rfl rfl) rfl))).trans (Zd (Zu rfl)))))
    |stuck nv er=>exact fin (pre.trans (Zd ((Zj (ZiM (Zi (Zlq (x:=O "stuck") rfl rfl) rfl) (Zi (Zlq (x:=O "stuck") rfl rfl) rfl))).trans (Zd (Zu rfl)))))
    |@quiet s' σ' d' er=>
     have ll:left C s'<left C s/\s'.pl.length<=500:=by
      have:=Ztc d le;cases sc with
      |quiet e r q=>have:=Cs.ZoR e;exact⟨Cs.Zsb d.r e,by lia⟩
     obtain⟨g,e8⟩:=Zmj H (n+7) d' ll.2 fX;have mi:=keep (g:=g) fX;have mJ:=keep (g:=g) kg;generalize h5++g=h6 at *;have kM:tst (P.tbl (n+8)) ZcF (vl ro td k s'.d (read Z).d u.d kb (J (.int (i:Int))) (J (read Z).d) (J (.int (left C s:Int))) (J (Ce.Ans.quiet s').d)) h5=.ok Wy h6:=by rw[ZcF,ZkY,ZbM (Zvo (x:=0) rfl (Zt e8 rfl) (by lia) rfl),Zl,decide_eq_true (by lia)];rfl
     exact go (pre.trans ((Za ((Zg (ZqV (Zi (Zlq (x:=O "quiet") rfl rfl) rfl))).trans rfl)).trans ((Za rfl).trans ((Za rfl).trans ((Za ((Zj (Zi (Zcd (x:=O "quiet") rfl rfl) rfl)).trans ((Za rfl).trans ((Za ((Zg kM).trans rfl)).trans rfl)))).trans rfl))))) (Zp3 H n hn hN hG cu zu rb m (i+1) d' (er▸ct) nofun ll.2 (.inr (by rw[er])) mi mJ)
    |@loud s' σ' d' nv er=>
     have ll:s'.pl.length<=500:=by
      have:=Ztc d le;cases sc with
      |loud e q0 hs r q=>have:=Cs.ZoR e;lia
     exact go (pre.trans ((Za ((Zg (ZiM (Zi (Zlq (x:=O "loud") rfl rfl) rfl) (Zi (Zlq (x:=O "loud") rfl rfl) rfl))).trans rfl)).trans ((Za rfl).trans ((Za rfl).trans ((Za ((Zg (Zi (Zcd (x:=O "loud") rfl rfl) rfl)).trans rfl)).trans rfl))))) (Zp3 H n hn hN hG cu zu rb m (i+1) d' (Tm.ZpQ nv ct le er).1 nofun ll (.inl rfl) fX kg)
end
def Zt2(hc:P.tb.lookup (O "_law_cell_at")=J Gn.Zax)(n:Nat)(zs:List Int){h:Hd}:∃v,run P (n+1) (O "_law_cell_at") [.ro (zs.map .int),.int 0] h=.ok (.int v) h:=by
 rw[Zf hc rfl];cases zs with
 |nil=>exact⟨0,by simp[Gn.Zax,Gn.ZcH,ZE,ZbO,ZlS,seqOf,lstOf]⟩
 |cons z zs=>
  refine⟨z,?_⟩;have:(0:Int)<(zs.length:Int)+1:=by lia
  simp[Gn.Zax,Gn.ZcH,ZE,ZbO,ZlS,seqOf,lstOf,this]
theorem Zki(F:List Nat):∀(L:List (List Ce.Rw)) (a:Nat),(Ce.flat F a L).length=(L.map List.length).sum
 |[],_=>rfl
 |r::L,a=>by rw[Ce.flat,OA,Yt,Zki F L];simp
def Zkw(t:T):(Ce.code t).length<=3*t.size+1:=by
 have:=Ce.ZaS t [] Wy 0 1;rw[Ce.code,Zki,Ce.units];simp only[Op,OI,OA,Os,List.length_nil]
 lia
def Zwd(H:Lw P)(zs:List Int)(hz:zs.length<=63):∃h',run P (250+1) (O "law") [.ro (zs.map .int)] []=.ok (.bl Wx) h':=by
 obtain⟨t,R,e1,ct,st,dt,_,_⟩:=Gn.Znv H.m (N:=249) (by lia) zs 1 [] (by lia);obtain⟨h2,k,e2,hk,_,_,_⟩:=Ce.Zpc H.d.c 244 t ct (by lia) R;have cu:Cl [] (T.op .add t (.num 1)):=⟨ct,show(0:Int)<=1/\(1:Int)<1000000 by decide⟩
 have zu:(T.op .add t (.num 1)).size=t.size+2:=by rw[Tm.zo];show 1+t.size+1=_;lia
 have lu:=Zkw (.op .add t (.num 1));obtain⟨h3,kb,e3,hb,_,_,old⟩:=Ce.Zpc H.d.c 244 (.op .add t (.num 1)) cu (by lia) h2;have jh:h3[k]?=J (.lst ((Ce.code t).map Ce.Rw.d)):=by rw[old k (Ce.Zah hk)];exact hk
 have rd:∀t,read (Sta.go t .nil [])=t:=λt=>Tm.Zcu t (λx=>rfl);have rb:∀h:Hd,h[kb]?=J (.lst ((Ce.code (.op .add t (.num 1))).map Ce.Rw.d))->∃g,run P 250 (O "_law_read") [.ref kb,Ma.d ⟨0,[],[],[]⟩] h=.ok (T.op .add t (.num 1)).d (h++g):=λh hb=>by
  have q:=ZgK H 242 (by lia) (Ci.begin _ cu) (by lia) (by simp) hb;rw[rd]at q;generalize run P (242+8) (O "_law_read") [.ref kb,Ma.d ⟨0,[],[],[]⟩] h=r at *;cases q with
  |@ok g _=>exact⟨g,rfl⟩
  |ex lt _=>lia
 have d:=Ci.begin t ct;have cl:=Zkw t;have eb:run P 250 (O "code_begun") [.ref k] h2=.ok (Ma.d ⟨0,[],[],[]⟩) h2:=by rw[Zf H.d.c.code_begun (by rfl)];exact rfl
 obtain⟨v,e4⟩:=Zt2 H.cell 249 (h:=h3) zs;have e5:=Gn.ZiU H.m 249 v 1 h3 (by decide);obtain⟨qd,hM⟩:∃qd:Nat,Gn.mixed v 1%59=(qd:Int):=⟨(Gn.mixed v 1%59).toNat,by have:=Int.emod_nonneg (Gn.mixed v 1) (b:=59) (by decide);lia⟩
 have nW:qd<=59:=by have:=Int.emod_lt_of_pos (Gn.mixed v 1) (b:=59) (by decide);lia
 generalize D.ro (zs.map .int)=ro at *;have lo:=Zp3 H 242 (by decide) (by lia) (by lia) cu (by lia) rb (1+qd) 0 (ro:=ro) (td:=t.d) (k:=k) (tl:=t.d) (a:=M) (b:=M) (c:=M) (e:=M) (h:=h3) d (by rw[rd];exact ct) (λ_=>by rw[rd];lia) (by simp) (.inr (by rw[rd])) jh hb;have x5:xs1 (P.tbl 250) Zm8 [J ro,J t.d,J (.ref k),J (Ma.d ⟨0,[],[],[]⟩),J t.d,M,M,M,M,M,M] h2=.ok (.nx,[J ro,J t.d,J (.ref k),J (Ma.d ⟨0,[],[],[]⟩),J t.d,J (T.op .add t (.num 1)).d,M,M,M,M,M]) h2:=Zn (Zan (Zc rfl (Zc rfl (Zc (Zan rfl (by decide)) rfl))) (show 3<=1000 by decide));generalize T.op .add t (.num 1)=u at *;have ei:evi (P.tbl 250) Zi7 (vl ro t.d k (Ma.d ⟨0,[],[],[]⟩) t.d u.d kb M M M M) h3=.ok ⟨M,ZP 0 (1+qd)⟩ h3:=by
  have q:ev (P.tbl 250) (.bin .Add (.ci 1) (.bin .Mod (.call (O "_law_mixed") (.cons (.call (O "_law_cell_at") (.cons (.var 0) (.cons (.ci 0) .nil))) (.cons (.ci 1) .nil))) (.ci 59))) (vl ro t.d k (Ma.d ⟨0,[],[],[]⟩) t.d u.d kb M M M M) h3=.ok (.int ((1+qd:Nat):Int)) h3:=(Zh (x:=.int 1) rfl ((Zh (Zt e5 (Zc (Zt e4 rfl) rfl)) rfl).trans ((ZX (by decide)).trans (by rw[hM])))).trans (by rw[ZgN];congr 2);have kQ:ZbW ((1+qd:Nat):Int)=Wx:=by simp[ZbW];lia
  rw[Zi7,Zsq,q,Zl];simp only[kQ,if_true,Int.toNat_natCast]
 rw[Zf H.law (by rfl)];have x1:xs1 (P.tbl 250) Znb [J ro,M,M,M,M,M,M,M,M,M,M] []=.ok (.nx,[J ro,J t.d,M,M,M,M,M,M,M,M,M]) R:=Zn (Zt e1 rfl);have x2:xs1 (P.tbl 250) Zna [J ro,J t.d,M,M,M,M,M,M,M,M,M] R=.ok (.nx,[J ro,J t.d,J (.ref k),M,M,M,M,M,M,M,M]) h2:=Zn (Zt e2 rfl);have x3:xs1 (P.tbl 250) Zm9 [J ro,J t.d,J (.ref k),M,M,M,M,M,M,M,M] h2=.ok (.nx,[J ro,J t.d,J (.ref k),J (Ma.d ⟨0,[],[],[]⟩),M,M,M,M,M,M,M]) h2:=Zn (Zt eb rfl);have x7:xs1 (P.tbl 250) Zm6 (vl ro t.d k (Ma.d ⟨0,[],[],[]⟩) t.d u.d kb M M M M) h3=ZJ M (.nm 7) (xs2 (P.tbl 250) Zbv) (ZP 0 (1+qd)) (vl ro t.d k (Ma.d ⟨0,[],[],[]⟩) t.d u.d kb M M M M) h3:=ZfY ei;have x6:xs1 (P.tbl 250) Zm7 [J ro,J t.d,J (.ref k),J (Ma.d ⟨0,[],[],[]⟩),J t.d,J u.d,M,M,M,M,M] h2=.ok (.nx,vl ro t.d k (Ma.d ⟨0,[],[],[]⟩) t.d u.d kb M M M M) h3:=Zn (Zt e3 rfl);show ∃h',Ze (xs2 (P.tbl 250) ZqO [J ro,M,M,M,M,M,M,M,M,M,M] [])=_;rw[ZqO,Za x1,Za x2,Za x3,Za (show _=qe.ok (Fl.nx,[J ro,J t.d,J (.ref k),J (Ma.d ⟨0,[],[],[]⟩),J t.d,M,M,M,M,M,M]) h2 from rfl),Za x5,Za x6];generalize hf:ZJ M (.nm 7) (xs2 (P.tbl 250) Zbv) (ZP 0 (1+qd)) (vl ro t.d k (Ma.d ⟨0,[],[],[]⟩) t.d u.d kb M M M M) h3=rr at *;have lo:Lg rr:=hf▸lo;cases lo with
 |rt=>exact⟨_,by rw[Zd x7];rfl⟩
 |nx=>exact⟨_,by rw[Za x7];rfl⟩
end
end K54L
section
set_option maxHeartbeats 4000000
namespace K54
open PySem L2 IV PyProof.Rows
def Zf8:Sxs:=.w (.iff (.q (.a "Pen" V0 "used") (.a "Pen" V0 "most")) (.o (.rai (O "Wide") (.Ci_ "more places than an expression that is told may have"))) .n) (.auga [O "Pen"] V0 (O "used") K1)
def Zf1:Fd:=fd_ 1 ["self"] Zf8
noncomputable def cG:List (Str×D):=[(O "WIDEST",.int 120),(O "BEYOND",.int 1000000),(O "CALLS",(.tup [(.str (O "call")),(.str (O "hop"))])),(O "LOUD",(.tup [(.str (O "call")),(.str (O "hop")),(.str (O "unless")),(.str (O "work"))])),(O "LEADING",(.tup [(.str (O "unless")),(.str (O "jump"))])),(O "FORMS",.kd (O "FORMS"))]
noncomputable def cD:List (Str×List (Key×D)):=[(O "FORMS",[(.inr (O "fn"),(.tup [.int 1,.int 1])),(.inr (O "rec"),(.tup [.int 2,.int 1])),(.inr (O "call"),(.tup [.int 0,.int 2])),(.inr (O "if"),(.tup [.int 0,.int 3])),(.inr (O "+"),(.tup [.int 0,.int 2])),(.inr (O "-"),(.tup [.int 0,.int 2])),(.inr (O "*"),(.tup [.int 0,.int 2])),(.inr (O "<"),(.tup [.int 0,.int 2]))])]
noncomputable def dl:List (Str×Fd×Nat):=[(O "bound_names",Ce.Zbw,6),(O "parts_of",Ce.Zdf,7),(O "front_of",Tm.Zhs,8),(O "count_parts",Tm.ZeN,9),(O "built",Tm.ZmP,10),(O "bound_to",Tm.Zht,12),(O "loud_or_stuck",Ce.Zds,13),(O "opened",Tm.Zkk,14),(O "meant_by",Tm.Zho,15),(O "within",Tm.Zkj,16),(O "chosen",Ce.Zkm,20),(O "worked",Ce.Zfn,21),(O "code_begun",Ce.Zfs,25),(O "thing_of",Ce.Zhm,26),(O "quiet_state",Ce.ZeK,27),(O "entered",Ce.Zir,28),(O "applied",Ce.Zit,29),(O "gone_on",Ce.Ziq,30),(O "reckoned",Ce.ZeV,31),(O "loud_state",Ce.Zfo,32),(O "code_step",Ce.Zgl,33),(O "function_of",Cr.ZeM,34),(O "code_read",Cr.Zgm,36),(O "code_left",K54L.Zgn,37),(O "count_rows",Ce.Zfr,40),(O "pieces_of",Ce.Zgi,41),(O "first_rows",Ce.Zfq,44),(O "numbered",Ce.Zhn,45),(O "code_of",Ce.Zis,46),(O "_law_whole",K54L.Zgj,48),(O "_law_cell_at",Gn.Zax,49),(O "_law_mixed",Gn.ZdV,50),(O "_law_next",Gn.Zhq,51),(O "_law_names",Gn.ZdU,52),(O "_law_there",Gn.ZdT,53),(O "_law_plain",Gn.Zgk,54),(O "_law_function",Gn.ZdW,55),(O "_law_number",Gn.Zfp,56),(O "_law_any",Gn.Zes,57),(O "_law_width",Gn.Zcn,58),(O "_law_deep",Gn.Zdg,59),(O "_law_program",Gn.ZeL,60),(O "_law_read",K54L.Zhp,61),(O "_law_left",K54L.Zhr,62),(O "law",K54L.Zkl,63)]
noncomputable def tb:List (Str×Fd):=dl.map λp=>(p.1,p.2.1)
noncomputable def mo1:List Ml:=[(O "take_place",O "Pen.take_place",Zf1,17,1),(O "joined",O "Pen.joined",Pw.Zft,17,2),(O "filled",O "Pen.filled",Tm.Zfu,17,3),(O "told",O "Pen.told",Pw.Zhu,17,4)]
noncomputable def mo2:List Ml:=[(O "put_on",O "Decoder.put_on",Cr.ZcY,35,1),(O "put_together",O "Decoder.put_together",Cr.ZaW,35,2),(O "is_within_if",O "Decoder.is_within_if",Cr.ZaX,35,3),(O "is_behind_if",O "Decoder.is_behind_if",Cr.ZaY,35,4),(O "jump",O "Decoder.jump",Cr.ZdX,35,5),(O "go_back",O "Decoder.go_back",Cr.Zco,35,6),(O "do_row",O "Decoder.do_row",Cr.ZcZ,35,7),(O "do_next",O "Decoder.do_next",Cr.Zcp,35,8),(O "put_whole",O "Decoder.put_whole",Cr.ZbU,35,9),(O "do_all",O "Decoder.do_all",Cr.Zc0,35,10)]
noncomputable def mo3:List Ml:=[(O "add_row",O "Unit.add_row",Ce.ZaU,42,1)]
noncomputable def mo4:List Ml:=[(O "wait_for",O "Coder.wait_for",Ce.Zc1,43,1),(O "begin_unit",O "Coder.begin_unit",Ce.Zcc,43,2),(O "begin_function",O "Coder.begin_function",Ce.ZaZ,43,3),(O "do_part",O "Coder.do_part",Ce.Zdt,43,4),(O "do_all",O "Coder.do_all",Ce.ZdY,43,5)]
def ms:List (Str×Fd):=[(mnm (O "Pen") (O "__init__"),Tm.ZaV),(mnm (O "Decoder") (O "__init__"),Cr.ZaG),(mnm (O "Unit") (O "__init__"),Ce.ZaD),(mnm (O "Coder") (O "__init__"),Ce.Zam)]++mo1.map (λp=>(mnm (O "Pen") p.1,p.2.2.1))++mo2.map (λp=>(mnm (O "Decoder") p.1,p.2.2.1))++mo3.map (λp=>(mnm (O "Unit") p.1,p.2.2.1))++mo4.map (λp=>(mnm (O "Coder") p.1,p.2.2.1))
def pg:Pg:=⟨tb,λx=>cG.lookup x,λx=>cD.lookup x,1000000,ms⟩
noncomputable def kl:Kl:=⟨[O "Pen",O "Decoder",O "Unit",O "Coder"],[O "around",O "at",O "begun",O "code",O "done",O "most",O "pen",O "pile",O "rows",O "units",O "used",O "waiting"],mo1.map (λp=>(O "Pen",p.1))++mo2.map (λp=>(O "Decoder",p.1))++mo3.map (λp=>(O "Unit",p.1))++mo4.map (λp=>(O "Coder",p.1)),[O "Pen",O "Decoder",O "Unit",O "Coder"],[O "Wide"],[(O "StrideError",O "Wide")]⟩
abbrev Zkl:Fd:=K54L.Zkl
noncomputable def top(i:Nat):Stmt:=PySem.Challenge.pw_samestride_k54_code_quiet.main.body.getD i (.Pass ⟨0,0,0,0⟩)
def mt(i j:Nat):Stmt:=inClass (top i) j
noncomputable def fs:List Str:=tb.map (·.1)
local macro_rules|`(tactic| wtm_at "al")=>`(tactic| repeat' first|exact trivial|refine' And.intro ?_ ?_)
local macro_rules|`(tactic| wtm_at "chk")=>`(tactic| exact⟨by constructor<;>decide +kernel,λ_ _ _ _ _ _ us hl=>by
 first
 |(have e:=ZvJ (show us.length=0 from hl);subst e;rfl)
 |(obtain⟨a0,e⟩:=ZvI (show us.length=1 from hl);subst e;rfl)
 |(obtain⟨a0,a1,e⟩:=ZvH (show us.length=2 from hl);subst e;rfl)
 |(obtain⟨a0,a1,a2,e⟩:=ZvG (show us.length=3 from hl);subst e;rfl)
 |(obtain⟨a0,a1,a2,a3,e⟩:=ZvF (show us.length=4 from hl);subst e;rfl)
 |(obtain⟨a0,a1,a2,a3,a4,e⟩:=ZvE (show us.length=5 from hl);subst e;rfl)
 |(obtain⟨a0,a1,a2,a3,a4,a5,e⟩:=ZxC (show us.length=6 from hl);subst e;rfl)
 |(obtain⟨a0,a1,a2,a3,a4,a5,a6,e⟩:=us_7 (show us.length=7 from hl);subst e;rfl),by decide +kernel⟩)
def kd:All (λp:Str×Fd×Nat=>Chk kl fs p.1 p.1 p.2.1 (top p.2.2)) dl:=by
 wtm_at "al"
 all_goals wtm_at "chk"
def km1:All (λp:Ml=>Chk kl fs p.1 p.2.1 p.2.2.1 (mt p.2.2.2.1 p.2.2.2.2)) mo1:=by
 wtm_at "al"
 all_goals wtm_at "chk"
def kk1:All (λp:Ml=>pg.look (mnm (O "Pen") p.1)=J p.2.2.1) mo1:=by
 wtm_at "al"
 all_goals kernel_rfl
def ki1:Chk kl fs (O "__init__") (O "Pen.__init__") Tm.ZaV (mt 17 0):=by wtm_at "chk"
def km2:All (λp:Ml=>Chk kl fs p.1 p.2.1 p.2.2.1 (mt p.2.2.2.1 p.2.2.2.2)) mo2:=by
 wtm_at "al"
 all_goals wtm_at "chk"
def kk2:All (λp:Ml=>pg.look (mnm (O "Decoder") p.1)=J p.2.2.1) mo2:=by
 wtm_at "al"
 all_goals kernel_rfl
def ki2:Chk kl fs (O "__init__") (O "Decoder.__init__") Cr.ZaG (mt 35 0):=by wtm_at "chk"
def km3:All (λp:Ml=>Chk kl fs p.1 p.2.1 p.2.2.1 (mt p.2.2.2.1 p.2.2.2.2)) mo3:=by
 wtm_at "al"
 all_goals wtm_at "chk"
def kk3:All (λp:Ml=>pg.look (mnm (O "Unit") p.1)=J p.2.2.1) mo3:=by
 wtm_at "al"
 all_goals kernel_rfl
def ki3:Chk kl fs (O "__init__") (O "Unit.__init__") Ce.ZaD (mt 42 0):=by wtm_at "chk"
def km4:All (λp:Ml=>Chk kl fs p.1 p.2.1 p.2.2.1 (mt p.2.2.2.1 p.2.2.2.2)) mo4:=by
 wtm_at "al"
 all_goals wtm_at "chk"
def kk4:All (λp:Ml=>pg.look (mnm (O "Coder") p.1)=J p.2.2.1) mo4:=by
 wtm_at "al"
 all_goals kernel_rfl
def ki4:Chk kl fs (O "__init__") (O "Coder.__init__") Ce.Zam (mt 43 0):=by wtm_at "chk"
end K54
end
namespace K54
open PySem L2 IV
def ZuS:pg.tb.lookup (O "law")=J Zkl:=by kernel_rfl
def mkr:Gn.Mkr pg:=⟨by kernel_rfl,by kernel_rfl,by kernel_rfl,by kernel_rfl,by kernel_rfl,.same (by kernel_rfl),.same (by kernel_rfl),.same (by kernel_rfl),by kernel_rfl,by kernel_rfl,.same (by kernel_rfl)⟩
def tre:Gn.Tre pg:=by
 constructor
 all_goals (first|kernel_rfl|decide)
def wid:Tm.Wid pg:=⟨.str (O "more places than an expression that is told may have"),by kernel_rfl⟩
def trb:Tm.Trb pg:=by
 constructor
 case toTre=>exact tre
 case tk=>obtain⟨m,e⟩:=wid;exact⟨_,e⟩
 all_goals kernel_rfl
def pnw:Pw.Pnw pg:=by
 constructor;exact trb;exact wid
 all_goals kernel_rfl
def cod:Ce.Cod pg:=by
 constructor
 all_goals (first|kernel_rfl|decide)
def dec:Cr.Dec pg:=by
 constructor;exact cod;exact pnw
 all_goals kernel_rfl
def lw:K54L.Lw pg:=by
 constructor;exact mkr;exact dec
 all_goals kernel_rfl
def runs:∀ns:List Int,ns.length<=63->∃h',run pg (250+1) (O "law") [.ro (ns.map .int)] []=.ok (.bl Wx) h':=λns hl=>K54L.Zwd lw ns hl
end K54
section
set_option maxHeartbeats 4000000
namespace K54
open PySem L2 IV PyProof.Rows
def tp2{K:Yk}(h:K.lookup a=J ⟨.type "tuple",od,.seq #[.int x t,.int y u] n,sl⟩):RD ⟨K,mg⟩ H B (.tup [.int x,.int y]) (.ref a):=.tup (Zma (vs:=[.int x,.int y]) h (by show 2<=sizeLine;decide) (.cons Zfe (.cons Zfe .nil))) (.cons (.int _) (.cons (.int _) .nil))
theorem md{Pr:Yh}{w:Yg}{K:Yk}{h:YG}{mg:Str->Option Yj}(X:K.In h)(G:h.Ns Yd mg)
   (iu:ZcS K=Wx)
   (dd:All (λp:Str×Fd×Nat=>Zvw K p.1 (top p.2.2)) dl)
   (ft:Yl K Yd (O "Pen")=J (J (.ref ca1))) (gz:Cls K ca1)
   (n1:All (λf=>YJ K (.ref ca1) f=J M) kl.ats)
   (ig:PySem.W.makesIn K ca1=Wx) (ii:Wg K (.ref ca1)=Wx)
   (i1:ZhO K ca1 (O "__init__") (O "Pen.__init__") (mt 17 0))
   (u1:All (λp:Ml=>ZhO K ca1 p.1 p.2.1 (mt p.2.2.2.1 p.2.2.2.2)) mo1)
   (fq:Yl K Yd (O "Decoder")=J (J (.ref ca2))) (gy:Cls K ca2)
   (n2:All (λf=>YJ K (.ref ca2) f=J M) kl.ats)
   (ib:PySem.W.makesIn K ca2=Wx) (ic:Wg K (.ref ca2)=Wx)
   (i2:ZhO K ca2 (O "__init__") (O "Decoder.__init__") (mt 35 0))
   (u2:All (λp:Ml=>ZhO K ca2 p.1 p.2.1 (mt p.2.2.2.1 p.2.2.2.2)) mo2)
   (fm:Yl K Yd (O "Unit")=J (J (.ref ca3))) (gx:Cls K ca3)
   (n3:All (λf=>YJ K (.ref ca3) f=J M) kl.ats)
   (h9:PySem.W.makesIn K ca3=Wx) (ia:Wg K (.ref ca3)=Wx)
   (i3:ZhO K ca3 (O "__init__") (O "Unit.__init__") (mt 42 0))
   (u3:All (λp:Ml=>ZhO K ca3 p.1 p.2.1 (mt p.2.2.2.1 p.2.2.2.2)) mo3)
   (fj:Yl K Yd (O "Coder")=J (J (.ref ca4))) (gv:Cls K ca4)
   (n4:All (λf=>YJ K (.ref ca4) f=J M) kl.ats)
   (hW:PySem.W.makesIn K ca4=Wx) (hZ:Wg K (.ref ca4)=Wx)
   (i4:ZhO K ca4 (O "__init__") (O "Coder.__init__") (mt 43 0))
   (u4:All (λp:Ml=>ZhO K ca4 p.1 p.2.1 (mt p.2.2.2.1 p.2.2.2.2)) mo4)
   (gI:Yl K Yd (O "Wide")=J (J (.ref xa1))) (iM:PySem.W.typeIn K (.ref xa1)=J (.type "type")) (gH:PySem.W.isClsIn K xa1=Wx) (gG:YV K (.ref xa1) (.type "BaseException")=J Wx) (iL:PySem.W.excIn K xa1 [.type "ValueError",.type "Exception",.type "BaseException",.type "object"] "ValueError.__new__"=Wx) (iK:YV K (.ref xa1) (.ref xa1)=J Wx)
   (iJ:Yl K Yd (O "StrideError")=J (J (.ref pa1)))
   (iI:PySem.W.typeIn K (.ref pa1)=J (.type "type"))
   (p1c:PySem.W.isClsIn K pa1=Wx)
   (iH:YV K (.ref pa1) (.type "BaseException")=J Wx)
   (iG:YV K (.ref xa1) (.ref pa1)=J Wx)
   (iF:YJ K (.ref xa1) "__getattribute__"=J (J (.builtin "BaseException.__getattribute__")))
   (iE:YJ K (.ref xa1) "__getattr__"=J M)
   (iD:YJ K (.ref xa1) "__class__"=J (J (.builtin "object.__class__")))
   (p1i:PySem.W.specialIn K (.builtin "object.__class__") "__get__"=J (J (.builtin "getset_descriptor.__get__")))
   (iC:PySem.W.takesIn K (.builtin "object.__class__")=J Wx)
   (iB:PySem.W.mroIn K xa1 (.type "object")=J Wx)
   (iA:PySem.W.kitOne K (.ref xa1) (.ref xa1)=J Wx)
   (zz:All (λx:Str=>Yl K Yd x=J M) Zm5)
   (eS:Yl K Yd (O "WIDEST")=J (J (.int 120 t101)))
   (eR:Yl K Yd (O "BEYOND")=J (J (.int 1000000 t103)))
   (eN:K.lookup q105=J ⟨.type "tuple",r106,.seq #[.str (O "call") t110,.str (O "hop") t111] n107,v108⟩)
   (eQ:Yl K Yd (O "CALLS")=J (J (.ref q105)))
   (eM:K.lookup q113=J ⟨.type "tuple",r114,.seq #[.str (O "call") t118,.str (O "hop") t119,.str (O "unless") t120,.str (O "work") t121] n115,v116⟩)
   (eP:Yl K Yd (O "LOUD")=J (J (.ref q113)))
   (eL:K.lookup q123=J ⟨.type "tuple",r124,.seq #[.str (O "unless") t128,.str (O "jump") t129] n125,v126⟩)
   (eO:Yl K Yd (O "LEADING")=J (J (.ref q123)))
   (eJ:K.lookup q138=J ⟨.type "tuple",r139,.seq #[.int 1 t143,.int 1 t144] n140,v141⟩)
   (eI:K.lookup q147=J ⟨.type "tuple",r148,.seq #[.int 2 t152,.int 1 t153] n149,v150⟩)
   (eG:K.lookup q156=J ⟨.type "tuple",r157,.seq #[.int 0 t161,.int 2 t162] n158,v159⟩)
   (eF:K.lookup q165=J ⟨.type "tuple",r166,.seq #[.int 0 t170,.int 3 t171] n167,v168⟩)
   (eE:K.lookup q174=J ⟨.type "tuple",r175,.seq #[.int 0 t179,.int 2 t180] n176,v177⟩)
   (eB:K.lookup q183=J ⟨.type "tuple",r184,.seq #[.int 0 t188,.int 2 t189] n185,v186⟩)
   (eA:K.lookup q192=J ⟨.type "tuple",r193,.seq #[.int 0 t197,.int 2 t198] n194,v195⟩)
   (ez:K.lookup q201=J ⟨.type "tuple",r202,.seq #[.int 0 t206,.int 2 t207] n203,v204⟩)
   (cy:Yl K Yd (O "FORMS")=J (J (.ref q131)))
   (eK:K.lookup q131=J ⟨.type "dict",M,.dict #[⟨j136,.str (O "fn") t137,.ref q138⟩,⟨j145,.str (O "rec") t146,.ref q147⟩,⟨j154,.str (O "call") t155,.ref q156⟩,⟨j163,.str (O "if") t164,.ref q165⟩,⟨j172,.str (O "+") t173,.ref q174⟩,⟨j181,.str (O "-") t182,.ref q183⟩,⟨j190,.str (O "*") t191,.ref q192⟩,⟨j199,.str (O "<") t200,.ref q201⟩] e132,#[]⟩)
   (du:j136=hashStr w (O "fn"))
   (dj:j145=hashStr w (O "rec"))
   (di:j154=hashStr w (O "call"))
   (dh:j163=hashStr w (O "if"))
   (dg:j172=hashStr w (O "+"))
   (df:j181=hashStr w (O "-"))
   (de:j190=hashStr w (O "*"))
   (c9:j199=hashStr w (O "<"))
   (dw:(q131==Ye)=Wy):Md Pr w K mg pg kl:=by
 have cQ:∃ a aj,mg (O "FORMS")=J (.ref a)/\DkK Pr w K a aj/\∀ H B,RKs ⟨K,mg⟩ H B (cD.lookup (O "FORMS") |>.getD []) aj:=by
   refine⟨q131,[(YE (O "fn"),.ref q138),(YE (O "rec"),.ref q147),(YE (O "call"),.ref q156),(YE (O "if"),.ref q165),(YE (O "+"),.ref q174),(YE (O "-"),.ref q183),(YE (O "*"),.ref q192),(YE (O "<"),.ref q201)],YO X G cy,⟨_,_,_,[(YE (O "fn"),.ref q138),(YE (O "rec"),.ref q147),(YE (O "call"),.ref q156),(YE (O "if"),.ref q165),(YE (O "+"),.ref q174),(YE (O "-"),.ref q183),(YE (O "*"),.ref q192),(YE (O "<"),.ref q201)],eK,⟨rfl,rfl,rfl⟩,rfl,?_,(.cons (Zy _ t137) rfl (.cons (Zy _ t146) rfl (.cons (Zy _ t155) rfl (.cons (Zy _ t164) rfl (.cons (Zy _ t173) rfl (.cons (Zy _ t182) rfl (.cons (Zy _ t191) rfl (.cons (Zy _ t200) rfl .nil)))))))),(by show ([YE (O "fn"),YE (O "rec"),YE (O "call"),YE (O "if"),YE (O "+"),YE (O "-"),YE (O "*"),YE (O "<")]:List Key).Nodup;decide +kernel),(.cons ⟨rfl,Zak⟩ (.cons ⟨rfl,Zak⟩ (.cons ⟨rfl,Zak⟩ (.cons ⟨rfl,Zak⟩ (.cons ⟨rfl,Zak⟩ (.cons ⟨rfl,Zak⟩ (.cons ⟨rfl,Zak⟩ (.cons ⟨rfl,Zak⟩ .nil)))))))),(by show 8<=sizeLine;decide),dw⟩,λ_ _=>(.cons (tp2 eJ) (.cons (tp2 eI) (.cons (tp2 eG) (.cons (tp2 eF) (.cons (tp2 eE) (.cons (tp2 eB) (.cons (tp2 eA) (.cons (tp2 ez) .nil))))))))⟩;exact(by
       intro e he;simp only [List.mem_toArray,O3,List.not_mem_nil,or_false] at he;rcases he with rfl|rfl|rfl|rfl|rfl|rfl|rfl|rfl
       . exact⟨YE (O "fn"),Zy (O "fn") t137,du⟩
       . exact⟨YE (O "rec"),Zy (O "rec") t146,dj⟩
       . exact⟨YE (O "call"),Zy (O "call") t155,di⟩
       . exact⟨YE (O "if"),Zy (O "if") t164,dh⟩
       . exact⟨YE (O "+"),Zy (O "+") t173,dg⟩
       . exact⟨YE (O "-"),Zy (O "-") t182,df⟩
       . exact⟨YE (O "*"),Zy (O "*") t191,de⟩
       . exact⟨YE (O "<"),Zy (O "<") t200,c9⟩
     )
 refine⟨iu,λx kvs hx=>?_,λx d hx=>?_,?_,λx fd hx=>?_,?_,?_,?_,?_,?_⟩
 . have hm:(x,kvs)∈cD:=lookup_mem hx;have e:(x,kvs)=(O "FORMS",(cD.lookup (O "FORMS") |>.getD [])):=by
     simp only [cD,O3,List.not_mem_nil,or_false] at hm;exact hm
   cases e;exact cQ
 . have hm:(x,d)∈cG:=lookup_mem hx;have all:All (λp:Str×D=>∃ v u,mg p.1=J u/\RelV v u/\∀ H B,RD ⟨K,mg⟩ H B p.2 v) cG:=⟨⟨.int 120,_,YO X G eS,Zfe,λ_ _=>(.int _)⟩,⟨.int 1000000,_,YO X G eR,Zfe,λ_ _=>(.int _)⟩,⟨.ref q105,_,YO X G eQ,Zak,λ_ _=>(.tup (Zma (vs:=[(.str (O "call")),(.str (O "hop"))]) eN (by show 2<=sizeLine;decide) (.cons ZbB (.cons ZbB .nil))) (.cons (.str _ (by decide +kernel)) (.cons (.str _ (by decide +kernel)) .nil)))⟩,⟨.ref q113,_,YO X G eP,Zak,λ_ _=>(.tup (Zma (vs:=[(.str (O "call")),(.str (O "hop")),(.str (O "unless")),(.str (O "work"))]) eM (by show 4<=sizeLine;decide) (.cons ZbB (.cons ZbB (.cons ZbB (.cons ZbB .nil))))) (.cons (.str _ (by decide +kernel)) (.cons (.str _ (by decide +kernel)) (.cons (.str _ (by decide +kernel)) (.cons (.str _ (by decide +kernel)) .nil)))))⟩,⟨.ref q123,_,YO X G eO,Zak,λ_ _=>(.tup (Zma (vs:=[(.str (O "unless")),(.str (O "jump"))]) eL (by show 2<=sizeLine;decide) (.cons ZbB (.cons ZbB .nil))) (.cons (.str _ (by decide +kernel)) (.cons (.str _ (by decide +kernel)) .nil)))⟩,⟨.ref q131,_,YO X G cy,rfl,λ_ _=>.kd (YO X G cy)⟩,trivial⟩;exact all.mem _ hm
 . exact(Zj1 X G zz).mem
 . exact(ZmV X G dd kd).mem _ (lookup_mem hx)
 . have all:All (λC=>∃ a,mg C=J (.ref a)/\Cls K a/\∀ f∈kl.ats,Zbt K a f) kl.cs:=⟨⟨ca1,YO X G ft,gz,n1.mem⟩,⟨ca2,YO X G fq,gy,n2.mem⟩,⟨ca3,YO X G fm,gx,n3.mem⟩,⟨ca4,YO X G fj,gv,n4.mem⟩,trivial⟩
   exact all.mem
 . exact(show All _ kl.ms from((((Zfj (P:=pg) X G ft gz u1 km1 kk1).app (Zfj (P:=pg) X G fq gy u2 km2 kk2)).app (Zfj (P:=pg) X G fm gx u3 km3 kk3)).app (Zfj (P:=pg) X G fj gv u4 km4 kk4))).mem
 . have all:All (λC:Str=>∃ a f am fd st q,mg C=J (.ref a)/\Mk K a f/\pg.look (mnm C (O "__init__"))=J fd/\BodyOk K kl (pg.tb.map (·.1)) (O "__init__") q fd st f am) kl.is:=⟨Zi2 X G ft ig ii i1 ki1 (by kernel_rfl),Zi2 X G fq ib ic i2 ki2 (by kernel_rfl),Zi2 X G fm h9 ia i3 ki3 (by kernel_rfl),Zi2 X G fj hW hZ i4 ki4 (by kernel_rfl),trivial⟩
   exact all.mem
 . have all:All (λC:Str=>∃ a,mg C=J (.ref a)/\XOk K a) kl.xs:=⟨⟨xa1,YO X G gI,⟨⟨iM,L2.isSome_of gH,gG⟩,iL,iK⟩⟩,trivial⟩
   exact all.mem
 . have all:All (λp:Str×Str=>∃ a b,mg p.1=J (.ref a)/\mg p.2=J (.ref b)/\XAs K a b) kl.xa:=⟨⟨pa1,xa1,YO X G iJ,YO X G gI,⟨⟨iI,L2.isSome_of p1c,iH⟩,iG,⟨iF,iE,iD,p1i,iC,iB,gG,L2.isSome_of gH⟩,iA⟩⟩,trivial⟩
   exact all.mem
end K54
end
section
set_option maxHeartbeats 4000000
open PySem PySem.W PyProof.Rows
local macro_rules|`(tactic| wtm_at "al")=>`(tactic| repeat' first|exact trivial|refine' And.intro ?_ ?_)
local macro_rules|`(tactic| wtm_at "dg")=>`(tactic| (refine' ⟨_,_,?na,L2.Zqh ?l ?c ?k⟩;(case na=>k_is);(case l=>k_is);(case c=>k_is);(case k=>k_is)))
local macro_rules|`(tactic| wtm_at "mg")=>`(tactic| (refine' ⟨_,_,?na,?f,?k,L2.Zqh ?l ?c ?kk⟩;(case na=>k_is);(case f=>k_is);(case l=>k_is);(case c=>k_is);(case k=>k_is);(case kk=>k_is)))
set_option maxRecDepth 100000 in
set_option maxHeartbeats 0 in
theorem PySem.Challenge.cw_samestride_k54_code_quiet_holds : PySem.Challenge.rw_samestride_k54_code_quiet.Holds := by
 refine K54hd ?_
 k_fill
 refine IV.ZvD (l:=PySem.Challenge.rw_samestride_k54_code_quiet) (P:=K54.pg) 250 rfl rfl rfl ⟨rfl,by decide,by decide,rfl⟩ (kl:=K54.kl) (λw h Y=>PySem.W.kIn_of Y) K54.ZuS rfl K54.runs ?MM0
 case MM0=>
  intro w mg h KX G;refine' K54.md KX G ?iu ?dd ?ft ?gz ?n1 ?ig ?ii ?i1 ?u1 ?fq ?gy ?n2 ?ib ?ic ?i2 ?u2 ?fm ?gx ?n3 ?h9 ?ia ?i3 ?u3 ?fj ?gv ?n4 ?hW ?hZ ?i4 ?u4 ?gI ?iM ?gH ?gG ?iL ?iK ?iJ ?iI ?p1c ?iH ?iG ?iF ?iE ?iD ?p1i ?iC ?iB ?iA ?zz ?eS ?eR ?eN ?eQ ?eM ?eP ?eL ?eO ?eJ ?eI ?eG ?eF ?eE ?eB ?eA ?ez ?cy ?eK ?du ?dj ?di ?dh ?dg ?df ?de ?c9 ?dw
  (case iu=>(first|k_is|kernel_rfl|decide +kernel))
  (case ft=>k_is)
  (case gz=>(refine⟨?_,?_,?_,?_⟩<;>k_is))
  (case n1=>(wtm_at "al";all_goals (dsimp only;k_is)))
  (case ig|ii=>k_is)
  (case i1=>wtm_at "mg")
  (case u1=>(wtm_at "al";all_goals wtm_at "mg"))
  (case fq=>k_is)
  (case gy=>(refine⟨?_,?_,?_,?_⟩<;>k_is))
  (case n2=>(wtm_at "al";all_goals (dsimp only;k_is)))
  (case ib|ic=>k_is)
  (case i2=>wtm_at "mg")
  (case u2=>(wtm_at "al";all_goals wtm_at "mg"))
  (case fm=>k_is)
  (case gx=>(refine⟨?_,?_,?_,?_⟩<;>k_is))
  (case n3=>(wtm_at "al";all_goals (dsimp only;k_is)))
  (case h9|ia=>k_is)
  (case i3=>wtm_at "mg")
  (case u3=>(wtm_at "al";all_goals wtm_at "mg"))
  (case fj=>k_is)
  (case gv=>(refine⟨?_,?_,?_,?_⟩<;>k_is))
  (case n4=>(wtm_at "al";all_goals (dsimp only;k_is)))
  (case hW|hZ=>k_is)
  (case i4=>wtm_at "mg")
  (case u4=>(wtm_at "al";all_goals wtm_at "mg"))
  (case gI|iM=>k_is)
  (case gH|gG=>k_is)
  (case iL=>k_exc)
  (case iK|iJ=>k_is)
  (case iI|p1c=>k_is)
  (case iH|iG=>k_is)
  (case iF|iE=>k_is)
  (case iD|p1i=>k_is)
  (case iC|iB=>k_is)
  (case iA=>kit_is)
  (case dd=>(wtm_at "al";all_goals wtm_at "dg"))
  (case zz=>(wtm_at "al";all_goals (dsimp only;k_is)))
  (case eS|eR=>k_is)
  (case eQ|eN=>k_is)
  (case eP|eM=>k_is)
  (case eO|eL=>k_is)
  (case cy|eK=>k_is)
  (case eJ|eI=>k_is)
  (case eG|eF=>k_is)
  (case eE|eB=>k_is)
  (case eA|ez=>k_is)
  (case du=>(first|rfl|k_is|fail))
  (case dj=>(first|rfl|k_is|fail))
  (case di=>(first|rfl|k_is|fail))
  (case dh=>(first|rfl|k_is|fail))
  (case dg=>(first|rfl|k_is|fail))
  (case df=>(first|rfl|k_is|fail))
  (case de=>(first|rfl|k_is|fail))
  (case c9=>(first|rfl|k_is|fail))
  (case dw=>rfl)
end
