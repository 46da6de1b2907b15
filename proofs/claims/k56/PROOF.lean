import PyProof.Rows.All
import Wide.All
import OpenK.AllK
import Wide.FinOn
import PyProof.EqAt
import PyProof.EqKinds
import PyProof.TupleCall
import Lean
import PySem.Challenge.RW_samestride_k56_code_pile
noncomputable section
set_option Elab.async false
set_option linter.all false
set_option maxRecDepth 100000
open PySem renaming wpAny_bind->Ya,Shared->Yb,wpAny_pure->Yc,mainGlobals->Yd,sysModules->Ye,wpAny_mono->Yf,World->Yg,Program->Yh,Addr->Yi,Value->Yj,wpAny_newObj_type->Yq,starEach->YA,wpAny->YB,sizeLine_eq->YC,Heap->YG,Around->YH,mem_of_lookup->YI,compareOp->YM,wpAny_field->YR,backTo->YS,wpAny_Call_Name_kw->YX,keywordEach->Wa,wpAny_callSpecial?_slot->Wb,wpAny_holding->Wf,wpAny_call_entry->Wg,wpAny_of_eq->Wm
open PySem.W renaming Frag->Yk,nsIn->Yl,findIn->YJ,mg_of->YO,emptyDict->YT,subIn->YV,hideAll->YZ,keepIn->We,instObj->Wh
open PySem.Heap renaming lt_size->Ym,get?_update_other->YN,get?_update_self->YW,get?_push_of_some->Od,get?_push_size->Oj
open PySem.NameKind renaming free->Yn
open PySem.PyData renaming strOk->Yo,eqv->YQ
open PySem.StrLaws renaming sliceText->Yp
open List renaming mem_append_left->Yr,append_nil->Ys,length_map->Yt,replicate->YK,any_cons->Wc,lookup->Wi,foldl_cons->Wp,find?_cons->Wq,getElem?_eq_some_iff->Ob,getElem?_set_ne->Oc,getElem?_append_left->Oe,size_toArray->Of,getElem?_eq_getElem->Og,mem_cons_of_mem->Oh,mem_cons_self->Oi,mem_of_getElem?->O1,getElem?_set_self->Ol,getElem?_append_right->Om,getElem?_map->O2,map_cons->Op,mem_cons->O3,length_cons->Os,mem_append_right->Ov,mem_singleton->Ox,map_nil->Oy,append_assoc->Oz,length_append->OA,nil_append->OB,all_eq_true->OC,mem_append->OD,lookup_cons->OF,sum_cons->OI,getElem?_cons_zero->OJ,getElem?_cons_succ->O0
open Option renaming map_some->Yu,bind_some->Yz,some->Ws,none->Wu,map_eq_some_iff->Oo
open Nat renaming lt_irrefl->Yv,zero_le->Yw,le_of_lt->Yy,le_refl->Oq,lt_of_lt_of_le->Ot,ne_of_lt->Ou,le_trans->OE,lt_succ_self->OH
open PySem.Value renaming ref->YD
open Sum renaming inr->YE
open Option.some renaming inj->YF
open Ne renaming symm->YL
open PySem.F renaming plain_max_loop->YU
open PySem.Obj renaming data_mapFields->YY
open PyProof.Rows renaming slot_tuple_getitem->Wj
open PySem.Builtin.List renaming listTooLong->Wo
open Bool renaming or_eq_true->Wr,true->Wv,false->Ww,and_eq_true->Oa,false_ne_true->Ow,false_eq_true->OG
open Decidable renaming decide->Wx
open PySem.Str renaming ofString->O
set_option genSizeOf false
section
open PySem PySem.W PyProof.Rows
set_option maxHeartbeats 0
structure PySem.W.Fast:Prop where(tw1209843322651827599 tw18235101656724574662 tw859506870091139830 tw11836839514146840170 tw9700772064874966766 tw2220116867604546315 tw9478034462725509512 tw1995065834292050327 tw484027297469336777 tw13307119049597126497 tw13398037556653469072 tw5273585983746236374 tw17775928033581868032 tw10313695633523770499 tw15277604236540914352 tw7787856365535962099 tw9881839900177731697 tw2041598968767847574 tw8903429840078302836 tw9069683193111305325 tw10615677281896963732 tw16771118475123360415 tw1763884059865253751 tw6937651320075311609 tw682277013818146156 tw12375323481283876273 tw4171501911405397527 tw13804433467118271101 tw4312005418056559189 tw3273437686007721140 tw13055817709706720776 tw7663190004240998449 tw2905530400922770680 tw9523822657933153714 tw12534693864876925059 tw13467150439690424574 tw696328297229871679 tw11459467966035950097 tw644322314978509908 tw2453375042886836271 tw14103835790269564909 tw2040743866822484699 tw1475544724135120076 tw16950322526268642058 tw1981527691189179026 tw11090346962843427251 tw15356012436345639192 tw4864478103690334127 tw16344254895471015234 tw11084231999934428179 tw17591034878860374136 tw5089674834191425354 tw2426048659613816239 tw18050933299271011077 tw6005967617513971758 tw5971935875013710363 tw15319128025755380836 tw7381693672667603046 tw7104866396260272406 tw210739407604834563 tw6035410814748960209 tw6176195979191391267 tw10740922807712331517 tw8215608235551846854 tw16136640302575995929 tw921204912133550187 tw17481862666223370451 tw8401467196450426558 tw15235955718032322841 tw9907213260147808603 tw3056459999101755635 tw5332402580345479789 tw1292426073755094023 tw2049787882278037453 tw18088896283347575951 tw17742672588022129746 tw3049250292394946516 tw16661123701553059691 tw10175494434828761173 tw11117495179869590846 tw5280309409840976134 tw12933812904331297367 tw8003834644340419146 tw25078402029031718 tw13767180613627340450 tw17168224313541444901 tw17358919501425740332 tw11012865270673700748 tw9857496684170980293 tw17157447029065123719 tw8190910657152110061 tw13180609579353145670 tw2122080973300616363 tw12525375984172944387 tw17049143945625363966 tw18237573970164009562 tw15074688347185773503 tw2482043175205078117 tw10298143930996850892 tw1812907764567961865 tw16652703441969998749 tw9818615871131519839 tw236251794186152082 tw13785891952422238269 tw5035335032918391655 tw6012432124512961992 tw17290775812723146303 tw5172102454598353002 tw12365220365001905730 tw8763520730219124721 tw4246567468532589457 tw18427751596044074458 tw13184043999800772754 tw17063363348253686762 tw12779283786227533622 tw678017495077648339 tw2469911264298558083 tw12175665277499315732 tw1971779595295617836 tw10660905275731275750 tw13371254671337516027 tw6781830838082547637 tw15688690044537942438 tw5660791205007458494 tw5250480588075936219 tw9636699232900216420 tw10958102668584763962 tw12589100662504802151 tw8703556998644050181 tw11903691780722827888 tw8993309548171830254 tw7460049870055377480 tw15086889891080265251 tw8731006354512198313 tw6396237944090441543 tw12660185032816968672 tw7973398303690098084 tw10015540949810227348 tw7001605016753394648 tw2383682341357575251 tw7000646236614815532 tw16169740367516392233 tw1064556715068064840 tw18139538030082084082 tw15833384672311938979 tw17810664495962505705 tw12107909682753985534 tw377677247200495226 tw15237511724107239214 tw17717516039298643834 tw8339274777493740784 tw6354664331308326920 tw267619661969324838 tw11378919570668800532 tw5522855257801071355 tw11117759039252614680 tw7775865283376878587 tw13539585355098460855 tw18259136212288972112 tw13948013454890058712 tw12986502269715587717 tw2409820679417954323 tw13183128461263712716 tw17939637065725448813 tw817784733096658907 tw6358626218981454049 tw5030360093771378302 tw11615370737785823325 tw6097283365429084155 tw16499930428510644253 tw6662806774167568885 tw1574739701419438116 tw17106983852199722669 tw4445942078592339730 tw7736135431167318170 tw3826148649631161107 tw1064438952311996247 tw9365435252991772383 tw11960515249251724890 tw13959864341334219619 tw15458887511662782597 tw2149195478548135670 tw3212441589826689984 tw3968391915061440816 tw672109718790645619 tw4177870880432123634 tw1037412196359940754 tw13312976307685178388 tw15708948332773623457 tw7522972699383646457 tw10246500048727623533 tw4501752907813638874 tw602311112453014699 tw10559308576390505203 tw10983775012700416837 tw13112599306974931977 tw10999636309843554745:True)
open_top K56hd for PySem.Challenge.rw_samestride_k56_code_pile
end
namespace L2
open PySem PySem.Spec PyProof.Rows
noncomputable abbrev Key:=Sum Int Str
noncomputable def Zig:Key->Yj->Bool
 |.inl k,v=>Value.isInt k v
 |.inr x,v=>Value.isStrOf x v
noncomputable def Zxs(w:Yg):Key->Int
 |.inl k=>hashInt k
 |.inr x=>hashStr w x
def ZN:∀{k:Key}{v:Yj},Zig k v=Wv->(∃i t,k=Sum.inl i/\v=Value.int i t)\/(∃x t,k=YE x/\v=Value.str x t)
 |.inl i,v,h=>by obtain⟨t,e⟩:=Value.isInt_shape (k:=i) (v:=v) h;exact .inl ⟨i,t,rfl,e⟩
 |.inr x,v,h=>by obtain⟨t,e⟩:=Value.isStrOf_shape (x:=x) (v:=v) h;exact .inr ⟨x,t,rfl,e⟩
def Zny(i:Int)(t:Tok):Zig (.inl i) (.int i t)=Wv:=by simp[Zig,Value.isInt]
def Zx(x:Str)(t:Tok):Zig (.inr x) (.str x t)=Wv:=by simp[Zig,Value.isStrOf]
def Zt9(a b:Int):Wx ((Sum.inl a:Key)=Sum.inl b)=(a==b):=by
 by_cases e:a=b
 . subst e;simp
 . have h:¬ (Sum.inl a:Key)=Sum.inl b:=λq=>e (Sum.inl.inj q);rw[decide_eq_false h];exact(beq_eq_false_iff_ne.mpr e).symm
def Zt6(a b:Str):Wx ((YE a:Key)=YE b)=Wx (a=b):=by
 by_cases e:a=b
 . subst e;simp
 . have h:¬ (YE a:Key)=YE b:=λq=>e (Sum.inr.inj q);rw[decide_eq_false h,decide_eq_false e]
def Zt8(a:Int)(b:Str):Wx ((Sum.inl a:Key)=YE b)=Ww:=decide_eq_false (λq=>nomatch q)
def Zt7(a:Str)(b:Int):Wx ((YE a:Key)=Sum.inl b)=Ww:=decide_eq_false (λq=>nomatch q)
noncomputable def ZX(prog:Yh)(w:Yg):PySem.KeyKind prog w Key where
 is:=Zig
 hash:=Zxs w
 inj:=λv a b ha hb=>by
  rcases ZN ha with ⟨i,t,rfl,rfl⟩|⟨x,t,rfl,rfl⟩
  . rcases ZN hb with ⟨j,u,rfl,e⟩|⟨y,u,rfl,e⟩
    . injection e with e1 _;rw[e1]
    . exact nomatch e
  . rcases ZN hb with ⟨j,u,rfl,e⟩|⟨y,u,rfl,e⟩
    . exact nomatch e
    . injection e with e1 _;rw[e1]
 byValue:=λk v h=>by rcases ZN h with ⟨i,t,rfl,rfl⟩|⟨x,t,rfl,rfl⟩<;>rfl
 pyHash:=λhv h=>by
  rcases ZN hv with ⟨i,t,rfl,rfl⟩|⟨x,t,rfl,rfl⟩
  . exact wpAny_pyHash_int h
  . exact wpAny_pyHash_str h
 eqBool:=λhu hv h=>by
  rcases ZN hu with ⟨i,t,rfl,rfl⟩|⟨x,t,rfl,rfl⟩
  . rcases ZN hv with ⟨j,u,rfl,rfl⟩|⟨y,u,rfl,rfl⟩
    . rw[Zt9]at h;exact wpAny_eqBool_int h
    . rw[Zt8]at h;exact SeqAt.EqAt.int_str i t y u _ _ _ _ h
  . rcases ZN hv with ⟨j,u,rfl,rfl⟩|⟨y,u,rfl,rfl⟩
    . rw[Zt7]at h;exact SeqAt.EqAt.str_int x t j u _ _ _ _ h
    . rw[Zt6]at h;exact wpAny_eqBool_str h
 «strs»:=λk x t v h=>by
  rcases ZN h with ⟨i,u,rfl,e⟩|⟨y,u,rfl,e⟩
  . exact nomatch e
  . injection e with e1 _;subst e1;cases v<;>rfl
def ZjX(prog:Yh)(w:Yg)(i:Int)(t:Tok):(ZX prog w).is (.inl i) (.int i t)=Wv:=Zny i t
def ZjW(prog:Yh)(w:Yg)(x:Str)(t:Tok):(ZX prog w).is (.inr x) (.str x t)=Wv:=Zx x t
inductive V where
 |non|bl (b:Bool)|int (i:Int)|str (x:Str)|byt (b:Array UInt8)|flt (b:UInt64)|ref (a:Yi)|ty (n:String)
 deriving DecidableEq
def RelV:V->Yj->Prop
 |.non,u=>u=Value.none
 |.bl b,u=>u=Value.bool b
 |.int i,u=>∃t,u=Value.int i t
 |.str x,u=>∃t,u=Value.str x t
 |.byt b,u=>∃t,u=Value.bytes b t
 |.flt b,u=>∃t,u=Value.float b t
 |.ref a,u=>u=YD a
 |.ty n,u=>u=Value.type n
abbrev Zp:List V->List Yj->Prop:=Paired RelV
theorem Zp.length(r:Zp xs us):xs.length=us.length:=Paired.length r
theorem Zp.get:∀{xs:List V}{us:List Yj}{i:Nat}{x:V},Zp xs us->xs[i]? = Ws x->∃u,us[i]? = Ws u/\RelV x u
 |_,_,_,_,.nil,e=>by simp at e
 |_,_,0,_,.cons r _,e=>by simp at e;subst e;exact⟨_,rfl,r⟩
 |_,_,i+1,x,.cons _ t,e=>by obtain⟨u,h1,h2⟩:=Zp.get (i:=i) (x:=x) t (by simpa using e);exact⟨u,by simpa using h1,h2⟩
theorem Zp.set(r:RelV x u):∀{xs:List V}{us:List Yj} (i:Nat),Zp xs us->Zp (xs.set i x) (us.set i u)
 |_,_,_,.nil=>.nil
 |_,_,0,.cons _ t=>.cons r t
 |_,_,i+1,.cons q t=>.cons q (Zp.set r i t)
theorem Zp.append:∀{xs ys:List V}{us ws:List Yj},Zp xs us->Zp ys ws->Zp (xs++ys) (us++ws)
 |_,_,_,_,.nil,s=>s
 |_,_,_,_,.cons r t,s=>.cons r (Zp.append t s)
theorem Zp.take:∀{xs:List V}{us:List Yj} (n:Nat),Zp xs us->Zp (xs.take n) (us.take n)
 |_,_,0,_=>.nil
 |_,_,_+1,.nil=>.nil
 |_,_,n+1,.cons r t=>.cons r (Zp.take n t)
theorem Zp.drop:∀{xs:List V}{us:List Yj} (n:Nat),Zp xs us->Zp (xs.drop n) (us.drop n)
 |_,_,0,r=>r
 |_,_,_+1,.nil=>.nil
 |_,_,n+1,.cons _ t=>Zp.drop n t
def ZfJ:Option V->Option Yj->Prop
 |some v,Ws u=>RelV v u
 |none,Wu=>True
 |_,_=>False
def KV:List (κ×V)->List (κ×Yj)->Prop:=Paired λ(p:κ×V) (q:κ×Yj)=>p.1=q.1/\RelV p.2 q.2
noncomputable def kV:Key->V
 |.inl i=>.int i
 |.inr x=>.str x
inductive HO where
 |lst (xs:List V)
 |tup (xs:List V)
 |dK (kvs:List (Key×V))|dT (kvs:List (List Key×V))
 |set (S_:Int->Bool) (n:Nat)
 |ins (C dx:Yi) (fs:List (Str×V))
 |own (x:Yi)
 |xd (fs:List (Str×V))
 |met (f x:Yi)
 |rng (lo hi:Int)
 |frz (o:Obj) (u:HO)
 |tbl (ps:Array Yj)
 |ext (φ:YG->Prop)
abbrev Hp:=Yi->Option HO
noncomputable def upd(H:Hp)(a:Yi)(o:HO):Hp:=λb=>if b=a then Ws o else H b
def Zq:upd H a o a=Ws o:=by unfold upd;rw[if_pos rfl]
def Zo(h:b≠a):upd H a o b=H b:=by unfold upd;rw[if_neg h]
def ZQ{H:Hp}(h:H a=Ws o)(h':H b=Wu):a≠b:=by intro e;subst e;rw[h]at h';cases h'
section
variable (P:Yh) (w:Yg)
def ZbP(h:YG)(a:Yi)(items:Array Yj):Prop:=∃o,h.get? a=Ws o/\o.cls=.type "tuple" /\ o.dict=Wu/\∃n,o.data=.seq items n
theorem ZbP.tup(x:ZbP h a items):IsTup h a items:=let ⟨o,ho,hc,_,r⟩:=x;⟨o,ho,hc,r⟩
theorem ZbP.fresh(h:YG)(items:Array Yj):ZbP (h.push {cls:=.type "tuple",data:=.seq items}) h.objs.size items:=⟨_,Oj _ rfl,rfl,rfl,_,rfl⟩
def Zar(H:Hp)(h:YG)(a:Yi):HO->Prop
 |.lst xs=>xs.length<=sizeLine/\∃(its:List Yj) (n:Nat),Zp xs its/\h.get? a=Ws {cls:=.type "list",data:=.seq its.toArray n}
 |.tup xs=>xs.length<=sizeLine/\∃its:List Yj,Zp xs its/\ZbP h a its.toArray
 |.dK kvs=>kvs.length<=sizeLine/\(a==Ye)=Ww/\∃vs,KV kvs vs/\h.DictOf (ZX P w) a vs
 |.dT kvs=>kvs.length<=sizeLine/\(a==Ye)=Ww/\∃xs:List (List Key×Yi×Yj),
  Paired (λ(p:List Key×V) (q:List Key×Yi×Yj)=>p.1=q.1/\H q.2.1=Ws (.tup (p.1.map kV))/\RelV p.2 q.2.2) kvs xs /\
  ∃o es ep,h.get? a=Ws o/\o.ExactDict/\o.data=.dict es ep/\es.toList=xs.map (entryOfKey (tupleKind (ZX P w)))/\(xs.map (·.1)).Nodup
 |.set S_ n=>h.SetOf (intKind P w) a S_ n
 |.ins C dx fs=>H dx=Ws (.own a)/\fs.length<=1000/\dx≠a/\h.get? a=Ws (Wh C dx) /\
  ∃mA,h.Ns1 dx mA/\(∀f,ZfJ (fs.lookup f) (mA f))/\PySem.Within mA (fs.map (·.1))
 |.own _=>∃o,h.get? a=Ws o
 |.xd fs=>∃mA,h.Ns1 a mA/\∀f,ZfJ (fs.lookup f) (mA f)
 |.rng lo hi=>∃t u v,h.get? a=Ws {cls:=.type "range",data:=.fields #[.int lo t,.int hi u,.int 1 v]}
 |.frz o u=>h.get? a=Ws o/\Zar H h a u
 |.tbl ps=>h.get? a=Ws {cls:=.none,data:=.fields ps}
 |.met f x=>h.get? a=Ws (PySem.W.methodObj (.ref f) (.ref x))
 |.ext φ=>φ h/\(∃o,h.get? a=Ws o)/\∀h1 h2:YG,φ h1->(∀o,h1.get? a=Ws o->h2.get? a=Ws o)->φ h2
def HOk(H:Hp)(h:YG):Prop:=∀a o,H a=Ws o->Zar P w H h a o
end
section
variable {P:Yh}{w:Yg}{H H':Hp}{h h':YG}{a:Yi}{o:HO}
theorem Zar.lt(x:Zar P w H h a o):a<h.objs.size:=by
 cases o with
 |lst xs=>obtain⟨_,_,_,_,e⟩:=x;exact Ym e
 |tup xs=>obtain⟨_,_,_,p⟩:=x;exact p.tup.lt
 |dK kvs=>obtain⟨_,_,_,_,o,_,_,e,_⟩:=x;exact Ym e
 |dT kvs=>obtain⟨_,_,_,_,o,_,_,e,_⟩:=x;exact Ym e
 |set S_ n=>obtain⟨o,_,_,_,e,_⟩:=x;exact Ym e
 |ins C dx fs=>obtain⟨_,_,_,e,_⟩:=x;exact Ym e
 |own y=>obtain⟨_,e⟩:=x;exact Ym e
 |xd fs=>obtain⟨_,⟨_,_,_,e,_⟩,_⟩:=x;exact Ym e
 |rng lo hi=>obtain⟨_,_,_,e⟩:=x;exact Ym e
 |frz ob u=>obtain⟨e,_⟩:=x;exact Ym e
 |tbl ps=>exact Ym (show h.get? a=Ws _ from x)
 |met f y=>exact Ym (show h.get? a=Ws _ from x)
 |ext φ=>obtain⟨_,⟨_,e⟩,_⟩:=x;exact Ym e
theorem Paired.mapP:∀{l₁:List α}{l₂:List β},Paired F l₁ l₂->(∀a b,F a b->G a b)->Paired G l₁ l₂
 |_,_,.nil,_=>.nil
 |_,_,.cons r t,f=>.cons (f _ _ r) (Paired.mapP t f)
def Zar.stay(x:Zar P w H h a o)(k:∀b u,(b=a\/H b=Ws (.own a))->h.get? b=Ws u->h'.get? b=Ws u)
 (ho:∀b,H b=Ws (.own a)->H' b=Ws (.own a)) (ht:∀b xs,H b=Ws (.tup xs)->H' b=Ws (.tup xs)):Zar P w H' h' a o:=by
 induction o with
 |lst xs=>obtain⟨z,its,n,r,e⟩:=x;exact⟨z,its,n,r,k _ _ (.inl rfl) e⟩
 |tup xs=>obtain⟨z,its,r,ob,e,c⟩:=x;exact⟨z,its,r,ob,k _ _ (.inl rfl) e,c⟩
 |dK kvs=>obtain⟨z,y,vs,r,ob,es,ep,e,c⟩:=x;exact⟨z,y,vs,r,ob,es,ep,k _ _ (.inl rfl) e,c⟩
 |dT kvs=>obtain⟨z,y,xs,r,ob,es,ep,e,c⟩:=x;exact⟨z,y,xs,Paired.mapP r λp q z=>⟨z.1,ht _ _ z.2.1,z.2.2⟩,ob,es,ep,k _ _ (.inl rfl) e,c⟩
 |set S_ n=>obtain⟨ob,es,ep,t,e,c⟩:=x;exact⟨ob,es,ep,t,k _ _ (.inl rfl) e,c⟩
 |ins C dx fs=>obtain⟨d,z,ne,e,mA,⟨od,es,ep,e2,c⟩,r⟩:=x;exact⟨ho _ d,z,ne,k _ _ (.inl rfl) e,mA,⟨od,es,ep,k _ _ (.inr d) e2,c⟩,r⟩
 |own y=>obtain⟨ob,e⟩:=x;exact⟨ob,k _ _ (.inl rfl) e⟩
 |xd fs=>obtain⟨mA,⟨od,es,ep,e,c⟩,r⟩:=x;exact⟨mA,⟨od,es,ep,k _ _ (.inl rfl) e,c⟩,r⟩
 |rng lo hi=>obtain⟨t,u,v,e⟩:=x;exact⟨t,u,v,k _ _ (.inl rfl) e⟩
 |frz ob u ih=>obtain⟨e,q⟩:=x;exact⟨k _ _ (.inl rfl) e,ih q⟩
 |tbl ps=>have e:h.get? a=Ws {cls:=.none,data:=.fields ps}:=x;show h'.get? a=Ws {cls:=.none,data:=.fields ps};exact k a _ (.inl rfl) e
 |met f y=>have e:h.get? a=Ws (PySem.W.methodObj (.ref f) (.ref y)):=x;show h'.get? a=Ws (PySem.W.methodObj (.ref f) (.ref y));exact k a _ (.inl rfl) e
 |ext φ=>obtain⟨p,⟨o,e⟩,st⟩:=x;exact⟨st _ _ p λo q=>k _ _ (.inl rfl) q,⟨o,k _ _ (.inl rfl) e⟩,st⟩
theorem HOk.lt(x:HOk P w H h)(e:H a=Ws o):a<h.objs.size:=(x a o e).lt
def HOk.fresh(x:HOk P w H h)(e:h.objs.size<=a):H a=Wu:=by
 cases q:H a with
 |none=>rfl
 |some u=>exact absurd (Ot (x.lt q) e) (Yv _)
def HOk.kept(x:HOk P w H h)(k:∀b u,h.get? b=Ws u->h'.get? b=Ws u):HOk P w H h':=λa o e=>(x a o e).stay (λb u _ q=>k b u q) (λ_ q=>q) λ_ _ q=>q
def HOk.laid(x:HOk P w H h)(k:∀b u,h.get? b=Ws u->h'.get? b=Ws u)(hp:h.objs.size<=a)(new:Zar P w (upd H a o) h' a o):HOk P w (upd H a o) h':=λb u e=>by
 have hn:=x.fresh hp;by_cases hb:b=a
 . subst hb;rw[Zq]at e;cases e;exact new
 . rw[Zo hb]at e;exact(x b u e).stay (λc v _ q=>k c v q) (λc q=>by rw[Zo (ZQ q hn)];exact q) λc xs q=>by rw[Zo (ZQ q hn)];exact q
end
def Rd(H:Hp)(a:Yi)(u:HO):Prop:=H a=Ws u\/∃o,H a=Ws (.frz o u)
def Rd.ok{P:Yh}{w:Yg}{H:Hp}{h:YG}{a:Yi}{u:HO}(r:Rd H a u)(x:HOk P w H h):Zar P w H h a u:=by
 rcases r with r|⟨o,r⟩
 . exact x a u r
 . obtain⟨_,q⟩:=x a _ r;exact q
def Mut:Option HO->Prop
 |some (.lst _)=>True
 |some (.dK _)=>True
 |some (.dT _)=>True
 |some (.set _ _)=>True
 |some (.ins _ _ _)=>True
 |some (.ext _)=>True
 |_=>False
section
variable {P:Yh}{w:Yg}{H:Hp}{h h':YG}{x e:Yi}{o':HO}
def HOk.write(ok:HOk P w H h)(mu:Mut (H x))(he:e=x\/H e=Ws (.own x))(k:∀b u,b≠e->h.get? b=Ws u->h'.get? b=Ws u)(heo:∃u,h'.get? e=Ws u)
 (new:Zar P w (upd H x o') h' x o'):HOk P w (upd H x o') h':=λb u q=>by
 have nown:∀c y,H c=Ws (.own y)->c≠x:=λc y r z=>by subst z;rw[r]at mu;exact mu
 have ntup:∀c xs,H c=Ws (.tup xs)->c≠x:=λc xs r z=>by subst z;rw[r]at mu;exact mu
 by_cases hb:b=x
 . subst hb;rw[Zq]at q;cases q;exact new
 . rw[Zo hb]at q;by_cases hbe:b=e
   . have q':H b=Ws (.own x):=by
      rcases he with z|z
      . exact absurd (hbe.trans z) hb
      . rw[hbe];exact z
     rw[q]at q';cases q';obtain⟨v,hv⟩:=heo;exact⟨v,by rw[hbe];exact hv⟩
   . refine(ok b u q).stay (λc v hc r=>k c v ?_ r) (λc r=>by rw[Zo (nown c b r)];exact r) λc xs r=>by rw[Zo (ntup c xs r)];exact r
     rcases hc with rfl|hc
     . exact hbe
     . rintro rfl;rcases he with z|z
       . exact nown c b hc z
       . rw[hc]at z;cases z;exact hb rfl
end
structure Un(fs ex:List Yi)(H H':Hp)(h h':YG):Prop where
 keep:∀b o,h.get? b=Ws o->H b=Wu->b ∉ fs->b ∉ ex->h'.get? b=Ws o
 slot:∀b o,h.get? b=Ws o->H b=Wu->b∈fs->b ∉ ex->∃sl,h'.get? b=Ws {o with slots:=sl}
 free:∀b o,h.get? b=Ws o->H b=Wu->b ∉ ex->H' b=Wu
 there:∀b o,h.get? b=Ws o->b ∉ ex->∃o',h'.get? b=Ws o'
 tups:∀b xs,H b=Ws (.tup xs)->H' b=Ws (.tup xs)
 frzs:∀b o u,H b=Ws (.frz o u)->H' b=Ws (.frz o u)
 tbls:∀b ps,H b=Ws (.tbl ps)->∃more,H' b=Ws (.tbl (ps++more))
section
variable {fs fs' ex ex':List Yi}{H H1 H2:Hp}{h h1 h2 h':YG}{a x e:Yi}{o:HO}
def Un.any(u:Un fs ex H H1 h h1)(q:h.get? b=Ws ob)(n:H b=Wu)(hx:b ∉ ex):∃sl,h1.get? b=Ws {ob with slots:=sl}:=by
 by_cases hb:b∈fs
 . exact u.slot b ob q n hb hx
 . exact⟨ob.slots,u.keep b ob q n hb hx⟩
def Un.trans(a:Un fs ex H H1 h h1)(b:Un fs ex H1 H2 h1 h2):Un fs ex H H2 h h2 where
 keep:=λc ob q n hc hx=>b.keep c ob (a.keep c ob q n hc hx) (a.free c ob q n hx) hc hx
 slot:=λc ob q n hc hx=>by obtain⟨sl,e1⟩:=a.slot c ob q n hc hx;obtain⟨sl',e2⟩:=b.slot c _ e1 (a.free c ob q n hx) hc hx;exact⟨sl',e2⟩
 free:=λc ob q n hx=>by obtain⟨o',e1⟩:=a.there c ob q hx;exact b.free c o' e1 (a.free c ob q n hx) hx
 there:=λc ob q hx=>by obtain⟨o',e1⟩:=a.there c ob q hx;exact b.there c o' e1 hx
 tups:=λc xs q=>b.tups c xs (a.tups c xs q)
 frzs:=λc ob xs q=>b.frzs c ob xs (a.frzs c ob xs q)
 tbls:=λc ps q=>by obtain⟨m1,e1⟩:=a.tbls c ps q;obtain⟨m2,e2⟩:=b.tbls c _ e1;exact⟨m1++m2,by rw[e2,Array.append_assoc]⟩
def Un.kept(k:∀b u,h.get? b=Ws u->h'.get? b=Ws u):Un fs ex H H h h':=⟨λb ob q _ _ _=>k b ob q,λb ob q _ _ _=>⟨ob.slots,k b ob q⟩,λ_ _ _ n _=>n,λb ob q _=>⟨ob,k b ob q⟩,λ_ _ q=>q,λ_ _ _ q=>q,λ_ ps q=>⟨#[],by rw[q];simp⟩⟩
def Un.refl:Un fs ex H H h h:=Un.kept λ_ _ q=>q
def Un.laid(k:∀b u,h.get? b=Ws u->h'.get? b=Ws u)(hp:h.objs.size<=a)(hn:H a=Wu):Un fs ex H (upd H a o) h h' where
 keep:=λb u q _ _ _=>k b u q
 slot:=λb u q _ _ _=>⟨u.slots,k b u q⟩
 free:=λb u q n _=>by rw[Zo (Ou (Ot (Ym q) hp))];exact n
 there:=λb u q _=>⟨u,k b u q⟩
 tups:=λb xs q=>by rw[Zo (ZQ q hn)];exact q
 frzs:=λb u xs q=>by rw[Zo (ZQ q hn)];exact q
 tbls:=λb ps q=>⟨#[],by rw[Zo (ZQ q hn),q];simp⟩
def Un.write(mu:Mut (H x))(he:e=x\/H e=Ws (.own x))(k:∀b u,b≠e->h.get? b=Ws u->h'.get? b=Ws u)(heo:∃u,h'.get? e=Ws u):Un fs ex H (upd H x o) h h':=by
 have hx:∀b,H b=Wu->b≠x:=λb n z=>by subst z;rw[n]at mu;exact mu
 have hb:∀b,H b=Wu->b≠e:=λb n z=>by
  subst z;rcases he with r|r
  . exact hx b n r
  . rw[n]at r;cases r
 have hm:∀b u,H b=Ws u->¬ Mut (Ws u)->b≠x:=λb u q nm z=>by subst z;rw[q]at mu;exact nm mu
 refine⟨λb u q n _ _=>k b u (hb b n) q,λb u q n _ _=>⟨u.slots,k b u (hb b n) q⟩,λb u q n _=>by rw[Zo (hx b n)];exact n,λb u q _=>?_,
  λb xs q=>by rw[Zo (hm b _ q λz=>z)];exact q,λb u xs q=>by rw[Zo (hm b _ q λz=>z)];exact q,λb ps q=>⟨#[],by rw[Zo (hm b _ q λz=>z),q];simp⟩⟩
 by_cases hbe:b=e
 . subst hbe;exact heo
 . exact⟨u,k b u hbe q⟩
end
noncomputable def trk(h:YG)(H:Hp):List Yi:=(List.range h.objs.size).filter λa=>(H a).isSome
noncomputable def Zi1(h:YG)(H:Hp):YG:=YZ h (trk h H)
def ZnA(h:YG)(H:Hp):(Zi1 h H).objs.size=h.objs.size:=PySem.W.hideAll_size _ _
def Zps(e:h.get? b=Ws o)(n:H b=Wu):(Zi1 h H).get? b=Ws o:=
 PySem.W.hideAll_get _ e λhm=>by have q:(H b).isSome=Wv:=(List.mem_filter.mp hm).2;rw[n]at q;simp at q
def Zrd(e:(Zi1 h H).get? b=Ws o):h.get? b=Ws o/\H b=Wu:=by
 have e':h.get? b=Ws o:=PySem.W.of_hideAll (trk h H) e;refine⟨e',?_⟩;cases q:H b with
 |none=>rfl
 |some x=>have hm:b∈trk h H:=List.mem_filter.mpr ⟨List.mem_range.mpr (Ym e'),by simp[q]⟩;have z:(Zi1 h H).get? b=Wu:=PySem.W.hideAll_none (trk h H) hm;rw[z]at e;cases e
structure Mod(K:Yk)(mg:Str->Option Yj)(base:YG):Prop where
 kin:K.In base
 glob:base.Ns Yd mg
 blt:∃mb,base.Ns builtinsNs mb/\∀x:Str,x ≠ "__name__" -> mb x=bootBuiltins x
 nolimit:base.NoLimit
structure Cx where
 prog:Yh
 w:Yg
 K:Yk
 mg:Str->Option Yj
 base:YG
 A:YH
 N:List Str
 s₀:Yb
 H₀:Hp
 env:Env
 outer:List Env
 stack:List Env
 ex:List Yi
 fn:Str->Bool
 calm:Bool
 pn:List (Yi×Obj)
 xe:Yj->Yb->Prop
noncomputable def frs(l:List Env):List Yi:=l.filterMap (·.frame)
noncomputable abbrev Cx.fs(X:Cx):List Yi:=frs X.outer
def Vis(sc:Scope)(x:Str):Prop:=sc.names.lookup x=Ws .local\/sc.names.lookup x=Ws .cell\/sc.names.lookup x=Ws .free
def Loc(sc:Scope)(x:Str):Prop:=sc.names.lookup x=Ws .local\/sc.names.lookup x=Ws .cell
def Look(env:Env)(h:YG)(m:Str->Option Yj)(x:Str)(u:Yj):Prop:=(env.kindOf x=Ws .local/\m x=Ws u)\/((env.kindOf x=Ws .cell\/env.kindOf x=Ws .free)/\∃c,env.cells.lookup x=Ws c/\h.IsCell c (Ws u))
structure Cx.Ok(X:Cx):Prop where
 mod:Mod X.K X.mg X.base
 kind:X.env.scope.kind=.function
 glob:X.env.globals=Yd
 blt:X.env.builtins=builtinsNs
 above:X.s₀.heap.objs.size<=X.env.locals
 inj:∀x y c,X.env.cells.lookup x=Ws c->X.env.cells.lookup y=Ws c->x=y
 has:∀x,(X.env.kindOf x=Ws .cell\/X.env.kindOf x=Ws .free)->∃c,X.env.cells.lookup x=Ws c
 cab:∀x c,X.fn x=Wv->X.env.cells.lookup x=Ws c->X.s₀.heap.objs.size<=c
 hd:X.calm=Wv->X.A.handled=Wu
 frames:X.A.frames=Ws X.stack
 stk:X.stack=X.outer\/(X.stack=X.env::X.outer/\X.env.frame=Ws X.env.locals)
 exf:∀b∈X.ex,b≠X.env.locals/\∀x c,X.env.cells.lookup x=Ws c->c≠b
 bs:∀b o,X.base.get? b=Ws o->X.s₀.heap.get? b=Ws o/\X.H₀ b=Wu
 bsz:X.base.objs.size<=X.s₀.heap.objs.size
 noex:∀b o,X.base.get? b=Ws o->b ∉ X.ex
 exfs:∀b∈X.ex,b ∉ X.fs
 funs:X.s₀.heap.FunFrames X.base X.outer
 frf:∀b∈X.fs,X.H₀ b=Wu
structure Inv(X:Cx)(pins:List (Yi×Obj))(Z:List (Option V))(H:Hp)(s:Yb):Prop where
 ok:X.Ok
 os:s.os=X.s₀.os
 bare:AllBare s.gens
 base:Un X.fs X.ex X.H₀ H X.s₀.heap s.heap
 loc:∃m,s.heap.Ns X.env.locals m/\∀(i:Nat) (x:Str) (v:V),X.N[i]? = Ws x->Z[i]? = Ws (Ws v)->Vis X.env.scope x->∃u,RelV v u/\Look X.env s.heap m x u
 cell:∀x c,X.env.cells.lookup x=Ws c->∃v,s.heap.IsCell c v
 free:H X.env.locals=Wu
 freeC:∀x c,X.env.cells.lookup x=Ws c->H c=Wu
 pin:∀p∈X.pn++pins,s.heap.get? p.1=Ws p.2/\H p.1=Wu/\p.1≠X.env.locals/\p.1 ∉ X.fs/\∀v,p.2.data≠.cell v
 hok:HOk X.prog X.w H s.heap
 len:Z.length=X.N.length
section
variable {X:Cx}{pins:List (Yi×Obj)}{Z:List (Option V)}{H H':Hp}{s:Yb}{h':YG}
def Cx.Ok.nofr(ok:X.Ok)(e:X.base.get? b=Ws o):b ∉ X.fs:=λhb=>by have:=(ok.funs.mem hb).1;rw[e]at this;cases this
theorem Inv.bs(I:Inv X pins Z H s):∀b o,X.base.get? b=Ws o->s.heap.get? b=Ws o/\H b=Wu:=λb o e=>⟨I.base.keep b o (I.ok.bs b o e).1 (I.ok.bs b o e).2 (I.ok.nofr e) (I.ok.noex b o e),I.base.free b o (I.ok.bs b o e).1 (I.ok.bs b o e).2 (I.ok.noex b o e)⟩
def Inv.bk(I:Inv X pins Z H s):∀b o,X.base.get? b=Ws o->s.heap.get? b=Ws o:=λb o e=>(I.bs b o e).1
theorem Inv.mod(I:Inv X pins Z H s):Mod X.K X.mg X.base:=I.ok.mod
def Inv.kIn(I:Inv X pins Z H s):X.K.In s.heap:=I.ok.mod.kin.keeps I.bk
theorem Inv.lt(I:Inv X pins Z H s):X.env.locals<s.heap.objs.size:=let ⟨_,hn,_⟩:=I.loc;hn.lt
def Inv.sz(I:Inv X pins Z H s):X.s₀.heap.objs.size<=s.heap.objs.size:=OE I.ok.above (Yy I.lt)
def Inv.nofs(I:Inv X pins Z H s)(h:s.heap.objs.size<=a):a ∉ X.fs:=λhb=>by obtain⟨_,o,ho,_⟩:=I.ok.funs.mem hb;exact absurd (Ot (Ym ho) (OE I.sz h)) (Yv _)
def Inv.cne(I:Inv X pins Z H s):∀x c,X.env.cells.lookup x=Ws c->c≠X.env.locals:=λx c e z=>by obtain⟨v,o,ho,hd⟩:=I.cell x c e;obtain⟨m,⟨o',es,ep,ho',hd',_⟩,_⟩:=I.loc;rw[z,ho']at ho;cases ho;rw[hd']at hd;cases hd
theorem Inv.funs(I:Inv X pins Z H s):s.heap.FunFrames X.base X.outer:=by
 have all:∀(l:List Env),(∀b∈frs l,b∈X.fs)->X.s₀.heap.FunFrames X.base l->s.heap.FunFrames X.base l:=by
  intro l;induction l with
  |nil=>intro _ _;trivial
  |cons env r ih=>intro hs hl;obtain⟨hk,⟨L,o,hf,hn,ho,hd⟩,hr⟩:=hl;have hL:L∈X.fs:=hs L (by unfold frs;rw[List.filterMap_cons,hf];exact Oi);obtain⟨sl,e⟩:=I.base.slot L o ho (I.ok.frf L hL) hL λz=>I.ok.exfs L z hL;exact⟨hk,⟨L,_,hf,hn,e,hd⟩,ih (λb hb=>hs b (by unfold frs;rw[List.filterMap_cons,hf];exact Oh _ hb)) hr⟩
 exact all X.outer (λ_ hb=>hb) I.ok.funs
theorem Inv.stack(I:Inv X pins Z H s):s.heap.FunFrames X.base X.stack:=by
 rcases I.ok.stk with e|⟨e,hf⟩
 . rw[e];exact I.funs
 . rw[e];obtain⟨m,hn,_⟩:=I.loc;refine .cons (by rw[I.ok.kind];decide) hf hn ?_ I.funs;exact Heap.get?_none_of_le (OE I.ok.bsz I.ok.above)
def Inv.stkSub(I:Inv X pins Z H s):∀b∈frs X.stack,b∈X.env.locals::X.fs:=λb hb=>by
 rcases I.ok.stk with e|⟨e,hf⟩
 . rw[e]at hb;exact Oh _ hb
 . rw[e]at hb;unfold frs at hb;rw[List.filterMap_cons,hf]at hb;exact hb
def Inv.stkFree(I:Inv X pins Z H s):∀b∈frs X.stack,H b=Wu:=λb hb=>by
 rcases O3.mp (I.stkSub b hb)with e|hb
 . rw[e];exact I.free
 . obtain⟨_,o,ho,_⟩:=I.ok.funs.mem hb;exact I.base.free b o ho (I.ok.frf b hb) λz=>I.ok.exfs b z hb
def Inv.step{g':Array GenState}{t':Nat}{d':Drawn}{ch:List Yi}(I:Inv X pins Z H s)
 (hch:∀b∈ch,(b∈X.ex\/X.s₀.heap.objs.size<=b)/\b≠X.env.locals/\(∀x c,X.env.cells.lookup x=Ws c->c≠b)/\∀p∈X.pn++pins,p.1≠b)
 (keep:∀b o,b≠X.env.locals->b ∉ X.fs->b ∉ ch->s.heap.get? b=Ws o->H b=Wu->h'.get? b=Ws o)
 (slot:∀b o,b≠X.env.locals->b∈X.fs->b ∉ ch->s.heap.get? b=Ws o->H b=Wu->∃sl,h'.get? b=Ws {o with slots:=sl}) (free:∀b o,b ∉ ch->s.heap.get? b=Ws o->H b=Wu->H' b=Wu)
 (there:∀b o,b ∉ ch->s.heap.get? b=Ws o->∃o',h'.get? b=Ws o')
 (tups:∀b xs,H b=Ws (.tup xs)->H' b=Ws (.tup xs)) (frzs:∀b o u,H b=Ws (.frz o u)->H' b=Ws (.frz o u)) (tbls:∀b ps,H b=Ws (.tbl ps)->∃more,H' b=Ws (.tbl (ps++more)))
 (ns:∀m,s.heap.Ns X.env.locals m->h'.Ns X.env.locals m) (hok:HOk X.prog X.w H' h') (hg:AllBare g') :
 Inv X pins Z H' {s with heap:=h',gens:=g',drawn:=d',toks:=t'}:=by
 have neL:∀b o,X.s₀.heap.get? b=Ws o->b≠X.env.locals:=λb o e=>Ou (Ot (Ym e) I.ok.above);have neC:∀b o,X.s₀.heap.get? b=Ws o->b ∉ X.ex->b ∉ ch:=λb o e hx hb=>by
  rcases(hch b hb).1 with z|z
  . exact hx z
  . exact absurd (Ot (Ym e) z) (Yv _)
 have cellK:∀x c,X.env.cells.lookup x=Ws c->∀v,s.heap.IsCell c v->h'.IsCell c v:=λx c e v ⟨o,ho,hd⟩=>by
  have nch:c ∉ ch:=λz=>(hch c z).2.2.1 x c e rfl;by_cases hc:c∈X.fs
  . obtain⟨sl,q⟩:=slot c o (I.cne x c e) hc nch ho (I.freeC x c e);exact⟨_,q,hd⟩
  . exact⟨o,keep c o (I.cne x c e) hc nch ho (I.freeC x c e),hd⟩
 refine⟨I.ok,I.os,hg,⟨λb o e n hb hx=>?_,λb o e n hb hx=>?_,λb o e n hx=>?_,λb o e hx=>?_,λb xs e=>tups b xs (I.base.tups b xs e),λb o xs e=>frzs b o xs (I.base.frzs b o xs e),λb ps e=>?_⟩,?_,λx c e=>?_,?_,λx c e=>?_,λp hp=>?_,hok,I.len⟩
 . exact keep b o (neL b o e) hb (neC b o e hx) (I.base.keep b o e n hb hx) (I.base.free b o e n hx)
 . obtain⟨sl,e1⟩:=I.base.slot b o e n hb hx;obtain⟨sl',e2⟩:=slot b _ (neL b o e) hb (neC b o e hx) e1 (I.base.free b o e n hx);exact⟨sl',e2⟩
 . obtain⟨o',e1⟩:=I.base.there b o e hx;exact free b o' (neC b o e hx) e1 (I.base.free b o e n hx)
 . obtain⟨o',e1⟩:=I.base.there b o e hx;exact there b o' (neC b o e hx) e1
 . obtain⟨m1,e1⟩:=I.base.tbls b ps e;obtain⟨m2,e2⟩:=tbls b _ e1;exact⟨m1++m2,by rw[e2,Array.append_assoc]⟩
 . obtain⟨m,hn,hl⟩:=I.loc;refine⟨m,ns m hn,λi x v e1 e2 e3=>?_⟩;obtain⟨u,r,l⟩:=hl i x v e1 e2 e3;refine⟨u,r,?_⟩;rcases l with l|⟨k,c,e,z⟩
   . exact .inl l
   . exact .inr ⟨k,c,e,cellK x c e _ z⟩
 . obtain⟨v,z⟩:=I.cell x c e;exact⟨v,cellK x c e v z⟩
 . obtain⟨m,⟨o,_,_,ho,_⟩,_⟩:=I.loc;exact free _ o (λz=>(hch _ z).2.1 rfl) ho I.free
 . obtain⟨v,o,ho,hd⟩:=I.cell x c e;exact free c o (λz=>(hch c z).2.2.1 x c e rfl) ho (I.freeC x c e)
 . obtain⟨e,n,ne,nf,d⟩:=I.pin p hp;have nch:p.1 ∉ ch:=λz=>(hch p.1 z).2.2.2 p hp rfl;exact⟨keep p.1 p.2 ne nf nch e n,free p.1 p.2 nch e n,ne,nf,d⟩
theorem Inv.un{t':Nat}(I:Inv X pins Z H s)(u:Un X.fs [] H H' s.heap h')(hok:HOk X.prog X.w H' h'):Inv X pins Z H' {s with heap:=h',toks:=t'}:=by
 obtain ⟨m,⟨o,es,ep,ho,r⟩,_⟩:=id I.loc;obtain ⟨sl,hL⟩:=u.any ho I.free (by simp);exact I.step (g':=s.gens) (d':=s.drawn) (ch:=[]) (fun _ z=>nomatch z) (fun b o _ hb _ e n=>u.keep b o e n hb (by simp)) (fun b o _ hb _ e n=>u.slot b o e n hb (by simp)) (fun b o _ e n=>u.free b o e n (by simp)) (fun b o _ e=>u.there b o e (by simp)) u.tups u.frzs u.tbls (fun m' hm=>by
   obtain ⟨o',es',ep',ho',r'⟩:=hm;rw [ho] at ho';cases ho';exact ⟨_,es',ep',hL,r'⟩) hok I.bare
theorem Inv.call{g':Array GenState}{t':Nat}{d':Drawn}{ch:List Yi}(I:Inv X pins Z H s)(u:Un (frs X.stack) ch H H' s.heap h')(hok:HOk X.prog X.w H' h')(hg:AllBare g')
   (hch:∀ b∈ch,(b∈X.ex\/X.s₀.heap.objs.size<=b)/\b≠X.env.locals/\(∀ x c,X.env.cells.lookup x=Ws c->c≠b)/\∀ p∈X.pn++pins,p.1≠b) :
   Inv X pins Z H' {s with heap:=h',gens:=g',drawn:=d',toks:=t'}:=by
 obtain ⟨m,⟨o,es,ep,ho,r⟩,_⟩:=id I.loc;obtain ⟨sl,hL⟩:=u.any ho I.free fun z=>(hch _ z).2.1 rfl;exact I.step (ch:=ch) hch (fun b o hL hb hc e n=>u.keep b o e n (fun z=>(O3.mp (I.stkSub b z)).elim hL hb) hc) (fun b o _ _ hc e n=>u.any e n hc) (fun b o hc e n=>u.free b o e n hc) (fun b o hc e=>u.there b o e hc) u.tups u.frzs u.tbls (fun m' hm=>by
   obtain ⟨o',es',ep',ho',r'⟩:=hm;rw [ho] at ho';cases ho';exact ⟨_,es',ep',hL,r'⟩) hok hg
def Inv.turned{t':Nat}{it:Yi}(I:Inv X pins Z H s)(k:∀b o,b≠it->s.heap.get? b=Ws o->h'.get? b=Ws o)(hn:H it=Wu)(hL:it≠X.env.locals)
 (h1:it∈X.ex\/X.s₀.heap.objs.size<=it) (h2:∀x c,X.env.cells.lookup x=Ws c->c≠it) (h3:∀p∈X.pn++pins,p.1≠it):Inv X pins Z H {s with heap:=h',toks:=t'}:=by
 have nit:∀b u,H b=Ws u->b≠it:=λb u e z=>by rw[z,hn]at e;cases e
 refine I.step (g':=s.gens) (d':=s.drawn) (ch:=[it]) (λb hb=>?_) (λb o _ _ hc e _=>k b o (λz=>hc (by simp[z])) e) (λb o _ _ hc e _=>⟨o.slots,k b o (λz=>hc (by simp[z])) e⟩) (λ_ _ _ _ n=>n)
  (λb o hc e=>⟨o,k b o (λz=>hc (by simp[z])) e⟩) (λ_ _ e=>e) (λ_ _ _ e=>e) (λb ps e=>⟨#[],by rw[e];simp⟩) (λm hm=>?_) (λb u e=>?_) I.bare
 . have e:b=it:=by simpa using hb
   subst e;exact⟨h1,hL,h2,h3⟩
 . obtain⟨o,es,ep,ho,r⟩:=hm;exact⟨o,es,ep,k _ o (YL hL) ho,r⟩
 . refine(I.hok b u e).stay (λc v hc q=>k c v ?_ q) (λ_ q=>q) λ_ _ q=>q;rcases hc with z|z
   . rw[z];exact nit b u e
   . exact nit c _ z
def Inv.tok(I:Inv X pins Z H s)(t:Nat):Inv X pins Z H {s with toks:=t}:=I.un (h':=s.heap) (t':=t) Un.refl I.hok
theorem Inv.kept{t':Nat}(I:Inv X pins Z H s)(k:∀b u,s.heap.get? b=Ws u->h'.get? b=Ws u):Inv X pins Z H {s with heap:=h',toks:=t'}:=I.un (Un.kept k) (I.hok.kept k)
theorem Inv.laid{a:Yi}{o:HO}{t':Nat}(I:Inv X pins Z H s)(k:∀b u,s.heap.get? b=Ws u->h'.get? b=Ws u)(hp:s.heap.objs.size<=a)(new:Zar X.prog X.w (upd H a o) h' a o):
 Inv X pins Z (upd H a o) {s with heap:=h',toks:=t'}:=I.un (Un.laid k hp (I.hok.fresh hp)) (I.hok.laid k hp new)
theorem Inv.write(I:Inv X pins Z H s)(mu:Mut (H x))(he:e=x\/H e=Ws (.own x))(k:∀b u,b≠e->s.heap.get? b=Ws u->h'.get? b=Ws u)(heo:∃u,h'.get? e=Ws u)
 (new:Zar X.prog X.w (upd H x o) h' x o):Inv X pins Z (upd H x o) {s with heap:=h',toks:=t'}:=I.un (Un.write mu he k heo) (I.hok.write mu he k heo new)
def Inv.weak(I:Inv X pins Z H s)(hl:σ'.length=Z.length)(w:∀(i:Nat) v,σ'[i]? = Ws (Ws v)->Z[i]? = Ws (Ws v)):Inv X pins σ' H s:=⟨I.ok,I.os,I.bare,I.base,let ⟨m,hn,hl'⟩:=I.loc;⟨m,hn,λi x v e1 e2 e3=>hl' i x v e1 (w i v e2) e3⟩,I.cell,I.free,I.freeC,I.pin,I.hok,hl.trans I.len⟩
def Inv.pins_of(I:Inv X pins Z H s)(h:∀p∈pins',s.heap.get? p.1=Ws p.2/\H p.1=Wu/\p.1≠X.env.locals/\p.1 ∉ X.fs/\∀v,p.2.data≠.cell v):Inv X pins' Z H s:=⟨I.ok,I.os,I.bare,I.base,I.loc,I.cell,I.free,I.freeC,λp hp=>(OD.mp hp).elim (λz=>I.pin p (Yr _ z)) (h p),I.hok,I.len⟩
def ZjV{N:List Str}(hN:N.Nodup){i j:Nat}{x:Str}(a:N[i]? = Ws x)(b:N[j]? = Ws x):i=j:=by obtain⟨h1,e1⟩:=Ob.mp a;obtain⟨h2,e2⟩:=Ob.mp b;exact(List.getElem_inj hN).mp (e1.trans e2.symm)
def Zh1{M:Model}{A:YH}{Q:Unit->Yb->Prop}(I:Inv X pins Z H s)(hN:X.N.Nodup)(hi:X.N[i]? = Ws x)(hx:Loc X.env.scope x)(r:RelV v u)
 (h:∀s',Inv X pins (Z.set i (Ws v)) H s'->(∃a,Heap.SameBut a s.heap s'.heap/\(a=X.env.locals\/X.env.cells.lookup x=Ws a))->Q () s') (hf:X.fn x=Wv\/X.env.scope.names.lookup x=Ws .local:=by first|exact .inl rfl|exact .inr rfl|assumption):YB M A (storeName X.env x u) Q E s:=by
 obtain⟨m,hn,hl⟩:=id I.loc;have hcls:(X.env.scope.kind==.class || (X.env.scope.kind==.module&&X.env.locals != X.env.globals))=Ww:=by rw[I.ok.kind];rfl
 have hiσ:i<Z.length:=by rw[I.len];exact(Ob.mp hi).1
 have cne:=I.cne;have tracked:∀{a:Yi}{h':YG},(∃o,s.heap.get? a=Ws o/\H a=Wu)->Heap.SameBut a s.heap h'->HOk X.prog X.w H h':=λ{a h'} ha hs b ob e=>by
  obtain⟨_,_,hfree⟩:=ha;refine(I.hok b ob e).stay (λc w' hc q=>(hs.2 c ?_).trans q) (λ_ q=>q) λ_ _ q=>q;rintro rfl;rcases hc with rfl|hc
  . rw[hfree]at e;cases e
  . rw[hfree]at hc;cases hc
 rcases hx with hk|hk
 . refine wpAny_storeName_local hk hn (λh' hn' hs=>?_) hcls;obtain⟨oL,_,_,hoL,_⟩:=id hn;refine h _ ⟨I.ok,I.os,I.bare,⟨λb o e n hb hx=>?_,λb o e n hb hx=>?_,I.base.free,λb o e hx=>?_,I.base.tups,I.base.frzs,I.base.tbls⟩,⟨_,hn',λj y v' e1 e2 e3=>?_⟩,λy c e=>?_,I.free,I.freeC,λp hp=>?_,tracked ⟨oL,hoL,I.free⟩ hs,by simpa using I.len⟩ ⟨_,hs,.inl rfl⟩
   . exact(hs.2 b (Ou (Ot (Ym e) I.ok.above))).trans (I.base.keep b o e n hb hx)
   . obtain⟨sl,e1⟩:=I.base.slot b o e n hb hx;exact⟨sl,(hs.2 b (Ou (Ot (Ym e) I.ok.above))).trans e1⟩
   . obtain⟨o',e1⟩:=I.base.there b o e hx;exact⟨o',(hs.2 b (Ou (Ot (Ym e) I.ok.above))).trans e1⟩
   . by_cases hj:j=i
     . subst hj;rw[hi]at e1;cases e1;rw[Ol hiσ]at e2;cases e2;exact⟨u,r,.inl ⟨hk,by simp⟩⟩
     . rw[Oc (YL hj)]at e2;obtain⟨u',r',q⟩:=hl j y v' e1 e2 e3;refine⟨u',r',?_⟩;rcases q with ⟨k,e⟩|⟨k,c,e,z⟩
       . refine .inl ⟨k,?_⟩;have:y≠x:=λe=>hj (ZjV hN e1 (e ▸ hi));simp[this,e]
       . exact .inr ⟨k,c,e,z.sameBut hs (cne y c e)⟩
   . obtain⟨w',z⟩:=I.cell y c e;exact⟨w',z.sameBut hs (cne y c e)⟩
   . obtain⟨e,n,ne,nf,d⟩:=I.pin p hp;exact⟨(hs.2 p.1 ne).trans e,n,ne,nf,d⟩
 . have hfn:X.fn x=Wv:=by
    rcases hf with z|z
    . exact z
    . rw[z]at hk;cases hk
   obtain⟨c,hc⟩:=I.ok.has x (.inl hk);obtain⟨w',z⟩:=I.cell x c hc;refine wpAny_storeName_cell I.ok.kind hk hc z (λh' hc' hs=>?_);obtain⟨oc,hoc,hocd⟩:=id z;refine h {s with heap:=h'} ⟨I.ok,I.os,I.bare,⟨λb o e n hb hx=>?_,λb o e n hb hx=>?_,I.base.free,λb o e hx=>?_,I.base.tups,I.base.frzs,I.base.tbls⟩,⟨m,hn.sameBut hs (YL (cne x c hc)),λj y v' e1 e2 e3=>?_⟩,λy c' e=>?_,I.free,I.freeC,λp hp=>?_,tracked ⟨oc,hoc,I.freeC x c hc⟩ hs,by simpa using I.len⟩ ⟨c,hs,.inr hc⟩
   . exact(hs.2 b (Ou (Ot (Ym e) (I.ok.cab x c hfn hc)))).trans (I.base.keep b o e n hb hx)
   . obtain⟨sl,e1⟩:=I.base.slot b o e n hb hx;exact⟨sl,(hs.2 b (Ou (Ot (Ym e) (I.ok.cab x c hfn hc)))).trans e1⟩
   . obtain⟨o',e1⟩:=I.base.there b o e hx;exact⟨o',(hs.2 b (Ou (Ot (Ym e) (I.ok.cab x c hfn hc)))).trans e1⟩
   . by_cases hj:j=i
     . subst hj;rw[hi]at e1;cases e1;rw[Ol hiσ]at e2;cases e2;exact⟨u,r,.inr ⟨.inl hk,c,hc,hc'⟩⟩
     . rw[Oc (YL hj)]at e2;obtain⟨u',r',q⟩:=hl j y v' e1 e2 e3;refine⟨u',r',?_⟩;rcases q with q|⟨k,c',e,z'⟩
       . exact .inl q
       . refine .inr ⟨k,c',e,z'.sameBut hs ?_⟩;rintro rfl;exact hj (ZjV hN e1 (I.ok.inj _ _ _ e hc ▸ hi))
   . by_cases hcc:c'=c
     . subst hcc;exact⟨_,hc'⟩
     . obtain⟨w2,z2⟩:=I.cell y c' e;exact⟨w2,z2.sameBut hs hcc⟩
   . obtain⟨e,n,ne,nf,d⟩:=I.pin p hp;refine⟨(hs.2 p.1 ?_).trans e,n,ne,nf,d⟩;intro q;rw[q,hoc]at e;have q':oc=p.2:=YF e;exact d w' (by rw[<- q'];exact hocd)
def Ze5(I:Inv X pins Z H s)(hN:X.N.Nodup)(hi:X.N[i]? = Ws x)(hx:Loc X.env.scope x)(r:RelV v u)
 (h:∀s',Inv X pins (Z.set i (Ws v)) H s'->Q () s') (hf:X.fn x=Wv\/X.env.scope.names.lookup x=Ws .local:=by first|exact .inl rfl|exact .inr rfl|assumption):YB M A (storeName X.env x u) Q E s:=
 Zh1 I hN hi hx r (λs' I' _=>h s' I') hf
def Inv.call'(I:Inv X pins Z H s)(ho:s'.os=s.os)(u:Un (frs X.stack) ch H H' s.heap s'.heap)(hok:HOk X.prog X.w H' s'.heap)(hg:AllBare s'.gens)
 (hch:∀b∈ch,(b∈X.ex\/X.s₀.heap.objs.size<=b)/\b≠X.env.locals/\(∀x c,X.env.cells.lookup x=Ws c->c≠b)/\∀p∈X.pn++pins,p.1≠b):Inv X pins Z H' s':=by
 obtain⟨h',g',d',t',o'⟩:=s';have e:o'=s.os:=ho;subst e;exact I.call (g':=g') (t':=t') (d':=d') u hok hg hch
end
abbrev XK:=Yj->Option Yi->Hp->Prop
noncomputable abbrev St:=List (Option V)
abbrev VK:=V->Hp->Prop
abbrev TE:=St->Hp->VK->Prop
abbrev TT:=St->Hp->(Bool->Hp->Prop)->Prop
abbrev TA:=St->Hp->(List V->Hp->Prop)->Prop
structure Ends where
 nx:St->Hp->Prop
 rt:VK
 bk:St->Hp->Prop:=λ_ _=>False
 ct:St->Hp->Prop:=λ_ _=>False
abbrev TS:=Ends->St->Hp->Prop
def EP(X:Cx)(pins:List (Yi×Obj))(Z:St)(Q:VK)(u:Yj)(s':Yb):Prop:=∃v H',Inv X pins Z H' s'/\RelV v u/\Q v H'
def TP(X:Cx)(pins:List (Yi×Obj))(Z:St)(Q:Bool->Hp->Prop)(b:Bool)(s':Yb):Prop:=∃H',Inv X pins Z H' s'/\Q b H'
def AP(X:Cx)(pins:List (Yi×Obj))(Z:St)(Q:List V->Hp->Prop)(us:List Yj)(s':Yb):Prop:=∃vs H',Inv X pins Z H' s'/\Zp vs us/\Q vs H'
def SP(X:Cx)(pins:List (Yi×Obj))(D:Ends)(f:Flow)(s':Yb):Prop:=
 match f with
 |.next=>∃σ' H',Inv X pins σ' H' s'/\D.nx σ' H'
 |.brk=>∃σ' H',Inv X pins σ' H' s'/\D.bk σ' H'
 |.cont=>∃σ' H',Inv X pins σ' H' s'/\D.ct σ' H'
 |.ret u=>∃v σ' H',Inv X pins σ' H' s'/\RelV v u/\D.rt v H'
def PE(X:Cx)(e:Expr)(t:TE):Prop:=∀(pins:List (Yi×Obj)) (s:Yb) (Z:St) (H:Hp) (Q:VK),Inv X pins Z H s->t Z H Q->YB (model X.prog X.w) X.A (eval e X.env) (EP X pins Z Q) X.xe s
def PT(X:Cx)(e:Expr)(t:TT):Prop:=∀(pins:List (Yi×Obj)) (s:Yb) (Z:St) (H:Hp) (Q:Bool->Hp->Prop),Inv X pins Z H s->t Z H Q->YB (model X.prog X.w) X.A (isTrue e X.env (eval e X.env)) (TP X pins Z Q) X.xe s
def PW(X:Cx)(e:Expr)(t:TT):Prop:=∀(whole:Sem Yj) (pins:List (Yi×Obj)) (s:Yb) (Z:St) (H:Hp) (Q:Bool->Hp->Prop),Inv X pins Z H s->t Z H Q->YB (model X.prog X.w) X.A (isTrue e X.env whole) (TP X pins Z Q) X.xe s
def PW.pt(h:PW X e t):PT X e t:=h _
def PA(X:Cx)(es:List Expr)(t:TA):Prop:=∀(pos:Pos) (pins:List (Yi×Obj)) (s:Yb) (Z:St) (H:Hp) (Q:List V->Hp->Prop),Inv X pins Z H s->t Z H Q->YB (model X.prog X.w) X.A (spliced (YS pos (YA es X.env))) (AP X pins Z Q) X.xe s
def PS(X:Cx)(st:Stmt)(t:TS):Prop:=∀(pins:List (Yi×Obj)) (s:Yb) (Z:St) (H:Hp) (D:Ends),Inv X pins Z H s->t D Z H->YB (model X.prog X.w) X.A (exec st X.env) (SP X pins D) X.xe s
def PSs(X:Cx)(st:List Stmt)(t:TS):Prop:=∀(pins:List (Yi×Obj)) (s:Yb) (Z:St) (H:Hp) (D:Ends),Inv X pins Z H s->t D Z H->YB (model X.prog X.w) X.A (execs st X.env) (SP X pins D) X.xe s
def thn(h:YB M A t Q E s)(hQ:∀a s,Q a s->Q' a s):YB M A t Q' E s:=Yf h hQ λ_ _ x=>x
section
variable {X:Cx}
noncomputable def ZwU(i:Nat):TE:=λZ H Q=>∃v,Z[i]? = Ws (Ws v)/\Q v H
noncomputable def tC(v:V):TE:=λ_ H Q=>Q v H
def Ztt(hN:X.N[i]? = Ws x)(hv:Vis X.env.scope x)(hd:(x==("__debug__" : Str))=Ww:=by decide)(hcd:(x==("__classdict__" : Str))=Ww:=by decide):PE X (.Name x pos) (ZwU i):=by
 intro pins s Z H Q I h;obtain⟨v,e,h⟩:=h;obtain⟨m,hn,hl⟩:=I.loc;obtain⟨u,r,l⟩:=hl i x v hN e hv;have fin:EP X pins Z Q u s:=⟨v,H,I,r,h⟩
 rcases l with ⟨hk,hm⟩|⟨hk,c,hc,hcell⟩
 . exact wpAny_Name (wpAny_loadName_local I.ok.kind hk hn hm fin) hd
 . rcases hk with hk|hk
   . exact wpAny_Name (wpAny_loadName_cell I.ok.kind hk hc hcell fin) hd
   . exact wpAny_Name (wpAny_loadName_free I.ok.kind hk hc hcell fin hcd) hd
def Ztz{i j pos}:PE X (.Constant (.int i) j pos) (tC (.int i)):=λ_ _ _ H _ I h=>wpAny_Constant_int ⟨.int i,H,I.tok _,⟨_,rfl⟩,h⟩
def ZvE{b j pos}:PE X (.Constant (.bool b) j pos) (tC (.bl b)):=λ_ _ _ H _ I h=>Constant_bool ⟨.bl b,H,I,rfl,h⟩
def ZoT{j pos}:PE X (.Constant .none j pos) (tC .non):=λ_ _ _ H _ I h=>Constant_none ⟨.non,H,I,rfl,h⟩
def Ztw{x j pos}:PE X (.Constant (.str x) j pos) (tC (.str x)):=λ_ _ _ H _ I h=>Calls.Constant_str ⟨.str x,H,I.tok _,⟨_,rfl⟩,h⟩
def Gl(X:Cx)(x:Str):Prop:=X.env.kindOf x=Ws .globalImplicit
def Zc9(I:Inv X pins Z H s)(hg:Gl X x)(hm:X.mg x=Ws u)(h:Q u s)
 (hd:(x==("__debug__" : Str))=Ww:=by decide):YB (model X.prog X.w) X.A (eval (.Name x pos) X.env) Q E s:=
 Calls.Name_function_global I.ok.kind hg (Calls.loadGlobal_global (by rw[I.ok.glob];exact I.mod.glob.keeps I.bk) hm h) hd
def Zda(I:Inv X pins Z H s)(hg:Gl X x)(hm:X.mg x=Wu)(hv:bootBuiltins x=Ws u)(h:Q u s)
 (hn:x ≠ "__name__" := by decide) (hd:(x==("__debug__" : Str))=Ww:=by decide):YB (model X.prog X.w) X.A (eval (.Name x pos) X.env) Q E s:=by
 obtain⟨mb,h1,h2⟩:=I.mod.blt;exact Calls.Name_function_global I.ok.kind hg (Calls.loadGlobal_builtin (by rw[I.ok.glob];exact I.mod.glob.keeps I.bk) hm (by rw[I.ok.blt];exact h1.keeps I.bk) ((h2 x hn).trans hv) h) hd
def ZqS(hg:Gl X x)(hm:X.mg x=Ws u)(r:RelV v u)(hd:(x==("__debug__" : Str))=Ww:=by decide):PE X (.Name x pos) (tC v):=λ_ _ _ H _ I h=>Zc9 I hg hm ⟨v,H,I,r,h⟩ hd
def ZqX(hg:Gl X x)(hm:X.mg x=Wu)(hv:bootBuiltins x=Ws u)(r:RelV v u)(hn:x ≠ "__name__" := by decide)(hd:(x==("__debug__" : Str))=Ww:=by decide):PE X (.Name x pos) (tC v):=λ_ _ _ H _ I h=>Zda I hg hm hv ⟨v,H,I,r,h⟩ hn hd
variable {a b:Expr}{ta tb:TE}{pos:Pos}
variable {tA tB':TT}{rest:List Expr}
noncomputable def Zw8(t u:TT):TT:=λZ H Q=>t Z H λc H1=>if c=Wv then u Z H1 Q else Q Ww H1
noncomputable def tOr(t u:TT):TT:=λZ H Q=>t Z H λc H1=>if c=Wv then Q Wv H1 else u Z H1 Q
noncomputable def Zw0(t:TT):TT:=λZ H Q=>t Z H λc H1=>Q (!c) H1
def ZqB(ha:PT X a tA):PW X (.BoolOp .And [a] pos) tA:=by
 intro wh pins s Z H Q I h;refine isTrue_and (thn (ha pins s Z H Q I h) λc s1 e=>?_);cases c with
 |true=>exact isTrue_and_nil e
 |false=>exact e
def Zth(ha:PT X a tA):PW X (.BoolOp .Or [a] pos) tA:=by
 intro wh pins s Z H Q I h;refine isTrue_or (thn (ha pins s Z H Q I h) λc s1 e=>?_);cases c with
 |false=>exact isTrue_or_nil e
 |true=>exact e
def Zti(ha:PT X a tA)(hb:PW X (.BoolOp .And (b::rest) pos) tB'):PW X (.BoolOp .And (a::b::rest) pos) (Zw8 tA tB'):=by
 intro wh pins s Z H Q I h;refine isTrue_and (thn (ha pins s Z H _ I h) λc s1 ⟨H1,I1,q1⟩=>?_);cases c with
 |true=>exact hb wh pins s1 Z H1 Q I1 q1
 |false=>exact⟨H1,I1,q1⟩
def Zvv(ha:PT X a tA)(hb:PW X (.BoolOp .Or (b::rest) pos) tB'):PW X (.BoolOp .Or (a::b::rest) pos) (tOr tA tB'):=by
 intro wh pins s Z H Q I h;refine isTrue_or (thn (ha pins s Z H _ I h) λc s1 ⟨H1,I1,q1⟩=>?_);cases c with
 |true=>exact⟨H1,I1,q1⟩
 |false=>exact hb wh pins s1 Z H1 Q I1 q1
def Ztk(ha:PT X a tA):PT X (.UnaryOp .Not a pos) (Zw0 tA):=by intro pins s Z H Q I h;exact isTrue_not (ha pins s Z H (λc H1=>Q (!c) H1) I h)
noncomputable def Zva(ta tb:TE):TE:=λZ H Q=>ta Z H λx H1=>∃c,x=.bl c/\if c=Wv then tb Z H1 Q else Q (.bl Ww) H1
noncomputable def ZwZ(ta tb:TE):TE:=λZ H Q=>ta Z H λx H1=>∃c,x=.bl c/\if c=Wv then Q (.bl Wv) H1 else tb Z H1 Q
noncomputable def Zu3(ta:TE):TE:=λZ H Q=>ta Z H λx H1=>∃c,x=.bl c/\Q (.bl (!c)) H1
def ZoS{op}(h:PE X a t):PE X (.BoolOp op [a] pos) t:=λpins s Z H Q I hw=>BoolOp_one (h pins s Z H Q I hw)
def ZtD(ha:PE X a ta)(hb:PE X (.BoolOp .And (b::rest) pos) tb):PE X (.BoolOp .And (a::b::rest) pos) (Zva ta tb):=by
 intro pins s Z H Q I h;refine BoolOp_and (thn (ha pins s Z H _ I h) λv s1 ⟨x,H1,I1,r1,q1⟩=>?_);obtain⟨c,rfl,q1⟩:=q1;cases r1;refine wpAny_truthy_bool ?_;cases c with
 |true=>exact hb pins s1 Z H1 Q I1 q1
 |false=>exact⟨.bl Ww,H1,I1,rfl,q1⟩
def ZvA(ha:PE X a ta)(hb:PE X (.BoolOp .Or (b::rest) pos) tb):PE X (.BoolOp .Or (a::b::rest) pos) (ZwZ ta tb):=by
 intro pins s Z H Q I h;refine BoolOp_or (thn (ha pins s Z H _ I h) λv s1 ⟨x,H1,I1,r1,q1⟩=>?_);obtain⟨c,rfl,q1⟩:=q1;cases r1;refine wpAny_truthy_bool ?_;cases c with
 |false=>exact hb pins s1 Z H1 Q I1 q1
 |true=>exact⟨.bl Wv,H1,I1,rfl,q1⟩
def Ztx(ha:PE X a ta):PE X (.UnaryOp .Not a pos) (Zu3 ta):=by intro pins s Z H Q I h;refine UnaryOp_ (thn (ha pins s Z H _ I h) λv s1 ⟨x,H1,I1,r1,q1⟩=>?_);obtain⟨c,rfl,q1⟩:=q1;cases r1;exact not_of (wpAny_truthy_bool ⟨.bl (!c),H1,I1,rfl,q1⟩)
noncomputable def tIf(t:TT)(ta tb:TE):TE:=λZ H Q=>t Z H λc H1=>if c=Wv then ta Z H1 Q else tb Z H1 Q
def ZoW(hc:PT X c tA)(ha:PE X a ta)(hb:PE X b tb):PE X (.IfExp c a b pos) (tIf tA ta tb):=by
 intro pins s Z H Q I h;refine wpAny_IfExp (thn (hc pins s Z H _ I h) λd s1 ⟨H1,I1,q1⟩=>?_);cases d with
 |true=>exact ha pins s1 Z H1 Q I1 q1
 |false=>exact hb pins s1 Z H1 Q I1 q1
end
def SqL(K:Yk)(H:Hp)(a:Yi)(xs:List V):Prop:=
 Rd H a (.lst xs) \/
  ∃(o:Obj) (its:Array Yj) (n:Nat),K.lookup a=Ws o/\o.cls=.type "list" /\ o.dict=Wu/\o.data=.seq its n/\its.size<=sizeLine/\Zp xs its.toList
def SqT(K:Yk)(H:Hp)(a:Yi)(xs:List V):Prop:=
 Rd H a (.tup xs) \/
  ∃(o:Obj) (its:Array Yj) (n:Nat),K.lookup a=Ws o/\o.cls=.type "tuple" /\ o.data=.seq its n/\its.size<=sizeLine/\Zp xs its.toList
noncomputable def ZxL:Yj->Option V
 |.none=>Ws .non
 |.bool b=>Ws (.bl b)
 |.int i _=>Ws (.int i)
 |.str x _=>Ws (.str x)
 |.bytes b _=>Ws (.byt b)
 |.float b _=>Ws (.flt b)
 |.ref a=>Ws (.ref a)
 |.type n=>Ws (.ty n)
 |_=>Wu
def RelV.abs(r:RelV x u):ZxL u=Ws x:=by
 cases x with
 |non=>cases r;rfl
 |bl _=>cases r;rfl
 |int _=>obtain⟨t,rfl⟩:=r;rfl
 |str _=>obtain⟨t,rfl⟩:=r;rfl
 |byt _=>obtain⟨t,rfl⟩:=r;rfl
 |flt _=>obtain⟨t,rfl⟩:=r;rfl
 |ref _=>cases r;rfl
 |ty _=>cases r;rfl
def RelV.inj(r:RelV x u)(q:RelV y u):x=y:=YF (r.abs.symm.trans q.abs)
theorem Zp.inj:∀{xs ys:List V}{us:List Yj},Zp xs us->Zp ys us->xs=ys
 |_,_,_,.nil,.nil=>rfl
 |_,_,_,.cons r t,.cons r' t'=>by rw[r.inj r',Zp.inj t t']
section
variable {X:Cx}{pins:List (Yi×Obj)}{Z:St}{H:Hp}{s:Yb}{a:Yi}{xs ys:List V}
def SqL.of{K:Yk}(h:H a=Ws (.lst xs)):SqL K H a xs:=.inl (.inl h)
def Inv.list(I:Inv X pins Z H s)(h:SqL X.K H a xs):∃its:List Yj,Zp xs its/\PlainL s.heap a its.toArray/\xs.length<=sizeLine:=by
 rcases h with h|⟨o,its,n,hk,hc,hd,hs,hz,r⟩
 . obtain⟨z,its,n,r,e⟩:=h.ok I.hok;exact⟨its,r,⟨_,n,e,rfl,rfl,rfl⟩,z⟩
 . refine⟨its.toList,r,⟨o,n,I.kIn a o hk,hc,hd,by simpa using hs⟩,?_⟩;have e:=r.length;simp only[Array.length_toList]at e
   lia
def Inv.tuple(I:Inv X pins Z H s)(h:SqT X.K H a xs):∃its:List Yj,Zp xs its/\IsTup s.heap a its.toArray/\xs.length<=sizeLine:=by
 rcases h with h|⟨o,its,n,hk,hc,hs,hz,r⟩
 . obtain⟨z,its,r,p⟩:=h.ok I.hok;exact⟨its,r,p.tup,z⟩
 . refine⟨its.toList,r,⟨o,I.kIn a o hk,hc,n,by simpa using hs⟩,?_⟩;have e:=r.length;simp only[Array.length_toList]at e
   lia
def Inv.list_inj(I:Inv X pins Z H s)(h:SqL X.K H a xs)(h':SqL X.K H a ys):xs=ys:=by
 obtain⟨its,r,⟨o,n,e,_,_,d⟩,_⟩:=I.list h;obtain⟨its',r',⟨o',n',e',_,_,d'⟩,_⟩:=I.list h';rw[e]at e';cases e';rw[d]at d';injection d' with d1 _;have:its=its':=by simpa using congrArg Array.toList d1
 subst this;exact r.inj r'
def Inv.tuple_inj(I:Inv X pins Z H s)(h:SqT X.K H a xs)(h':SqT X.K H a ys):xs=ys:=by
 obtain⟨its,r,⟨o,e,_,n,d⟩,_⟩:=I.tuple h;obtain⟨its',r',⟨o',e',_,n',d'⟩,_⟩:=I.tuple h';rw[e]at e';cases e';rw[d]at d';injection d' with d1 _;have:its=its':=by simpa using congrArg Array.toList d1
 subst this;exact r.inj r'
end
noncomputable abbrev Cx.wish(X:Cx)(E:Yj->Yb->Prop):Cx:={X with xe:=E}
noncomputable abbrev Cx.nox(X:Cx):Cx:=X.wish λ_ _=>False
theorem Cx.Ok.wish{X:Cx}(ok:X.Ok)(E:Yj->Yb->Prop):(X.wish E).Ok:=⟨ok.mod,ok.kind,ok.glob,ok.blt,ok.above,ok.inj,ok.has,ok.cab,ok.hd,ok.frames,ok.stk,ok.exf,ok.bs,ok.bsz,ok.noex,ok.exfs,ok.funs,ok.frf⟩
def Cx.Ok.unwish{X:Cx}{E:Yj->Yb->Prop}(ok:(X.wish E).Ok):X.Ok:=⟨ok.mod,ok.kind,ok.glob,ok.blt,ok.above,ok.inj,ok.has,ok.cab,ok.hd,ok.frames,ok.stk,ok.exf,ok.bs,ok.bsz,ok.noex,ok.exfs,ok.funs,ok.frf⟩
section
variable {X:Cx}{pins:List (Yi×Obj)}{Z:St}{H:Hp}{s:Yb}{E:Yj->Yb->Prop}
theorem Inv.wish(I:Inv X pins Z H s)(E:Yj->Yb->Prop):Inv (X.wish E) pins Z H s:=⟨I.ok.wish E,I.os,I.bare,I.base,I.loc,I.cell,I.free,I.freeC,I.pin,I.hok,I.len⟩
theorem Inv.unwish(I:Inv (X.wish E) pins Z H s):Inv X pins Z H s:=⟨I.ok.unwish,I.os,I.bare,I.base,I.loc,I.cell,I.free,I.freeC,I.pin,I.hok,I.len⟩
end
section
variable {X:Cx}{st:Stmt}{rest:List Stmt}{t u:TS}{e:Expr}{te:TE}{pos:Pos}
noncomputable def Zsf:TS:=λD Z H=>D.nx Z H
noncomputable def ZwX(t u:TS):TS:=λD Z H=>t {D with nx:=u D} Z H
def ZqF:PSs X [] Zsf:=λ_ _ Z H _ I h=>wpAny_execs_nil ⟨Z,H,I,h⟩
def ZoJ(h1:PS X st t)(h2:PSs X rest u):PSs X (st::rest) (ZwX t u):=by
 intro pins s Z H D I h;refine wpAny_execs_cons (thn (h1 pins s Z H {D with nx:=u D} I h) λf s1 q=>?_);cases f with
 |next=>obtain⟨σ',H',I',q⟩:=q;exact h2 pins s1 σ' H' D I' q
 |ret v=>exact q
 |brk=>exact q
 |cont=>exact q
def ZqE(h1:PS X st t):PSs X [st] t:=by
 intro pins s Z H D I h;refine wpAny_execs_cons (thn (h1 pins s Z H D I h) λf s1 q=>?_);cases f with
 |next=>exact wpAny_execs_nil q
 |ret v=>exact q
 |brk=>exact q
 |cont=>exact q
noncomputable def ZsW:TS:=λD Z H=>D.bk Z H
noncomputable def Zu7:TS:=λD Z H=>D.ct Z H
def ZqG:PS X (.Pass pos) Zsf:=λ_ _ Z H _ I h=>wpAny_Pass ⟨Z,H,I,h⟩
def ZoM:PS X (.Break pos) ZsW:=λ_ _ Z H _ I h=>wpAny_Break ⟨Z,H,I,h⟩
def ZjO:PS X (.Continue pos) Zu7:=λ_ _ Z H _ I h=>wpAny_Continue ⟨Z,H,I,h⟩
def Inv.quiet(I:Inv X pins Z H s):interactive X.env=Ww:=by simp[interactive,I.ok.kind]
noncomputable def Zu5(te:TE):TS:=λD Z H=>te Z H λ_ H1=>D.nx Z H1
def ZqH(he:PE X e te)(hs:swapsWith e Wu pos.line X.env=pure Ww:=by rfl):PS X (.Expr e pos) (Zu5 te):=by intro pins s Z H D I h;exact wpAny_Expr_any (thn (he pins s Z H _ I h) λv s1 ⟨x,H1,I1,r1,q1⟩=>⟨Z,H1,I1,q1⟩) I.quiet hs
noncomputable def ZwY(te:TE):TS:=λD Z H=>te Z H D.rt
def Ztl(he:PE X e te):PS X (.Return (Ws e) pos) (ZwY te):=by intro pins s Z H D I h;exact wpAny_Return_some (thn (he pins s Z H _ I h) λv s1 ⟨x,H1,I1,r1,q1⟩=>⟨x,Z,H1,I1,r1,q1⟩)
noncomputable def Zw2(c:TT)(t u:TS):TS:=λD Z H=>c Z H λb H1=>if b=Wv then t D Z H1 else u D Z H1
def Zvx(hc:PT X c tc)(ha:PSs X a t)(hb:PSs X b u):PS X (.If c a b pos) (Zw2 tc t u):=by
 intro pins s Z H D I h;refine wpAny_If (thn (hc pins s Z H _ I h) λd s1 ⟨H1,I1,q1⟩=>?_);cases d with
 |true=>exact ha pins s1 Z H1 D I1 q1
 |false=>exact hb pins s1 Z H1 D I1 q1
end
abbrev TG:=V->St->Hp->(St->Hp->Prop)->Prop
abbrev TGs:=List V->St->Hp->(St->Hp->Prop)->Prop
def PG(X:Cx)(target:Expr)(t:TG):Prop:=
 ∀(pins:List (Yi×Obj)) (s:Yb) (Z:St) (H:Hp) (v:V) (u:Yj) (Q:St->Hp->Prop),Inv X pins Z H s->RelV v u->t v Z H Q ->
  YB (model X.prog X.w) X.A (assign target X.env u) (λ_ s'=>∃σ' H',Inv X pins σ' H' s'/\Q σ' H') X.xe s
def PGs(X:Cx)(ts:List Expr)(t:TGs):Prop:=
 ∀(pins:List (Yi×Obj)) (s:Yb) (Z:St) (H:Hp) (vs:List V) (us:List Yj) (Q:St->Hp->Prop),Inv X pins Z H s->Zp vs us->t vs Z H Q ->
  YB (model X.prog X.w) X.A (assignInOrder ((assignEach ts X.env).map (·.2)) us) (λ_ s'=>∃σ' H',Inv X pins σ' H' s'/\Q σ' H') X.xe s
abbrev Zr6:=V->V->V->Hp->(Hp->Prop)->Prop
def Zr7(X:Cx)(t:Zr6):Prop:=
 ∀(pins:List (Yi×Obj)) (s:Yb) (Z:St) (H:Hp) (o i v:V) (ov iv u:Yj) (Q:Hp->Prop),Inv X pins Z H s->RelV o ov->RelV i iv->RelV v u->t o i v H Q ->
  YB (model X.prog X.w) X.A (setItem ov iv u) (λ_ s'=>∃H',Inv X pins Z H' s'/\Q H') X.xe s
abbrev TIp:=V->V->Hp->VK->Prop
def PIp(X:Cx)(op:Operator)(t:TIp):Prop:=
 ∀(pins:List (Yi×Obj)) (s:Yb) (Z:St) (H:Hp) (x y:V) (v u:Yj) (Q:VK),Inv X pins Z H s->RelV x v->RelV y u->t x y H Q ->
  YB (model X.prog X.w) X.A (inplaceOp op v u) (EP X pins Z Q) X.xe s
section
variable {X:Cx}{pos:Pos}
noncomputable def Zdn(i:Nat):TG:=λv Z H Q=>Q (Z.set i (Ws v)) H
def Zl7(hN:X.N.Nodup)(hi:X.N[i]? = Ws x)(hx:Loc X.env.scope x)(hf:X.fn x=Wv\/X.env.scope.names.lookup x=Ws .local:=by first|exact .inl rfl|exact .inr rfl|assumption):PG X (.Name x pos) (Zdn i):=by intro pins s Z H v u Q I r h;exact wpAny_assign_Name (Ze5 I hN hi hx r (λs' I'=>⟨_,H,I',h⟩) hf)
noncomputable def ZrC:TGs:=λvs Z H Q=>vs=[]/\Q Z H
noncomputable def Zka(t:TG)(u:TGs):TGs:=λvs Z H Q=>∃v r,vs=v::r/\t v Z H λσ' H'=>u r σ' H' Q
def Zl5:PGs X [] ZrC:=by intro pins s Z H vs us Q I r h;obtain⟨e,h⟩:=h;subst e;cases r;exact assignInOrder_nil ⟨Z,H,I,h⟩
def Zg2(h1:PG X e t)(h2:PGs X es u)
 (hs:(assignEach (e::es) X.env).map (·.2)=assign e X.env::(assignEach es X.env).map (·.2):=by rfl):PGs X (e::es) (Zka t u):=by
 intro pins s Z H vs us Q I r h;obtain⟨v,vr,e1,h⟩:=h;subst e1;cases r with
 |cons r rr=>rw[hs];refine assignInOrder_cons (thn (h1 pins s Z H _ _ _ I r h) λ_ s1 ⟨σ1,H1,I1,q1⟩=>?_);exact h2 pins s1 σ1 H1 _ _ Q I1 rr q1
noncomputable def ZrB(K:Yk)(n:Nat)(t:TGs):TG:=λv Z H Q=>∃a xs,v=.ref a/\SqT K H a xs/\xs.length=n/\t xs Z H Q
def ZoQ(hc:X.calm=Wv)(h:PGs X es t)
 (hn:(assignEach es X.env).length=n:=by rfl) (hst:(assignEach es X.env).findIdx? (·.1)=Wu:=by rfl):PG X (.Tuple es k pos) (ZrB X.K n t):=by
 intro pins s Z H v u Q I r hw;obtain⟨a,xs,e1,hq,hl,hw⟩:=hw;subst e1;cases r;obtain⟨its,rv,ht,hz⟩:=I.tuple hq;refine assign_Tuple_tuple (I.ok.hd hc) ht (by simp[hn,<- hl,rv.length]) hst λh' hx=>?_;have I1:Inv X pins Z H {s with heap:=h'}:=I.kept (t':=s.toks) λb o e=>hx b o (Ou (Ym e)) e;exact h pins _ Z H xs _ Q I1 (by simpa using rv) hw
noncomputable def Zxu(to ti:TE)(t:Zr6):TG:=λv Z H Q=>to Z H λo H1=>ti Z H1 λi H2=>t o i v H2 λH3=>Q Z H3
def Zts(ho:PE X o to)(hi:PE X i ti)(hs:Zr7 X t)
 (ha:∀v,assign (.Subscript o i pos) X.env v=(do
  let ov <- holding [v] (eval o X.env);let iv <- holding [v,ov] (eval i X.env)
  standAt pos
  holding [v,ov,iv] (setItem ov iv v)
  release [v,ov,iv] []):=by intro _;rfl):PG X (.Subscript o i pos) (Zxu to ti t):=by
 intro pins s Z H v u Q I r h;rw[ha];refine Ya (Wf (thn (ho pins s Z H _ I h) λov s1 ⟨x,H1,I1,r1,q1⟩=>?_));refine Ya (Wf (thn (hi pins s1 Z H1 _ I1 q1) λiv s2 ⟨y,H2,I2,r2,q2⟩=>?_));refine Ya (wpAny_standAt (Ya (Wf (thn (hs pins s2 Z H2 x y v ov iv u _ I2 r1 r2 r q2) λ_ s3 ⟨H3,I3,q3⟩=>?_))));exact wpAny_release ⟨Z,H3,I3,q3⟩
noncomputable def ZkL(te:TE)(g:TG):TS:=λD Z H=>te Z H λx H1=>g x Z H1 D.nx
def ZoN(he:PE X e te)(hg:PG X tg g)(hs:swapsWithSole [tg] e pos.line X.env=pure Ww:=by rfl)(hw:swappedStores [tg] e X.env=pure Wu:=by rfl)
 (h1:(assignEach [tg] X.env).map (·.2)=[assign tg X.env]:=by rfl):PS X (.Assign [tg] e pos) (ZkL te g):=by
 intro pins s Z H D I h;refine wpAny_Assign_stores (thn (he pins s Z H _ I h) λv s1 ⟨x,H1,I1,r1,q1⟩=>?_) hs hw;rw[h1];exact thn (hg pins s1 Z H1 x v _ I1 r1 q1) λ_ s2 q=>q
def Zk3(hN:X.N.Nodup)(hi:X.N[i]? = Ws x)(hx:Loc X.env.scope x)(he:PE X e te)(hs:swapsWith e (Ws (.Name x pos')) pos.line X.env=pure Ww:=by rfl)(hf:X.fn x=Wv\/X.env.scope.names.lookup x=Ws .local:=by first|exact .inl rfl|exact .inr rfl|assumption):
 PS X (.Assign [.Name x pos'] e pos) (ZkL te (Zdn i)):=by
 intro pins s Z H D I h;refine wpAny_Assign_Name (thn (he pins s Z H _ I h) λv s1 ⟨y,H1,I1,r1,q1⟩=>?_) hs;exact Ze5 I1 hN hi hx r1 (λs2 I2=>⟨_,H1,I2,q1⟩) hf
noncomputable def Zw7(i:Nat)(te:TE)(ti:TIp):TS:=λD Z H=>∃x,Z[i]? = Ws (Ws x)/\te Z H λy H1=>ti x y H1 λz H2=>D.nx (Z.set i (Ws z)) H2
def Zto(hN:X.N.Nodup)(hi:X.N[i]? = Ws x)(hx:Loc X.env.scope x)(he:PE X e te)(ho:PIp X op ti)(hf:X.fn x=Wv\/X.env.scope.names.lookup x=Ws .local:=by first|exact .inl rfl|exact .inr rfl|assumption):
 PS X (.AugAssign (.Name x pos') op e pos) (Zw7 i te ti):=by
 intro pins s Z H D I h;obtain⟨v,e1,h⟩:=h;obtain⟨m,hn,hl⟩:=I.loc;have vis:Vis X.env.scope x:=by rcases hx with k|k;exact .inl k;exact .inr (.inl k)
 obtain⟨u,r,l⟩:=hl i x v hi e1 vis;refine wpAny_AugAssign_Name ?_;have go:YB (model X.prog X.w) X.A (eval e X.env) (λw s₂=>YB (model X.prog X.w) X.A (inplaceOp op u w) (λr s₃=>YB (model X.prog X.w) X.A (storeName X.env x r) (λ_=>SP X pins D .next) X.xe s₃) X.xe s₂) X.xe s:=by refine thn (he pins s Z H _ I h) λw s1 ⟨y,H1,I1,r1,q1⟩=>?_;refine thn (ho pins s1 Z H1 v y u w _ I1 r r1 q1) λz s2 ⟨zv,H2,I2,r2,q2⟩=>?_;exact Ze5 I2 hN hi hx r2 (λs3 I3=>⟨_,H2,I3,q2⟩) hf
 rcases l with ⟨hk,hm⟩|⟨hk,c,hc,hcell⟩
 . exact wpAny_loadName_local I.ok.kind hk hn hm go
 . rcases hk with hk|hk
   . exact wpAny_loadName_cell I.ok.kind hk hc hcell go
   . rcases hx with k|k
     . have:X.env.scope.names.lookup x=Ws .free:=hk;rw[k]at this;cases this
     . have:X.env.scope.names.lookup x=Ws .free:=hk;rw[k]at this;cases this
noncomputable def ipI(f:Int->Int->Int):TIp:=λx y H Q=>∃i j,x=.int i/\y=.int j/\Q (.int (f i j)) H
def Zud:PIp X .Add (ipI λi j=>i+j):=by intro pins s Z H x y v u Q I r1 r2 h;obtain⟨i,j,e1,e2,q⟩:=h;subst e1;subst e2;obtain⟨t,rfl⟩:=r1;obtain⟨t',rfl⟩:=r2;exact iadd_int ⟨.int _,H,I.tok _,⟨_,rfl⟩,q⟩
noncomputable def Zod(c:TT)(tb:TS):TS:=λD Z H=>∃W:Nat->St->Hp->Prop,(∃m,W m Z H)/\∀m Z H,W m Z H ->
 c Z H λb H1=>if b=Wv then ∃N:St->Hp->Prop,(∀σ' H',N σ' H'->∃m',m'<m/\W m' σ' H')/\tb {D with nx:=N,ct:=N,bk:=D.nx} Z H1 else D.nx Z H1
def ZoK(hp:PassesOwn (model X.prog X.w) X.A X.env X.xe)(hc:PT X c tc)(hb:PSs X body tb):PS X (.While c body [] pos) (Zod tc tb):=by
 intro pins s Z H D I h;obtain⟨W,⟨m0,w0⟩,turn⟩:=h;refine wpAny_While (codeAny_whileLoop (λn s'=>∃σ' H',Inv X pins σ' H' s'/\W n σ' H') ?_ m0 ⟨Z,H,I,w0⟩);rintro n s1 ⟨σ1,H1,I1,w1⟩;refine wpAny_passesOwn hp (thn (hc pins s1 σ1 H1 _ I1 (turn n σ1 H1 w1)) λb s2 ⟨H2,I2,q2⟩=>?_);cases b with
 |true=>
  obtain⟨N,hN,q2⟩:=q2;rw[if_pos rfl];refine wpAny_passesOwn hp (thn (hb pins s2 σ1 H2 _ I2 q2) λf s3 q3=>?_);cases f with
  |next=>obtain⟨σ3,H3,I3,n3⟩:=q3;obtain⟨m',hm,w3⟩:=hN σ3 H3 n3;exact⟨m',hm,σ3,H3,I3,w3⟩
  |cont=>obtain⟨σ3,H3,I3,n3⟩:=q3;obtain⟨m',hm,w3⟩:=hN σ3 H3 n3;exact⟨m',hm,σ3,H3,I3,w3⟩
  |brk=>exact q3
  |ret v=>exact q3
 |false=>rw[if_neg Ow];exact wpAny_execs_nil ⟨σ1,H2,I2,q2⟩
end
structure It where
 go:Nat->Hp->Prop
 yld:Nat->Hp->V->Hp->Prop
 stop:Nat->Hp->Prop
def Zb5(X:Cx)(pins:List (Yi×Obj))(H:Hp)(b:Yi):Prop:=H b=Wu/\b≠X.env.locals/\b ∉ X.fs/\(b∈X.ex\/X.s₀.heap.objs.size<=b)/\(∀x c,X.env.cells.lookup x=Ws c->c≠b)/\∀p∈X.pn++pins,p.1≠b
def Inv.fpOk(I:Inv X pins Z H s)(hb:s.heap.objs.size<=b)(hn:H' b=Wu):Zb5 X pins H' b:=by
 refine⟨hn,Nat.ne_of_gt (Ot I.lt hb),I.nofs hb,.inr (OE I.sz hb),λx c e z=>?_,λp hp z=>?_⟩
 . obtain⟨v,q⟩:=I.cell x c e;exact absurd (Ot q.lt (by rw[z];exact hb)) (Yv _)
 . exact absurd (Ot (Ym (I.pin p hp).1) (by rw[z];exact hb)) (Yv _)
structure Turn(P:Yh)(w:Yg)(K:Yk)(tg:Expr)(J:It)(fp:List Yi)(it:Yi)(tn:Nat->YG->Prop):Prop where
 mem:it∈fp
 obj:∀i h,tn i h->∀b∈fp,∃o,h.get? b=Ws o/\∀v,o.data≠.cell v
 keep:∀i h h',tn i h->(∀b∈fp,∀o,h.get? b=Ws o->h'.get? b=Ws o)->tn i h'
 item:∀(X:Cx),X.prog=P->X.w=w->X.K=K->X.calm=Wv->∀(i:Nat) (pins:List (Yi×Obj)) (s:Yb) (Z:St) (H:Hp) (E:Yj->Yb->Prop),Inv X pins Z H s->(∀b∈fp,Zb5 X pins H b)->tn i s.heap->J.go i H ->
  YB (model P w) X.A (pyNext (.ref it)) (λr s1=>∃u,r=Ws u /\
   YB (model P w) X.A (letOwnedTupleGo tg (.ref it) u) (λ_ s2=>∃x H',Inv X pins Z H' s2/\RelV x u/\J.yld i H x H'/\tn (i+1) s2.heap/\∀b∈fp,H' b=Wu) E s1) E s
 done:∀(X:Cx),X.prog=P->X.w=w->X.K=K->X.calm=Wv->∀(i:Nat) (pins:List (Yi×Obj)) (s:Yb) (Z:St) (H:Hp) (E:Yj->Yb->Prop),Inv X pins Z H s->(∀b∈fp,Zb5 X pins H b)->tn i s.heap->J.stop i H ->
  YB (model P w) X.A (pyNext (.ref it)) (λr s1=>r=Wu/\Inv X pins Z H s1) E s
 self:∀(A:YH) (i:Nat) (s:Yb) (Q:Yj->Yb->Prop) (E:Yj->Yb->Prop),tn i s.heap->Q (.ref it) s->YB (model P w) A (pyIter (.ref it)) Q E s
abbrev TI:=St->Hp->(It->Hp->Prop)->Prop
def PIE(X:Cx)(pins:List (Yi×Obj))(Z:St)(tg:Expr)(R:It->Hp->Prop)(itv:Yj)(s2:Yb):Prop:=∃(it:Yi) (fp:List Yi) (tn:Nat->YG->Prop) (J:It) (H':Hp),itv=.ref it/\Inv X pins Z H' s2/\Turn X.prog X.w X.K tg J fp it tn/\tn 0 s2.heap/\(∀b∈fp,Zb5 X pins H' b)/\R J H'
def PI(X:Cx)(tg iter:Expr)(wi:TI):Prop:=
 ∀(pins:List (Yi×Obj)) (s:Yb) (Z:St) (H:Hp) (R:It->Hp->Prop),Inv X pins Z H s->wi Z H R ->
  YB (model X.prog X.w) X.A (eval iter X.env) (λv s1=>YB (model X.prog X.w) X.A (pyIter v) (PIE X pins Z tg R) X.xe s1) X.xe s
theorem Zj8(ho:s.heap.get? it=Ws o)(hc:o.cls=.type n)(hd:o.data=.fields vs)
   (hn:["enumerate", "zip", "dict_itemiterator", "dict_reverseitemiterator", "odict_iterator", "itertools.zip_longest", "itertools.pairwise"].contains n=Ww) (hQ:Q () s):YB M A (letOwnedTupleGo tg (.ref it) u) Q E s:=by
 unfold letOwnedTupleGo;cases tg<;>first
   | exact Yc hQ
   | (cases u<;>first
       | exact Yc hQ
       | (refine Ya (wpAny_load ho ?_)
          rw [hc,hd];show YB M A (if (["enumerate", "zip", "dict_itemiterator", "dict_reverseitemiterator", "odict_iterator", "itertools.zip_longest", "itertools.pairwise"].contains n&&vs[0]?==Ws (rawInt _))=Wv then _ else _) Q E s;rw [if_neg (by intro h;rw [hn,Bool.false_and] at h;cases h)];exact Yc hQ))
noncomputable def Itl(K:Yk)(a:Yi):It:=⟨λi H=>∃xs x,SqL K H a xs/\xs[i]? = Ws x,λi H x H'=>H'=H/\∀xs,SqL K H a xs->xs[i]? = Ws x,λi H=>∃xs,SqL K H a xs/\xs.length<=i⟩
noncomputable def Itt(K:Yk)(a:Yi):It:=⟨λi H=>∃xs x,SqT K H a xs/\xs[i]? = Ws x,λi H x H'=>H'=H/\∀xs,SqT K H a xs->xs[i]? = Ws x,λi H=>∃xs,SqT K H a xs/\xs.length<=i⟩
noncomputable def Itr(lo:Int)(n:Nat):It:=⟨λi _=>i<n,λi H x H'=>H'=H/\x=.int (lo+i),λi _=>n<=i⟩
def ZmP{P:Yh}{w:Yg}{K:Yk}{tg:Expr}(a it:Yi):Turn P w K tg (Itl K a) [it] it (λi h=>h.IsListIter it a i) where
 mem:=by simp
 obj:=λi h st b hb=>by
  have e:b=it:=by simpa using hb
  subst e;obtain⟨o,e,c,d⟩:=st;exact⟨o,e,λv z=>by rw[d]at z;cases z⟩
 keep:=λi h h' st k=>st.at λo e=>k it (by simp) o e
 item:=by intro X hP hw hK hc i pins s Z H E I hf st hg;subst hP hw hK;obtain⟨xs,x,hq,hx⟩:=hg;obtain⟨its,rv,p,hz⟩:=I.list hq;obtain⟨u,hu,ru⟩:=rv.get hx;obtain⟨f0,f1,f2,f3,f4,f5⟩:=hf it (by simp);refine wpAny_pyNext_list_item st p.isList (x:=u) (by simpa using hu) λh' st' sb=>?_;have I1:Inv X pins Z H {s with heap:=h'}:=I.turned (t':=s.toks) (λb o hb e=>(sb.2 b hb).trans e) f0 f1 f3 f4 f5;obtain⟨o,e,c,d⟩:=id st';exact⟨u,rfl,Zj8 (s:={s with heap:=h'}) e c d (by decide) ⟨x,H,I1,ru,⟨rfl,λys hy=>by rw[I.list_inj hy hq];exact hx⟩,st',λb hb=>(hf b hb).1⟩⟩
 done:=by intro X hP hw hK hc i pins s Z H E I hf st hg;subst hP hw hK;obtain⟨xs,hq,hx⟩:=hg;obtain⟨its,rv,p,hz⟩:=I.list hq;obtain⟨f0,f1,f2,f3,f4,f5⟩:=hf it (by simp);have hl:=rv.length;exact wpAny_pyNext_list_end (I.ok.hd hc) st p.isList (by simp;lia) λh' eb=>⟨rfl,I.turned (t':=s.toks) (λb o hb e=>eb b o hb e) f0 f1 f3 f4 f5⟩
 self:=λ_ _ _ _ _ st h=>wpAny_pyIter_listiter st h
def ZkJ{P:Yh}{w:Yg}{K:Yk}{tg:Expr}(a it:Yi):Turn P w K tg (Itt K a) [it] it (λi h=>h.IsTupleIter it a i) where
 mem:=by simp
 obj:=λi h st b hb=>by
  have e:b=it:=by simpa using hb
  subst e;obtain⟨o,e,c,d⟩:=st;exact⟨o,e,λv z=>by rw[d]at z;cases z⟩
 keep:=λi h h' st k=>st.at λo e=>k it (by simp) o e
 item:=by intro X hP hw hK hc i pins s Z H E I hf st hg;subst hP hw hK;obtain⟨xs,x,hq,hx⟩:=hg;obtain⟨its,rv,p,hz⟩:=I.tuple hq;obtain⟨u,hu,ru⟩:=rv.get hx;obtain⟨f0,f1,f2,f3,f4,f5⟩:=hf it (by simp);refine wpAny_pyNext_tuple_item st (show s.heap.IsTuple a its.toArray from p) (x:=u) (by simpa using hu) λh' st' sb=>?_;have I1:Inv X pins Z H {s with heap:=h'}:=I.turned (t':=s.toks) (λb o hb e=>(sb.2 b hb).trans e) f0 f1 f3 f4 f5;obtain⟨o,e,c,d⟩:=id st';exact⟨u,rfl,Zj8 (s:={s with heap:=h'}) e c d (by decide) ⟨x,H,I1,ru,⟨rfl,λys hy=>by rw[I.tuple_inj hy hq];exact hx⟩,st',λb hb=>(hf b hb).1⟩⟩
 done:=by intro X hP hw hK hc i pins s Z H E I hf st hg;subst hP hw hK;obtain⟨xs,hq,hx⟩:=hg;obtain⟨its,rv,p,hz⟩:=I.tuple hq;obtain⟨f0,f1,f2,f3,f4,f5⟩:=hf it (by simp);have hl:=rv.length;exact wpAny_pyNext_tuple_end (I.ok.hd hc) st (show s.heap.IsTuple a its.toArray from p) (by simp;lia) λh' eb=>⟨rfl,I.turned (t':=s.toks) (λb o hb e=>eb b o hb e) f0 f1 f3 f4 f5⟩
 self:=λ_ _ _ _ _ st h=>wpAny_pyIter_tupleiter st h
theorem ZkK{P:Yh}{w:Yg}{K:Yk}{tg:Expr}(it:Yi)(lo:Int)(n:Nat):Turn P w K tg (Itr lo n) [it] it (fun i h=>IsRangeIter h it (lo+(i:Nat) * 1) ((n:Int) - (i:Nat)) 1) where
 mem:=by simp
 obj:=fun i h st b hb=>by
   have e:b=it:=by simpa using hb
   subst e;exact ⟨_,st,fun v z=>by
     have z':Data.fields _=Data.cell v:=z;cases z'⟩
 keep:=fun i h h' st k=>k it (by simp) _ st
 item:=by
   intro X hP hw hK hc i pins s Z H E I hf st hg;subst hP hw hK;obtain ⟨f0,f1,f2,f3,f4,f5⟩:=hf it (by simp);have W:=Walks.range (prog:=X.prog) (w:=X.w) (I.ok.hd hc) it lo 1 n;refine W.item i s _ _ hg st fun v h' tk hv st' kk=>?_;obtain ⟨t,rfl⟩:=hv;have I1:Inv X pins Z H {s with heap:=h',toks:=tk}:=I.turned (fun b o hb e=>kk b o (by simpa using hb) e) f0 f1 f3 f4 f5;refine ⟨_,rfl,Zj8 (s:={s with heap:=h',toks:=tk}) (n := "range_iterator") st' rfl rfl (by decide) ⟨.int (lo+i),H,I1,⟨t,?_⟩,⟨rfl,rfl⟩,st',fun b hb=>(hf b hb).1⟩⟩;rw [Int.mul_one]
 done:=by
   intro X hP hw hK hc i pins s Z H E I hf st hg;subst hP hw hK;obtain ⟨f0,f1,f2,f3,f4,f5⟩:=hf it (by simp);exact wpAny_pyNext_range_end (I.ok.hd hc) st (by have:n<=i:=hg;lia) fun h' eb=>⟨rfl,I.turned (t':=s.toks) (fun b o hb e=>eb b o hb e) f0 f1 f3 f4 f5⟩
 self:=fun _ _ _ _ _ st h=>wpAny_pyIter_rangeiter st h
section
variable {X:Cx}{tg:Expr}
def Zoq{pins:List (Yi×Obj)}{Z:St}{H:Hp}{s:Yb}{R:It->Hp->Prop}{E:Yj->Yb->Prop}{lo hi:Int}{t u v:Tok}{tk:Nat}(I:Inv X pins Z H s)(h1:-(2 ^ 62)<=lo)(h2:lo<2 ^ 62)(h3:-(2 ^ 62)<=hi)(h4:hi<2 ^ 62)
 (q:R (Itr lo (hi - lo).toNat) H):YB (model X.prog X.w) X.A (pyIter (.ref s.heap.objs.size)) (PIE X pins Z tg R) E {s with heap:=s.heap.push {cls:=.type "range",data:=.fields #[.int lo t,.int hi u,.int 1 v]},toks:=tk}:=by
 refine wpAny_pyIter_range (IsRange.new ..) (small_one h1 h2 h3 h4) ?_;have I1:Inv X pins Z H {s with heap:=s.heap.push {cls:=.type "range",data:=.fields #[.int lo t,.int hi u,.int 1 v]},toks:=tk}:=I.kept λb o e=>Od _ e;refine⟨(s.heap.push {cls:=.type "range",data:=.fields #[.int lo t,.int hi u,.int 1 v]}).objs.size,[(s.heap.push {cls:=.type "range",data:=.fields #[.int lo t,.int hi u,.int 1 v]}).objs.size],_,_,H,rfl,
  I1.kept (t':=tk) λb o e=>Od _ e,ZkK _ lo (hi - lo).toNat,?_,λb hb=>?_,q⟩
 . have e1:lo+((0:Nat):Int) * 1=lo:=by simp
   have e2:(((hi - lo).toNat:Nat):Int) - ((0:Nat):Int)=Builtin.Range.rangeSize lo hi 1:=by rw[rangeSize_one];split<;>lia
   show IsRangeIter _ _ (lo+((0:Nat):Int) * 1) ((((hi - lo).toNat:Nat):Int) - ((0:Nat):Int)) 1;rw[e1,e2];exact Oj _ rfl
 . have e:b=(s.heap.push {cls:=.type "range",data:=.fields #[.int lo t,.int hi u,.int 1 v]}).objs.size:=by simpa using hb
   subst e;exact I1.fpOk (Oq _) (I1.hok.fresh (Oq _))
noncomputable def Zv9(ta:TA):TI:=λZ H R=>ta Z H λvs H1=>∃j:Int,vs=[.int j]/\-(2 ^ 62)<=j/\j<2 ^ 62/\R (Itr 0 j.toNat) H1
def Znf{a:Expr}{ta:TA}{p pos:Pos}(hg:Gl X "range")(hm:X.mg "range" = Wu)(ha:PA X [a] ta)(hs:YA [a] X.env=[(Ww,eval a X.env)]:=by rfl):PI X tg (.Call (.Name "range" p) [a] [] pos) (Zv9 ta):=by
 intro pins s Z H R I h;refine Call_ (Zda I hg hm boot_range (PyProof.Rows.callWith_type1 (thn (ha pos pins s Z H _ I h) λus s1 ⟨vs,H1,I1,r1,q1⟩=>?_) hs rfl));obtain⟨j,e,q1,q2,q⟩:=q1;subst e;cases r1 with
 |cons r rr=>cases rr;obtain⟨t,rfl⟩:=r;exact call_range_1 (Zoq I1 (by lia) (by lia) q1 q2 (by simpa using q))
noncomputable def Zw3(wi:TI)(g:TG)(tb:TS):TS:=λD Z H=>wi Z H λJ H1=>∃W:Nat->Nat->St->Hp->Prop,(∃m,W 0 m Z H1)/\∀i m Z H,W i m Z H ->
 (J.stop i H/\D.nx Z H)\/(J.go i H/\∃N:St->Hp->Prop,(∀σ' H',N σ' H'->∃m',m'<m/\W (i+1) m' σ' H')/\∀x H',J.yld i H x H'->g x Z H' λσ2 H2=>tb {D with nx:=N,ct:=N,bk:=D.nx} σ2 H2)
noncomputable def Zg1(fp:List Yi)(h:YG):List (Yi×Obj):=fp.filterMap λb=>(h.get? b).map λo=>(b,o)
def Zc8(hb:b∈fp)(e:h.get? b=Ws o):(b,o)∈Zg1 fp h:=List.mem_filterMap.mpr ⟨b,hb,by rw[e];rfl⟩
def Znp(hp:p∈Zg1 fp h):p.1∈fp/\h.get? p.1=Ws p.2:=by
 obtain⟨b,hb,e⟩:=List.mem_filterMap.mp hp;cases q:h.get? b with
 |none=>rw[q]at e;cases e
 |some o=>rw[q]at e;have e':(b,o)=p:=YF e;subst e';exact⟨hb,q⟩
def Inv.pinned(I:Inv X pins Z H s)(hf:∀b∈fp,Zb5 X pins H b)(ho:∀b∈fp,∃o,s.heap.get? b=Ws o/\∀v,o.data≠.cell v):Inv X (pins++Zg1 fp s.heap) Z H s:=
 I.pins_of λp hp=>(OD.mp hp).elim (λz=>I.pin p (Ov _ z)) λz=>by obtain⟨hb,e⟩:=Znp z;obtain⟨f0,f1,f2,_⟩:=hf p.1 hb;obtain⟨o,e',d⟩:=ho p.1 hb;rw[e]at e';cases e';exact⟨e,f0,f1,f2,d⟩
def Inv.unpinned(I:Inv X (pins++pl) Z H s):Inv X pins Z H s:=I.pins_of λp hp=>I.pin p (Ov _ (Yr _ hp))
def Ztm(hp:PassesOwn (model X.prog X.w) X.A X.env X.xe)(hc:X.calm=Wv)(hi:PI X tg iter wi)(hg:PG X tg g)(hb:PSs X body tb)
 (hs:∀x,foldedSetIterable iter X.env x=pure x:=by intro _;rfl):PS X (.For tg iter body [] pos) (Zw3 wi g tb):=by
 intro pins s Z H D I h;refine wpAny_For (thn (hi pins s Z H _ I h) λv s1 h1=>thn h1 λitv s2 h2=>?_) hs;obtain⟨it,fp,tn,J,H2,e,I2,T,st2,f2,W,⟨m0,w0⟩,turn⟩:=h2;subst e;have stat:∀{H':Hp},(∀b∈fp,H' b=Wu)->∀b∈fp,Zb5 X pins H' b:=λhn b hb=>⟨hn b hb,(f2 b hb).2⟩
 refine codeAny_forLoop_any (λn s'=>∃i σ' H',Inv X pins σ' H' s'/\tn i s'.heap/\(∀b∈fp,H' b=Wu)/\W i n σ' H') ?_ m0 ⟨0,Z,H2,I2,st2,λb hb=>(f2 b hb).1,w0⟩;rintro n s3 ⟨i,σ3,H3,I3,st3,fr3,w3⟩;rcases turn i n σ3 H3 w3 with ⟨stop,qn⟩|⟨go,N,hN,step⟩
 . refine wpAny_passesOwn hp (thn (T.done X rfl rfl rfl hc i pins s3 σ3 H3 X.xe I3 (stat fr3) st3 stop) λr s4 ⟨hr,I4⟩=>?_);subst hr;exact wpAny_execs_nil ⟨σ3,H3,I4,qn⟩
 . refine wpAny_passesOwn hp (thn (T.item X rfl rfl rfl hc i pins s3 σ3 H3 X.xe I3 (stat fr3) st3 go) λr s4 ⟨u,hr,h4⟩=>?_);subst hr;refine wpAny_passesOwn hp (thn h4 λ_ s5 ⟨x,H5,I5,r5,y5,st5,fr5⟩=>?_);have I5':=I5.pinned (stat fr5) (T.obj _ _ st5);refine wpAny_passesOwn hp (thn (hg _ s5 σ3 H5 x u _ I5' r5 (step x H5 y5)) λ_ s6 ⟨σ6,H6,I6,q6⟩=>?_);refine wpAny_passesOwn hp (thn (hb _ s6 σ6 H6 _ I6 q6) λf s7 q7=>?_);have again:∀{σ7:St}{H7:Hp},Inv X (pins++Zg1 fp s5.heap) σ7 H7 s7->N σ7 H7->∃m,m<n/\∃i σ' H',Inv X pins σ' H' s7/\tn i s7.heap/\(∀b∈fp,H' b=Wu)/\W i m σ' H':=λ{σ7 H7} I7 n7=>by obtain⟨m',hm,w7⟩:=hN σ7 H7 n7;refine⟨m',hm,i+1,σ7,H7,I7.unpinned,T.keep _ _ _ st5 λb hb o e=>(I7.pin (b,o) (Ov _ (Ov _ (Zc8 hb e)))).1,λb hb=>?_,w7⟩;obtain⟨o,e,d⟩:=T.obj _ _ st5 b hb;exact(I7.pin (b,o) (Ov _ (Ov _ (Zc8 hb e)))).2.1
   cases f with
   |next=>obtain⟨σ7,H7,I7,n7⟩:=q7;exact again I7 n7
   |cont=>obtain⟨σ7,H7,I7,n7⟩:=q7;exact again I7 n7
   |brk=>obtain⟨σ7,H7,I7,q7⟩:=q7;exact⟨σ7,H7,I7.unpinned,q7⟩
   |ret v=>obtain⟨x7,σ7,H7,I7,r7,q7⟩:=q7;exact⟨x7,σ7,H7,I7.unpinned,r7,q7⟩
end
abbrev R2:=V->V->Hp->VK->Prop
def OpR(X:Cx)(f:Yj->Yj->Sem Yj)(r:R2):Prop:=
 ∀(pins:List (Yi×Obj)) (s:Yb) (Z:St) (H:Hp) (x y:V) (v u:Yj) (Q:VK),Inv X pins Z H s->RelV x v->RelV y u->r x y H Q ->
  YB (model X.prog X.w) X.A (f v u) (EP X pins Z Q) X.xe s
def UnR(X:Cx)(f:Yj->Sem Yj)(r:V->Hp->VK->Prop):Prop:=
 ∀(pins:List (Yi×Obj)) (s:Yb) (Z:St) (H:Hp) (x:V) (v:Yj) (Q:VK),Inv X pins Z H s->RelV x v->r x H Q ->
  YB (model X.prog X.w) X.A (f v) (EP X pins Z Q) X.xe s
def Zc3(X:Cx)(f:Yj)(r:List V->Hp->VK->Prop):Prop:=
 ∀(pins:List (Yi×Obj)) (s:Yb) (Z:St) (H:Hp) (xs:List V) (us:List Yj) (Q:VK),Inv X pins Z H s->Zp xs us->r xs H Q ->
  YB (model X.prog X.w) X.A (call f us) (EP X pins Z Q) X.xe s
def ZxM(X:Cx)(r:V->Hp->(Bool->Hp->Prop)->Prop):Prop:=
 ∀(pins:List (Yi×Obj)) (s:Yb) (Z:St) (H:Hp) (x:V) (v:Yj) (Q:Bool->Hp->Prop),Inv X pins Z H s->RelV x v->r x H Q ->
  YB (model X.prog X.w) X.A (truthy v) (TP X pins Z Q) X.xe s
noncomputable def tOp(r:R2)(ta tb:TE):TE:=λZ H Q=>ta Z H λx H1=>tb Z H1 λy H2=>r x y H2 Q
noncomputable def tUn(r:V->Hp->VK->Prop)(ta:TE):TE:=λZ H Q=>ta Z H λx H1=>r x H1 Q
noncomputable def rI(C:Int->Int->Prop)(g:Int->Int->V):R2:=λx y H Q=>∃i j,x=.int i/\y=.int j/\C i j/\Q (g i j) H
noncomputable def rI0(g:Int->Int->V):R2:=λx y H Q=>∃i j,x=.int i/\y=.int j/\Q (g i j) H
def rU(g:Int->V):V->Hp->VK->Prop:=λx H Q=>∃i,x=.int i/\Q (g i) H
section
variable {X:Cx}{a b c:Expr}{ta tb tc:TE}{pos:Pos}
def Zuy(ha:PE X a ta)(hb:PE X b tb){pins:List (Yi×Obj)}{s:Yb}{Z:St}{H:Hp}{R:V->V->Hp->Prop}(I:Inv X pins Z H s)
 (h:ta Z H λx H1=>tb Z H1 λy H2=>R x y H2) {Q:Yj->Yb->Prop}{f:Yj->Yj->Sem Yj}
 (hf:∀v u s2 x y H2,Inv X pins Z H2 s2->RelV x v->RelV y u->R x y H2->YB (model X.prog X.w) X.A (f v u) Q X.xe s2) :
 YB (model X.prog X.w) X.A (eval a X.env) (λv s₁=>YB (model X.prog X.w) X.A (eval b X.env) (λu s₂=>YB (model X.prog X.w) X.A (f v u) Q X.xe s₂) X.xe s₁) X.xe s:=by
 refine thn (ha pins s Z H _ I h) λv s1 ⟨x,H1,I1,r1,q1⟩=>?_;refine thn (hb pins s1 Z H1 _ I1 q1) λu s2 ⟨y,H2,I2,r2,q2⟩=>?_;exact hf v u s2 x y H2 I2 r1 r2 q2
def ZvB{op:Operator}{r:R2}(ho:OpR X (binaryOp op) r)(ha:PE X a ta)(hb:PE X b tb):PE X (.BinOp a op b pos) (tOp r ta tb):=by intro pins s Z H Q I h;exact wpAny_BinOp (Zuy ha hb I h λv u s2 x y H2 I2 rx ry q=>ho pins s2 Z H2 x y v u Q I2 rx ry q)
def Zvz{op:UnaryOp}{r:V->Hp->VK->Prop}(ho:UnR X (unaryOp op) r)(ha:PE X a ta):PE X (.UnaryOp op a pos) (tUn r ta):=by intro pins s Z H Q I h;exact UnaryOp_ (thn (ha pins s Z H _ I h) λv s1 ⟨x,H1,I1,r1,q1⟩=>ho pins s1 Z H1 x v Q I1 r1 q1)
def opI{f:Yj->Yj->Sem Yj}{C:Int->Int->Prop}{g:Int->Int->Int}
 (rule:∀(i j:Int) (t u:Tok) (s:Yb) (Q:Yj->Yb->Prop) (E:Yj->Yb->Prop),C i j->Q (.int (g i j) s.toks) {s with toks:=s.toks+1}->YB (model X.prog X.w) X.A (f (.int i t) (.int j u)) Q E s) :
 OpR X f (rI C λi j=>.int (g i j)):=by
 intro pins s Z H x y v u Q I rx ry h;obtain⟨i,j,rfl,rfl,hc,q⟩:=h;obtain⟨t,rfl⟩:=rx;obtain⟨t',rfl⟩:=ry;exact rule i j t t' s _ _ hc ⟨.int (g i j),H,I.tok _,⟨_,rfl⟩,q⟩
def ZvM{g:Int->Int->Int}
 (rule:∀(i j:Int) (t u:Tok) (s:Yb) (Q:Yj->Yb->Prop) (E:Yj->Yb->Prop),Q (.int (g i j) s.toks) {s with toks:=s.toks+1}->YB (model X.prog X.w) X.A (f (.int i t) (.int j u)) Q E s) :
 OpR X f (rI0 λi j=>.int (g i j)):=by
 intro pins s Z H x y v u Q I rx ry h;obtain⟨i,j,rfl,rfl,q⟩:=h;obtain⟨t,rfl⟩:=rx;obtain⟨t',rfl⟩:=ry;exact rule i j t t' s _ _ ⟨.int (g i j),H,I.tok _,⟨_,rfl⟩,q⟩
def Zrc{g:Int->Int->Bool}
 (rule:∀(i j:Int) (t u:Tok) (s:Yb) (Q:Yj->Yb->Prop) (E:Yj->Yb->Prop),Q (.bool (g i j)) s->YB (model X.prog X.w) X.A (f (.int i t) (.int j u)) Q E s) :
 OpR X f (rI0 λi j=>.bl (g i j)):=by
 intro pins s Z H x y v u Q I rx ry h;obtain⟨i,j,rfl,rfl,q⟩:=h;obtain⟨t,rfl⟩:=rx;obtain⟨t',rfl⟩:=ry;exact rule i j t t' s _ _ ⟨.bl (g i j),H,I,rfl,q⟩
def ZxO(i j:Int):Prop:=0<j/\j<1073741824
def ZxN(i j:Int):Prop:=0<=j/\j<=1000000/\i.natAbs<2 ^ 64
def ZtK:OpR X (binaryOp .Add) (rI0 λi j=>.int (i+j)):=ZvM λ_ _ _ _ _ _ _ q=>add_int q
def ZtE:OpR X (binaryOp .Sub) (rI0 λi j=>.int (i - j)):=ZvM λ_ _ _ _ _ _ _ q=>sub_int q
def Zq2:OpR X (binaryOp .FloorDiv) (rI ZxO λi j=>.int (i / j)):=opI λi j _ _ _ _ _ hc q=>by have h1:(0:Int)<j:=hc.1;have h2:j<1073741824:=hc.2;exact floordiv_int (by lia) (by rw[Int.fdiv_eq_ediv_of_nonneg i (by lia)];exact q) (.inl (PyProof.noPylong_small (by lia)))
def ZtG:OpR X (binaryOp .Mod) (rI (λ_ j=>0<j) λi j=>.int (i % j)):=opI λi j _ _ _ _ _ hc q=>by have h1:(0:Int)<j:=hc;exact mod_int' (by lia) (by rw[Int.fmod_eq_emod_of_nonneg i (by lia)];exact q)
def ZtF:OpR X (binaryOp .Pow) (rI ZxN λi j=>.int (i ^ j.toNat)):=opI λ_ _ _ _ _ _ _ hc q=>pow_int_small hc.1 hc.2.1 hc.2.2 q
def unI{g:Int->Int}
 (rule:∀(i:Int) (t:Tok) (s:Yb) (Q:Yj->Yb->Prop) (E:Yj->Yb->Prop),Q (.int (g i) s.toks) {s with toks:=s.toks+1}->YB (model X.prog X.w) X.A (f (.int i t)) Q E s) :
 UnR X f (rU λi=>.int (g i)):=by
 intro pins s Z H x v Q I rx h;obtain⟨i,rfl,q⟩:=h;obtain⟨t,rfl⟩:=rx;exact rule i t s _ _ ⟨.int (g i),H,I.tok _,⟨_,rfl⟩,q⟩
def ZsK:UnR X (unaryOp .USub) (rU λi=>.int (-i)):=unI λ_ _ _ _ _ q=>neg_int q
def ZpA(I:Inv X pins Z H s)(q:Q (.bl k) H)(e:k=k'):EP X pins Z Q (.bool k') s:=by subst e;exact⟨.bl k,H,I,rfl,q⟩
def ZvG:OpR X (YM .Lt) (rI0 λi j=>.bl (Wx (i<j))):=Zrc λ_ _ _ _ _ _ _ q=>lt_int q
def ZvH:OpR X (YM .LtE) (rI0 λi j=>.bl (Wx (i<=j))):=Zrc λ_ _ _ _ _ _ _ q=>le_int q
def ZvI:OpR X (YM .Gt) (rI0 λi j=>.bl (Wx (j<i))):=Zrc λ_ _ _ _ _ _ _ q=>gt_int q
def ZvJ:OpR X (YM .GtE) (rI0 λi j=>.bl (Wx (j<=i))):=Zrc λ_ _ _ _ _ _ _ q=>ge_int q
def ZtH:OpR X (YM .Is) (λx y H Q=>y=.non/\Q (.bl (Wx (x=.non))) H):=by
 intro pins s Z H x y v u Q I rx ry h;obtain⟨rfl,q⟩:=h;cases ry;refine is_none_gen (ZpA I q ?_);cases x<;>first
  |(cases rx;rfl)
  |(obtain⟨t,rfl⟩:=rx;rfl)
def Zq0:OpR X (YM .IsNot) (λx y H Q=>y=.non/\Q (.bl (!Wx (x=.non))) H):=by
 intro pins s Z H x y v u Q I rx ry h;obtain⟨rfl,q⟩:=h;cases ry;refine isnot_none_gen (ZpA I q ?_);cases x<;>first
  |(cases rx;rfl)
  |(obtain⟨t,rfl⟩:=rx;rfl)
def ZqV{op:CmpOp}{r:R2}(ho:OpR X (YM op) r)(ha:PE X a ta)(hb:PE X b tb)(hm:behindInMarks op b=Ww):PE X (.Compare a [op] [b] pos) (tOp r ta tb):=by intro pins s Z H Q I h;exact wpAny_Compare1 (Zuy ha hb I h λv u s2 x y H2 I2 rx ry q=>ho pins s2 Z H2 x y v u Q I2 rx ry q) hm
noncomputable def Zse(t:TE):TT:=λZ H Q=>t Z H λx H'=>∃k,x=.bl k/\Q k H'
def ZqD{op:CmpOp}{r:R2}(ho:OpR X (YM op) r)(ha:PE X a ta)(hb:PE X b tb)(hm:behindInMarks op b=Ww):PT X (.Compare a [op] [b] pos) (Zse (tOp r ta tb)):=by
 intro pins s Z H Q I h;refine wpAny_isTrue_Compare1 (thn (ha pins s Z H _ I h) λv s1 ⟨x,H1,I1,r1,q1⟩=>thn (hb pins s1 Z H1 _ I1 q1) λu s2 ⟨y,H2,I2,r2,q2⟩=>thn (ho pins s2 Z H2 x y v u _ I2 r1 r2 q2) λc s3 ⟨z,H3,I3,r3,k,e,q3⟩=>?_) hm
 subst e;cases r3;exact wpAny_truthy_bool ⟨H3,I3,q3⟩
noncomputable def Zoe(r r':R2)(ta tb tc:TE):TE:=λZ H Q=>ta Z H λx H1=>tb Z H1 λy H2=>r x y H2 λz H3=>∃k,z=.bl k /\
 (if k=Wv then tc Z H3 λw' H4=>r' y w' H4 Q else Q (.bl Ww) H3)
def ZoY(ho:OpR X (YM op) r)(ho':OpR X (YM op') r')(ha:PE X a ta)(hb:PE X b tb)(hc:PE X c tc)
 (hm:lastMarks [op,op'] [b,c]=Ww:=by with_unfolding_all rfl):PE X (.Compare a [op,op'] [b,c] pos) (Zoe r r' ta tb tc):=by
 intro pins s Z H Q I h;refine Compare_chain (thn (ha pins s Z H _ I h) λv s1 ⟨x,H1,I1,r1,q1⟩=>chain_link (thn (hb pins s1 Z H1 _ I1 q1) λu s2 ⟨y,H2,I2,r2,q2⟩=>thn (ho pins s2 Z H2 x y v u _ I2 r1 r2 q2) λd s3 ⟨z,H3,I3,r3,k,e,q3⟩=>?_)) hm
 subst e;cases r3;refine wpAny_truthy_bool ?_;cases k with
 |false=>exact ite_ff ⟨.bl Ww,H3,I3,rfl,q3⟩
 |true=>exact ite_tt (chain_last (thn (hc pins s3 Z H3 _ I3 q3) λw' s4 ⟨z',H4,I4,r4,q4⟩=>ho' pins s4 Z H4 y z' u w' Q I4 r2 r4 q4))
def ZoI(ho:OpR X (YM op) r)(ho':OpR X (YM op') r')(ha:PE X a ta)(hb:PE X b tb)(hc:PE X c tc)
 (hm:lastMarks [op,op'] [b,c]=Ww:=by with_unfolding_all rfl):PT X (.Compare a [op,op'] [b,c] pos) (Zse (Zoe r r' ta tb tc)):=by
 intro pins s Z H Q I h;refine isTrue_chain (thn (ha pins s Z H _ I h) λv s1 ⟨x,H1,I1,r1,q1⟩=>test_link (thn (hb pins s1 Z H1 _ I1 q1) λu s2 ⟨y,H2,I2,r2,q2⟩=>thn (ho pins s2 Z H2 x y v u _ I2 r1 r2 q2) λd s3 ⟨z,H3,I3,r3,k,e,q3⟩=>?_)) hm
 subst e;cases r3;refine wpAny_truthy_bool ?_;cases k with
 |false=>obtain⟨k',e',q'⟩:=q3;cases e';exact ite_ff ⟨H3,I3,q'⟩
 |true=>refine ite_tt (test_last (thn (hc pins s3 Z H3 _ I3 q3) λw' s4 ⟨z',H4,I4,r4,q4⟩=>thn (ho' pins s4 Z H4 y z' u w' _ I4 r2 r4 q4) λd' s5 ⟨z2,H5,I5,r5,k2,e2,q5⟩=>?_));subst e2;cases r5;exact wpAny_truthy_bool ⟨H5,I5,q5⟩
def ZuC(K:Yk)(x:V)(H:Hp)(k:Bool):Prop:=
 match x with
 |.non=>k=Ww
 |.bl b=>k=b
 |.int i=>k=(i != 0)
 |.str y=>y.length<=sizeLine/\k=((y.length:Int) != 0)
 |.byt y=>y.size<=sizeLine/\k=((y.size:Int) != 0)
 |.ref p=>(∃xs,SqL K H p xs/\k=!xs.isEmpty)\/(∃xs,SqT K H p xs/\k=!xs.isEmpty)\/∃kvs,H p=Ws (.dK kvs)/\k=!kvs.isEmpty
 |_=>False
def Zll(r:KV kvs vs):(!vs.isEmpty)=!kvs.isEmpty:=by cases r<;>rfl
def Zha(r:Zp xs its):(!its.toArray.isEmpty)=!xs.isEmpty:=by cases r<;>simp
def Zb8:(sizeLine:Nat)<2 ^ 63:=by rw[YC];decide
def ZsQ:ZxM X (λx H Q=>∃k,ZuC X.K x H k/\Q k H):=by
 intro pins s Z H x v Q I rx h;obtain⟨k,e,q⟩:=h;have hl:=Zb8;have hs:sizeLine=16777216:=YC;cases x with
 |non=>cases rx;have e':k=Ww:=e;subst e';exact truthy_none ⟨H,I,q⟩
 |bl b=>cases rx;have e':k=b:=e;subst e';exact wpAny_truthy_bool ⟨H,I,q⟩
 |int i=>obtain⟨t,rfl⟩:=rx;have e':k=(i != 0):=e;subst e';exact PySem.P.truthy_int ⟨H,I,q⟩
 |str y=>obtain⟨t,rfl⟩:=rx;obtain⟨hy,e'⟩:y.length<=sizeLine/\k=((y.length:Int) != 0):=e;subst e';exact PySem.P.truthy_str (by lia) ⟨H,I.tok _,q⟩
 |byt y=>obtain⟨t,rfl⟩:=rx;obtain⟨hy,e'⟩:y.size<=sizeLine/\k=((y.size:Int) != 0):=e;subst e';exact PySem.W.truthy_bytes (by lia) ⟨H,I.tok _,q⟩
 |ref p=>
  cases rx;have e':(∃xs,SqL X.K H p xs/\k=!xs.isEmpty)\/(∃xs,SqT X.K H p xs/\k=!xs.isEmpty)\/∃kvs,H p=Ws (.dK kvs)/\k=!kvs.isEmpty:=e;rcases e' with ⟨xs,hx,e'⟩|⟨xs,hx,e'⟩|⟨kvs,hx,e'⟩
  . subst e';obtain⟨its,r,pl,hz⟩:=I.list hx;have hlen:=r.length;exact wpAny_truthy_list pl.isList (by simp only[Of];lia) ⟨H,I.tok _,by rw[Zha r];exact q⟩
  . subst e';obtain⟨its,r,pl,hz⟩:=I.tuple hx;have hlen:=r.length;exact truthy_tuple pl (by simp only[Of];lia) ⟨H,I.tok _,by rw[Zha r];exact q⟩
  . subst e';obtain⟨hz,hS,vs,r,m⟩:kvs.length<=sizeLine/\(p==Ye)=Ww/\∃vs,KV kvs vs/\s.heap.DictOf (ZX X.prog X.w) p vs:=I.hok p _ hx;have hlen:kvs.length=vs.length:=Paired.length r;exact wpAny_truthy_dict hS m (by lia) ⟨H,I.tok _,by rw[Zll r];exact q⟩
 |_=>exact(show False from e).elim
def ZoH(ha:PE X a ta)(he:∀whole,isTrue a X.env whole=(do let v <- whole;standAt a.pos;holding [v] (truthy v))):
 PT X a (λZ H Q=>ta Z H λx H'=>∃k,ZuC X.K x H' k/\Q k H'):=by
 intro pins s Z H Q I h;exact isTrue_plain (thn (ha pins s Z H _ I h) λv s1 ⟨x,H1,I1,r1,q1⟩=>ZsQ pins s1 Z H1 x v Q I1 r1 q1) (he _)
def Zk6:OpR X (binaryOp .Add) (λx y H Q=>∃i j,x=.str i/\y=.str j/\i.length+j.length<=sizeLine/\Q (.str (i++j)) H):=by intro pins s Z H x y v u Q I rx ry h;obtain⟨i,j,rfl,rfl,hz,q⟩:=h;obtain⟨t,rfl⟩:=rx;obtain⟨t',rfl⟩:=ry;exact add_str (λt' tk=>⟨.str (i++j),H,I.tok _,⟨_,rfl⟩,q⟩) hz
def vals1{x:V}{us:List Yj}(r:Zp [x] us):∃u,us=[u]/\RelV x u:=by
 cases r with
 |cons r1 r2=>cases r2;exact⟨_,rfl,r1⟩
def vals2{x y:V}{us:List Yj}(r:Zp [x,y] us):∃u w',us=[u,w']/\RelV x u/\RelV y w':=by
 cases r with
 |cons r1 r2=>
  cases r2 with
  |cons r3 r4=>cases r4;exact⟨_,_,rfl,r1,r3⟩
end
structure ObjM(h:YG)(x dx C:Yi)(mA:Str->Option Yj):Prop where
 obj:h.get? x=Ws (Wh C dx)
 ns:h.Ns1 dx mA
 ne:dx≠x
def Znt{h:YG}(n:h.Ns1 dx mA):∃od,h.get? dx=Ws od/\∀name,PySem.W.lookIn name od=Ws (mA name):=by
 obtain⟨o,es,ep,ho,hd,hk,_,hm⟩:=n;refine⟨o,ho,λname=>?_⟩;have e:=hm name;unfold nsFind findBy at e;rw[<- Array.find?_toList]at e;unfold PySem.W.lookIn;rw[hd];dsimp only;split
 . rename_i y q;rw[q]at e;exact congrArg Ws e
 . rename_i q;rw[q]at e;have a:es.toList.any (·.refKey)=Ww:=by rw[List.any_eq_false];intro y hy;obtain⟨z,t,hkey⟩:=hk y (Array.mem_toList_iff.mp hy);simp[DictEntry.refKey,hkey]
   have a':¬ es.toList.any (·.refKey)=Wv:=by rw[a];exact Ow
   rw[if_neg a'];exact congrArg Ws e
def ObjM.look(I:ObjM h x dx C mA):∃od,PySem.W.InstAt h x (Wh C dx) C (Ws od)/\∀name,PySem.W.lookIn name od=Ws (mA name):=
 let ⟨od,ho,hl⟩:=Znt I.ns
 ⟨od,⟨I.obj,rfl,rfl,ho⟩,hl⟩
section
variable {prog:Yh}{w:Yg}{A:YH}{E:Yj->Yb->Prop}{s:Yb}{K:Yk}{x dx C f:Yi}{mA:Str->Option Yj}{name:Str}{v:Yj}
def ZrA(X:K.In s.heap)(I:ObjM s.heap x dx C mA)(hg:PySem.W.plainGet K C name=Wv)(hh:PySem.W.hasDictIn K C=Wv)
 (ha:YJ K (.ref C) name=Ws Wu) (hv:mA name=Ws v) (hv':PySem.W.handedIn v=Wv) (h:Q v {s with toks:=s.toks+1}) :
 YB (model prog w) A (getAttr (.ref x) name expr) Q E s:=by
 obtain⟨od,J,hl⟩:=I.look;exact PySem.W.get_value X J (PySem.W.plainGet_of hg).1 (PySem.W.findObj_own hh ha rfl (by rw[hl,hv])) hv' h
def Zpu(X:K.In s.heap)(I:ObjM s.heap x dx C mA)(hg:PySem.W.plainGet K C name=Wv)
 (hf:YJ K (.ref C) name=Ws (Ws (.ref f))) (ht:PySem.W.isFn K (.ref f)=Wv) (hv:mA name=Wu) (h:Q (.ref f,[.ref x]) s) :
 YB (model prog w) A (getMethod (.ref x) name pl) Q E s:=by
 obtain⟨od,J,hl⟩:=I.look;exact PySem.W.method_fn X J (PySem.W.plainGet_of hg).1 (PySem.W.plainGet_of hg).2 hf (beq_iff_eq.mp ht) (by show(PySem.W.lookIn name od).map (·.isSome)=Ws Ww;rw[hl,hv];rfl) h
def Zqp(X:K.In s.heap)(I:ObjM s.heap x dx C mA)
 (hs:YJ K (.ref C) "__setattr__" = Ws (Ws (.builtin "object.__setattr__"))) (hp:PySem.W.plainOver K C=Wv) (ht:PySem.W.takerIn K C name=Ws Wu) (hh:PySem.W.hasDictIn K C=Wv)
 (hw:PySem.Within mA ns) (hsz:ns.length<=sizeLine)
 (h:∀h',ObjM h' x dx C (λy=>if y=name then Ws v else mA y)->Heap.SameBut dx s.heap h'->Q () {s with heap:=h',toks:=s.toks+2}) :
 YB (model prog w) A (setAttr (.ref x) name v) Q E s:=by
 obtain⟨od,J,hl⟩:=I.look;refine PySem.W.set_plain X J hs (PySem.W.osa_open (s:={s with toks:=s.toks+1}) (r:=Wu) X J hp ht λb=>?_);obtain⟨cd,hc,hd'⟩:=PySem.W.any_some hh;have hx:s.heap.get? x=Ws ⟨.ref C,Ws dx,.plain,#[]⟩:=I.obj;refine Ya (Yc (Ya (Ya (wpAny_loadPart hx (Ya (PySem.W.Looks.here (s:={s with toks:=s.toks+1}) (PySem.W.looks_clsIn X hc) ?_))))));rw[hd'];refine Yc (a:=Ws dx) (Ya (Yc (Ya ?_)));refine wpAny_nsSet1 (s:={s with toks:=s.toks+1}) I.ns λh' hn2 hs2=>?_;obtain⟨oD,esD,epD,hoD,hdD,hcD⟩:=hn2.count (PySem.Within.cons name v hw);refine Ya (wpAny_lookBehind hoD (by rw[hdD];exact pastItsLine_dict (OE hcD (by rw[Os];lia))) ?_);exact Yc (h _ ⟨(hs2.2 _ (YL I.ne)).trans I.obj,hn2,I.ne⟩ hs2)
def Zpe(X:K.In s.heap)(hm:PySem.W.makesIn K C=Wv)
 (hi:YJ K (.ref C) "__init__" = Ws (Ws (.ref f))) (hf:PySem.W.typeIn K (.ref f)=Ws (.type "function"))
 (h:codeAny (model prog w) (A.under (.builtin "type.__call__" ⟨.ref C::vs,kw⟩)) (.call (.ref f) ⟨.ref (s.heap.objs.size+1)::vs,kw⟩) (PySem.W.InitBack (s.heap.objs.size+1) R)
  {s with heap:=(s.heap.push YT).push (Wh C s.heap.objs.size)}) :
 codeAny (model prog w) A (.call (.ref C) ⟨vs,kw⟩) R s:=by
 obtain⟨hh,g,d,t,os⟩:=s;exact PySem.W.make_core (PySem.W.makes_of X hm) (PySem.W.looks_findIn X hi) (λself=>PySem.W.bind_fn X self hf) (.inl rfl) h
end
noncomputable def Zcu(f:Str)(v:V):List (Str×V)->List (Str×V)
 |[]=>[(f,v)]
 |(g,x)::r=>if g=f then(g,v)::r else(g,x)::Zcu f v r
theorem Zge(f g:Str)(v:V):∀fs:List (Str×V),(Zcu f v fs).lookup g=if g=f then Ws v else fs.lookup g
 |[]=>by
  show Wi g [(f,v)]=_;by_cases h:g=f
  . have hb:(g==f)=Wv:=beq_iff_eq.mpr h;simp only[Wi,hb,if_pos h]
  . have hb:(g==f)=Ww:=beq_eq_false_iff_ne.mpr h;simp only[Wi,hb,if_neg h]
 |(k,x)::r=>by
  have ih:=Zge f g v r;rw[show Zcu f v ((k,x)::r)=(if k=f then(k,v)::r else(k,x)::Zcu f v r)from rfl];by_cases hk:k=f
  . rw[if_pos hk];by_cases h:g=k
    . have hb:(g==k)=Wv:=beq_iff_eq.mpr h;simp only[Wi,hb,if_pos (h.trans hk)]
    . have hb:(g==k)=Ww:=beq_eq_false_iff_ne.mpr h;simp only[Wi,hb,if_neg (λe:g=f=>h (e.trans hk.symm))]
  . rw[if_neg hk];by_cases h:g=k
    . have hb:(g==k)=Wv:=beq_iff_eq.mpr h;simp only[Wi,hb,if_neg (λe:g=f=>hk (h.symm.trans e))]
    . have hb:(g==k)=Ww:=beq_eq_false_iff_ne.mpr h;simp only[Wi,hb];exact ih
theorem ZfW(f:Str)(v:V):∀fs:List (Str×V),f∈(Zcu f v fs).map (·.1)/\∀g,g∈fs.map (·.1)->g∈(Zcu f v fs).map (·.1)
 |[]=>⟨by simp[Zcu],λg h=>by simp at h⟩
 |(k,x)::r=>by
  obtain⟨i1,i2⟩:=ZfW f v r;rw[show Zcu f v ((k,x)::r)=(if k=f then(k,v)::r else(k,x)::Zcu f v r)from rfl];by_cases hk:k=f
  . rw[if_pos hk];subst hk;exact⟨by simp,λg h=>by simpa using h⟩
  . rw[if_neg hk];refine⟨?_,λg h=>?_⟩
    . rw[Op];exact Oh _ i1
    . rw[Op]at h ⊢;rcases O3.mp h with e|e
      . exact O3.mpr (.inl e)
      . exact Oh _ (i2 g e)
theorem Zgg(f:Str)(v:V):∀fs:List (Str×V),(Zcu f v fs).length<=fs.length+1
 |[]=>by simp[Zcu]
 |(k,x)::r=>by
  have ih:=Zgg f v r;rw[show Zcu f v ((k,x)::r)=(if k=f then(k,v)::r else(k,x)::Zcu f v r)from rfl];by_cases hk:k=f
  . rw[if_pos hk,Os,Os];lia
  . rw[if_neg hk,Os,Os];lia
def ZfJ.some_of(r:ZfJ (Ws v) o):∃u,o=Ws u/\RelV v u:=by
 cases o with
 |none=>exact(show False from r).elim
 |some u=>exact⟨u,rfl,r⟩
def ZfJ.none_of(r:ZfJ Wu o):o=Wu:=by
 cases o with
 |none=>rfl
 |some u=>exact(show False from r).elim
def ZnB(r:RelV v u):PySem.W.handedIn u=Wv:=by
 cases v with
 |non=>cases (show u=Value.none from r);rfl
 |bl b=>cases (show u=Value.bool b from r);rfl
 |int i=>obtain⟨t,e⟩:=(show ∃t,u=Value.int i t from r);cases e;rfl
 |str x=>obtain⟨t,e⟩:=(show ∃t,u=Value.str x t from r);cases e;rfl
 |byt b=>obtain⟨t,e⟩:=(show ∃t,u=Value.bytes b t from r);cases e;rfl
 |flt b=>obtain⟨t,e⟩:=(show ∃t,u=Value.float b t from r);cases e;rfl
 |ref a=>cases (show u=YD a from r);rfl
 |ty n=>cases (show u=Value.type n from r);rfl
section
variable {P:Yh}{w:Yg}{H H':Hp}{h h':YG}{a C dx:Yi}{fs fs':List (Str×V)}
def ZiY(hok:HOk P w H h)(e:H a=Ws (.ins C dx fs)):∃mA,ObjM h a dx C mA/\(∀f,ZfJ (fs.lookup f) (mA f))/\PySem.Within mA (fs.map (·.1))/\fs.length<=1000/\H dx=Ws (.own a):=by
 obtain⟨d,z,ne,ob,mA,n,r,q⟩:=(show Zar P w H h a (.ins C dx fs)from hok a _ e)
 exact⟨mA,⟨ob,n,ne⟩,r,q,z,d⟩
end
structure Cls(K:Yk)(C:Yi):Prop where
 pg:PySem.W.plainGet K C Str.empty=Wv
 hd:PySem.W.hasDictIn K C=Wv
 po:PySem.W.plainOver K C=Wv
 sa:YJ K (.ref C) "__setattr__" = Ws (Ws (.builtin "object.__setattr__"))
def Cls.get{K:Yk}(c:Cls K C)(f:Str):PySem.W.plainGet K C f=Wv:=c.pg
def Zbv(K:Yk)(C:Yi)(f:Str):Prop:=YJ K (.ref C) f=Ws Wu
def Zbv.taker{K:Yk}(n:Zbv K C f):PySem.W.takerIn K C f=Ws Wu:=by unfold PySem.W.takerIn;rw[show YJ K (.ref C) f=Ws Wu from n];rfl
structure Meth(K:Yk)(C:Yi)(m:Str)(f:Yi):Prop where
 at_:YJ K (.ref C) m=Ws (Ws (.ref f))
 fn:PySem.W.isFn K (.ref f)=Wv
 kp:We K (.ref f)=Wv
section
variable {X:Cx}{pins:List (Yi×Obj)}{Z:St}{H:Hp}{s:Yb}{a C dx:Yi}{fs:List (Str×V)}{f:Str}{v:V}{A:YH}{E:Yj->Yb->Prop}
def Zhe(I:Inv X pins Z H s)(e:H a=Ws (.ins C dx fs))(c:Cls X.K C)(n:Zbv X.K C f)(l:fs.lookup f=Ws v)
 (h:∀u s',Inv X pins Z H s'->RelV v u->Q u s'):YB (model X.prog X.w) A (getAttr (.ref a) f b) Q E s:=by
 obtain⟨mA,O_,r,_,_,_⟩:=ZiY I.hok e;obtain⟨u,hu,ru⟩:=ZfJ.some_of (v:=v) (o:=mA f) (by rw[<- l];exact r f);exact ZrA I.kIn O_ (c.get f) c.hd n hu (ZnB ru) (h u _ (I.tok _) ru)
def Zhd(I:Inv X pins Z H s)(e:H a=Ws (.ins C dx fs))(c:Cls X.K C)(k:Meth X.K C m g)(l:fs.lookup m=Wu)
 (h:Q (.ref g,[.ref a]) s):YB (model X.prog X.w) A (getMethod (.ref a) m pl) Q E s:=by
 obtain⟨mA,O_,r,_,_,_⟩:=ZiY I.hok e;have hn:mA m=Wu:=ZfJ.none_of (by rw[<- l];exact r m);exact Zpu I.kIn O_ (c.get m) k.at_ k.fn hn h
def ZgX(I:Inv X pins Z H s)(e:H a=Ws (.ins C dx fs))(c:Cls X.K C)(n:Zbv X.K C f)(hl:fs.length<1000)(ry:RelV y u)
 (h:∀s',Inv X pins Z (upd H a (.ins C dx (Zcu f y fs))) s'->Q () s'):YB (model X.prog X.w) A (setAttr (.ref a) f u) Q E s:=by
 obtain⟨mA,O_,r,wi,_,ho⟩:=ZiY I.hok e;have hz:(fs.map (·.1)).length<=sizeLine:=by rw[Yt,YC];lia
 refine Zqp I.kIn O_ c.sa c.po n.taker c.hd wi hz λh' O' sb=>h _ ?_;have hd:∃o,h'.get? dx=Ws o:=let ⟨o,_,_,e',_⟩:=O'.ns;⟨o,e'⟩;refine I.write (x:=a) (e:=dx) (by rw[e];exact True.intro) (.inr ho) (λb q hb z=>(sb.2 b hb).trans z) hd ?_;refine⟨by rw[Zo O_.ne];exact ho,?_,O_.ne,O'.obj,_,O'.ns,λg=>?_,λg hg=>?_⟩
 . have:=Zgg f y fs;lia
 . show ZfJ ((Zcu f y fs).lookup g) (if g=f then Ws u else mA g);rw[Zge];by_cases q:g=f
   . rw[if_pos q,if_pos q];exact ry
   . rw[if_neg q,if_neg q];exact r g
 . by_cases q:g=f
   . rw[q];exact(ZfW f y fs).1
   . refine(ZfW f y fs).2 g (wi g λz=>hg ?_);show(if g=f then Ws u else mA g)=Wu;rw[if_neg q];exact z
def Inv.made(I:Inv X pins Z H s):Inv X pins Z (upd (upd H s.heap.objs.size (.own (s.heap.objs.size+1))) (s.heap.objs.size+1) (.ins C s.heap.objs.size []))
 {s with heap:=(s.heap.push YT).push (Wh C s.heap.objs.size)}:=by
 have e1:(s.heap.push YT).get? s.heap.objs.size=Ws YT:=Oj s.heap rfl;have e2:((s.heap.push YT).push (Wh C s.heap.objs.size)).get? (s.heap.objs.size+1)=Ws (Wh C s.heap.objs.size):=by
  have:=Oj (s.heap.push YT) (o:=Wh C s.heap.objs.size) rfl
  rwa [Heap.size_push]at this
 have e3:(s.heap.push YT).Ns s.heap.objs.size (λ_=>Wu):=⟨YT,#[],_,e1,rfl,(λe he=>absurd he (by simp)),λ_=>rfl⟩
 have I1:=I.laid (a:=s.heap.objs.size) (o:=.own (s.heap.objs.size+1)) (h':=s.heap.push YT) (t':=s.toks) (λb u q=>Od _ q) (Oq _) ⟨_,e1⟩;refine I1.laid (a:=s.heap.objs.size+1) (o:=.ins C s.heap.objs.size []) (t':=s.toks) (λb u q=>Od _ q) (Nat.le_of_eq (Heap.size_push _ _)) ?_;have ne:s.heap.objs.size≠s.heap.objs.size+1:=Ou (OH _);refine⟨by rw[Zo ne,Zq],Yw _,ne,e2,λ_=>Wu,(Heap.Ns1.of_empty e3).at λo q=>Od _ q,λ_=>True.intro,λy hy=>absurd rfl hy⟩
def Zr3(hb:attributeBase e f env (eval e env)=eval e env)
 (h:YB (model prog w) A (eval e env) (λo s₁=>YB (model prog w) A (getAttr o f Wv) Q E s₁) E s):YB (model prog w) A (eval (.Attribute e f pos) env) Q E s:=
 Attribute_any_ h (by rw[arm_eval_Attribute,hb])
end
noncomputable def Zw4(K:Yk)(ta:TE)(f:Str):TE:=λZ H Q=>ta Z H λx H1=>∃a C dx fs v,x=.ref a/\H1 a=Ws (.ins C dx fs)/\Cls K C/\Zbv K C f/\fs.lookup f=Ws v/\Q v H1
noncomputable def Zxb(K:Yk)(ta tv:TE)(f:Str):TS:=λD Z H=>tv Z H λy H1=>ta Z H1 λx H2=>∃a C dx fs,x=.ref a/\H2 a=Ws (.ins C dx fs)/\Cls K C/\Zbv K C f/\fs.length<1000 /\
 D.nx Z (upd H2 a (.ins C dx (Zcu f y fs)))
def ZwH(X:Cx)(op:Operator)(rd:V->V->Hp->VK->Prop):Prop:=∀(pins:List (Yi×Obj)) (s:Yb) (Z:St) (H:Hp) (x y:V) (u v:Yj) (Q:VK),Inv X pins Z H s->RelV x u->RelV y v->rd x y H Q->YB (model X.prog X.w) X.A (inplaceOp op u v) (EP X pins Z Q) X.xe s
noncomputable def Zqr(K:Yk)(ta tv:TE)(rd:V->V->Hp->VK->Prop)(f:Str):TS:=λD Z H=>ta Z H λx H1=>∃a C dx fs v,x=.ref a/\H1 a=Ws (.ins C dx fs)/\Cls K C/\Zbv K C f/\fs.lookup f=Ws v /\
 tv Z H1 λy H2=>rd v y H2 λz H3=>∃dx' fs',H3 a=Ws (.ins C dx' fs')/\fs'.length<1000/\D.nx Z (upd H3 a (.ins C dx' (Zcu f z fs')))
section
variable {X:Cx}{o e value:Expr}{f:Str}{pos pos' tpos:Pos}{ta tv:TE}
def ZtA(he:PE X e ta)(hb:attributeBase e f X.env (eval e X.env)=eval e X.env):PE X (.Attribute e f pos) (Zw4 X.K ta f):=by intro pins s Z H Q I h;refine Zr3 hb (thn (he pins s Z H _ I h) λu s1 ⟨x,H1,I1,rx,a,C,dx,fs,v,ex,ea,c,n,l,q⟩=>?_);subst ex;obtain rfl:u=YD a:=rx;exact Zhe I1 ea c n l λu' s2 I2 ru=>⟨v,H1,I2,ru,q⟩
def Ztn(ha:PE X o ta)(hv:PE X value tv)(hs:swapsWith value (Ws (.Attribute o f pos')) pos.line X.env=pure Ww):PS X (.Assign [.Attribute o f pos'] value pos) (Zxb X.K ta tv f):=by intro pins s Z H D I h;refine plainObj_wpAny_Assign_Attribute (thn (hv pins s Z H _ I h) λu s1 ⟨y,H1,I1,ry,q⟩=>thn (ha pins s1 Z H1 _ I1 q) λov s2 ⟨x,H2,I2,rx,a,C,dx,fs,ex,ea,c,n,l,q2⟩=>?_) hs;subst ex;obtain rfl:ov=YD a:=rx;exact ZgX I2 ea c n l ry λs3 I3=>⟨Z,_,I3,q2⟩
def Znb(ha:PE X o ta)(hv:PE X value tv)(hop:ZwH X op rd):PS X (.AugAssign (.Attribute o f tpos) op value pos) (Zqr X.K ta tv rd f):=by intro pins s Z H D I h;refine wpAny_AugAssign_AttributeAny (thn (ha pins s Z H _ I h) λov s1 ⟨x,H1,I1,rx,a,C,dx,fs,v,ex,ea,c,n,l,q⟩=>?_);subst ex;obtain rfl:ov=YD a:=rx;refine Zhe I1 ea c n l λu s2 I2 ru=>thn (hv pins s2 Z H1 _ I2 q) λw3 s3 ⟨y,H2,I3,ry,q3⟩=>thn (hop pins s3 Z H2 v y u w3 _ I3 ru ry q3) λw4 s4 ⟨z,H3,I4,rz,dx',fs',ea',l',q4⟩=>?_;exact ZgX I4 ea' c n l' rz λs5 I5=>⟨Z,_,I5,q4⟩
def Zvu:V->V->Hp->VK->Prop:=λx y H Q=>∃i j,x=.int i/\y=.int j/\Q (.int (i+j)) H
def Zue:ZwH X .Add Zvu:=by
 rintro pins s Z H x y u v Q I rx ry ⟨i,j,rfl,rfl,q⟩;obtain⟨t,rfl⟩:=(show ∃t,u=Value.int i t from rx)
 obtain⟨t',rfl⟩:=(show ∃t',v=Value.int j t' from ry)
 exact PyProof.Rows.iadd_int ⟨.int (i+j),H,I.tok _,⟨_,rfl⟩,q⟩
end
structure Room(k:Nat)(A:YH):Prop where
 hd:A.handled=Wu
 dp:A.depth+k+5<recursionLimit
 un:A.units+4 * k+1300<cLine
def Room.mono(r:Room k A)(h:j<=k):Room j A:=⟨r.hd,by have:=r.dp;lia,by have:=r.un;lia⟩
theorem Room.deeper(r:Room (k+1) A)(env:Env):Room k (A.deeper env):=⟨r.hd,by have:=r.dp;show A.depth+1+k+5<_;lia,by have:=r.un;show A.units+3+4 * k+1300<_;lia⟩
def Zlf{A:YH}:(A.under (.builtin "type.__call__" ⟨.ref C::us,kw⟩)).depth=A.depth+1:=by first|rfl|simp[Around.under,Code.weight,Code.isCreation,Code.isGuard,Code.isCaller,Code.frames,Code.isFrame,guardIds]
def Zle{A:YH}:(A.under (.builtin "type.__call__" ⟨.ref C::us,kw⟩)).units=A.units+1:=by first|rfl|simp[Around.under,Code.cUnits,Code.frames,Code.isFrame]
def Room.make(r:Room (k+1) A)(C:Yi)(us:List Yj)(kw:List (Str×Yj)):Room k (A.under (.builtin "type.__call__" ⟨.ref C::us,kw⟩)):=⟨r.hd,by have:=r.dp;rw[Zlf];lia,by have:=r.un;rw[Zle];lia⟩
theorem Room.depth(r:Room k A):A.depth<recursionLimit:=by have:=r.dp;lia
noncomputable def ZsU:TA:=λ_ H Q=>Q [] H
noncomputable def Zu8(ta:TE)(tr:TA):TA:=λZ H Q=>ta Z H λx H1=>tr Z H1 λxs H2=>Q (x::xs) H2
section
variable {X:Cx}{e:Expr}{es:List Expr}{te:TE}{t:TA}{pos:Pos}
def ZeN:PA X [] ZsU:=λ_ _ _ _ H Q I h=>Calls.spliced_nil ⟨[],H,I,.nil,h⟩
def Zc5(ha:PE X e te)(hr:PA X es t)(hs:YA (e::es) X.env=(Ww,eval e X.env)::YA es X.env:=by rfl):PA X (e::es) (Zu8 te t):=by intro pos pins s Z H Q I h;rw[hs];show YB _ _ (spliced ((Ww,eval e X.env)::YS pos (YA es X.env))) _ _ s;refine Calls.spliced_cons (thn (ha pins s Z H _ I h) λu s1 ⟨x,H1,I1,r1,q1⟩=>?_);exact thn (hr pos pins s1 Z H1 _ I1 q1) λus s2 ⟨xs,H2,I2,r2,q2⟩=>⟨x::xs,H2,I2,.cons r1 r2,q2⟩
noncomputable def ZwV(t:TA):TE:=λZ H Q=>t Z H λxs H1=>xs.length<=sizeLine/\∀p,H1 p=Wu->Q (.ref p) (upd H1 p (.tup xs))
noncomputable def Zw1(t:TA):TE:=λZ H Q=>t Z H λxs H1=>xs.length<=sizeLine/\∀p,H1 p=Wu->Q (.ref p) (upd H1 p (.lst xs))
def Ztu{x1}(h:PA X es t):PE X (.Tuple es x1 pos) (ZwV t):=by intro pins s Z H Q I hq;refine wpAny_Tuple_spliced (thn (h pos pins s Z H _ I hq) λus s1 ⟨xs,H1,I1,r,z,q⟩=>⟨by rw[<- r.length];exact z,?_⟩);have hf:H1 s1.heap.objs.size=Wu:=I1.hok.fresh (Oq _);refine⟨.ref s1.heap.objs.size,upd H1 s1.heap.objs.size (.tup xs),I1.laid (t':=s1.toks) (λb u e=>Od _ e) (Oq _) ?_,rfl,q _ hf⟩;exact⟨z,us,r,⟨_,Oj _ rfl,rfl,rfl,_,rfl⟩⟩
def Zty(h:PA X es t):PE X (.List es pos) (Zw1 t):=by intro pins s Z H Q I hq;refine wpAny_List_spliced (thn (h pos pins s Z H _ I hq) λus s1 ⟨xs,H1,I1,r,z,q⟩=>⟨by rw[<- r.length];exact z,?_⟩);have hf:H1 s1.heap.objs.size=Wu:=I1.hok.fresh (Oq _);refine⟨.ref s1.heap.objs.size,upd H1 s1.heap.objs.size (.lst xs),I1.laid (t':=s1.toks) (λb u e=>Od _ e) (Oq _) ?_,rfl,q _ hf⟩;exact⟨z,us,0,r,Oj _ rfl⟩
end
abbrev Sp:=List V->Hp->VK->XK->Prop
abbrev CXT:=List Env->Hp->Yb->XK->Yj->Yb->Prop
structure Env0(P:Yh)(w:Yg)(K:Yk)(mg:Str->Option Yj)(base:YG)(A:YH)(outer:List Env)(s:Yb)(H:Hp):Prop where
 frames:A.frames=Ws outer
 mod:Mod K mg base
 bs:∀b o,base.get? b=Ws o->s.heap.get? b=Ws o/\H b=Wu
 bsz:base.objs.size<=s.heap.objs.size
 funs:s.heap.FunFrames base outer
 frf:∀b∈frs outer,H b=Wu
 hok:HOk P w H s.heap
 bare:AllBare s.gens
def CE(outer:List Env)(P:Yh)(w:Yg)(H:Hp)(s:Yb)(Q:VK)(u:Yj)(s':Yb):Prop:=∃v H',s'.os=s.os/\AllBare s'.gens/\Un (frs outer) [] H H' s.heap s'.heap/\HOk P w H' s'.heap/\RelV v u/\Q v H'
def CR(CX:CXT)(outer:List Env)(P:Yh)(w:Yg)(H:Hp)(s:Yb)(Q:VK)(E:XK)(r:Result)(s':Yb):Prop:=
 match r with
 |.ok (.ret u)=>CE outer P w H s Q u s'
 |.ok _=>False
 |.error e=>CX outer H s E e s'
structure FnOk(P:Yh)(w:Yg)(K:Yk)(mg:Str->Option Yj)(base:YG)(CX:CXT)(k:Nat)(f:Yi)(fd:FuncData)(ps:List Str)(sp:Sp):Prop where
 len:∀vs H Q E,sp vs H Q E->vs.length=ps.length
 run:∀(A:YH) (outer:List Env) (s:Yb) (H:Hp) (args:Args) (us:List Yj) (vs:List V) (Q:VK) (E:XK),Room k A->Env0 P w K mg base A outer s H->BindsTo s fd args (ps.zip us)->Zp vs us->sp vs H Q E ->
  codeAny (model P w) A (.call (.ref f) args) (CR CX outer P w H s Q E) s
def FnOk.imp{P:Yh}{w:Yg}{K:Yk}{mg:Str->Option Yj}{base:YG}{CX:CXT}{k:Nat}{f:Yi}{fd:FuncData}{ps:List Str}{sp sp':Sp}(F:FnOk P w K mg base CX k f fd ps sp)
 (h:∀vs H Q E,sp' vs H Q E->sp vs H Q E):FnOk P w K mg base CX k f fd ps sp':=
 ⟨λvs H Q E q=>F.len vs H Q E (h _ _ _ _ q),λA outer s H args us vs Q E hr he hb hv hs=>F.run A outer s H args us vs Q E hr he hb hv (h _ _ _ _ hs)⟩
def Env0.make{P:Yh}{w:Yg}{K:Yk}{mg:Str->Option Yj}{base:YG}{A:YH}{outer:List Env}{s:Yb}{H:Hp}(e:Env0 P w K mg base A outer s H)(C:Yi)(us:List Yj)(kw:List (Str×Yj)):
 Env0 P w K mg base (A.under (.builtin "type.__call__" ⟨.ref C::us,kw⟩)) outer s H:=⟨by first|exact e.frames|(simpa[Around.under,Code.envs,Code.isFrame,pushEnvs]using e.frames),e.mod,e.bs,e.bsz,e.funs,e.frf,e.hok,e.bare⟩
section
variable {X:Cx}{pins:List (Yi×Obj)}{Z:St}{H:Hp}{s s':Yb}
def Inv.env0(I:Inv X pins Z H s):Env0 X.prog X.w X.K X.mg X.base X.A X.stack s H:=⟨I.ok.frames,I.ok.mod,I.bs,OE I.ok.bsz I.sz,I.stack,I.stkFree,I.hok,I.bare⟩
def Inv.after(I:Inv X pins Z H s)(h:CE X.stack X.prog X.w H s Q u s'):EP X pins Z Q u s':=by obtain⟨v,H',os,bare,un,hok,r,q⟩:=h;obtain⟨hh,g,d,t,os'⟩:=s';obtain rfl:os'=s.os:=os;exact⟨v,H',I.call (h':=hh) (g':=g) (d':=d) (t':=t) (ch:=[]) un hok bare (λb z=>absurd z (by simp)),r,q⟩
end
noncomputable def Zu9(sp:Sp)(dvs:List V)(E:XK)(t:TA):TE:=λZ H Q=>t Z H λvs H1=>sp (vs++dvs) H1 Q E
noncomputable def Zsg(C:Yi)(m:Str)(sp:Sp)(dvs:List V)(E:XK)(ta:TE)(t:TA):TE:=λZ H Q=>ta Z H λx H1=>∃a dx fs,x=.ref a/\H1 a=Ws (.ins C dx fs)/\fs.lookup m=Wu /\
 t Z H1 λvs H2=>sp (x::(vs++dvs)) H2 Q E
noncomputable def Zsh(C:Yi)(sp:Sp)(dvs:List V)(E:XK)(t:TA):TE:=λZ H Q=>t Z H λvs H1=>∀x dx,H1 x=Wu->H1 dx=Wu->dx≠x ->
 sp (.ref x::(vs++dvs)) (upd (upd H1 dx (.own x)) x (.ins C dx [])) (λv H2=>v=.non/\Q (.ref x) H2) E
def Binds(K:Yk)(fd:FuncData)(ps:List Str)(ds:List Yj):Prop:=∀(s:Yb) (us:List Yj),K.In s.heap->(us++ds).length=ps.length->BindsTo s fd ⟨us,[]⟩ (ps.zip (us++ds))
def Binds.all{K:Yk}(h:∀us:List Yj,us.length=ps.length->bindArgs fd ⟨us,[]⟩=pure (ps.zip us)):Binds K fd ps []:=λs us _ hl=>by rw[Ys]at hl ⊢;exact .of_eq (h us hl)
def Zbb(CX:CXT)(X:Cx)(E:XK):Prop:=∀(pins:List (Yi×Obj)) (Z:St) (H:Hp) (s:Yb) (e:Yj) (s':Yb),Inv X pins Z H s->CX X.stack H s E e s'->X.xe e s'
section
variable {X:Cx}{CX:CXT}{k:Nat}{f C:Yi}{fd:FuncData}{ps:List Str}{sp:Sp}{dvs:List V}{ds:List Yj}{E:XK}{x m:Str}{p pos apos:Pos}{e o:Expr}{es:List Expr}{ta:TE}{t:TA}
def ZkT(F:FnOk X.prog X.w X.K X.mg X.base CX k f fd ps sp)(hr:Room k X.A)(hb:Binds X.K fd ps ds)(hd:Zp dvs ds)(hx:Zbb CX X E)
 (I:Inv X pins Z H s) (r:Zp vs us) (h:sp (vs++dvs) H Q E):YB (model X.prog X.w) X.A (call (.ref f) us) (EP X pins Z Q) X.xe s:=by
 have r2:Zp (vs++dvs) (us++ds):=r.append hd;have hl:(us++ds).length=ps.length:=by rw[<- r2.length];exact F.len _ _ _ _ h
 refine wpAny_call (codeAny_mono (F.run X.A X.stack s H ⟨us,[]⟩ (us++ds) (vs++dvs) Q E hr I.env0 (hb s us I.kIn hl) r2 h) λr s' hq=>?_);cases r with
 |error e=>exact hx pins Z H s e s' I hq
 |ok fl=>
  cases fl with
  |ret u=>exact I.after hq
  |next=>exact False.elim hq
  |brk=>exact False.elim hq
  |cont=>exact False.elim hq
def ZqW(F:FnOk X.prog X.w X.K X.mg X.base CX k f fd ps sp)(hr:Room k X.A)(hg:Gl X x)(hm:X.mg x=Ws (.ref f))(hk:We X.K (.ref f)=Wv)(hb:Binds X.K fd ps ds)(hd:Zp dvs ds)(hx:Zbb CX X E)
 (ha:PA X (e::es) t) (hdb:(x==("__debug__" : Str))=Ww:=by decide) (he:YA (e::es) X.env=(Ww,eval e X.env)::YA es X.env:=by rfl) (hpl:(YS pos (YA es X.env)).any (·.1)=Ww:=by rfl) :
 PE X (.Call (.Name x p) (e::es) [] pos) (Zu9 sp dvs E t):=by
 intro pins s Z H Q I h;refine YX (Zc9 I hg hm ?_ hdb);refine PySem.W.callWith_K (h₀:=X.base) I.ok.mod.kin hk (thn (ha pos pins s Z H _ I h) λus s1 ⟨vs,H1,I1,r,q⟩=>⟨I1.kIn,?_⟩) he hpl;exact ZkT F hr hb hd hx I1 r q
def ZqP(he:PE X o ta)(c:Cls X.K C)(hm:Meth X.K C m f)(F:FnOk X.prog X.w X.K X.mg X.base CX k f fd ps sp)(hr:Room k X.A)(hb:Binds X.K fd ps ds)(hd:Zp dvs ds)(hx:Zbb CX X E)(ha:PA X (e::es) t)
 (hst:YA (e::es) X.env=(Ww,eval e X.env)::YA es X.env:=by rfl) (hpl:(YS pos (YA es X.env)).any (·.1)=Ww:=by rfl)
 (ht:eval (.Call (.Attribute o m apos) (e::es) [] pos) X.env=(do
  let ov <- eval o X.env
  standAt apos.atName
  let (f,first) <- holding [ov] (getMethod ov m pl)
  callWith pos f first (YS pos (YA (e::es) X.env)) (backToKw pos (Wa [] X.env))):=by rfl) :
 PE X (.Call (.Attribute o m apos) (e::es) [] pos) (Zsg C m sp dvs E ta t):=by
 intro pins s Z H Q I h;refine PySem.W.methodCall_KW (pl:=pl) (thn (he pins s Z H _ I h) λu s1 ⟨x,H1,I1,rx,a,dx,fs,ex,ea,l,q⟩=>?_) ht;subst ex;obtain rfl:u=YD a:=rx;refine Zhd I1 ea c hm l ?_;refine PySem.W.callWith_K (first:=[.ref a]) (h₀:=X.base) I.ok.mod.kin hm.kp (thn (ha pos pins s1 Z H1 _ I1 q) λus s2 ⟨vs,H2,I2,r,q2⟩=>⟨I2.kIn,?_⟩) hst hpl;exact ZkT (us:=.ref a::us) (vs:=.ref a::vs) F hr hb hd hx I2 (.cons rfl r) q2
def ZoU(he:PE X o ta)(c:Cls X.K C)(hm:Meth X.K C m f)(F:FnOk X.prog X.w X.K X.mg X.base CX k f fd ps sp)(hr:Room k X.A)(hb:Binds X.K fd ps ds)(hd:Zp dvs ds)(hx:Zbb CX X E)
 (ht:eval (.Call (.Attribute o m apos) [] [] pos) X.env=(do
  let ov <- eval o X.env
  standAt apos.atName
  let (f,first) <- holding [ov] (getMethod ov m pl)
  callWith pos f first (YS pos (YA [] X.env)) (backToKw pos (Wa [] X.env))):=by rfl) :
 PE X (.Call (.Attribute o m apos) [] [] pos) (Zsg C m sp dvs E ta ZsU):=by
 intro pins s Z H Q I h;refine PySem.W.methodCall_KW (pl:=pl) (thn (he pins s Z H _ I h) λu s1 ⟨x,H1,I1,rx,a,dx,fs,ex,ea,l,q⟩=>?_) ht;subst ex;obtain rfl:u=YD a:=rx;refine Zhd I1 ea c hm l ?_;exact PySem.W.callWith_K0 (first:=[.ref a]) I1.kIn hm.kp (ZkT (us:=[.ref a]) (vs:=[.ref a]) F hr hb hd hx I1 (.cons rfl .nil) q)
structure Mk(K:Yk)(C f:Yi):Prop where
 makes:PySem.W.makesIn K C=Wv
 init:YJ K (.ref C) "__init__" = Ws (Ws (.ref f))
 fn:PySem.W.isFn K (.ref f)=Wv
 kp:We K (.ref C)=Wv
def Zjz(M:Mk X.K C f)(F:FnOk X.prog X.w X.K X.mg X.base CX k f fd ps sp)(hr:Room (k+1) X.A)(hb:Binds X.K fd ps ds)(hd:Zp dvs ds)
 (hx:Zbb CX X E) (I:Inv X pins Z H s) (r:Zp vs us)
 (h:∀x dx,H x=Wu->H dx=Wu->dx≠x->sp (.ref x::(vs++dvs)) (upd (upd H dx (.own x)) x (.ins C dx [])) (λv H2=>v=.non/\Q (.ref x) H2) E) :
 YB (model X.prog X.w) X.A (call (.ref C) us) (EP X pins Z Q) X.xe s:=by
 have hq:=h (s.heap.objs.size+1) s.heap.objs.size (I.hok.fresh (Nat.le_succ _)) (I.hok.fresh (Oq _)) (Ou (OH _));have I2:=Inv.made (C:=C) I;have r2:Zp (V.ref (s.heap.objs.size+1)::(vs++dvs)) (YD (s.heap.objs.size+1)::(us++ds)):=.cons rfl (r.append hd);have hl:(YD (s.heap.objs.size+1)::us++ds).length=ps.length:=by have e:=r2.length;rw[F.len _ _ _ _ hq]at e;exact e.symm
 refine wpAny_call (Zpe (f:=f) I.kIn M.makes M.init (beq_iff_eq.mp M.fn) (codeAny_mono (F.run _ X.stack _ _ ⟨YD (s.heap.objs.size+1)::us,[]⟩ (YD (s.heap.objs.size+1)::(us++ds)) _ _ E (hr.make C us [])
  (I2.env0.make C us []) (hb _ (YD (s.heap.objs.size+1)::us) I2.kIn hl) r2 hq) λr s' hq'=>?_))
 cases r with
 |error e=>exact hx pins Z _ _ e s' I2 hq'
 |ok fl=>
  cases fl with
  |ret u=>obtain⟨v,H',I3,rv,ev,q3⟩:=I2.after hq';subst ev;exact⟨rv,⟨V.ref (s.heap.objs.size+1),H',I3,rfl,q3⟩⟩
  |next=>exact False.elim hq'
  |brk=>exact False.elim hq'
  |cont=>exact False.elim hq'
def ZqR(M:Mk X.K C f)(F:FnOk X.prog X.w X.K X.mg X.base CX k f fd ps sp)(hr:Room (k+1) X.A)(hg:Gl X x)(hm:X.mg x=Ws (.ref C))(hb:Binds X.K fd ps ds)(hd:Zp dvs ds)(hx:Zbb CX X E)
 (ha:PA X (e::es) t) (hdb:(x==("__debug__" : Str))=Ww:=by decide) (he:YA (e::es) X.env=(Ww,eval e X.env)::YA es X.env:=by rfl) (hpl:(YS pos (YA es X.env)).any (·.1)=Ww:=by rfl) :
 PE X (.Call (.Name x p) (e::es) [] pos) (Zsh C sp dvs E t):=by
 intro pins s Z H Q I h;refine YX (Zc9 I hg hm ?_ hdb);refine PySem.W.callWith_K (h₀:=X.base) I.ok.mod.kin M.kp (thn (ha pos pins s Z H _ I h) λus s1 ⟨vs,H1,I1,r,q⟩=>⟨I1.kIn,?_⟩) he hpl;exact Zjz M F hr hb hd hx I1 r q
def ZoV(M:Mk X.K C f)(F:FnOk X.prog X.w X.K X.mg X.base CX k f fd ps sp)(hr:Room (k+1) X.A)(hg:Gl X x)(hm:X.mg x=Ws (.ref C))(hb:Binds X.K fd ps ds)(hd:Zp dvs ds)(hx:Zbb CX X E)
 (hdb:(x==("__debug__" : Str))=Ww:=by decide):PE X (.Call (.Name x p) [] [] pos) (Zsh C sp dvs E ZsU):=by
 intro pins s Z H Q I h;refine YX (Zc9 I hg hm ?_ hdb);exact PySem.W.callWith_K0 I.kIn M.kp (Zjz (us:=[]) M F hr hb hd hx I .nil h)
end
structure FnScope(N P:List Str)(sc:Scope):Prop where
 kind:sc.kind=.function
 co:sc.isCoroutine=Ww
 gen:sc.isGenerator=Ww
 nd:N.Nodup
 pre:N.take P.length=P
 par:∀x∈P,sc.names.lookup x=Ws .local\/sc.names.lookup x=Ws .cell
 nofree:∀y∈sc.names,y.2≠.free
theorem Zir{kindOf:Str->Option NameKind}:∀{binds:List (Str×Yj)}{m:Str->Option Yj},(∀v,(x,v) ∉ binds)->bindL kindOf binds m x=m x
 |[],_,_=>rfl
 |(n,v)::r,m,h=>by
  unfold bindL;rw[Zir λw hw=>h w (Oh _ hw)];split
  . have:x≠n:=by rintro rfl;exact h v Oi
    simp[this]
  . rfl
theorem Zit{kindOf:Str->Option NameKind}:∀{binds:List (Str×Yj)}{m:Str->Option Yj},(∀v,(x,v) ∉ binds)->bindC kindOf binds m x=m x
 |[],_,_=>rfl
 |(n,v)::r,m,h=>by
  unfold bindC;rw[Zit λw hw=>h w (Oh _ hw)];split
  . rfl
  . have:x≠n:=by rintro rfl;exact h v Oi
    simp[this]
theorem Zis{kindOf:Str->Option NameKind}:∀{P:List Str}{vs:List Yj}{i:Nat}{m:Str->Option Yj},P.Nodup->P[i]? = Ws x->vs[i]? = Ws v->kindOf x=Ws .local ->
 bindL kindOf (P.zip vs) m x=Ws v
 |[],_,_,_,_,h,_,_=>by simp at h
 |_::_,[],_,_,_,_,h,_=>by simp at h
 |p::P,w::vs,0,m,nd,h1,h2,hk=>by simp at h1 h2;subst h1;subst h2;show bindL kindOf ((p,w)::P.zip vs) m p=_;unfold bindL;rw[Zir λv hv=>(List.nodup_cons.mp nd).1 (List.of_mem_zip hv).1,if_pos hk];simp
 |p::P,w::vs,i+1,m,nd,h1,h2,hk=>by show bindL kindOf ((p,w)::P.zip vs) m x=_;unfold bindL;exact Zis (i:=i) (List.nodup_cons.mp nd).2 (by simpa using h1) (by simpa using h2) hk
theorem Ziu{kindOf:Str->Option NameKind}:∀{P:List Str}{vs:List Yj}{i:Nat}{m:Str->Option Yj},P.Nodup->P[i]? = Ws x->vs[i]? = Ws v->kindOf x≠Ws .local ->
 bindC kindOf (P.zip vs) m x=Ws v
 |[],_,_,_,_,h,_,_=>by simp at h
 |_::_,[],_,_,_,_,h,_=>by simp at h
 |p::P,w::vs,0,m,nd,h1,h2,hk=>by simp at h1 h2;subst h1;subst h2;show bindC kindOf ((p,w)::P.zip vs) m p=_;unfold bindC;rw[Zit λv hv=>(List.nodup_cons.mp nd).1 (List.of_mem_zip hv).1,if_neg hk];simp
 |p::P,w::vs,i+1,m,nd,h1,h2,hk=>by show bindC kindOf ((p,w)::P.zip vs) m x=_;unfold bindC;exact Ziu (i:=i) (List.nodup_cons.mp nd).2 (by simpa using h1) (by simpa using h2) hk
noncomputable def start(N:List Str)(vs:List V):St:=vs.map Ws++YK (N.length - vs.length) Wu
noncomputable def Zf4(CX:CXT)(P:Yh)(w:Yg)(K:Yk)(mg:Str->Option Yj)(base:YG)(N:List Str)(qual:Str)(scope:Scope)(f:Yi)(cd:Yj)(A:YH)(outer:List Env)(s:Yb)(H:Hp)(E:XK):Cx where
 prog:=P
 w:=w
 K:=K
 mg:=mg
 base:=base
 A:=A.deeper (envOfC qual scope s.heap.objs.size f cd)
 N:=N
 s₀:=s
 H₀:=H
 env:=envOfC qual scope s.heap.objs.size f cd
 outer:=outer
 stack:=envOfC qual scope s.heap.objs.size f cd::outer
 ex:=[]
 calm:=Wv
 fn:=λ_=>Wv
 pn:=[]
 xe:=λe s'=>YB (model P w) (A.deeper (envOfC qual scope s.heap.objs.size f cd)) (leaving (envOfC qual scope s.heap.objs.size f cd) e) (λ_ s''=>CX outer H s E e s'') (λe' s''=>CX outer H s E e' s'') s'
def Zkr{sc:Scope}(h:sc.names.lookup x=Ws .cell):∃c,(cellsFrom n sc.names []).lookup x=Ws c:=by have q:=PySem.W.cellsFrom_some sc.names n [] (.inl h);exact Option.isSome_iff_exists.mp q
def Znz{CX:CXT}{P:Yh}{w:Yg}{K:Yk}{mg:Str->Option Yj}{base:YG}{N ps:List Str}{qual:Str}{scope:Scope}{f:Yi}{cd:Yj}{A:YH}{outer:List Env}{s s1:Yb}{H:Hp}{E:XK}{us:List Yj}{vs:List V}
 (S_:FnScope N ps scope) (hd:A.handled=Wu) (e0:Env0 P w K mg base A outer s H) (hl:vs.length=ps.length) (r:Zp vs us)
 (x:InCallC s s.heap.objs.size (bindL (envOfC qual scope s.heap.objs.size f cd).kindOf (ps.zip us) λ_=>Wu) (cellsFrom (s.heap.objs.size+1) scope.names []) (bindC (envOfC qual scope s.heap.objs.size f cd).kindOf (ps.zip us) λ_=>Wu) s1) :
 Inv (Zf4 CX P w K mg base N qual scope f cd A outer s H E) [] (start N vs) H s1:=by
 have hpl:ps.length<=N.length:=by have:=congrArg List.length S_.pre;rw[List.length_take]at this;lia
 obtain⟨h1,tk,rfl,hk⟩:=x.done;have noA:∀b:Yi,b ∉ (Zf4 CX P w K mg base N qual scope f cd A outer s H E).ex:=λb z=>absurd (show b∈([]:List Yi)from z) (by simp);refine⟨⟨e0.mod,S_.kind,rfl,rfl,Oq _,λy z c h1 h2=>?_,λy hy=>?_,λy c _ h=>?_,λ_=>hd,Around.frames_deeper e0.frames,.inr ⟨rfl,rfl⟩,λb z=>absurd z (noA b),e0.bs,e0.bsz,λb _ _=>noA b,λb z=>absurd z (noA b),e0.funs,e0.frf⟩,
  rfl,e0.bare,Un.kept hk,⟨_,x.toInCall.ns,λi y v h1 h2 h3=>?_⟩,λy c h=>⟨_,x.cell y c h⟩,e0.hok.fresh (Oq _),λy c h=>?_,λp hp=>absurd (show p∈([]:List (Yi×Obj))from hp) (by simp),e0.hok.kept hk,?_⟩
 . exact name_of_addr x.apart (YI h1) (YI h2)
 . have hy:scope.names.lookup y=Ws .cell\/scope.names.lookup y=Ws .free:=hy;rcases hy with hy|hy
   . exact Zkr hy
   . exact absurd rfl (S_.nofree _ (YI hy))
 . exact Yy (x.above y c (YI h))
 . have hi:i<vs.length:=by
    unfold start at h2;by_cases hi:i<vs.length
    . exact hi
    . rw[Om (by simpa using hi)]at h2;rw[List.getElem?_replicate]at h2;split at h2<;>cases h2
   have ha:vs[i]? = Ws v:=by
    unfold start at h2;rw[Oe (by simpa using hi),O2]at h2;cases e:vs[i]? with
    |none=>rw[e]at h2;cases h2
    |some a=>rw[e]at h2;cases h2;rfl
   obtain⟨u,hu,rv⟩:=r.get ha;have hp:ps[i]? = Ws y:=by rw[<- S_.pre,List.getElem?_take_of_lt (by lia)];exact h1
   have ndP:ps.Nodup:=by rw[<- S_.pre];exact S_.nd.sublist (List.take_sublist _ _)
   refine⟨u,rv,?_⟩;rcases S_.par y (O1 hp)with k|k
   . exact .inl ⟨k,Zis ndP hp hu k⟩
   . obtain⟨c,e⟩:=Zkr (n:=s.heap.objs.size+1) k;refine .inr ⟨.inl k,c,e,?_⟩;have q:=x.cell y c e;rw[Ziu ndP hp hu (by show scope.names.lookup y≠_;rw[k];decide)]at q;exact q
 . exact e0.hok.fresh (Yy (x.above y c (YI h)))
 . unfold start;show _=N.length;rw[OA,Yt,List.length_replicate]
   lia
def Zwg{CX:CXT}{P:Yh}{w:Yg}{K:Yk}{mg:Str->Option Yj}{base:YG}{k:Nat}{f:Yi}{name qual:Str}{params:Arguments}{body:List Stmt}{scope:Scope}{dV kV doc pm cdv ct oc:Yj}{an od:Option Yi}
 {osl:Array (Option Yj)}{N ps:List Str}{sp:Sp} (lk:K.lookup f=Ws ⟨oc,od,.func (PySem.W.fnOf name qual params body scope dV kV doc pm an cdv ct),osl⟩) (hcd:PySem.W.codeIn K cdv qual=Wv) (S_:FnScope N ps scope)
 (len:∀vs H Q E,sp vs H Q E->vs.length=ps.length)
 (hbody:∀(A:YH) (outer:List Env) (s:Yb) (H:Hp) (vs:List V) (Q:VK) (E:XK),Room k (A.deeper (envOfC qual scope s.heap.objs.size f cdv))->sp vs H Q E ->
  ∃t,PSs (Zf4 CX P w K mg base N qual scope f cdv A outer s H E) body t/\t {nx:=λ_ H'=>Q .non H',rt:=Q} (start N vs) H) :
 FnOk P w K mg base CX (k+1) f (PySem.W.fnOf name qual params body scope dV kV doc pm an cdv ct) ps sp:=by
 refine⟨len,λA outer s H args us vs Q E hr e0 hb r hsp=>?_⟩;have hl:=len _ _ _ _ hsp;have KX:K.In s.heap:=e0.mod.kin.keeps λb o e=>(e0.bs b o e).1;have lim:s.heap.NoLimit:=e0.mod.nolimit.keeps λb o e=>(e0.bs b o e).1;have hkind:∀y∈ps.zip us,scope.names.lookup y.1=Ws .local\/(scope.names.lookup y.1=Ws .cell/\((cellsFrom (s.heap.objs.size+1) scope.names []).lookup y.1).isSome=Wv):=λ⟨n,v⟩ hy=>by
  rcases S_.par n (List.of_mem_zip hy).1 with q|q
  . exact .inl q
  . exact .inr ⟨q,PySem.W.cellsFrom_some _ _ _ (.inl q)⟩
 refine codeAny_call_function hr.depth (KX _ _ lk) rfl S_.co S_.gen rfl (PySem.W.codeRec_of KX hcd) (hb _ _ _ _ ?_);refine wpAny_newFunctionEnv_cells S_.kind hkind λenv he s1 x=>?_;subst he;refine⟨lim.keeps x.toInCall.keep,codeAny_func ?_⟩;obtain⟨t,ht,hq⟩:=hbody A outer s H vs Q E (hr.deeper _) hsp;have I:Inv (Zf4 CX P w K mg base N qual scope f cdv A outer s H E) [] (start N vs) H s1:=Znz S_ hr.hd e0 hl r x;refine Yf (ht [] s1 (start N vs) H _ I hq) (λfl s' hs=>?_) λe s' hs=>hs;have fin:∀{σ':St}{H':Hp}{v:V}{u:Yj},Inv (Zf4 CX P w K mg base N qual scope f cdv A outer s H E) [] σ' H' s'->RelV v u->Q v H'->CE outer P w H s Q u s':=λ{σ' H' v u} J rv q=>⟨v,H',J.os,J.bare,J.base,J.hok,rv,q⟩
 cases fl with
 |ret u=>obtain⟨v,σ',H',J,rv,q⟩:=hs;exact fin J rv q
 |next=>obtain⟨σ',H',J,q⟩:=hs;exact fin (v:=V.non) (u:=Value.none) J rfl q
 |brk=>obtain⟨_,_,_,q⟩:=hs;exact False.elim q
 |cont=>obtain⟨_,_,_,q⟩:=hs;exact False.elim q
section
variable {X:Cx}{x:Str}{p pos:Pos}{e:Expr}{es:List Expr}{t:TA}{id T:String}{r:List V->Hp->VK->Prop}
noncomputable def tCB(r:List V->Hp->VK->Prop)(t:TA):TE:=λZ H Q=>t Z H λvs H1=>r vs H1 Q
def Zfa(hc:Zc3 X (.builtin id) r)(hg:Gl X x)(hm:X.mg x=Wu)(hv:bootBuiltins x=Ws (.builtin id))(ha:PA X (e::es) t)(hn:x ≠ "__name__" := by decide)(hdb:(x==("__debug__" : Str))=Ww:=by decide)
 (he:YA (e::es) X.env=(Ww,eval e X.env)::YA es X.env:=by rfl) (hpl:(YS pos (YA es X.env)).any (·.1)=Ww:=by rfl):PE X (.Call (.Name x p) (e::es) [] pos) (tCB r t):=by
 intro pins s Z H Q I h;refine YX (Zda I hg hm hv ?_ hn hdb);exact PyProof.Rows.callWith_builtin1 (thn (ha pos pins s Z H _ I h) λus s1 ⟨vs,H1,I1,r1,q1⟩=>hc pins s1 Z H1 vs us Q I1 r1 q1) he hpl
def Znh(hc:Zc3 X (.type T) r)(hg:Gl X x)(hm:X.mg x=Wu)(hv:bootBuiltins x=Ws (.type T))(ha:PA X (e::es) t)(hn:x ≠ "__name__" := by decide)(hdb:(x==("__debug__" : Str))=Ww:=by decide)
 (he:YA (e::es) X.env=(Ww,eval e X.env)::YA es X.env:=by rfl) (hpl:(YS pos (YA es X.env)).any (·.1)=Ww:=by rfl):PE X (.Call (.Name x p) (e::es) [] pos) (tCB r t):=by
 intro pins s Z H Q I h;refine YX (Zda I hg hm hv ?_ hn hdb);exact PyProof.Rows.callWith_type1 (thn (ha pos pins s Z H _ I h) λus s1 ⟨vs,H1,I1,r1,q1⟩=>hc pins s1 Z H1 vs us Q I1 r1 q1) he hpl
end
end L2
namespace HT
open PySem PyProof.Rows
section
variable {prog:Yh}{w:Yg}{A:YH}{E:Yj->Yb->Prop}{s:Yb}
def ZrT(ht:IsTup s.heap t vs.toArray)(hb:IsTup s.heap b ws.toArray)(hv:vs≠[])
 (h1:ws=[]->Q (.ref t) s) (h2:ws≠[]->Q (.ref s.heap.objs.size) {s with heap:=s.heap.push {cls:=.type "tuple",data:=.seq (vs++ws).toArray}})
 (hsz:vs.length+ws.length<=sizeLine):YB (model prog w) A (binaryOp .Add (.ref t) (.ref b)) Q E s:=by
 obtain⟨⟨cls,dd,data,sl⟩,ho,hc,n,hd⟩:=id ht;obtain⟨⟨cls2,dd2,data2,sl2⟩,ho2,hc2,n2,hd2⟩:=id hb;simp only at hc hd hc2 hd2;subst hc hd hc2 hd2;have e:vs.toArray++ws.toArray=(vs++ws).toArray:=by simp
 by_cases hw:ws=[]
 . exact concat_meets ⟨_,ho,rfl⟩ ⟨_,ho2,rfl⟩ noFill_tuple_add seq_tuple_add PySem.F.slot_tuple_add PySem.F.entry_tuple_add (PySem.F.args_tuple_add_2 _ _)
    (tuple_addW1 t b vs.toArray ws.toArray n n2 dd dd2 sl sl2 (by simpa using hv) (by simp[hw])) ⟨ho,ho2,h1 hw⟩
 . refine concat_meets ⟨_,ho,rfl⟩ ⟨_,ho2,rfl⟩ noFill_tuple_add seq_tuple_add PySem.F.slot_tuple_add PySem.F.entry_tuple_add (PySem.F.args_tuple_add_2 _ _)
    (tuple_addW2 t b vs.toArray ws.toArray n n2 dd dd2 sl sl2 (by simpa using hv) (by simpa using hw) (by rw[Of,Of];exact hsz)) ⟨ho,ho2,?_⟩
   rw[e];exact h2 hw
noncomputable def sIx(n d:Nat):Option Int->Nat
 |none=>d
 |some v=>if v<0 then(v+(n:Int)).toNat else min v.toNat n
def Zs2(n d:Nat)(hd:d<=n)(o:Option Int):sIx n d o<=n:=by
 cases o with
 |none=>exact hd
 |some v=>
  show(if v<0 then(v+(n:Int)).toNat else min v.toNat n)<=n;by_cases hv:v<0
  . rw[if_pos hv];lia
  . rw[if_neg hv];exact Nat.min_le_right _ _
def ZmD(v:Int)(n d:Nat):(if v<0 then max (v+(n:Int)) 0 else min v (n:Int))=((sIx n d (Ws v):Nat):Int):=by
 show(if v<0 then max (v+(n:Int)) 0 else min v (n:Int))=(((if v<0 then(v+(n:Int)).toNat else min v.toNat n):Nat):Int)
 by_cases hv:v<0
 . simp only[if_pos hv];lia
 . simp only[if_neg hv];lia
def ZlC(lo hi:Option Int)(n:Nat):Builtin.Slice.sliceAdjust lo hi 1 (n:Int)=(((sIx n 0 lo:Nat):Int),((sIx n n hi:Nat):Int)):=by
 have h1:¬ ((1:Int)<0):=by lia
 unfold Builtin.Slice.sliceAdjust;simp only[h1,if_false];refine Prod.ext ?_ ?_
 . cases lo with
   |none=>rfl
   |some v=>exact ZmD v n 0
 . cases hi with
   |none=>rfl
   |some v=>exact ZmD v n n
def Zk5(i j:Nat):Builtin.Slice.slicePlaces (i:Int) (j:Int) 1=j - i:=by
 unfold Builtin.Slice.slicePlaces;have h1:(1:Int) > 0:=by lia
 simp only[h1,if_true,Int.ediv_one];split<;>lia
def ZgV(p:IsPart v o)(h:Q o s):YB (model prog w) A (Builtin.Slice.slicePartIndex v) Q E s:=by
 cases p with
 |none=>exact slicePart_none h
 |int i t=>exact slicePart_int h
def ZcS{sl:Yi}{vl vu:Yj}{lo hi:Option Int}{n:Nat}{Q:Int×Int×Nat->Yb->Prop}(hs:s.heap.IsSliceOf sl vl vu .none)(pl:IsPart vl lo)(pu:IsPart vu hi)
 (h:Q (((sIx n 0 lo:Nat):Int),1,sIx n n hi - sIx n 0 lo) s):YB (model prog w) A (Builtin.Slice.sliceApplied (.ref sl) (pure (n:Int))) Q E s:=by
 obtain⟨os,hos,hcs,hds⟩:=id hs;unfold Builtin.Slice.sliceApplied Builtin.Slice.sliceFields;refine Ya (Ya (YR hos hds (x:=vl) rfl (Ya (YR hos hds (x:=vu) rfl (Ya (YR hos hds (x:=.none) rfl (Yc ?_)))))));refine Ya (slicePart_none ?_);show YB _ _ (if ((1:Int)==0)=Wv then _ else _) _ _ s;rw[if_neg (by decide)];refine Ya (ZgV pl (Ya (ZgV pu (Ya (Yc ?_)))));show YB _ _ (match Builtin.Slice.sliceAdjust lo hi 1 (n:Int)with|(lo,hi)=>pure (lo,(1:Int),Builtin.Slice.slicePlaces lo hi 1)) _ _ s;rw[ZlC lo hi n];show YB _ _ (pure (((sIx n 0 lo:Nat):Int),(1:Int),Builtin.Slice.slicePlaces ((sIx n 0 lo:Nat):Int) ((sIx n n hi:Nat):Int) 1)) _ _ s;rw[Zk5];exact Yc h
def ZoP(xs:Array Yj)(i k:Nat):((List.range k).filterMap λ(m:Nat)=>xs[((i:Int)+(m:Int) * 1).toNat]?).toArray=((xs.toList.drop i).take k).toArray:=by
 have e:(λ(m:Nat)=>xs[((i:Int)+(m:Int) * 1).toNat]?)=λm=>xs[i+m]? := by
  funext m;have:((i:Int)+(m:Int) * 1).toNat=i+m:=by lia
  rw[this]
 rw[e];have:=pick_run xs i k;rw[List.filterMap_map]at this;have e2:((λx=>xs[x]?) ∘ λx=>i+x)=λm=>xs[i+m]? := rfl;rw[e2]at this;rw[this]
def Zfh{t sl:Yi}{items:Array Yj}{vl vu:Yj}{lo hi:Option Int}{Q:Yj->Yb->Prop}(ht:IsTup s.heap t items)(hs:s.heap.IsSliceOf sl vl vu .none)(pl:IsPart vl lo)(pu:IsPart vu hi)
 (hw:¬ (sIx items.size 0 lo=0/\sIx items.size items.size hi=items.size))
 (h:Q (.ref s.heap.objs.size) {s with heap:=s.heap.push {cls:=.type "tuple",data:=.seq ((items.toList.drop (sIx items.size 0 lo)).take (sIx items.size items.size hi - sIx items.size 0 lo)).toArray}})
 (hsz:items.size<=sizeLine):YB (model prog w) A (getItem (.ref t) (.ref sl)) Q E s:=by
 have htake:sizeOk (.seq ((items.toList.drop (sIx items.size 0 lo)).take (sIx items.size items.size hi - sIx items.size 0 lo)).toArray):=by
  show((items.toList.drop (sIx items.size 0 lo)).take (sIx items.size items.size hi - sIx items.size 0 lo)).toArray.size<=sizeLine;rw[Of,List.length_take,List.length_drop,Array.length_toList]
  lia
 have hj:sIx items.size items.size hi<=items.size:=Zs2 _ _ (Oq _) hi;obtain⟨os,hos,hcs,hds⟩:=id hs;have hTs:s.TypeIs (.ref sl) "slice" := ⟨os,hos,hcs⟩
 unfold getItem
 try with_reducible refine Wf ?_
 first|refine Ya (Yc ?_)|skip
 refine Ya (wpAny_sequenceKey ht.typeIs (by decide) ?_);refine Ya (Wb (name:=O "__getitem__") ht.typeIs Wj
  (Wg Wj ht.typeIs entry_tuple_getitem ?_ (args_tuple_getitem _ _)))
 show YB _ _ (Builtin.Tuple.tupleItemsOf (.ref t) >>= _) _ _ s;refine Ya (tupleItemsOf_ ht ?_);refine Ya (wpAny_typeOf hTs ?_);rw[if_pos (by decide)];refine Ya (ZcS hs pl pu ?_);have hno:¬ ((((sIx items.size 0 lo:Nat):Int)==0&&(1:Int)==1&&(sIx items.size items.size hi - sIx items.size 0 lo)==items.size)=Wv):=by intro q;rw[Oa,Oa]at q;have q1:((sIx items.size 0 lo:Nat):Int)=0:=eq_of_beq q.1.1;have q2:sIx items.size items.size hi - sIx items.size 0 lo=items.size:=eq_of_beq q.2;exact hw ⟨by lia,by lia⟩
 show YB _ _ (if (((sIx items.size 0 lo:Nat):Int)==0&&(1:Int)==1&&(sIx items.size items.size hi - sIx items.size 0 lo)==items.size)=Wv then _ else _) _ _ s;rw[if_neg hno,ZoP]
 first
  |exact Ya (m:=Builtin.Tuple.tupleExact _) (Yq (Yc ⟨_,rfl,Yc h⟩) htake)
  |exact Ya (m:=Builtin.Tuple.tupleExact _) (Yq (Ya (Yc (Yc ⟨_,rfl,Yc h⟩))) htake)
  |exact Ya (Ya (m:=Builtin.Tuple.tupleExact _) (Yq (Yc (Yc ⟨_,rfl,Yc h⟩)) htake))
  |exact Ya (Ya (m:=Builtin.Tuple.tupleExact _) (Yq (Yc ⟨_,rfl,Yc h⟩) htake))
end
end HT
namespace L2
open PySem PySem.Spec PyProof.Rows
abbrev TO:=St->Hp->(Option Int->Hp->Prop)->Prop
def PO(X:Cx)(e:Option Expr)(t:TO):Prop:=
 ∀(pins:List (Yi×Obj)) (s:Yb) (Z:St) (H:Hp) (Q:Option Int->Hp->Prop),Inv X pins Z H s->t Z H Q ->
  YB (model X.prog X.w) X.A (evalPart e X.env) (λu s'=>∃o H',Inv X pins Z H' s'/\IsPart u o/\Q o H') X.xe s
noncomputable def Zql:TO:=λ_ H Q=>Q Wu H
noncomputable def Zu2(t:TE):TO:=λZ H Q=>t Z H λx H1=>∃i,x=.int i/\Q (Ws i) H1
section
variable {X:Cx}{e:Expr}{te:TE}{lo hi:Option Expr}{tl th:TO}{pos p2:Pos}
def ZqK:PO X Wu Zql:=by intro pins s Z H Q I h;rw[evalPart_none];exact Yc ⟨Wu,H,I,.none,h⟩
def ZqJ(h:PE X e te):PO X (Ws e) (Zu2 te):=by intro pins s Z H Q I hw;rw[evalPart_some];refine thn (h pins s Z H _ I hw) λu s1 ⟨x,H1,I1,r1,q1⟩=>?_;obtain⟨i,rfl,q⟩:=q1;obtain⟨t,rfl⟩:=r1;exact⟨Ws i,H1,I1,.int i t,q⟩
def SlR(X:Cx)(r:V->Option Int->Option Int->Hp->VK->Prop):Prop:=
 ∀(pins:List (Yi×Obj)) (s:Yb) (Z:St) (H:Hp) (x:V) (v vl vu:Yj) (lo hi:Option Int) (sl:Yi) (Q:VK),Inv X pins Z H s->RelV x v->s.heap.IsSliceOf sl vl vu .none->IsPart vl lo->IsPart vu hi->r x lo hi H Q ->
  ∃T id,typeLookup (.type T) "__getitem__" = pure (Ws (.builtin id))/\s.TypeIs v T/\YB (model X.prog X.w) X.A (getItem v (.ref sl)) (EP X pins Z Q) X.xe s
noncomputable def tSl(r:V->Option Int->Option Int->Hp->VK->Prop)(te:TE)(tl th:TO):TE:=λZ H Q=>te Z H λx H1=>tl Z H1 λl H2=>th Z H2 λu H3=>r x l u H3 Q
def ZoR(hr:SlR X r)(he:PE X e te)(hl:PO X lo tl)(hu:PO X hi th):PE X (.Subscript e (.Slice lo hi Wu p2) pos) (tSl r te tl th):=by intro pins s Z H Q I h;refine Subscript_ (thn (he pins s Z H _ I h) λv s1 ⟨x,H1,I1,r1,q1⟩=>?_);refine wpAny_Slice (thn (hl pins s1 Z H1 _ I1 q1) λvl s2 ⟨l,H2,I2,pl,q2⟩=>thn (hu pins s2 Z H2 _ I2 q2) λvu s3 ⟨u,H3,I3,pu,q3⟩=>?_);rw[evalPart_none];refine Yc ?_;have I4:Inv X pins Z H3 {s3 with heap:=s3.heap.push {cls:=.type "slice",data:=.fields #[vl,vu,.none]}}:=I3.kept (t':=s3.toks) λb ob q=>Od _ q;obtain⟨T,id,hT,ht,hg⟩:=hr pins {s3 with heap:=s3.heap.push {cls:=.type "slice",data:=.fields #[vl,vu,.none]}} Z H3 x v vl vu l u s3.heap.objs.size Q I4 r1 (Heap.IsSliceOf.new ..) pl pu q3;show YB (model X.prog X.w) X.A (subscriptTail e (.Slice lo hi Wu p2) v (.ref s3.heap.objs.size)) (EP X pins Z Q) X.xe {s3 with heap:=s3.heap.push {cls:=.type "slice",data:=.fields #[vl,vu,.none]}};exact tail_any (ops:=[.ref s3.heap.objs.size,v]) ht hT hg (by with_unfolding_all rfl)
noncomputable def Zkk(xs:List V)(lo hi:Option Int):List V:=(xs.drop (HT.sIx xs.length 0 lo)).take (HT.sIx xs.length xs.length hi - HT.sIx xs.length 0 lo)
def Zgo(xs:List V)(lo hi:Option Int):(Zkk xs lo hi).length<=xs.length:=by
 unfold Zkk;rw[List.length_take,List.length_drop]
 lia
def Zxf(K:Yk):V->Option Int->Option Int->Hp->VK->Prop:=λx lo hi H Q=>∃a xs,x=.ref a/\SqT K H a xs /\
 ¬ (HT.sIx xs.length 0 lo=0/\HT.sIx xs.length xs.length hi=xs.length)/\∀p,H p=Wu->Q (.ref p) (upd H p (.tup (Zkk xs lo hi)))
def ZsY:SlR X (Zxf X.K):=by
 intro pins s Z H x v vl vu lo hi sl Q I rx hs pl pu h;obtain⟨a,xs,rfl,hx,hw,q⟩:=h;cases rx;obtain⟨its,r,ht,hz⟩:=I.tuple hx;have hlen:its.toArray.size=xs.length:=by rw[Of];exact r.length.symm
 refine⟨"tuple",_,PyProof.Rows.slot_tuple_getitem.lookup,ht.typeIs,?_⟩;refine HT.Zfh ht hs pl pu (by rw[hlen];exact hw) ?_ (by rw[hlen];exact hz);rw[hlen];refine⟨.ref s.heap.objs.size,_,I.laid (t':=s.toks) (o:=.tup (Zkk xs lo hi)) (λb ob q=>Od _ q) (Oq _) ?_,rfl,q _ (I.hok.fresh (Oq _))⟩;exact⟨OE (Zgo xs lo hi) hz,_,(r.drop (HT.sIx xs.length 0 lo)).take (HT.sIx xs.length xs.length hi - HT.sIx xs.length 0 lo),ZbP.fresh _ _⟩
noncomputable def Zvs(K:Yk):R2:=λx y H Q=>∃a b xs ys,x=.ref a/\y=.ref b/\SqT K H a xs/\SqT K H b ys/\xs≠[]/\xs.length+ys.length<=sizeLine /\
 (ys=[]->Q (.ref a) H)/\(ys≠[]->∀p,H p=Wu->Q (.ref p) (upd H p (.tup (xs++ys))))
def Zp.nil_iff(r:Zp xs us):us=[]↔xs=[]:=by
 cases r with
 |nil=>simp
 |cons _ _=>simp
def Zq3:OpR X (binaryOp .Add) (Zvs X.K):=by intro pins s Z H x y v u Q I rx ry h;obtain⟨a,b,xs,ys,rfl,rfl,ha,hb,hx,hz,q1,q2⟩:=h;cases rx;cases ry;obtain⟨its,r1,p1,_⟩:=I.tuple ha;obtain⟨its2,r2,p2,_⟩:=I.tuple hb;refine HT.ZrT p1 p2 (λz=>hx (r1.nil_iff.mp z)) (λz=>⟨.ref a,H,I,rfl,q1 (r2.nil_iff.mp z)⟩) (λz=>?_) (by rw[<- r1.length,<- r2.length];exact hz);refine⟨.ref s.heap.objs.size,_,I.laid (t':=s.toks) (o:=.tup (xs++ys)) (λb ob q=>Od _ q) (Oq _) ?_,rfl,q2 (λw=>z (r2.nil_iff.mpr w)) _ (I.hok.fresh (Oq _))⟩;exact⟨by rw[OA];exact hz,_,r1.append r2,ZbP.fresh _ _⟩
end
noncomputable def ixN(n:Nat)(i:Int):Option Nat:=if 0<=i then(if i<n then Ws i.toNat else Wu)else if -(n:Int)<=i then Ws (i+n).toNat else Wu
noncomputable def atI(xs:List α)(i:Int):Option α:=(ixN xs.length i).bind λj=>xs[j]?
def Zmn(h:ixN n i=Ws j):seqIndex? i n=Ws j/\j<n/\-(n:Int)<=i/\i<n:=by
 unfold ixN at h;by_cases h0:0<=i
 . rw[if_pos h0]at h;by_cases h1:i<n
   . rw[if_pos h1]at h;have e:i.toNat=j:=YF h;exact⟨by rw[seqIndex_of h0 h1,e],by lia,by lia,h1⟩
   . rw[if_neg h1]at h;cases h
 . rw[if_neg h0]at h;by_cases h1:-(n:Int)<=i
   . rw[if_pos h1]at h;have e:(i+n).toNat=j:=YF h;exact⟨by rw[seqIndex_neg (by lia) h1,e],by lia,h1,by lia⟩
   . rw[if_neg h1]at h;cases h
def Zjq(h:atI xs i=Ws v):∃j,seqIndex? i xs.length=Ws j/\xs[j]? = Ws v/\j<xs.length/\-(xs.length:Int)<=i/\i<xs.length:=by
 unfold atI at h;cases e:ixN xs.length i with
 |none=>rw[e]at h;cases h
 |some j=>rw[e]at h;obtain⟨h1,h2,h3,h4⟩:=Zmn e;exact⟨j,h1,h,h2,h3,h4⟩
def Zjs(b:Expr):Prop:=∀o i,subscripted b Ww o i=operate [o,i] (getItem o i)
def IxR(X:Cx)(r:R2):Prop:=
 ∀(value slice:Expr) (pins:List (Yi×Obj)) (s:Yb) (Z:St) (H:Hp) (x y:V) (v u:Yj) (Q:VK),Inv X pins Z H s->RelV x v->RelV y u->r x y H Q ->
  subscripted slice Ww v u=operate [v,u] (getItem v u)->YB (model X.prog X.w) X.A (subscriptTail value slice v u) (EP X pins Z Q) X.xe s
def MtR(X:Cx)(id:String)(r:V->List V->Hp->VK->Prop):Prop:=
 ∀(pins:List (Yi×Obj)) (s:Yb) (Z:St) (H:Hp) (x:V) (xs:List V) (v:Yj) (us:List Yj) (Q:VK),Inv X pins Z H s->RelV x v->Zp xs us->r x xs H Q ->
  YB (model X.prog X.w) X.A (call (.builtin id) (v::us)) (EP X pins Z Q) X.xe s
section
variable {X:Cx}{a b:Expr}{ta tb:TE}{pos:Pos}
def ZvC{r:R2}(hr:IxR X r)(ha:PE X a ta)(hb:PE X b tb)(hs:Zjs b):PE X (.Subscript a b pos) (tOp r ta tb):=by intro pins s Z H Q I h;exact Subscript_ (Zuy ha hb I h λv u s2 x y H2 I2 rx ry q=>hr a b pins s2 Z H2 x y v u Q I2 rx ry q (hs _ _))
noncomputable def Zxl(K:Yk):R2:=λx y H Q=>∃p xs i v,x=.ref p/\y=.int i/\SqL K H p xs/\atI xs i=Ws v/\Q v H
noncomputable def Zxj(K:Yk):R2:=λx y H Q=>∃p xs i v,x=.ref p/\y=.int i/\SqT K H p xs/\atI xs i=Ws v/\Q v H
noncomputable def Zxk:R2:=λx y H Q=>∃z i c,x=.str z/\y=.int i/\z.length<=sizeLine/\atI z.cps.toList i=Ws c/\Q (.str ⟨#[c]⟩) H
def Zrr:IxR X (Zxl X.K):=by
 intro value slice pins s Z H x y v u Q I rx ry h hs;obtain⟨p,xs,i,z,rfl,rfl,hq,he,q⟩:=h;cases rx;obtain⟨t,rfl⟩:=ry;obtain⟨its,r,pl,hz⟩:=I.list hq;obtain⟨j,h1,h2,h3,h4,h5⟩:=Zjq he;obtain⟨w,ew,rw'⟩:=r.get h2;have hl:=r.length;have hn:=Zb8;have fin:EP X pins Z Q w s:=⟨z,H,I,rw',q⟩
 by_cases h0:0<=i
 . have hj:i.toNat=j:=by rw[seqIndex_of h0 h5]at h1;exact YF h1
   exact item_listR pl.isList h0 (by lia) (by rw[hj];simpa using ew) fin hs
 . have hj:(i+(its.toArray.size:Int)).toNat=j:=by rw[seqIndex_neg (by lia) h4]at h1;rw[Of,<- hl];exact YF h1
   exact subscriptTail_builtinR (x:=w) pl.isList.typeIs slot_list_getitem.lookup
    (wpAny_getItem_list_neg (Q:=λr s'=>r=w/\EP X pins Z Q r s') pl.isList (by lia) (by rw[Of]<;>lia) (by lia) (by rw[hj];simpa using ew) ⟨rfl,fin⟩) hs
def Zcx:IxR X (Zxj X.K):=by
 intro value slice pins s Z H x y v u Q I rx ry h hs;obtain⟨p,xs,i,z,rfl,rfl,hq,he,q⟩:=h;cases rx;obtain⟨t,rfl⟩:=ry;obtain⟨its,r,pl,hz⟩:=I.tuple hq;obtain⟨j,h1,h2,h3,h4,h5⟩:=Zjq he;obtain⟨w,ew,rw'⟩:=r.get h2;have hl:=r.length;have hn:=Zb8;have fin:EP X pins Z Q w s:=⟨z,H,I,rw',q⟩
 exact subscriptTail_builtinR (x:=w) pl.typeIs slot_tuple_getitem.lookup
  (getItem_tuple (j:=j) (Q:=λr s'=>r=w/\EP X pins Z Q r s') pl (by lia) (by lia) (by rw[Of,<- hl];exact h1) (by simpa using ew) ⟨rfl,fin⟩) hs
theorem Zua:IxR X Zxk:=by
 intro value slice pins s Z H x y v u Q I rx ry h hs;obtain ⟨z,i,c,rfl,rfl,hz,he,q⟩:=h;obtain ⟨t,rfl⟩:=rx;obtain ⟨t',rfl⟩:=ry;obtain ⟨j,h1,h2,h3,h4,h5⟩:=Zjq he;have hl:z.cps.toList.length=z.length:=by simp [Str.length]
 rw [hl] at h1 h4 h5;have hn:=Zb8;exact tail_any (typeIs_str s z t) slot_str_getitem.lookup (getItem_str (c:=c) (by
   have e1:Wx (i < -(2 ^ 63:Int))=Ww:=decide_eq_false (by lia);have e2:Wx (i ≥ 2 ^ 63)=Ww:=decide_eq_false (by lia);rw [e1,e2,Bool.or_false]) (by rw [h1];simpa using h2) ⟨.str ⟨#[c]⟩,H,I.tok _,⟨_,rfl⟩,q⟩) hs
def Zld(its:List Yj)(n j:Nat)(u:Yj):Obj.mapSeq (·.setIfInBounds j u) {cls:=.type "list",data:=.seq its.toArray n}={cls:=.type "list",data:=.seq (its.set j u).toArray n}:=by simp[Obj.mapSeq]
theorem Inv.lst(I:Inv X pins Z H s)(h:H p=Ws (.lst xs)):
 ∃(its:List Yj) (n:Nat),Zp xs its/\s.heap.get? p=Ws {cls:=.type "list",data:=.seq its.toArray n}/\xs.length<=sizeLine:=by
 obtain⟨z,its,n,r,e⟩:=I.hok p _ h;exact⟨its,n,r,e,z⟩
def Inv.lstUpd{pins:List (Yi×Obj)}{Z:St}{H:Hp}{s:Yb}{p:Yi}{xs ys:List V}{its its':List Yj}{n n':Nat}{f:Obj->Obj}(I:Inv X pins Z H s)(h:H p=Ws (.lst xs))
 (ho:s.heap.get? p=Ws {cls:=.type "list",data:=.seq its.toArray n}) (hf:f {cls:=.type "list",data:=.seq its.toArray n}={cls:=.type "list",data:=.seq its'.toArray n'}) (r:Zp ys its') (hz:ys.length<=sizeLine) (t:Nat) :
 Inv X pins Z (upd H p (.lst ys)) {s with heap:=s.heap.update p f,toks:=t}:=by
 have e:(s.heap.update p f).get? p=Ws {cls:=.type "list",data:=.seq its'.toArray n'}:=by rw[YW f ho (by rw[hf]<;>rfl),hf]
 refine I.write (x:=p) (e:=p) (by rw[h];trivial) (.inl rfl) (λb u hb q=>(YN _ _ (YL hb)).trans q) ⟨_,e⟩ ?_;exact⟨hz,its',n',r,e⟩
def Zvq:V->V->V->Hp->(Hp->Prop)->Prop:=λo i v H Q=>∃p xs k j,o=.ref p/\i=.int k/\H p=Ws (.lst xs)/\ixN xs.length k=Ws j/\Q (upd H p (.lst (xs.set j v)))
def set_list:Zr7 X Zvq:=by
 intro pins s Z H o i v ov iv u Q I ro ri rv h;obtain⟨p,xs,k,j,rfl,rfl,hp,hj,q⟩:=h;cases ro;obtain⟨t,rfl⟩:=ri;obtain⟨its,n,r,ho,hz⟩:=I.lst hp;obtain⟨h1,h2,h3,h4⟩:=Zmn hj;have hl:=r.length;have hn:=Zb8;have I':Inv X pins Z (upd H p (.lst (xs.set j v))) {s with heap:=s.heap.update p (Obj.mapSeq (·.setIfInBounds j u))}:=I.lstUpd hp ho (Zld its n j u) (r.set rv j) (by rw[List.length_set];exact hz) s.toks
 by_cases h0:0<=k
 . have hk:k.toNat=j:=by rw[seqIndex_of h0 h4]at h1;exact YF h1
   exact PySem.W.ki_setAt ho h0 (by lia) (by rw[Of,<- hl];exact h4) (by rw[hk];exact⟨_,I',q⟩)
 . have hk:(k+(its.toArray.size:Int)).toNat=j:=by rw[seqIndex_neg (by lia) h3]at h1;rw[Of,<- hl];exact YF h1
   exact PySem.W.ki_setBack ho (by lia) (by rw[Of,<- hl];exact h3) (by lia) (by rw[hk];exact⟨_,I',q⟩)
def ZiF(lo hi:Option Int)(n:Nat):(sliceBounds lo hi Wu n).1=((HT.sIx n 0 lo:Nat):Int)/\(sliceBounds lo hi Wu n).2.1=((HT.sIx n n hi:Nat):Int)/\(sliceBounds lo hi Wu n).2.2=1:=by
 refine⟨?_,?_,rfl⟩
 . cases lo with
   |none=>simp[sliceBounds,HT.sIx]
   |some i=>
    simp only[sliceBounds,HT.sIx,Option.getD_none,show(1:Int) > 0 by decide,if_true];by_cases h:i<0
    . simp only[h,if_true]<;>lia
    . simp only[h,if_false]<;>lia
 . cases hi with
   |none=>simp[sliceBounds,HT.sIx]
   |some i=>
    simp only[sliceBounds,HT.sIx,Option.getD_none,show(1:Int) > 0 by decide,if_true];by_cases h:i<0
    . simp only[h,if_true]<;>lia
    . simp only[h,if_false]<;>lia
def ZhM(its:List Yj)(lo hi:Option Int):slicePick its.toArray lo hi Wu=((its.drop (HT.sIx its.length 0 lo)).take (HT.sIx its.length its.length hi - HT.sIx its.length 0 lo)).toArray:=by obtain⟨h1,h2,h3⟩:=ZiF lo hi its.toArray.size;unfold slicePick;rw[h1,h2,h3];simp only[sliceRange_one,pick_run,Of]<;>rfl
def Zxh(K:Yk):V->Option Int->Option Int->Hp->VK->Prop:=λx lo hi H Q=>∃a xs,x=.ref a/\SqL K H a xs/\∀p,H p=Wu->Q (.ref p) (upd H p (.lst (Zkk xs lo hi)))
def Zqo:SlR X (Zxh X.K):=by intro pins s Z H x v vl vu lo hi sl Q I rx hs pl pu h;obtain⟨a,xs,rfl,hx,q⟩:=h;cases rx;obtain⟨its,r,ht,hz⟩:=I.list hx;have hlen:=r.length;refine⟨"list",_,slot_list_getitem.lookup,ht.isList.typeIs,?_⟩;refine wpAny_getItem_list_slice ht.isList hs pl pu .none (by simp) ?_ (by rw[Of]<;>lia);rw[ZhM,<- hlen];refine⟨.ref s.heap.objs.size,_,I.laid (t':=s.toks) (o:=.lst (Zkk xs lo hi)) (λb ob q=>Od _ q) (Oq _) ?_,rfl,q _ (I.hok.fresh (Oq _))⟩;exact⟨OE (Zgo xs lo hi) hz,_,0,(r.drop (HT.sIx xs.length 0 lo)).take (HT.sIx xs.length xs.length hi - HT.sIx xs.length 0 lo),Oj _ rfl⟩
noncomputable def ZeF:V->Bool
 |.non=>Wv
 |.bl _=>Wv
 |.int _=>Wv
 |.str _=>Wv
 |_=>Ww
noncomputable def eqV:V->V->Bool
 |.non,.non=>Wv
 |.bl a,.bl b=>a==b
 |.bl a,.int b=>(if a then 1 else 0)==b
 |.int a,.bl b=>a==(if b then 1 else 0)
 |.int a,.int b=>a==b
 |.str a,.str b=>a==b
 |_,_=>Ww
def Zut(ry:RelV y u)(rx:RelV x v)(fy:ZeF y=Wv)(fx:ZeF x=Wv):SeqAt.EqAt A s u v (eqV y x):=by
 cases y with
 |non=>
  cases ry;cases x with
  |non=>cases rx;exact SeqAt.EqAt.same _
  |bl b=>cases rx;exact SeqAt.EqAt.none_bool b
  |int b=>obtain⟨t,rfl⟩:=rx;exact SeqAt.EqAt.none_int b t
  |str b=>obtain⟨t,rfl⟩:=rx;exact SeqAt.EqAt.none_str b t
  |_=>exact absurd (show Ww=Wv from fx) Ow
 |bl a=>
  cases ry;cases x with
  |non=>cases rx;exact SeqAt.EqAt.bool_none a
  |bl b=>cases rx;exact SeqAt.EqAt.bool_bool a b
  |int b=>obtain⟨t,rfl⟩:=rx;exact SeqAt.EqAt.bool_int a b t
  |str b=>obtain⟨t,rfl⟩:=rx;exact SeqAt.EqAt.bool_str a b t
  |_=>exact absurd (show Ww=Wv from fx) Ow
 |int a=>
  obtain⟨t',rfl⟩:=ry;cases x with
  |non=>cases rx;exact SeqAt.EqAt.int_none a t'
  |bl b=>cases rx;exact SeqAt.EqAt.int_bool a t' b
  |int b=>obtain⟨t,rfl⟩:=rx;exact SeqAt.EqAt.int_int a t' b t
  |str b=>obtain⟨t,rfl⟩:=rx;exact SeqAt.EqAt.int_str a t' b t
  |_=>exact absurd (show Ww=Wv from fx) Ow
 |str a=>
  obtain⟨t',rfl⟩:=ry;cases x with
  |non=>cases rx;exact SeqAt.EqAt.str_none a t'
  |bl b=>cases rx;exact SeqAt.EqAt.str_bool a t' b
  |int b=>obtain⟨t,rfl⟩:=rx;exact SeqAt.EqAt.str_int a t' b t
  |str b=>obtain⟨t,rfl⟩:=rx;exact SeqAt.EqAt.str_str a t' b t
  |_=>exact absurd (show Ww=Wv from fx) Ow
 |_=>exact absurd (show Ww=Wv from fy) Ow
noncomputable def eqU(x:V)(u:Yj):Bool:=match u with
 |.none=>eqV .non x
 |.bool b=>eqV (.bl b) x
 |.int i _=>eqV (.int i) x
 |.str z _=>eqV (.str z) x
 |_=>Ww
def ZpI(r:RelV y u)(f:ZeF y=Wv):eqU x u=eqV y x:=by
 cases y with
 |non=>cases r;rfl
 |bl b=>cases r;rfl
 |int i=>obtain⟨t,rfl⟩:=r;rfl
 |str z=>obtain⟨t,rfl⟩:=r;rfl
 |_=>exact absurd (show Ww=Wv from f) Ow
theorem ZfI:∀{xs:List V}{us:List Yj},Zp xs us->xs.all ZeF=Wv->us.any (eqU x)=xs.any λy=>eqV y x
 |_,_,.nil,_=>rfl
 |y::xs,u::us,.cons r t,f=>by rw[List.all_cons,Oa]at f;rw[Wc,Wc,ZpI r f.1,ZfI t f.2]
theorem ZdL(rx:RelV x v)(fx:ZeF x=Wv):∀{xs:List V}{us:List Yj},Zp xs us->xs.all ZeF=Wv->∀u∈us,SeqAt.EqAt A s u v (eqU x u)
 |_,_,.nil,_=>λu hu=>by cases hu
 |y::xs,u::us,.cons r t,f=>λu' hu=>by
  rw[List.all_cons,Oa]at f;rcases O3.mp hu with rfl|hu
  . rw[ZpI r f.1];exact Zut r rx f.1 fx
  . exact ZdL rx fx t f.2 u' hu
noncomputable def inV(x:V)(xs:List V):Bool:=xs.any λy=>eqV y x
noncomputable def rIn(K:Yk)(neg:Bool):R2:=λx y H Q=>∃p xs,y=.ref p/\(SqL K H p xs\/SqT K H p xs)/\ZeF x=Wv/\xs.all ZeF=Wv/\Q (.bl (if neg then !inV x xs else inV x xs)) H
def Znm:OpR X (YM .In) (rIn X.K Ww):=by
 intro pins s Z H x y v u Q I rx ry h;obtain⟨p,xs,rfl,hq,fx,fs,q⟩:=h;cases ry;rcases hq with hq|hq
 . obtain⟨its,r,pl,hz⟩:=I.list hq;refine SeqAt.in_listAt (eqU x) pl.isList (λw hw=>ZdL rx fx r fs w (by simpa using hw)) ⟨.bl _,H,I,rfl,?_⟩;rw[show its.toArray.any (eqU x)=its.any (eqU x) by simp,ZfI r fs];exact q
 . obtain⟨its,r,pl,hz⟩:=I.tuple hq;refine SeqAt.in_tupleAt (eqU x) pl (λw hw=>ZdL rx fx r fs w (by simpa using hw)) ⟨.bl _,H,I,rfl,?_⟩;rw[show its.toArray.any (eqU x)=its.any (eqU x) by simp,ZfI r fs];exact q
def ZiN:OpR X (YM .NotIn) (rIn X.K Wv):=by
 intro pins s Z H x y v u Q I rx ry h;obtain⟨p,xs,rfl,hq,fx,fs,q⟩:=h;cases ry;rcases hq with hq|hq
 . obtain⟨its,r,pl,hz⟩:=I.list hq;refine SeqAt.notIn_listAt (eqU x) pl.isList (λw hw=>ZdL rx fx r fs w (by simpa using hw)) ⟨.bl _,H,I,rfl,?_⟩;rw[show its.toArray.any (eqU x)=its.any (eqU x) by simp,ZfI r fs];exact q
 . obtain⟨its,r,pl,hz⟩:=I.tuple hq;refine SeqAt.notIn_tupleAt (eqU x) pl (λw hw=>ZdL rx fx r fs w (by simpa using hw)) ⟨.bl _,H,I,rfl,?_⟩;rw[show its.toArray.any (eqU x)=its.any (eqU x) by simp,ZfI r fs];exact q
def Zjb:Zc3 X (.builtin "len") (λxs H Q=>∃p ys,xs=[.ref p]/\(SqL X.K H p ys\/SqT X.K H p ys)/\Q (.int ys.length) H):=by
 intro pins s Z H xs us Q I r h;obtain⟨p,ys,rfl,hq,q⟩:=h;obtain⟨u,rfl,rx⟩:=vals1 r;cases rx;have hn:=Zb8;rcases hq with hq|hq
 . obtain⟨its,r',pl,hz⟩:=I.list hq;have hlen:=r'.length;exact Calls.call_len_list pl.isList (by simp only[Of]<;>lia) ⟨.int ys.length,H,I.tok _,⟨s.toks+1,by rw[Of,hlen]⟩,q⟩
 . obtain⟨its,r',pl,hz⟩:=I.tuple hq;have hlen:=r'.length;exact len_tuple pl (by simp only[Of]<;>lia) ⟨.int ys.length,H,I.tok _,⟨s.toks+1,by rw[Of,hlen]⟩,q⟩
def Zja:Zc3 X (.builtin "len") (λxs H Q=>∃z,xs=[.str z]/\z.length<=sizeLine/\Q (.int z.length) H):=by intro pins s Z H xs us Q I r h;obtain⟨z,rfl,hz,q⟩:=h;obtain⟨u,rfl,t,rfl⟩:=vals1 r;have hn:=Zb8;exact len_str (by lia) ⟨.int z.length,H,I.tok _,⟨_,rfl⟩,q⟩
def ZeM:Zc3 X (.type "tuple") (λxs H Q=>∃p ys,xs=[.ref p]/\((SqL X.K H p ys/\∀l,H l=Wu->Q (.ref l) (upd H l (.tup ys)))\/(SqT X.K H p ys/\Q (.ref p) H))):=by
 intro pins s Z H xs us Q I r h;obtain⟨p,ys,rfl,h⟩:=h;obtain⟨u,rfl,rx⟩:=vals1 r;cases rx;rcases h with ⟨hq,q⟩|⟨hq,q⟩
 . obtain⟨its,r',pl,hz⟩:=I.list hq;have hlen:=r'.length;refine call_tuple_list pl.isList (λh' kp=>?_) (by simp only[Of]<;>lia);have I1:Inv X pins Z H {s with heap:=h'}:=I.kept (t':=s.toks) kp;have I2:Inv X pins Z (upd H h'.objs.size (.tup ys)) {s with heap:=h'.push {cls:=.type "tuple",data:=.seq its.toArray}}:=I1.laid (t':=s.toks) (λb o e=>Od _ e) (Oq _) (show Zar X.prog X.w _ _ _ (.tup ys)from⟨hz,its,r',ZbP.fresh _ _⟩)
   exact⟨.ref h'.objs.size,_,I2,rfl,q _ (I1.hok.fresh (Oq _))⟩
 . obtain⟨its,r',pl,hz⟩:=I.tuple hq;exact call_tuple_same pl ⟨.ref p,H,I,rfl,q⟩
def tyV(K:Yk)(T:String)(x:V)(H:Hp):Prop:=match x with
 |.str _=>T = "str"
 |.int _=>T = "int"
 |.ref p=>(T = "list" /\ ∃xs,SqL K H p xs)\/(T = "tuple" /\ ∃o,K.lookup p=Ws o/\o.cls=.type "tuple" /\ o.dict=Wu) \/
  (T = "dict" /\ ((∃kvs,H p=Ws (.dK kvs))\/∃kvs,H p=Ws (.dT kvs)))\/(T = "set" /\ ∃S_ n,H p=Ws (.set S_ n))
 |_=>False
def Zn4(I:Inv X pins Z H s)(r:RelV x v)(ty:tyV X.K T x H):
 s.TypeIs v T/\∀a,v=.ref a->∃ob,s.heap.get? a=Ws ob/\ob.dict=Wu:=by
 cases x with
 |str z=>obtain⟨t,rfl⟩:=r;cases (show T = "str" from ty);exact⟨typeIs_str s z t,λ_ e=>nomatch e⟩
 |int i=>obtain⟨t,rfl⟩:=r;cases (show T = "int" from ty);exact⟨typeIs_int s i t,λ_ e=>nomatch e⟩
 |ref p=>
  cases r;rcases ty with ⟨rfl,xs,hq⟩|⟨rfl,o,hk,hc,hd⟩|⟨rfl,hk⟩|⟨rfl,S_,n,hk⟩
  . obtain⟨its,_,pl,_⟩:=I.list hq;refine⟨pl.isList.typeIs,λa e=>?_⟩;cases e;obtain⟨o,n,e,c,hd,_⟩:=pl;exact⟨o,e,hd⟩
  . refine⟨⟨o,I.kIn p o hk,hc⟩,λa e=>?_⟩;cases e;exact⟨o,I.kIn _ o hk,hd⟩
  . have z:∃o,s.heap.get? p=Ws o/\o.ExactDict:=by
     rcases hk with ⟨kvs,hk⟩|⟨kvs,hk⟩
     . obtain⟨_,_,_,_,o,_,_,e,ex,_⟩:=I.hok p _ hk;exact⟨o,e,ex⟩
     . obtain⟨_,_,_,_,o,_,_,e,ex,_⟩:=I.hok p _ hk;exact⟨o,e,ex⟩
    obtain⟨o,e,ex⟩:=z;refine⟨⟨o,e,ex.1⟩,λa e2=>?_⟩;cases e2;exact⟨o,e,ex.2.1⟩
  . obtain⟨o,_,_,_,e,ex,_⟩:=I.hok p _ hk;refine⟨⟨o,e,ex.1⟩,λa e2=>?_⟩;cases e2;exact⟨o,e,ex.2.1⟩
 |_=>exact False.elim ty
noncomputable def Zw6(K:Yk)(T:String)(r:V->List V->Hp->VK->Prop)(to:TE):TE:=λZ H Q=>to Z H λx H1=>tyV K T x H1/\r x [] H1 Q
noncomputable def tBM(K:Yk)(T:String)(r:V->List V->Hp->VK->Prop)(to:TE)(t:TA):TE:=λZ H Q=>to Z H λx H1=>tyV K T x H1/\t Z H1 λxs H2=>r x xs H2 Q
variable {o e:Expr}{es:List Expr}{to:TE}{t:TA}{name:Str}{apos cpos:Pos}{T id:String}{r:V->List V->Hp->VK->Prop}
def ZtC(pa:PlainAttrs T)(slot:Slot T name id)(hty:typeOf (.builtin id)=pure (.type "method_descriptor"))(hm:MtR X id r)(ho:PE X o to)
 (hbase:attributeBase o name X.env (eval o X.env)=eval o X.env:=by rfl) (hline:(apos.endLine==cpos.line)=Wv:=by rfl):PE X (.Call (.Attribute o name apos) [] [] cpos) (Zw6 X.K T r to):=by
 intro pins s Z H Q I h;refine wpAny_Call_method0_late hbase hline (thn (ho pins s Z H _ I h) λv s1 ⟨x,H1,I1,r1,ty,q1⟩=>?_);obtain⟨h1,h2⟩:=Zn4 I1 r1 ty;exact⟨T,id,pa,slot,hty,h1,h2,Calls.callWith_builtin rfl (PySem.evalArgs_none (hm pins s1 Z H1 x [] v [] Q I1 r1 .nil q1))⟩
def ZvD(pa:PlainAttrs T)(slot:Slot T name id)(hty:typeOf (.builtin id)=pure (.type "method_descriptor"))(hm:MtR X id r)(ho:PE X o to)(ha:PA X (e::es) t)
 (hbase:attributeBase o name X.env (eval o X.env)=eval o X.env:=by rfl)
 (hfew:((YS cpos (YA (e::es) X.env)).all (λx=>!x.1)&&(backToKw cpos (Wa [] X.env)).all (λx=>x.1.isSome)
  && Wx ((e::es).length+([]:List Keyword).length+(if ([]:List Keyword).isEmpty then 0 else 1)<30))=Wv:=by rfl)
 (hline:(apos.endLine==cpos.line)=Wv:=by rfl) (hs:YA (e::es) X.env=(Ww,eval e X.env)::YA es X.env:=by rfl) (hplain:(YS cpos (YA es X.env)).any (·.1)=Ww:=by rfl) :
 PE X (.Call (.Attribute o name apos) (e::es) [] cpos) (tBM X.K T r to t):=by
 intro pins s Z H Q I h;refine wpAny_Call_method_late hbase hfew hline rfl (thn (ho pins s Z H _ I h) λv s1 ⟨x,H1,I1,r1,ty,q1⟩=>?_);obtain⟨h1,h2⟩:=Zn4 I1 r1 ty;refine⟨T,id,pa,slot,hty,h1,h2,?_⟩;have hA:=ha cpos pins s1 Z H1 _ I1 q1;rw[hs]at hA ⊢;refine Calls.callWith_builtin (by show(Ww || (YS cpos (YA es X.env)).any (·.1))=Ww;rw[hplain]<;>rfl) (Calls.evalArgs_plain ?_);exact thn hA λus s2 ⟨vs,H2,I2,r2,q2⟩=>hm pins s2 Z H2 x vs v us Q I2 r1 r2 q2
end
def MtM(X:Cx)(id:String)(r:V->List V->Hp->VK->Prop):Prop:=
 ∀(pins:List (Yi×Obj)) (s:Yb) (Z:St) (H:Hp) (x:V) (xs:List V) (v:Yj) (us:List Yj) (Q:VK),Inv X pins Z H s->RelV x v->Zp xs us->r x xs H Q ->
  YB (model X.prog X.w) X.A (call (.builtin id) (v::us)) (EP X pins Z Q) X.xe s
def Zp.one:∀{x:V}{us:List Yj},Zp [x] us->∃u,us=[u]/\RelV x u
 |_,_,.cons r .nil=>⟨_,rfl,r⟩
def Zp.zero:∀{us:List Yj},Zp [] us->us=[]
 |_,.nil=>rfl
theorem Zp.dropLast(h:Zp xs us):Zp xs.dropLast us.dropLast:=by
 induction h with
 |nil=>exact .nil
 |cons r t ih=>
  cases t with
  |nil=>exact .nil
  |cons q t'=>exact .cons r ih
theorem Zp.reverse(h:Zp xs us):Zp xs.reverse us.reverse:=by
 induction h with
 |nil=>exact .nil
 |cons r t ih=>rw[List.reverse_cons,List.reverse_cons];exact Zp.append ih (.cons r .nil)
def Zlr(l:List α):l.eraseIdx (l.length - 1)=l.dropLast:=by
 induction l with
 |nil=>rfl
 |cons a r ih=>
  cases r with
  |nil=>rfl
  |cons b r=>
   have e:(a::b::r).length - 1=((b::r).length - 1)+1:=by
    have h1:(a::b::r).length=r.length+2:=rfl;have h2:(b::r).length=r.length+1:=rfl
    lia
   rw[e,List.eraseIdx_cons_succ,ih]
   all_goals rfl
section
variable {X:Cx}{pins:List (Yi×Obj)}{Z:St}{H:Hp}{s:Yb}{l b:Yi}{xs ys zs:List V}
def Inv.lset{its its':List Yj}{n:Nat}{f:Array Yj->Array Yj}{t':Nat}(I:Inv X pins Z H s)(hH:H l=Ws (.lst xs))
 (e:s.heap.get? l=Ws {cls:=.type "list",data:=.seq its.toArray n}) (hf:f its.toArray=its'.toArray) (hv:Zp ys its') (hz:ys.length<=sizeLine) :
 Inv X pins Z (upd H l (.lst ys)) {s with heap:=s.heap.update l (Obj.mapSeq f),toks:=t'}:=by
 have q:=PySem.IsL.update e f;rw[hf]at q;refine I.write (x:=l) (e:=l) (by rw[hH];exact trivial) (.inl rfl) (λb' u hb hu=>(YN s.heap (Obj.mapSeq f) (YL hb)).trans hu) ⟨_,q⟩ ?_;exact⟨hz,its',_,hv,q⟩
def Inv.lnew(I:Inv X pins Z H s)(hv:Zp ys its)(hz:ys.length<=sizeLine):
 Inv X pins Z (upd H s.heap.objs.size (.lst ys)) {s with heap:=s.heap.push {cls:=.type "list",data:=.seq its.toArray},toks:=t'}:=
 I.laid (λ_ _ q=>Od _ q) (Oq _) ⟨hz,its,0,hv,Oj _ rfl⟩
theorem Inv.fresh(I:Inv X pins Z H s):H s.heap.objs.size=Wu:=I.hok.fresh (Oq _)
def Inv.lstM(I:Inv X pins Z H s)(hH:H l=Ws (.lst xs)):xs.length<=sizeLine/\∃(its:List Yj) (n:Nat),Zp xs its/\xs.length=its.length/\s.heap.get? l=Ws {cls:=.type "list",data:=.seq its.toArray n}:=by obtain⟨z,its,n,r,e⟩:=I.hok l _ hH;exact⟨z,its,n,r,r.length,e⟩
def ZjT{n:Nat}(h:n<=sizeLine):Wo n=Ww:=by unfold Wo;exact decide_eq_false (by lia)
end
section
variable {X:Cx}
def ZqA:V->List V->Hp->VK->Prop:=λx vs H Q=>∃l xs y,x=.ref l/\vs=[y]/\H l=Ws (.lst xs)/\xs.length<sizeLine/\Q .non (upd H l (.lst (xs++[y])))
def Zic:MtM X "list.append" ZqA:=by
 intro pins s Z H x vs v us Q I rx rv h;obtain⟨l,xs,y,rfl,rfl,hH,hz,q⟩:=h;cases rx;obtain⟨u,rfl,ru⟩:=rv.one;obtain⟨z,its,n,r,hl,e⟩:=I.lstM hH;refine call_meets F.slot_list_append ⟨_,e,rfl⟩ F.entry_list_append (F.args_list_append_2 _ _) (PySem.list_append l its.toArray n u (by rw[Of];lia)) ⟨e,?_⟩;refine⟨.non,_,I.lset (its':=its++[u]) hH e (by simp) (r.append (.cons ru .nil)) ?_,rfl,q⟩;rw[OA,List.length_singleton]
 lia
def Zqz:V->List V->Hp->VK->Prop:=λx vs H Q=>∃l b xs zs,x=.ref l/\vs=[.ref b]/\H l=Ws (.lst xs)/\H b=Ws (.lst zs)/\xs.length+zs.length<=sizeLine/\Q .non (upd H l (.lst (xs++zs)))
def Znr:MtM X "list.extend" Zqz:=by
 intro pins s Z H x vs v us Q I rx rv h;obtain⟨l,b,xs,zs,rfl,rfl,hH,hB,hz,q⟩:=h;cases rx;obtain⟨u,rfl,ru⟩:=rv.one;cases ru;obtain⟨z,its,n,r,hl,e⟩:=I.lstM hH;obtain⟨z2,its2,n2,r2,hl2,e2⟩:=I.lstM hB;have hsz:its.toArray.size+its2.toArray.size<=sizeLine:=by rw[Of,Of];lia
 have hlong:¬ (!its.toArray.isEmpty&&Wo (its.toArray.size+its2.toArray.size))=Wv:=by rw[ZjT hsz,Bool.and_false];exact Ow
 refine call_meets F.slot_list_extend ⟨_,e,rfl⟩ F.entry_list_extend (F.args_list_extend_2 _ _)
  (AutoSeq1.list_extend_list_list_0 l its.toArray n b its2.toArray n2 hlong (by rw[Of];lia) (by lia)) ⟨e,e2,?_⟩
 refine⟨.non,_,I.lset (its':=its++its2) hH e (by simp) (r.append r2) ?_,rfl,q⟩;rw[OA]
 lia
def Zxi:V->List V->Hp->VK->Prop:=λx vs H Q=>∃l xs y,x=.ref l/\vs=[]/\H l=Ws (.lst xs)/\xs[xs.length - 1]? = Ws y/\Q y (upd H l (.lst xs.dropLast))
def ZtQ:MtM X "list.pop" Zxi:=by
 intro pins s Z H x vs v us Q I rx rv h;obtain⟨l,xs,y,rfl,rfl,hH,hy,q⟩:=h;cases rx;have hus:=rv.zero;subst hus;obtain⟨z,its,n,r,hl,e⟩:=I.lstM hH;obtain⟨u,hu,ru⟩:=r.get hy;have hy':its.toArray[its.toArray.size - 1]? = Ws u:=by show its.toArray[its.length - 1]? = Ws u;rw[<- Array.getElem?_toList,<- hl];exact hu
 refine call_meets F.slot_list_pop ⟨_,e,rfl⟩ F.entry_list_pop (F.args_list_pop_1 _) (MeetsSeq.list_pop_last l its.toArray n u hy' (by rw[Of];lia)) ⟨e,?_⟩;refine⟨y,_,I.lset (its':=its.dropLast) hH e ?_ r.dropLast ?_,ru,q⟩
 . show its.toArray.eraseIdxIfInBounds (its.toArray.size - 1)=its.dropLast.toArray;rw[Of,List.eraseIdxIfInBounds_toArray,Zlr]
 . rw[List.length_dropLast]
   lia
def ZoC:V->List V->Hp->VK->Prop:=λx vs H Q=>∃l xs,x=.ref l/\vs=[]/\H l=Ws (.lst xs)/\Q .non (upd H l (.lst xs.reverse))
def Zlb:MtM X "list.reverse" ZoC:=by
 intro pins s Z H x vs v us Q I rx rv h;obtain⟨l,xs,rfl,rfl,hH,q⟩:=h;cases rx;have hus:=rv.zero;subst hus;obtain⟨z,its,n,r,hl,e⟩:=I.lstM hH;refine call_meets F.slot_list_reverse ⟨_,e,rfl⟩ F.entry_list_reverse (F.args_list_reverse_1 _) (AutoSeq1.list_reverse_list_0 l its.toArray n (by rw[Of];lia)) ⟨e,?_⟩;refine⟨.non,_,I.lset (its':=its.reverse) hH e (by simp) r.reverse ?_,rfl,q⟩;rw[List.length_reverse]
 lia
def Ztg:V->List V->Hp->VK->Prop:=λx vs H Q=>∃l xs,x=.ref l/\vs=[]/\H l=Ws (.lst xs)/\Q .non (upd H l (.lst []))
def Zpb:MtM X "list.clear" Ztg:=by intro pins s Z H x vs v us Q I rx rv h;obtain⟨l,xs,rfl,rfl,hH,q⟩:=h;cases rx;have hus:=rv.zero;subst hus;obtain⟨z,its,n,r,hl,e⟩:=I.lstM hH;refine call_meets F.slot_list_clear ⟨_,e,rfl⟩ F.entry_list_clear (F.args_list_clear_1 _) (AutoSeq1.list_clear_list_0 l its.toArray n (by rw[Of];lia)) ⟨e,?_⟩;exact⟨.non,_,I.lset (its':=[]) (ys:=[]) hH e rfl .nil (Yw _),rfl,q⟩
noncomputable def Zxn:R2:=λx y H Q=>∃l b xs zs,x=.ref l/\y=.ref b/\H l=Ws (.lst xs)/\H b=Ws (.lst zs)/\xs.length+zs.length<=sizeLine/\∀p,H p=Wu->Q (.ref p) (upd H p (.lst (xs++zs)))
def ZtJ:OpR X (binaryOp .Add) Zxn:=by
 intro pins s Z H x y v u Q I rx ry h;obtain⟨l,b,xs,zs,rfl,rfl,hH,hB,hz,q⟩:=h;cases rx;cases ry;obtain⟨z,its,n,r,hl,e⟩:=I.lstM hH;obtain⟨z2,its2,n2,r2,hl2,e2⟩:=I.lstM hB;refine PySem.P.add_list e e2 ?_ (by rw[Of,Of];lia);have ea:its.toArray++its2.toArray=(its++its2).toArray:=by simp
 rw[ea];exact⟨.ref _,_,I.lnew (t':=s.toks) (r.append r2) (by rw[OA];lia),rfl,q _ I.fresh⟩
end
end L2
namespace Att
open PySem PySem.W PySem.Calls PyProof.Rows
def Zgx:∀(ns:List Int) (vs:List Yj),WellAll P h vs (ns.map WData.int)->IntsAre vs ns:=by
 intro ns;induction ns with
 |nil=>intro vs w;rw[Oy]at w;cases w;exact .nil
 |cons n ns ih=>
  intro vs w;rw[Op]at w;cases w with
  |cons a b=>cases a;exact .cons _ _ (ih _ b)
def ZmY{l:OpenLaw}{n:Nat}(hn:l.most=Ws n){P:Params}{h:YG}{args:List WData}{vals:List Yj}
 (hpre:l.row.toRowW.claim.pre args=Wv) (hwl:WellAll P h vals args) :
 ∃a vs ns,vals=[YD a]/\args=[WData.list (ns.map WData.int)]/\h.get? a=Ws {cls:=.type "list",data:=.seq vs.toArray}/\IntsAre vs ns/\ns.length<=n:=by
 have hsh:WShape.hasAll [] args [.list .int]=Wv:=(pre_splitW hpre).1;have hc:l.pre.holds [] {args:=args}=Wv:=(pre_splitW hpre).2;obtain⟨d,r,rfl,h1,h2⟩:=hasAllW_cons hsh;obtain rfl:=hasAllW_nil h2;obtain⟨xs,rfl,h3⟩:=hasW_list h1;obtain⟨ns,rfl⟩:=items_int h3;have hlen:ns.length<=n:=by
  unfold OpenLaw.pre at hc;have h4:(WTm.not (.lt (.lit (.int (n:Int))) (.len (.arg 0)))).holds [] {args:=[.list (ns.map .int)]}=Wv:=by have h4:=(holds_andW hc).1;rw[hn]at h4;exact h4
  have h5:=condW_of h4 (w_not (w_lt w_lit (w_len_list (w_arg rfl))));rw[Yt]at h5;refine Nat.le_of_not_lt λq=>?_;have q':(n:Int)<((ns.length:Nat):Int):=by lia
  first
   |(rw[decide_eq_true q']at h5;exact absurd h5 (by decide))
   |(simp at h5;lia)
 cases hwl with
 |cons w1 w2=>
  cases w2;cases w1 with
  |list ho hall=>exact⟨_,_,ns,rfl,rfl,ho,Zgx ns _ hall,hlen⟩
def Znc(l:OpenLaw)(args:List WData):l.row.toRowW.claim.post args (.bool Wv) args=Wv:=
 postW_of (r:=l.row.toRowW) (X:=(Wv==Wv))
  (show WShape.has [] (.bool Wv) .bool=Wv by first|rfl|decide|simp[WShape.has,WShape.arms,WShape.armsAll])
  (show(WTm.eq .res (.lit (.bool Wv))).value [] {args:=args,res:=Ws (.bool Wv),after:=args}=Ws (.bool (Wv==Wv))from w_eq_bool (w_res rfl) w_lit) rfl
def ZkC{l:OpenLaw}{n:Nat}{q:Yh}{loose:List Str}{XP:(Str->Option Yj)->YG->Prop}{YP:Yg->YG->Prop}{d:DefRec}
 (hn:l.most=Ws n) (hdf:d.params.defaults=[])
 (call:∀(w:Yg) (s₀ s₁:Yb) (mg mb:Str->Option Yj) (fa:Yi) (o:Obj) (pm cd doc:Yj) (a:Yi) (vs:List Yj) (ns:List Int),
  Ground q loose [] XP w s₀ mg mb s₁.heap->YP w s₁.heap ->
  s₁.heap.get? fa=Ws o->o.data=.func (docDef d.name d.params d.body d.scope pm cd doc)->s₁.heap.CodeRec cd d.name->mg d.name=Ws (.ref fa) ->
  s₁.heap.get? a=Ws {cls:=.type "list",data:=.seq vs.toArray}->IntsAre vs ns->ns.length<=n->s₁.gens=#[] ->
  codeAny (model l.prog w) callerA (.call (.ref fa) ⟨[.ref a],[]⟩) (λr s'=>r=.ok (.ret (.bool Wv))/\OldK s₁.heap s'.heap/\s'.os=s₁.os/\AllBare s'.gens) s₁) :
 WalkO q loose XP YP l.row.toRowW d [] (λf vs=>PySem.call f vs):=by
 intro w s₀ s₁ mg mb G Y fa o pm cd doc dV kV ho hd hcd hD hmg hg args vals as hpre hlay hrd hwl hlo;obtain rfl:dV=.none:=Dflts.none hD hdf;obtain rfl:kV=.none:=Dflts.noKw hD;obtain⟨a,vs,ns,rfl,rfl,hobj,hints,hlen⟩:=ZmY hn hpre hwl;refine enter_call (codeAny_mono (call w s₀ s₁ mg mb fa o pm cd doc a vs ns G Y ho (fd_plain hd) hcd hmg hobj hints hlen hg) λr s' hq=>?_);obtain⟨rfl,h2,h3,h4⟩:=hq;exact⟨.inl ⟨.bool Wv,.bool Wv,[],rfl,λ_=>rfl,.bool Wv,Znc l _,λ_=>⟨List.Pairwise.nil,λ_ hm=>(nomatch hm)⟩⟩,h2,h3,h4⟩
end Att
namespace L2
open PySem PySem.Spec PyProof.Rows
theorem Zh0:∀{vs:List Yj}{ns:List Int},IntsAre vs ns->Zp (ns.map V.int) vs
 |_,_,.nil=>.nil
 |_,_,.cons n t h=>.cons ⟨t,rfl⟩ (Zh0 h)
def Zr8(H:Hp):Prop:=∀b,H b=Wu\/∃o xs,H b=Ws (.frz o (.lst xs))
theorem Zpj{P:Yh}{w:Yg}{K:Yk}{mg mb:Str->Option Yj}{CX:CXT}{k:Nat}{fa a:Yi}{fd:FuncData}{x:Str}{sp:Sp}{s₁:Yb}{vs:List Yj}{ns:List Int}
   (KX:K.In s₁.heap) (hns:s₁.heap.Ns Yd mg) (hb:s₁.heap.Ns builtinsNs mb) (hbb:∀ x:Str,x ≠ "__name__" -> mb x=bootBuiltins x) (hlim:s₁.heap.NoLimit) (hg:s₁.gens=#[])
   (ha:s₁.heap.get? a=Ws {cls:=.type "list",data:=.seq vs.toArray}) (hi:IntsAre vs ns) (hl:ns.length<=sizeLine) (hr:Room k callerA)
   (F:∀ base:YG,K.In base->base.Ns Yd mg->FnOk P w K mg base CX k fa fd [x] sp) (hbind:∀ (s:Yb) (u:Yj),BindsTo s fd ⟨[u],[]⟩ [(x,u)])
   (hsp:∀ H:Hp,Zr8 H->SqL K H a (ns.map V.int)->sp [.ref a] H (fun v _=>v=.bl Wv) fun _ _ _=>False)
   (hCX:∀ H e s',CX [] H s₁ (fun _ _ _=>False) e s'->False) :
   codeAny (model P w) callerA (.call (.ref fa) ⟨[.ref a],[]⟩) (fun r s'=>r=.ok (.ret (.bool Wv))/\OldK s₁.heap s'.heap/\s'.os=s₁.os/\AllBare s'.gens) s₁:=by
 have rv:=Zh0 hi;have lenV:=hi.length;have core:∀ H:Hp,Zr8 H->SqL K H a (ns.map V.int)->HOk P w H s₁.heap->(∀ b,H b≠Wu->b=a)->(H a≠Wu->K.lookup a=Wu) ->
     codeAny (model P w) callerA (.call (.ref fa) ⟨[.ref a],[]⟩) (fun r s'=>r=.ok (.ret (.bool Wv))/\OldK s₁.heap s'.heap/\s'.os=s₁.os/\AllBare s'.gens) s₁:=by
   intro H hO hS hok hA hK;have base_of:∀ {b:Yi}{o:Obj},s₁.heap.get? b=Ws o->H b=Wu->(Zi1 s₁.heap H).get? b=Ws o:=fun e n=>Zps e n;have noA:∀ {b:Yi}{o:Obj}{es:Array DictEntry}{ep:Nat},s₁.heap.get? b=Ws o->o.data=.dict es ep->H b=Wu:=fun {b o es ep} e d=>by
     cases q:H b with
     | none=>rfl
     | some u =>
       have e':b=a:=hA b (by rw [q];simp);subst e';rw [ha] at e;cases e;have d':Data.seq vs.toArray _=Data.dict es ep:=d;cases d'
   have nsK:∀ {b:Yi}{m:Str->Option Yj},s₁.heap.Ns b m->(Zi1 s₁.heap H).Ns b m:=fun {b m} ⟨o,es,ep,e,d,r⟩=>⟨o,es,ep,base_of e (noA e d),d,r⟩
   have hKb:K.In (Zi1 s₁.heap H):=fun b o e=>base_of (KX b o e) (by
     cases q:H b with
     | none=>rfl
     | some u =>
       have e':b=a:=hA b (by rw [q];simp);subst e';rw [hK (by rw [q];simp)] at e;cases e)
   have hM:Mod K mg (Zi1 s₁.heap H):=⟨hKb,nsK hns,⟨mb,nsK hb,hbb⟩,let ⟨mc,h1,h2⟩:=hlim;⟨mc,nsK h1,h2⟩⟩
   have e0:Env0 P w K mg (Zi1 s₁.heap H) callerA [] s₁ H:=⟨rfl,hM,fun b o e=>Zrd e,Nat.le_of_eq (ZnA _ _),trivial,fun b hb=>absurd (show b∈([]:List Yi) from hb) (by simp),hok,.of_eq hg⟩
   refine codeAny_mono ((F _ hKb (nsK hns)).run callerA [] s₁ H ⟨[.ref a],[]⟩ [.ref a] [.ref a] _ _ hr e0 (hbind s₁ (.ref a)) (.cons rfl .nil) (hsp H hO hS)) fun r s' h=>?_;cases r with
   | error e=>exact (hCX H e s' h).elim
   | ok fl =>
     cases fl with
     | next=>exact False.elim h
     | brk=>exact False.elim h
     | cont=>exact False.elim h
     | ret u =>
       obtain ⟨v,H',os,bare,un,hok',r',q⟩:=h;have q':v=.bl Wv:=q;subst q';obtain rfl:u=Value.bool Wv:=r';refine ⟨rfl,OldK.of_keep fun b o e=>?_,os,bare⟩;cases q:H b with
       | none=>exact un.keep b o e q (by intro z;exact absurd (show b∈([]:List Yi) from z) (by simp)) (by simp)
       | some u =>
         rcases hO b with z|⟨ob,xs,z⟩
         . rw [q] at z;cases z
         . have z2:=un.frzs b ob _ z;obtain ⟨e1,_⟩:=hok b _ z;obtain ⟨e2,_⟩:=hok' b _ z2;rw [e] at e1;cases e1;exact e2
 cases hk:K.lookup a with
 | some o =>
   have e:=KX a o hk;rw [ha] at e;cases e;refine core (fun _=>Wu) (fun _=>.inl rfl) (.inr ⟨_,vs.toArray,_,hk,rfl,rfl,rfl,by rw [Of,lenV];exact hl,by simpa using rv⟩) (fun b u z=>by have z':(Wu:Option HO)=Ws u:=z;cases z') (fun b z=>absurd rfl z) fun z=>absurd rfl z
 | none =>
   refine core (fun b=>if b=a then Ws (.frz {cls:=.type "list",data:=.seq vs.toArray} (.lst (ns.map V.int))) else Wu) (fun b=>?_) (.inl (.inr ⟨{cls:=.type "list",data:=.seq vs.toArray},if_pos rfl⟩)) (fun b u z=>?_) (fun b z=>?_) fun _=>hk
   . by_cases hb:b=a
     . exact .inr ⟨_,_,if_pos hb⟩
     . exact .inl (if_neg hb)
   . by_cases hb:b=a
     . have z':=(if_pos hb).symm.trans z;cases z';subst hb;exact ⟨ha,by rw [Yt];exact hl,vs,_,rv,ha⟩
     . have z':=(if_neg hb).symm.trans z;cases z'
   . by_cases hb:b=a
     . exact hb
     . exact absurd (if_neg hb) z
def Zqd{l:PySem.W.OpenLaw}{n k:Nat}{q:Yh}{loose:List Str}{XP:(Str->Option Yj)->YG->Prop}{YP:Yg->YG->Prop}{d:DefRec}{K:Params->Yk}{CX:Yg->CXT}{sp:Yg->Sp}{x:Str}
 (hn:l.most=Ws n) (hn2:n<=sizeLine) (hdf:d.params.defaults=[]) (hr:Room k callerA)
 (hY:∀(w:Yg) (h:YG),YP w h->(K w.params).In h)
 (F:∀(w:Yg) (mg:Str->Option Yj) (fa:Yi) (h:YG),(K w.params).In h->h.Ns Yd mg->mg d.name=Ws (.ref fa) ->
  ∃fd:FuncData,(∀(s:Yb) (u:Yj),BindsTo s fd ⟨[u],[]⟩ [(x,u)]) /\
   ∀base:YG,(K w.params).In base->base.Ns Yd mg->FnOk l.prog w (K w.params) mg base (CX w) k fa fd [x] (sp w))
 (hsp:∀(w:Yg) (H:Hp) (a:Yi) (ns:List Int),ns.length<=n->Zr8 H->SqL (K w.params) H a (ns.map V.int)->sp w [.ref a] H (λv _=>v=.bl Wv) λ_ _ _=>False)
 (hCX:∀(w:Yg) (H:Hp) (s:Yb) (e:Yj) (s':Yb),CX w [] H s (λ_ _ _=>False) e s'->False) :
 PySem.W.WalkO q loose XP YP l.row.toRowW d [] (λf vs=>PySem.call f vs):=by
 refine Att.ZkC hn hdf λw s₀ s₁ mg mb fa o pm cd doc a vs ns G Y ho hd hcd hmg hobj hints hlen hg=>?_;have KX:=hY w _ Y;obtain⟨fd,hb,hF⟩:=F w mg fa _ KX G.T.g hmg;exact Zpj KX G.T.g G.T.b G.T.builtins G.T.nolimit hg hobj hints (OE hlen hn2) hr hF hb (λH hO hS=>hsp w H a ns hlen hO hS) λH e s'=>hCX w H s₁ e s'
noncomputable def inClass(s:Stmt)(j:Nat):Stmt:=match s with
 |.ClassDef _ _ _ body _ _ _ _ _ _ _=>body.getD j (.Pass ⟨0,0,0,0⟩)
 |_=>.Pass ⟨0,0,0,0⟩
noncomputable def Zeq(s:Stmt):Arguments:=match s with
 |.FunctionDef _ a _ _ _ _ _ _ _ _=>a
 |_=>{posonlyargs:=[],args:=[],vararg:=Wu,kwonlyargs:=[],kw_defaults:=[],kwarg:=Wu,defaults:=[]}
noncomputable def Zco(s:Stmt):List Stmt:=match s with
 |.FunctionDef _ _ b _ _ _ _ _ _ _=>b
 |_=>[]
noncomputable def ZZ(s:Stmt):Scope:=match s with
 |.FunctionDef _ _ _ _ _ _ sc _ _ _=>sc
 |_=>{kind:=.function,names:=[],isGenerator:=false,isCoroutine:=false}
noncomputable abbrev E0:XK:=λ_ _ _=>False
structure Fun(K:Yk)(x qual:Str)(st:Stmt)(f:Yi)(fd:FuncData):Prop where
 ex:∃(oc:Yj) (od:Option Yi) (kV doc pm:Yj) (an:Option Yi) (cdv ct:Yj) (osl:Array (Option Yj)),
  fd=PySem.W.fnOf x qual (Zeq st) (Zco st) (ZZ st) .none kV doc pm an cdv ct/\K.lookup f=Ws ⟨oc,od,.func fd,osl⟩/\PySem.W.codeIn K cdv qual=Wv
 kp:We K (.ref f)=Wv
section
variable {P:Yh}{w:Yg}{K:Yk}{mg:Str->Option Yj}{base:YG}
def Fun.binds{x qual:Str}{st:Stmt}{f:Yi}{fd:FuncData}{ps:List Str}(F:Fun K x qual st f fd)
 (h:∀(kV doc pm:Yj) (an:Option Yi) (cdv ct:Yj) (us:List Yj),us.length=ps.length->bindArgs (PySem.W.fnOf x qual (Zeq st) (Zco st) (ZZ st) .none kV doc pm an cdv ct) ⟨us,[]⟩=pure (ps.zip us)):Binds K fd ps []:=by
 obtain⟨oc,od,kV,doc,pm,an,cdv,ct,osl,rfl,lk,hcd⟩:=F.ex;exact .all (h kV doc pm an cdv ct)
def Zpw{x qual:Str}{st:Stmt}{f:Yi}{oc:Yj}{od an:Option Yi}{osl:Array (Option Yj)}{kV doc pm cdv ct:Yj}(l:K.lookup f=Ws ⟨oc,od,.func (PySem.W.fnOf x qual (Zeq st) (Zco st) (ZZ st) .none kV doc pm an cdv ct),osl⟩)
 (c:PySem.W.codeIn K cdv qual=Wv) (k:We K (.ref f)=Wv):Fun K x qual st f (PySem.W.fnOf x qual (Zeq st) (Zco st) (ZZ st) .none kV doc pm an cdv ct):=⟨⟨oc,od,kV,doc,pm,an,cdv,ct,osl,rfl,l,c⟩,k⟩
end
def Zj6{A B_:Prop}(h:B_):if Ww=Wv then A else B_:=by rw[if_neg Ow];exact h
def Zj5{A B_:Prop}(h:A):if Wv=Wv then A else B_:=by rw[if_pos rfl];exact h
set_option tactic.hygienic false
section
variable {κ:Type} [DecidableEq κ]
noncomputable def Ze2(kvs:List (κ×V))(k:κ):Option V:=(kvs.find? λkv=>Wx (kv.1=k)).map (·.2)
noncomputable def putK(kvs:List (κ×V))(k:κ)(v:V):List (κ×V):=if (kvs.any λkv=>Wx (kv.1=k))=Wv then kvs.map (λkv=>if kv.1=k then(kv.1,v)else kv)else kvs++[(k,v)]
def ZnZ{p:κ×V}{r:List (κ×V)}{k:κ}(e:p.1=k):Ze2 (p::r) k=Ws p.2:=by simp[Ze2,Wq,e]
def Zn0{p:κ×V}{r:List (κ×V)}{k:κ}(e:¬ p.1=k):Ze2 (p::r) k=Ze2 r k:=by simp[Ze2,Wq,e]
def Zgf(kvs:List (κ×V))(k:κ)(v:V):(putK kvs k v).length<=kvs.length+1:=by
 unfold putK;split
 . rw[Yt];lia
 . rw[OA,Os,List.length_nil];lia
def ZfJ.isSome_eq{o:Option V}{u:Option Yj}(r:ZfJ o u):o.isSome=u.isSome:=by
 cases o with
 |none=>cases u with
  |none=>rfl
  |some _=>exact(show False from r).elim
 |some _=>cases u with
  |none=>exact(show False from r).elim
  |some _=>rfl
def KV.val{kvs:List (κ×V)}{vs:List (κ×Yj)}(r:KV kvs vs)(k:κ):ZfJ (Ze2 kvs k) (valueAt vs k):=by
 unfold KV at r;induction r with
 |nil=>exact True.intro
 |@cons p q ps qs h t ih=>
  obtain⟨h1,h2⟩:=h;by_cases e:p.1=k
  . have e':q.1=k:=h1.symm.trans e;have b:valueAt (q::qs) k=Ws q.2:=by simp[valueAt,Wq,e']
    rw[ZnZ e,b];exact h2
  . have e':¬ q.1=k:=λz=>e (h1.trans z);have b:valueAt (q::qs) k=valueAt qs k:=by simp[valueAt,Wq,e']
    rw[Zn0 e,b];exact ih
theorem KV.any{kvs:List (κ×V)}{vs:List (κ×Yj)}(r:KV kvs vs)(k:κ):(kvs.any λkv=>Wx (kv.1=k))=vs.any λkv=>Wx (kv.1=k):=by
 unfold KV at r;induction r with
 |nil=>rfl
 |cons h t ih=>rw[Wc,Wc,ih,h.1]
def KV.repl{kvs:List (κ×V)}{vs:List (κ×Yj)}(r:KV kvs vs)(k:κ){y:V}{u:Yj}(ry:RelV y u):
 KV (kvs.map λkv=>if kv.1=k then(kv.1,y)else kv) (vs.map λkv=>if kv.1=k then(kv.1,u)else kv):=by
 unfold KV at r ⊢;induction r with
 |nil=>exact .nil
 |@cons p q ps qs h t ih=>
  rw[Op,Op];refine .cons ?_ ih;obtain⟨h1,h2⟩:=h;by_cases e:p.1=k
  . rw[if_pos e,if_pos (h1.symm.trans e)];exact⟨h1,ry⟩
  . rw[if_neg e,if_neg (λz=>e (h1.trans z))];exact⟨h1,h2⟩
def KV.put{kvs:List (κ×V)}{vs:List (κ×Yj)}(r:KV kvs vs)(k:κ){y:V}{u:Yj}(ry:RelV y u):KV (putK kvs k y) (stored vs k u):=by
 unfold putK stored;rw[r.any k];by_cases e:(vs.any λkv=>Wx (kv.1=k))=Wv
 . rw[if_pos e,if_pos e];exact r.repl k ry
 . rw[if_neg e,if_neg e];exact Paired.snoc r ⟨rfl,ry⟩
theorem KV.length(r:KV kvs vs):kvs.length=vs.length:=Paired.length r
end
def Zj3(r:RelV (kV k) u):(ZX P w).is k u=Wv:=by
 cases k with
 |inl i=>obtain⟨t,e⟩:=(show ∃t,u=Value.int i t from r);subst e;exact ZjX P w i t
 |inr x=>obtain⟨t,e⟩:=(show ∃t,u=Value.str x t from r);subst e;exact ZjW P w x t
section
variable {P:Yh}{w:Yg}{H:Hp}{h:YG}{a:Yi}
def Zvi(ok:HOk P w H h)(e:Rd H a u):Zar P w H h a u:=e.ok ok
def Zsw(ok:HOk P w H h)(e:Rd H a (.dK kvs)):kvs.length<=sizeLine/\(a==Ye)=Ww/\∃vs,KV kvs vs/\h.DictOf (ZX P w) a vs:=show Zar P w H h a (.dK kvs)from Zvi ok e
def Zsx(ok:HOk P w H h)(e:H a=Ws (.dK kvs)):kvs.length<=sizeLine/\(a==Ye)=Ww/\∃vs,KV kvs vs/\h.DictOf (ZX P w) a vs:=Zsw ok (.inl e)
end
section
variable {X:Cx}{pins:List (Yi×Obj)}{Z:St}{H:Hp}{s:Yb}{a:Yi}{y v:V}{u r:Yj}{o:Option V}{A:YH}{E:Yj->Yb->Prop}
def Inv.big(I:Inv X pins Z H s):Ye<s.heap.objs.size:=by have h:Yd<s.heap.objs.size:=(I.mod.glob.keeps I.bk).lt;exact Nat.lt_trans (by decide) h
def ZmB(I:Inv X pins Z H s)(mu:Mut (H a))(hs:Heap.SameBut a s.heap h')(he:∃q,h'.get? a=Ws q)(new:Zar X.prog X.w (upd H a ob) h' a ob):
 Inv X pins Z (upd H a ob) {s with heap:=h',toks:=t'}:=
 I.write (x:=a) (e:=a) mu (.inl rfl) (λb q hb z=>(hs.2 b hb).trans z) he new
def ZpL(z:kvs.length<=sizeLine)(hd:(a==Ye)=Ww)(rel:KV kvs vs)(dd:h'.DictOf (ZX P w) a vs):
 Zar P w H' h' a (.dK kvs):=⟨z,hd,vs,rel,dd⟩
end
def Zkj(h:YG)(hb:Ye<h.objs.size):Zar P w H (h.push {cls:=.type "dict",data:=.dict #[]}) h.objs.size (.dK []):=⟨Yw _,beq_eq_false_iff_ne.mpr (YL (Ou hb)),[],.nil,Heap.DictOf.new h⟩
noncomputable def ZsV:TE:=λ_ H Q=>∀p,H p=Wu->Q (.ref p) (upd H p (.dK []))
section
variable {X:Cx}{pos:Pos}
def ZoX:PE X (.Dict [] [] pos) ZsV:=λpins s Z H Q I h=>wpAny_Dict_empty ⟨.ref s.heap.objs.size,_,I.laid (a:=s.heap.objs.size) (o:=.dK []) (t':=s.toks) (λ_ _ q=>Od _ q) (Oq _) (Zkj s.heap I.big),rfl,h _ (I.hok.fresh (Oq _))⟩
end
def ZiE:List (TE×TE)->St->Hp->(List (V×V)->Hp->Prop)->Prop
 |[],_,H,Q=>Q [] H
 |(tk,tv)::r,Z,H,Q=>tk Z H λx H1=>tv Z H1 λy H2=>ZiE r Z H2 λps H3=>Q ((x,y)::ps) H3
abbrev VV:List (V×V)->List (Yj×Yj)->Prop:=Paired λp q=>RelV p.1 q.1/\RelV p.2 q.2
def PPs(X:Cx)(pos:Pos)(keys:List (Option Expr))(values:List Expr)(trs:List (TE×TE)):Prop:=
 ∀(pins:List (Yi×Obj)) (s:Yb) (Z:St) (H:Hp) (Q:List (V×V)->Hp->Prop),Inv X pins Z H s->ZiE trs Z H Q ->
  YB (model X.prog X.w) X.A (evalPairs (pairTrees keys values X.env pos)) (λvs s'=>∃ps H',Inv X pins Z H' s'/\VV ps vs/\Q ps H') X.xe s
def ZqI:PPs X pos [] [] []:=λpins s Z H Q I h=>pairTrees_nil_walk ⟨[],H,I,.nil,h⟩
def ZoO(hk:PE X k tk)(hv:PE X v tv)(hr:PPs X pos ks vs trs):
 PPs X pos (Ws k::ks) (v::vs) ((tk,tv)::trs):=λpins s Z H Q I h=>
 pairTrees_cons_walk (thn (hk pins s Z H _ I h) λu s1 ⟨x,H1,I1,rx,q1⟩=>thn (hv pins s1 Z H1 _ I1 q1) λw2 s2 ⟨y,H2,I2,ry,q2⟩=>thn (hr pins s2 Z H2 _ I2 q2) λws s3 ⟨ps,H3,I3,rel,q3⟩=>⟨(x,y)::ps,H3,I3,.cons ⟨rx,ry⟩ rel,q3⟩)
noncomputable def ZfU(kvs more:List (Key×V)):List (Key×V):=more.foldl (λacc kv=>putK acc kv.1 kv.2) kvs
def KV.merge:∀{more:List (Key×V)}{rs:List (Key×Yj)}{kvs:List (Key×V)}{vs:List (Key×Yj)},KV more rs->KV kvs vs->KV (ZfU kvs more) (merged vs rs):=by
 intro more rs kvs vs r;unfold KV at r;induction r generalizing kvs vs with
 |nil=>intro q;exact q
 |@cons p q ps qs h t ih=>
  intro r0;have e:KV (putK kvs p.1 p.2) (stored vs q.1 q.2):=by have:=r0.put p.1 h.2;rw[<- h.1];exact this
  exact ih e
theorem ZeE:∀(more kvs:List (Key×V)),(ZfU kvs more).length<=kvs.length+more.length
 |[],kvs=>by show kvs.length<=kvs.length+0;lia
 |p::r,kvs=>by have h1:=ZeE r (putK kvs p.1 p.2);have h2:=Zgf kvs p.1 p.2;show(ZfU (putK kvs p.1 p.2) r).length<=_;rw[Os];lia
theorem ZhB:∀{kvs:List (Key×V)}{ws:List (Yj×Yj)},VV (kvs.map λkv=>(kV kv.1,kv.2)) ws->∃rs,Carries (ZX P w) ws rs/\KV kvs rs
 |[],_,r=>by rw[Oy]at r;cases r;exact⟨[],True.intro,.nil⟩
 |p::kvs,_,r=>by
  rw[Op]at r;cases r with
  |@cons a b as bs h t=>obtain⟨rs,c,q⟩:=ZhB (P:=P) (w:=w) t;obtain⟨b1,b2⟩:=b;exact⟨(p.1,b2)::rs,⟨Zj3 h.1,rfl,c⟩,.cons ⟨rfl,h.2⟩ q⟩
noncomputable def Zu6(trs:List (TE×TE)):TE:=λZ H Q=>∀p,H p=Wu->ZiE trs Z (upd H p (.dK [])) λps H2=>H2 p=Ws (.dK [])/\∃kvs:List (Key×V),ps=kvs.map (λkv=>(kV kv.1,kv.2))/\kvs.length<=15/\Q (.ref p) (upd H2 p (.dK (ZfU [] kvs)))
def ZqT(h:PPs X pos keys values trs)(hall:keys.all (·.isSome)=Wv)(hl:keys.length=values.length)(h0:keys≠[])
 (h15:keys.length<=15):PE X (.Dict keys values pos) (Zu6 trs):=by
 intro pins s Z H Q I q;have hn:=I.hok.fresh (Oq s.heap.objs.size);have I1:=I.laid (a:=s.heap.objs.size) (o:=.dK []) (h':=s.heap.push {cls:=.type "dict",data:=.dict #[]}) (t':=s.toks) (λ_ _ q=>Od _ q) (Oq _) (Zkj s.heap I.big);refine wpAny_Dict_walk (knd:=ZX X.prog X.w) hall hl h0 h15 (thn (h pins _ Z _ _ I1 (q _ hn)) λws s2 ⟨ps,H2,I2,rel,e,kvs,ep,lk,q2⟩=>?_);subst ep;obtain⟨rs,c,rk⟩:=ZhB (P:=X.prog) (w:=X.w) rel;obtain⟨z,hd,vs0,r0,dd⟩:=Zsx I2.hok e;cases r0;refine⟨rs,c,dd,λh' dd' hs=>⟨.ref s.heap.objs.size,_,?_,rfl,q2⟩⟩;have hz:(ZfU [] kvs).length<=sizeLine:=by have h1:=ZeE kvs [];rw[List.length_nil]at h1;rw[YC];lia
 have he:∃q,h'.get? s.heap.objs.size=Ws q:=let ⟨q,_,_,hq,_⟩:=dd';⟨q,hq⟩;exact ZmB I2 (by rw[e];exact True.intro) hs he (ZpL hz hd (rk.merge .nil) dd')
set_option tactic.hygienic true
theorem ZdN{env:Env}:∀(names:List (Str×NameKind)) (x:Str),
 (names.map λ(n,k)=>if (k==Yn&&env.scope.kind==.function&&env.kindOf n==Ws .cell)then(n,NameKind.cell)else(n,k)).lookup x =
  (names.lookup x).map λk=>if (k==Yn&&env.scope.kind==.function&&env.kindOf x==Ws .cell)then NameKind.cell else k
 |[],_=>rfl
 |(n,k)::r,x=>by
  have ih:=@ZdN env r x;show Wi x ((if (k==Yn&&env.scope.kind==.function&&env.kindOf n==Ws .cell)=Wv then(n,NameKind.cell)else(n,k))::_)=_;cases hx:x==n with
  |true=>
   have e:x=n:=by simpa using hx
   subst e;by_cases hc:(k==Yn&&env.scope.kind==.function&&env.kindOf x==Ws .cell)=Wv
   . rw[if_pos hc];simp only[OF,hx,Yu,if_pos hc]
   . rw[if_neg hc];simp only[OF,hx,Yu,if_neg hc]
  |false=>
   by_cases hc:(k==Yn&&env.scope.kind==.function&&env.kindOf n==Ws .cell)=Wv
   . rw[if_pos hc];simp only[OF,hx];exact ih
   . rw[if_neg hc];simp only[OF,hx];exact ih
noncomputable def ZdV(env:Env):List (Str×NameKind)->List (Str×Yi)->List (Str×Yi)
 |[],cs=>cs
 |(n,k)::r,cs=>ZdV env r (if (k==.free)=Wv then(n,(env.cells.lookup n).getD 0)::cs else cs)
theorem Zkp{env:Env}:∀(l:List (Str×NameKind)) (cs:List (Str×Yi)),(∀y∈l,y.2=.free->∃c,env.cells.lookup y.1=Ws c) ->
 (∀x c,(x,c)∈cs->env.cells.lookup x=Ws c)->∀x c,(x,c)∈ZdV env l cs->env.cells.lookup x=Ws c
 |[],cs,_,h2,x,c,hm=>h2 x c hm
 |(n,k)::r,cs,h1,h2,x,c,hm=>by
  refine Zkp r _ (λy hy=>h1 y (Oh _ hy)) (λx c hm=>?_) x c hm;by_cases hk:(k==Yn)=Wv
  . rw[if_pos hk]at hm;rcases O3.mp hm with e|hm
    . cases e;have hk':k=.free:=by cases k<;>first|rfl|(exact absurd hk (by decide))
      obtain⟨c,e⟩:=h1 (n,k) Oi hk';rw[e];rfl
    . exact h2 x c hm
  . rw[if_neg hk]at hm;exact h2 x c hm
theorem Zip:∀(l:List (Str×NameKind)) (cs:List (Str×Yi)) (p:Str×Yi),p∈cs->p∈ZdV env l cs
 |[],_,_,h=>h
 |(n,k)::r,cs,p,h=>by
  refine Zip r _ p ?_;by_cases hk:(k==Yn)=Wv
  . rw[if_pos hk];exact Oh _ h
  . rw[if_neg hk];exact h
theorem Zkq:∀(l:List (Str×NameKind)) (cs:List (Str×Yi)) (y:Str×NameKind),y∈l->y.2=.free->∃c,(y.1,c)∈ZdV env l cs
 |(n,k)::r,cs,y,h,hf=>by
  rcases O3.mp h with e|h
  . subst e;refine⟨(env.cells.lookup n).getD 0,Zip r _ _ ?_⟩;have hk:(k==Yn)=Wv:=by have:k=.free:=hf;subst this;rfl
    rw[if_pos hk];exact Oi
  . exact Zkq r _ y h hf
theorem ZeD:∀{l:List (Str×α)}{x:Str}{c:α},(x,c)∈l->∃c',l.lookup x=Ws c'/\(x,c')∈l
 |(n,d)::r,x,c,h=>by
  cases hx:x==n with
  |true=>
   have e:x=n:=by simpa using hx
   subst e;exact⟨d,by simp[OF],Oi⟩
  |false=>
   rcases O3.mp h with e|h
   . cases e;simp at hx
   . obtain⟨c',h1,h2⟩:=ZeD h;exact⟨c',by simp only[OF,hx];exact h1,Oh _ h2⟩
def ZeL(h:∀y∈scope.names,y.2=.free->∃c,env.cells.lookup y.1=Ws c):closureFor scope env=pure (ZdV env scope.names []):=by
 have all:∀(l:List (Str×NameKind)) (cs:List (Str×Yi)),(∀y∈l,y.2=.free->∃c,env.cells.lookup y.1=Ws c) ->
  (forIn l cs λ(x:Str×NameKind) r=>match x with|(name,kind)=>if (kind==Yn)=Wv then(do let a <- cellOf env name;pure (ForInStep.yield ((name,a)::r)))else pure (ForInStep.yield r):Sem (List (Str×Yi)))=pure (ZdV env l cs):=by
  intro l;induction l with
  |nil=>intro cs _;rfl
  |cons y r ih=>
   intro cs hl;obtain⟨n,k⟩:=y;rw[List.forIn_cons];have hr:=λcs=>ih cs λy hy=>hl y (Oh _ hy);by_cases hk:(k==Yn)=Wv
   . have hk':k=.free:=by cases k<;>first|rfl|(exact absurd hk (by decide))
     obtain⟨c,e⟩:=hl (n,k) Oi hk';have ec:cellOf env n=pure c:=by unfold cellOf;rw[e]
     simp only[hk,if_true,ec];show(forIn r ((n,c)::cs) _:Sem _)=_;rw[hr];show _=pure (ZdV env r (if (k==Yn)=Wv then(n,(env.cells.lookup n).getD 0)::cs else cs));rw[if_pos hk,e];rfl
   . simp only[hk];show(forIn r cs _:Sem _)=_;rw[hr];show _=pure (ZdV env r (if (k==Yn)=Wv then(n,(env.cells.lookup n).getD 0)::cs else cs));rw[if_neg hk]
 unfold closureFor;have z:=all scope.names [] h;dsimp only at z ⊢;rw[z];rfl
set_option tactic.hygienic false
def Zkm(I:Nat->Yb->Prop)
 (turn:∀n s,I n s->YB (model prog w) A (pyNext it) (λr s₁=>match r with
  |none=>R (.ok .next) s₁
  |some v=>YB (model prog w) A (letOwnedTupleGo target it v) (λ_ s₁'=>YB (model prog w) A (assign target env v) (λ_ s₂=>
   YB (model prog w) A (forIn ifs Wv λc r=>if r=Wv then do let ok <- isTrue c env (eval c env);pure (ForInStep.yield ok)else pure (ForInStep.yield r)) (λok s₃=>
    if ok=Wv then YB (model prog w) A (eval elt env) (λx s₄=>YB (model prog w) A (call (.builtin "list.append") [acc,x]) (λ_ s₅=>∃m,m<n/\I m s₅) (notedBy (model prog w) A env λe s'=>R (.error e) s') s₄) (notedBy (model prog w) A env λe s'=>R (.error e) s') s₃
    else ∃m,m<n/\I m s₃) (notedBy (model prog w) A env λe s'=>R (.error e) s') s₂) (notedBy (model prog w) A env λe s'=>R (.error e) s') s₁') (notedBy (model prog w) A env λe s'=>R (.error e) s') s₁) (notedBy (model prog w) A env λe s'=>R (.error e) s') s)
 (n:Nat) (h:I n s) :
 codeAny (model prog w) A (.compLoop (.ListComp elt [⟨target,iter,ifs,0⟩] scope pos) 0 it acc env) R s:=by
 refine codeAny_loop rfl I (λn s hI=>?_) n h;show YB _ A ((compTurn (.ListComp elt [⟨target,iter,ifs,0⟩] scope pos) 0 it acc env).onRaise (λx=>do noteFrame x env;theTreesLotGoes x)) _ _ s;refine wpAny_noted ?_;rw[compTurn_list];refine Ya (wpAny_standAt (Ya (Yf (turn n s hI) (λr s₁ h₁=>?_) λ_ _ h'=>h')));cases r with
 |none=>exact Yc h₁
 |some v=>
  refine Ya (Yf h₁ (λ_ s₁' h₁'=>?_) λ_ _ h'=>h');refine Ya (Yf h₁' (λ_ s₂ h₂=>Ya (Yf h₂ (λok s₃ h₃=>?_) λ_ _ h'=>h')) λ_ _ h'=>h');cases ok with
  |false=>exact Yc ⟨rfl,h₃⟩
  |true=>exact Ya (Ya (Yf h₃ (λx s₄ h₄=>Ya (Yf h₄ (λ_ s₅ h₅=>Yc (Yc ⟨rfl,h₅⟩)) λ_ _ h'=>h')) λ_ _ h'=>h'))
structure CompSc(NC N:List Str)(js:List (Option Nat))(sc scope:Scope):Prop where
 kind:scope.kind=.function
 dkind:sc.kind=.function
 nocell:∀y∈scope.names,y.2≠.cell
 locs:∀y∈scope.names,y.2=.local->scope.names.lookup y.1=Ws .local
 free:∀y∈scope.names,y.2=.free->sc.names.lookup y.1=Ws .cell
 nd:NC.Nodup
 len:js.length=NC.length
 jok:((NC.zip js).all λp=>p.2.all λj=>Wx (N[j]? = Ws p.1)&&Wx (scope.names.lookup p.1=Ws .free))=Wv
theorem CompSc.at{NC N:List Str}{js:List (Option Nat)}(S_:CompSc NC N js sc scope){i j:Nat}{x:Str}(h1:NC[i]? = Ws x)(h2:js[i]? = Ws (Ws j)):N[j]? = Ws x/\scope.names.lookup x=Ws .free:=by
 have h:=S_.jok;rw[OC]at h;have hm:(x,Ws j)∈NC.zip js:=by refine O1 (i:=i) ?_;rw[List.getElem?_zip_eq_some];exact⟨h1,h2⟩
 have q:=h _ hm;simp only[Option.all_some,Oa,decide_eq_true_eq]at q;exact q
noncomputable def capt(js:List (Option Nat))(Z:St):St:=js.map λo=>o.bind λj=>(Z[j]?).join
def xeC(X:Cx)(scope:Scope)(C:Yi):Yj->Yb->Prop:=notedBy (model X.prog X.w) X.A (compEnvC scope (ZdV X.env scope.names []) C X.env) λe s'=>∃m,s'.heap.Ns C m/\∀h',Heap.SameBut C s'.heap h'->∀cenv:Env,cenv.locals=C->YB (model X.prog X.w) X.A (passOn "comprehension.variables-let-go" e cenv:Sem Yj) (λ_ _=>False) X.xe {s' with heap:=h'}
noncomputable def ZD(X:Cx)(NC:List Str)(scope:Scope)(C:Yi)(s3:Yb)(H3:Hp)(fp:List Yi):Cx:={X with N:=NC,s₀:=s3,H₀:=H3,env:=compEnvC scope (ZdV X.env scope.names []) C X.env,outer:=X.stack,stack:=X.stack,ex:=fp,fn:=λ_=>Ww,calm:=true,pn:=[],xe:=xeC X scope C}
def ZnL(k:Nat)(g:TG):Prop:=∀x Z H Q,g x Z H Q->g x Z H λσ2 H2=>Q σ2 H2/\σ2.length=Z.length/\∀j,k<=j->σ2[j]? = Z[j]?
def ZkE(k:Nat)(g:TGs):Prop:=∀x Z H Q,g x Z H Q->g x Z H λσ2 H2=>Q σ2 H2/\σ2.length=Z.length/\∀j,k<=j->σ2[j]? = Z[j]?
def Zqj(h:i<k):ZnL k (Zdn i):=λx Z H Q q=>⟨q,List.length_set,λj hj=>by rw[Oc (by lia)]⟩
def ZlO:ZkE k ZrC:=λx Z H Q q=>⟨q.1,q.2,rfl,λ_ _=>rfl⟩
def ZgS(h:i<k)(hu:ZkE k u):ZkE k (Zka (Zdn i) u):=by
 rintro xs Z H Q ⟨v,r,e,q⟩;refine⟨v,r,e,?_⟩;have z:=hu r (Z.set i (Ws v)) H Q q;have z2:=hu r (Z.set i (Ws v)) H (λσ2 H2=>Q σ2 H2/\σ2.length=(Z.set i (Ws v)).length/\∀j,k<=j->σ2[j]? = (Z.set i (Ws v))[j]?) z;show u r (Z.set i (Ws v)) H _;have e1:(Z.set i (Ws v)).length=Z.length:=List.length_set;have e2:∀j,k<=j->(Z.set i (Ws v))[j]? = Z[j]? := λj hj=>Oc (by lia);have e3:(λσ2 H2=>Q σ2 H2/\σ2.length=Z.length/\∀j,k<=j->σ2[j]? = Z[j]?)=(λσ2 H2=>Q σ2 H2/\σ2.length=(Z.set i (Ws v)).length/\∀j,k<=j->σ2[j]? = (Z.set i (Ws v))[j]?):=by funext σ2 H2;rw[e1];refine propext ⟨λ⟨a,b,c⟩=>⟨a,b,λj hj=>(c j hj).trans (e2 j hj).symm⟩,λ⟨a,b,c⟩=>⟨a,b,λj hj=>(c j hj).trans (e2 j hj)⟩⟩
 rw[e3];exact z
def Zoa{K:Yk}(hu:ZkE k u):ZnL k (ZrB K n u):=by rintro x Z H Q ⟨a,xs,e,h1,h2,q⟩;exact⟨a,xs,e,h1,h2,hu xs Z H Q q⟩
def PIf(X:Cx)(ifs:List Expr)(t:TT):Prop:=
 ∀(pins:List (Yi×Obj)) (s:Yb) (Z:St) (H:Hp) (Q:Bool->Hp->Prop),Inv X pins Z H s->t Z H Q ->
  YB (model X.prog X.w) X.A (forIn ifs Wv λc r=>if r=Wv then do let ok <- isTrue c X.env (eval c X.env);pure (ForInStep.yield ok)else pure (ForInStep.yield r)) (TP X pins Z Q) X.xe s
noncomputable def ZwT:TT:=λ_ H Q=>Q Wv H
def ZqM{X:Cx}:PIf X [] ZwT:=λ_ _ _ H _ I h=>wpAny_tests_nil ⟨H,I,h⟩
def ZqL{X:Cx}{c:Expr}{t:TT}(hc:PT X c t):PIf X [c] t:=λpins s Z H Q I h=>wpAny_tests_one (hc pins s Z H Q I h)
noncomputable def Zsi(wi:TI)(js:List (Option Nat))(g:TG)(tc:TT)(te:TE):TE:=λZ H Q=>wi Z H λJ H1=>∀D,H1 D=Wu->∃W:Nat->Nat->List V->Hp->Prop,(∃m,W 0 m [] (upd H1 D (.lst []))) /\
 ∀i m ys H,W i m ys H->H D=Ws (.lst ys)->(J.stop i H/\Q (.ref D) H) \/
  (J.go i H/\ys.length<sizeLine/\∀x H',J.yld i H x H'->g x (capt js Z) H' λσ2 H2=>tc σ2 H2 λb H3=>
   if b=Wv then te σ2 H3 λy H4=>H4 D=Ws (.lst ys)/\∃m',m'<m/\W (i+1) m' (ys++[y]) (upd H4 D (.lst (ys++[y])))
   else H3 D=Ws (.lst ys)/\∃m',m'<m/\W (i+1) m' ys H3)
section
variable {X:Cx}{pins:List (Yi×Obj)}{Z:St}{H:Hp}{s:Yb}
def Zj7{NC:List Str}{js:List (Option Nat)}{sc scope:Scope}{C:Yi}{h4:YG}{tk:Nat}{fp:List Yi}{m:Str->Option Yj}(S_:CompSc NC X.N js sc scope)(hsc:X.env.scope=sc)(hc:X.calm=Wv)
 (I:Inv X pins Z H s) (f:∀b∈fp,Zb5 X pins H b) (fo:∀b∈fp,∃o,s.heap.get? b=Ws o) (hC:C=s.heap.objs.size) (hns:h4.Ns C m) (hk:∀b o,s.heap.get? b=Ws o->h4.get? b=Ws o) :
 Inv (ZD X NC scope C s H fp) [] (capt js Z) H {s with heap:=h4,toks:=tk}:=by
 have hcells:∀y∈scope.names,y.2=.free->∃c,X.env.cells.lookup y.1=Ws c:=λy hy hf=>I.ok.has y.1 (.inl (show X.env.scope.names.lookup y.1=Ws .cell by rw[hsc];exact S_.free y hy hf));have cl1:∀x c,(ZdV X.env scope.names []).lookup x=Ws c->X.env.cells.lookup x=Ws c:=λx c e=>Zkp scope.names [] hcells (λ_ _ z=>by cases z) x c (YI e);have cl2:∀y∈scope.names,y.2=.free->∃c,(ZdV X.env scope.names []).lookup y.1=Ws c:=λy hy hf=>by obtain⟨c,hm⟩:=Zkq (env:=X.env) scope.names [] y hy hf;obtain⟨c',e,_⟩:=ZeD hm;exact⟨c',e⟩
 have kinds:∀x,(ZD X NC scope C s H fp).env.kindOf x=(scope.names.lookup x).map λk=>if (k==Yn&&X.env.scope.kind==.function&&X.env.kindOf x==Ws .cell)then NameKind.cell else k:=λx=>ZdN scope.names x;have fcell:∀x,scope.names.lookup x=Ws .free->(ZD X NC scope C s H fp).env.kindOf x=Ws .cell:=λx e=>by
  rw[kinds,e];have h1:X.env.kindOf x=Ws .cell:=show X.env.scope.names.lookup x=Ws .cell by rw[hsc];exact S_.free (x,.free) (YI e) rfl
  have h2:X.env.scope.kind=.function:=I.ok.kind;simp only[Yu,h1,h2];rfl
 have flt:∀b∈fp,b<s.heap.objs.size:=λb hb=>let ⟨o,e⟩:=fo b hb;Ym e;refine⟨⟨I.ok.mod,S_.kind,I.ok.glob,I.ok.blt,Nat.le_of_eq hC.symm,λx y c h1 h2=>I.ok.inj x y c (cl1 x c h1) (cl1 y c h2),λx hx=>?_,λx c hf _=>absurd (show Ww=Wv from hf) Ow,λ_=>I.ok.hd hc,I.ok.frames,.inl rfl,λb hb=>⟨?_,λx c e=>(f b hb).2.2.2.2.1 x c (cl1 x c e)⟩,
  I.bs,OE I.ok.bsz I.sz,λb o e hb=>?_,λb hb hm=>?_,I.stack,I.stkFree⟩,
  rfl,I.bare,Un.kept hk,⟨m,hns,λi x v h1 h2 h3=>?_⟩,λx c e=>?_,?_,λx c e=>I.freeC x c (cl1 x c e),λp hp=>absurd (show p∈([]:List (Yi×Obj))from hp) (by simp),I.hok.kept hk,?_⟩
 . rw[kinds]at hx;cases e:scope.names.lookup x with
   |none=>rw[e]at hx;rcases hx with hx|hx<;>cases hx
   |some k=>
    rw[e]at hx;have hm:=YI e;have hk:k=.free:=by
     by_cases hf:(k==Yn)=Wv
     . cases k<;>first|rfl|(exact absurd hf (by decide))
     . have hf':(k==Yn)=Ww:=Bool.eq_false_iff.mpr hf;simp only[Yu,hf',Bool.false_and,OG,if_false]at hx;rcases hx with hx|hx
       . exact absurd (YF hx) (S_.nocell _ hm)
       . exact YF hx
    exact cl2 (x,k) hm hk
 . show b≠C;rw[hC];exact Ou (flt b hb)
 . obtain⟨_,_,_,f3,_⟩:=f b hb;rcases f3 with z|z
   . exact I.ok.noex b o e z
   . exact absurd (Ot (Ym e) (OE I.ok.bsz z)) (Yv _)
 . obtain⟨_,f1,f2,_⟩:=f b hb;exact(O3.mp (I.stkSub b hm)).elim f1 f2
 . have hj:∃j,js[i]? = Ws (Ws j)/\Z[j]? = Ws (Ws v):=by
    unfold capt at h2;rw[O2]at h2;cases e:js[i]? with
    |none=>rw[e]at h2;cases h2
    |some o=>
     rw[e]at h2;have h2':(o.bind λj=>(Z[j]?).join)=Ws v:=YF h2;cases o with
     |none=>cases h2'
     |some j=>
      refine⟨j,rfl,?_⟩;have h3':(Z[j]?).join=Ws v:=h2';cases q:Z[j]? with
      |none=>rw[q]at h3';cases h3'
      |some r=>rw[q]at h3';rw[show r=Ws v from h3']
   obtain⟨j,hj,hσ⟩:=hj;obtain⟨hN,hfr⟩:=S_.at (show NC[i]? = Ws x from h1) hj;have hcell:X.env.scope.names.lookup x=Ws .cell:=by rw[hsc];exact S_.free (x,.free) (YI hfr) rfl
   obtain⟨m0,_,hl⟩:=I.loc;obtain⟨u,r,l⟩:=hl j x v hN hσ (.inr (.inl hcell));refine⟨u,r,?_⟩;rcases l with ⟨k,_⟩|⟨_,c,e,z⟩
   . rw[show X.env.kindOf x=Ws .cell from hcell]at k;cases k
   . obtain⟨c',e'⟩:=cl2 (x,.free) (YI hfr) rfl;have ec:=cl1 x c' e';rw[e]at ec;cases ec;obtain⟨o,ho,hd⟩:=z;exact .inr ⟨.inl (fcell x hfr),c,e',o,hk _ _ ho,hd⟩
 . obtain⟨v,o,ho,hd⟩:=I.cell x c (cl1 x c e);exact⟨v,o,hk _ _ ho,hd⟩
 . show H C=Wu;rw[hC];exact I.hok.fresh (Oq _)
 . unfold capt;rw[Yt];exact S_.len
end
section
variable {X:Cx}{elt tg iter:Expr}{ifs:List Expr}{scope sc:Scope}{pos:Pos}{NC:List Str}{js:List (Option Nat)}{k:Nat}{wi:TI}{g:TG}{tc:TT}{te:TE}
def Inv.comp_out{pins:List (Yi×Obj)}{Z σ':St}{H3 H':Hp}{s3 s1:Yb}{C:Yi}{fp:List Yi}{h'':YG}(I3:Inv X pins Z H3 s3)(f:∀b∈fp,Zb5 X pins H3 b)(hC:C=s3.heap.objs.size)
 (I':Inv (ZD X NC scope C s3 H3 fp) [] σ' H' s1) (hs:Heap.SameBut C s1.heap h''):Inv X pins Z H' {s1 with heap:=h''}:=by
 have ne:∀b o,s3.heap.get? b=Ws o->b≠C:=λb o e=>by rw[hC];exact Ou (Ym e)
 have u:=I'.base;refine I3.call' (s':={s1 with heap:=h''}) (ch:=fp) I'.os ⟨λb o e n hb hx=>(hs.2 b (ne b o e)).trans (u.keep b o e n hb hx),λb o e n hb hx=>?_,u.free,λb o e hx=>?_,u.tups,u.frzs,u.tbls⟩ ?_ I'.bare λb hb=>?_
 . obtain⟨sl,q⟩:=u.slot b o e n hb hx;exact⟨sl,(hs.2 b (ne b o e)).trans q⟩
 . obtain⟨o',q⟩:=u.there b o e hx;exact⟨o',(hs.2 b (ne b o e)).trans q⟩
 . have hfree:H' C=Wu:=I'.free;intro b ob e;refine(I'.hok b ob e).stay (λc w' hc q=>(hs.2 c ?_).trans q) (λ_ q=>q) λ_ _ q=>q;rintro rfl;rcases hc with rfl|hc
   . rw[hfree]at e;cases e
   . rw[hfree]at hc;cases hc
 . obtain⟨_,f1,_,f3,f4,f5⟩:=f b hb;exact⟨f3,f1,f4,f5⟩
def Zio{pins:List (Yi×Obj)}{Z:St}{H3:Hp}{s3 s4:Yb}{C Dd it:Yi}{fp:List Yi}{tn:Nat->YG->Prop}{J:It}{W:Nat->Nat->List V->Hp->Prop}{Q:VK}{m0:Nat}{post:Result->Yb->Prop}
 (hb:∀(pins:List (Yi×Obj)) (Z:St) (C:Yi) (s3:Yb) (H3:Hp) (fp:List Yi),Inv X pins Z H3 s3->(∀b∈fp,Zb5 X pins H3 b)->C=s3.heap.objs.size->PG (ZD X NC scope C s3 H3 fp) tg g/\PIf (ZD X NC scope C s3 H3 fp) ifs tc/\PE (ZD X NC scope C s3 H3 fp) elt te)
 (hk:ZnL k g) (hjk:∀j,j<k->js[j]? = Ws Wu) (hC:C=s3.heap.objs.size) (I3:Inv X pins Z H3 s3) (f3:∀b∈fp,Zb5 X pins H3 b) (fpl:∀b∈fp,∃o,s3.heap.get? b=Ws o) (I4:Inv (ZD X NC scope C s3 H3 fp) [] (capt js Z) H3 s4) (T:Turn X.prog X.w X.K tg J fp it tn) (st4:tn 0 s4.heap) (hD0:H3 Dd=Ws (.lst [])) (w0:W 0 m0 [] H3)
 (turn:∀i m ys H,W i m ys H->H Dd=Ws (.lst ys)->(J.stop i H/\Q (.ref Dd) H)\/(J.go i H/\ys.length<sizeLine/\∀x H',J.yld i H x H'->g x (capt js Z) H' λσ2 H2=>tc σ2 H2 λb H3=>if b=Wv then te σ2 H3 λy H4=>H4 Dd=Ws (.lst ys)/\∃m',m'<m/\W (i+1) m' (ys++[y]) (upd H4 Dd (.lst (ys++[y])))else H3 Dd=Ws (.lst ys)/\∃m',m'<m/\W (i+1) m' ys H3))
 (stp:∀s6 H5,Inv (ZD X NC scope C s3 H3 fp) [] (capt js Z) H5 s6->Q (.ref Dd) H5->post (.ok .next) s6) (er:∀e s',(∃m,s'.heap.Ns C m/\∀h',Heap.SameBut C s'.heap h'->∀cenv:Env,cenv.locals=C->YB (model X.prog X.w) X.A (passOn "comprehension.variables-let-go" e cenv:Sem Yj) (λ_ _=>False) X.xe {s' with heap:=h'})->post (.error e) s') :
 codeAny (model X.prog X.w) X.A (.compLoop (.ListComp elt [⟨tg,iter,ifs,0⟩] scope pos) 0 (.ref it) (.ref Dd) (compEnvC scope (ZdV X.env scope.names []) C X.env)) post s4:=by
 have stat:∀{H':Hp},(∀b∈fp,H' b=Wu)->∀b∈fp,Zb5 (ZD X NC scope C s3 H3 fp) [] H' b:=λhn b hb=>⟨hn b hb,(by rw[hC];exact Ou (let ⟨o,e⟩:=fpl b hb;Ym e)),λhm=>I4.ok.exfs b hb hm,.inl hb,λx c e=>(I4.ok.exf b hb).2 x c e,λp hp=>absurd (show p∈([]:List (Yi×Obj))from hp) (by simp)⟩
 have er':∀e s',xeC X scope C e s'->notedBy (model X.prog X.w) X.A (compEnvC scope (ZdV X.env scope.names []) C X.env) (λe s'=>post (.error e) s') e s':=λe s' z=>Yf z (λ_ s'' q=>er e s'' q) λe' s'' q=>er e' s'' q;refine Zkm (λn s'=>∃i ys H',Inv (ZD X NC scope C s3 H3 fp) [] (capt js Z) H' s'/\tn i s'.heap/\(∀b∈fp,H' b=Wu)/\H' Dd=Ws (.lst ys)/\W i n ys H') ?_ m0
  ⟨0,[],_,I4,st4,λb hb=>(f3 b hb).1,hD0,w0⟩
 rintro n s5 ⟨i,ys,H5,I5,st5,fr5,hD5,w5⟩;rcases turn i n ys H5 w5 hD5 with ⟨stop,qn⟩|⟨go,hlen,step⟩
 . refine Yf (T.done (ZD X NC scope C s3 H3 fp) rfl rfl rfl rfl i [] s5 (capt js Z) H5 (λ_ _=>False) I5 (stat fr5) st5 stop) (λr s6 ⟨hr,I6⟩=>?_) λ_ _ z=>z.elim;subst hr;exact stp s6 H5 I6 qn
 . refine Yf (T.item (ZD X NC scope C s3 H3 fp) rfl rfl rfl rfl i [] s5 (capt js Z) H5 (λ_ _=>False) I5 (stat fr5) st5 go) (λr s6 ⟨u,hr,h6⟩=>?_) λ_ _ z=>z.elim;subst hr;refine Yf h6 (λ_ s7 ⟨x,H7,I7,r7,y7,st7,fr7⟩=>?_) λ_ _ z=>z.elim;have I7':=I7.pinned (stat fr7) (T.obj _ _ st7);obtain⟨pg,pif,pe⟩:=hb pins Z C s3 H3 fp I3 f3 hC;refine Yf (pg _ s7 (capt js Z) H7 x u _ I7' r7 (hk _ _ _ _ (step x H7 y7))) (λ_ s8 ⟨σ8,H8,I8,q8,l8,k8⟩=>?_) er';have back:∀{H9:Hp}{s9:Yb},Inv (ZD X NC scope C s3 H3 fp) ([]++Zg1 fp s7.heap) σ8 H9 s9 ->
    Inv (ZD X NC scope C s3 H3 fp) [] (capt js Z) H9 s9/\tn (i+1) s9.heap/\∀b∈fp,H9 b=Wu:=λ{H9 s9} I9=>by
    refine⟨(I9.unpinned).weak l8.symm λj v e=>?_,T.keep _ _ _ st7 λb hb o e=>(I9.pin (b,o) (Ov _ (Ov _ (Zc8 hb e)))).1,λb hb=>?_⟩
    . by_cases hj:j<k
      . unfold capt at e;rw[O2,hjk j hj]at e;cases e
      . rw[k8 j (Nat.le_of_not_lt hj)];exact e
    . obtain⟨o,e,d⟩:=T.obj _ _ st7 b hb;exact(I9.pin (b,o) (Ov _ (Ov _ (Zc8 hb e)))).2.1
   refine Yf (pif _ s8 σ8 H8 _ I8 q8) (λok s9 ⟨H9,I9,q9⟩=>?_) er';cases ok with
   |false=>rw[if_neg Ow]at q9 ⊢;obtain⟨hD9,m',hm,w9⟩:=q9;obtain⟨b1,b2,b3⟩:=back I9;exact⟨m',hm,i+1,ys,H9,b1,b2,b3,hD9,w9⟩
   |true=>
    rw[if_pos rfl]at q9 ⊢;refine Yf (pe _ s9 σ8 H9 _ I9 q9) (λy s10 ⟨v,H10,I10,r10,hD10,m',hm,w10⟩=>?_) er';refine Yf (Zic (X:=ZD X NC scope C s3 H3 fp) _ s10 σ8 H10 (.ref Dd) [v] (.ref Dd) [y]
     (λ_ H11=>H11=upd H10 Dd (.lst (ys++[v]))) I10 rfl (.cons r10 .nil) ⟨_,ys,v,rfl,rfl,hD10,hlen,rfl⟩) (λ_ s11 ⟨_,H11,I11,_,e11⟩=>?_) er'
    subst e11;obtain⟨b1,b2,b3⟩:=back I11;exact⟨m',hm,i+1,ys++[v],_,b1,b2,b3,Zq,w10⟩
theorem ZqU(S_:CompSc NC X.N js sc scope)(hsc:X.env.scope=sc)(hc:X.calm=Wv)(hi:PI X tg iter wi)
   (hb:∀ (pins:List (Yi×Obj)) (Z:St) (C:Yi) (s3:Yb) (H3:Hp) (fp:List Yi),Inv X pins Z H3 s3->(∀ b∈fp,Zb5 X pins H3 b)->C=s3.heap.objs.size->PG (ZD X NC scope C s3 H3 fp) tg g/\PIf (ZD X NC scope C s3 H3 fp) ifs tc/\PE (ZD X NC scope C s3 H3 fp) elt te)
   (hk:ZnL k g) (hjk:∀ j,j<k->js[j]? = Ws Wu) (hs:∀ x,foldedSetIterable iter X.env x=pure x:=by intro _;rfl) :
   PE X (.ListComp elt [⟨tg,iter,ifs,0⟩] scope pos) (Zsi wi js g tc te):=by
 intro pins s Z H Q I h;have hcells:∀ y∈scope.names,y.2=.free->∃ c,X.env.cells.lookup y.1=Ws c:=fun y hy hf=>I.ok.has y.1 (.inl (show X.env.scope.names.lookup y.1=Ws .cell by rw [hsc];exact S_.free y hy hf));rw [eval_ListComp];refine wpAny_comprehension_free (use:=Wu) rfl hs (ZeL hcells) S_.kind S_.locs (thn (hi pins s Z H _ I h) fun xv s1 h1=>thn h1 fun itv s2 h2=>?_);obtain ⟨it,fp,tn,J,H2,e,I2,T,st2,f2,rest⟩:=h2;subst e;have hD:H2 s2.heap.objs.size=Wu:=I2.hok.fresh (Oq _);obtain ⟨W,⟨m0,w0⟩,turn⟩:=rest s2.heap.objs.size hD;refine Yq (wpAny_newFunctionEnv S_.nocell (by intro y hy;simp at hy) (fun h4 hns hsb=>?_) S_.kind);have I3:Inv X pins Z (upd H2 s2.heap.objs.size (.lst [])) {s2 with heap:=s2.heap.push {cls:=.type "list",dict:=Wu,data:=.seq ([]:List Yj).toArray}}:=I2.lnew (t':=s2.toks) (ys:=[]) (its:=[]) .nil (Yw _);dsimp only at hns hsb ⊢;generalize hs3:({s2 with heap:=s2.heap.push {cls:=.type "list",dict:=Wu,data:=.seq ([]:List Yj).toArray}}:Yb)=s3 at I3;have eh:s2.heap.push {cls:=.type "list",dict:=Wu,data:=.seq ([]:List Yj).toArray}=s3.heap:=by rw [<- hs3]
 have eD:s2.heap.objs.size<s3.heap.objs.size:=by rw [<- eh,Heap.size_push];exact OH _
 rw [eh] at hns hsb;have keep:∀ b o,s3.heap.get? b=Ws o->h4.get? b=Ws o:=fun b o e=>(hsb.2 b (Ou (Ym e))).trans (Od _ e);have fpl:∀ b∈fp,∃ o,s3.heap.get? b=Ws o:=fun b hb=>by
   obtain ⟨o,e,_⟩:=T.obj 0 _ st2 b hb;exact ⟨o,by rw [<- eh];exact Od _ e⟩
 have neD:∀ b∈fp,b≠s2.heap.objs.size:=fun b hb=>by
   obtain ⟨o,e,_⟩:=T.obj 0 _ st2 b hb;exact Ou (Ym e)
 have f3:∀ b∈fp,Zb5 X pins (upd H2 s2.heap.objs.size (.lst [])) b:=fun b hb=>⟨by rw [Zo (neD b hb)];exact (f2 b hb).1,(f2 b hb).2⟩
 have I4:=Zj7 (tk:=s2.toks+([]:List (Str×Yj)).length) S_ hsc hc I3 f3 fpl rfl hns keep;have st4:tn 0 h4:=T.keep 0 _ _ st2 fun b hb o e=>keep b o (by rw [<- eh];exact Od _ e);have eC:(s2.heap.push {cls:=.type "list",dict:=Wu,data:=.seq ([]:List Yj).toArray}).objs.size=s3.heap.objs.size:=by rw [eh]
 have loop:∀ s4:Yb,s4={s3 with heap:=h4,toks:=s2.toks+([]:List (Str×Yj)).length} ->
     codeAny (model X.prog X.w) X.A (.compLoop (.ListComp elt [⟨tg,iter,ifs,0⟩] scope pos) 0 (.ref it) (.ref s2.heap.objs.size) (compEnvC scope (ZdV X.env scope.names []) s3.heap.objs.size X.env))
       (compPost (model X.prog X.w) X.A X.xe Wu (EP X pins Z Q) (.ref s2.heap.objs.size) s3.heap.objs.size) s4:=by
   rintro s4 rfl;exact Zio hb hk hjk rfl I3 f3 fpl I4 T st4 Zq w0 turn (fun s6 H5 I6 qn=>by
     obtain ⟨m,hm,_⟩:=I6.loc;exact ⟨m,hm,fun h' hs'=>⟨.ref s2.heap.objs.size,H5,I3.comp_out f3 rfl I6 hs',rfl,qn⟩⟩) (fun _ _ z=>z)
 have e4:({s2 with heap:=h4,toks:=s2.toks+([]:List (Str×Yj)).length}:Yb)={s3 with heap:=h4,toks:=s2.toks+([]:List (Str×Yj)).length}:=by rw [<- hs3]
 rw [eC];exact codeAny_compStart_list (loop _ e4) (T.self X.A 0 _ _ _ st4 (loop _ e4))
end
set_option tactic.hygienic true
section
variable {X:Cx}
def TyN(K:Yk)(x:V)(H:Hp)(t:String):Prop:=match x with
 |.int _=>t = "int"
 |.str _=>t = "str"
 |.bl _=>t = "bool"
 |.non=>t = "NoneType"
 |.ref p=>(t = "list" /\ ∃xs,SqL K H p xs)\/(t = "tuple" /\ ∃xs,SqT K H p xs)
 |_=>False
def ZpX:Zc3 X (.builtin "isinstance") (λxs H Q=>∃x t T b,xs=[x,.ty T]/\TyN X.K x H t/\PySem.W.kitOne X.K (.type t) (.type T)=Ws b/\Q (.bl b) H):=by
 intro pins s Z H xs us Q I r h;obtain⟨x,t,T,b,rfl,ty,e,q⟩:=h;obtain⟨u,w',rfl,rx,rT⟩:=vals2 r;obtain rfl:w'=Value.type T:=rT;have fin:∀tk,EP X pins Z Q (.bool b) {s with toks:=tk}:=λtk=>⟨.bl b,H,I.tok tk,rfl,q⟩
 cases x with
 |int i=>obtain⟨tk,rfl⟩:=rx;obtain rfl:t = "int" := ty;exact PySem.W.kia_one PySem.W.kitx_int I.kIn trivial e (by intro z;cases z) fin
 |str i=>obtain⟨tk,rfl⟩:=rx;obtain rfl:t = "str" := ty;exact PySem.W.kia_one PySem.W.kitx_str I.kIn trivial e (by intro z;cases z) fin
 |bl i=>obtain rfl:u=Value.bool i:=rx;obtain rfl:t = "bool" := ty;exact PySem.W.kia_one PySem.W.kitx_bool I.kIn trivial e (by intro z;cases z) fin
 |non=>obtain rfl:u=Value.none:=rx;obtain rfl:t = "NoneType" := ty;exact PySem.W.kia_one PySem.W.kitx_none I.kIn trivial e (by intro z;cases z) fin
 |ref p=>
  obtain rfl:u=YD p:=rx;rcases ty with ⟨rfl,xs,hx⟩|⟨rfl,xs,hx⟩
  . obtain⟨its,_,pl,_⟩:=I.list hx;exact PySem.W.kia_one PySem.W.kitx_list I.kIn pl.isList.typeIs e (by intro z;cases z) fin
  . obtain⟨its,_,pl,_⟩:=I.tuple hx;exact PySem.W.kia_one PySem.W.kitx_tuple I.kIn pl.typeIs e (by intro z;cases z) fin
 |_=>exact(show False from ty).elim
def Znx{K:Yk}(h:PySem.W.kitOne [] (.type t) (.type T)=Ws b):PySem.W.kitOne K (.type t) (.type T)=Ws b:=h
def Zxg:V->Option Int->Option Int->Hp->VK->Prop:=λx lo hi H Q=>∃y,x=.str y/\y.length<=sizeLine/\Q (.str (Yp y lo hi)) H
def ZsZ:SlR X Zxg:=by
 intro pins s Z H x v vl vu lo hi sl Q I rx hs pl pu h;obtain⟨y,rfl,hz,q⟩:=h;obtain⟨t,rfl⟩:=rx;refine⟨"str",_,F.slot_str_getitem.lookup,typeIs_str _ _ _,?_⟩;have go:∀(l u:Option (Int×Tok)),vl=partValue l->vu=partValue u->lo=l.map (·.1)->hi=u.map (·.1)->YB (model X.prog X.w) X.A (getItem (.str y t) (.ref sl)) (EP X pins Z Q) X.xe s:=by rintro l u rfl rfl rfl rfl;refine wpAny_getItem_str_slice (l:=l) (u:=u) (st:=Wu) hs rfl ?_;refine post_val_or_str ⟨OE (Txt.slice_le y _ _) hz,λt' k=>⟨.str _,H,I.tok k,⟨t',rfl⟩,q⟩⟩
 cases pl with
 |none=>
  cases pu with
  |none=>exact go Wu Wu rfl rfl rfl rfl
  |int j tj=>exact go Wu (Ws (j,tj)) rfl rfl rfl rfl
 |int i ti=>
  cases pu with
  |none=>exact go (Ws (i,ti)) Wu rfl rfl rfl rfl
  |int j tj=>exact go (Ws (i,ti)) (Ws (j,tj)) rfl rfl rfl rfl
end
def Zar.there(x:Zar P w H h a o):∃ob,h.get? a=Ws ob:=by
 cases o with
 |lst xs=>obtain⟨_,_,_,_,e⟩:=x;exact⟨_,e⟩
 |tup xs=>obtain⟨_,_,_,ob,e,_⟩:=x;exact⟨_,e⟩
 |dK kvs=>obtain⟨_,_,_,_,o,_,_,e,_⟩:=x;exact⟨_,e⟩
 |dT kvs=>obtain⟨_,_,_,_,o,_,_,e,_⟩:=x;exact⟨_,e⟩
 |set S_ n=>obtain⟨o,_,_,_,e,_⟩:=x;exact⟨_,e⟩
 |ins C dx fs=>obtain⟨_,_,_,e,_⟩:=x;exact⟨_,e⟩
 |own y=>obtain⟨_,e⟩:=x;exact⟨_,e⟩
 |xd fs=>obtain⟨_,⟨_,_,_,e,_⟩,_⟩:=x;exact⟨_,e⟩
 |rng lo hi=>obtain⟨_,_,_,e⟩:=x;exact⟨_,e⟩
 |frz ob u=>obtain⟨e,_⟩:=x;exact⟨_,e⟩
 |tbl ps=>exact⟨_,(show h.get? a=Ws _ from x)⟩
 |met f y=>exact⟨_,(show h.get? a=Ws _ from x)⟩
 |ext φ=>obtain⟨_,⟨_,e⟩,_⟩:=x;exact⟨_,e⟩
def Kept(fs:List Yi)(H':Hp)(h h1 B_:YG):Prop:=∀b o,h1.get? b=Ws o->(H' b≠Wu\/((∃o',h.get? b=Ws o')/\b ∉ fs))->B_.get? b=Ws o
noncomputable def CXF(P:Yh)(w:Yg):CXT:=λouter H s E e s'=>
 ∃(a:Yi) (cls a0:Yj) (H':Hp) (B_:YG),e=.ref a/\s'.os=s.os/\AllBare s'.gens/\Un (frs outer) [] H H' s.heap s'.heap/\HOk P w H' s'.heap /\
  Heap.FlyingW B_ outer a cls a0 s'.heap/\Kept (frs outer) H' s.heap s'.heap B_/\H' a=Wu/\E cls Wu H'
def ZeQ(un:Un fs [] H H' h h1)(hok:HOk P w H' h1)(kb:Kept fs H' h h1 B_)(stay:B_.StaysIn h2)(up:h1.UpToSlots h2)
 (hf:∀b∈fs,∃o,h1.get? b=Ws o/\∀vs,o.data≠.fields vs):Un fs [] H H' h h2/\HOk P w H' h2/\Kept fs H' h h2 B_:=by
 have tr:∀b u,H' b=Ws u->∃o,h1.get? b=Ws o/\h2.get? b=Ws o/\B_.get? b=Ws o:=λb u e=>by obtain⟨o,q⟩:=(hok b u e).there;have z:=kb b o q (.inl (by rw[e];simp));exact⟨o,q,stay _ _ z,z⟩
 have old:∀b o,h.get? b=Ws o->b ∉ fs->∃o1,h1.get? b=Ws o1/\h2.get? b=Ws o1/\B_.get? b=Ws o1:=λb o e hb=>by obtain⟨o1,q⟩:=un.there b o e (by simp);have z:=kb b o1 q (.inr ⟨⟨o,e⟩,hb⟩);exact⟨o1,q,stay _ _ z,z⟩
 refine⟨⟨λb o e n hb _=>?_,λb o e n hb _=>?_,λb o e n _=>un.free b o e n (by simp),λb o e _=>?_,un.tups,un.frzs,un.tbls⟩,λb u e=>?_,λb o e hb=>?_⟩
 . obtain⟨o1,q1,q2,_⟩:=old b o e hb;have z:=un.keep b o e n hb (by simp);rw[q1]at z;cases z;exact q2
 . obtain⟨sl,z⟩:=un.slot b o e n hb (by simp);obtain⟨o',z',nf⟩:=hf b hb;rw[z]at z';cases z';obtain⟨sl',q⟩:=up b _ z nf;exact⟨sl',q⟩
 . by_cases hb:b∈fs
   . obtain⟨o',z',nf⟩:=hf b hb;obtain⟨sl',q⟩:=up b _ z' nf;exact⟨_,q⟩
   . obtain⟨o1,_,q2,_⟩:=old b o e hb;exact⟨_,q2⟩
 . refine(hok b u e).stay (λc v hc q=>?_) (λ_ q=>q) λ_ _ q=>q;have hc':∃u',H' c=Ws u':=by
    rcases hc with rfl|hc
    . exact⟨u,e⟩
    . exact⟨_,hc⟩
   obtain⟨u',e'⟩:=hc';obtain⟨o,q1,q2,_⟩:=tr c u' e';rw[q]at q1;cases q1;exact q2
 . rcases hb with hb|⟨⟨o',e'⟩,hb⟩
   . cases q:H' b with
     |none=>exact absurd q hb
     |some u=>obtain⟨o1,q1,q2,q3⟩:=tr b u q;rw[e]at q2;cases q2;exact q3
   . obtain⟨o1,q1,q2,q3⟩:=old b o' e' hb;rw[e]at q2;cases q2;exact q3
def Zjr(X:Cx)(E:XK):Prop:=∀(pins:List (Yi×Obj)) (Z:St) (H:Hp) (s:Yb) (h':YG) (e:Yi) (cls:Yj) (vs:List Yj),Inv X pins Z H s->Heap.MadeExcOf s.heap h' e cls vs->E cls Wu H->X.xe (.ref e) {s with heap:=h'}
section
variable {P:Yh}{w:Yg}{K:Yk}{mg:Str->Option Yj}{base:YG}{N:List Str}{qual:Str}{scope:Scope}{f:Yi}{cd:Yj}{A:YH}{outer:List Env}{s0:Yb}{H0:Hp}{E:XK}
def Zor:Zjr (Zf4 (CXF P w) P w K mg base N qual scope f cd A outer s0 H0 E) E:=by
 intro pins Z H s h' e cls vs I hx hE;have hfr:(A.deeper (envOfC qual scope s0.heap.objs.size f cd)).frames=Ws (envOfC qual scope s0.heap.objs.size f cd::outer):=I.ok.frames;have hin:∀env∈(envOfC qual scope s0.heap.objs.size f cd::outer),∀b,env.frame=Ws b->b∈(envOfC qual scope s0.heap.objs.size f cd::outer).filterMap (·.frame):=λenv he b hb=>List.mem_filterMap.mpr ⟨env,he,hb⟩;have hst:s.heap.FunFrames base (envOfC qual scope s0.heap.objs.size f cd::outer):=I.stack;show YB (model P w) (A.deeper (envOfC qual scope s0.heap.objs.size f cd)) (leaving (envOfC qual scope s0.heap.objs.size f cd) (.ref e)) _ _ {s with heap:=h'};refine wpAny_leaves_madeW (s:={s with heap:=h'}) (base:=YZ s.heap (frs (envOfC qual scope s0.heap.objs.size f cd::outer))) hfr rfl (λb o q=>PySem.W.of_hideAll _ q) (PySem.W.funFrames_hide hst hin) hx λh'' t x1 x2 x3 x4=>?_;have un:Un (frs outer) [] H0 H s0.heap h':=(I.base:Un (frs outer) [] H0 H s0.heap s.heap).trans (Un.kept hx.keeps);have hok:HOk P w H h':=I.hok.kept hx.keeps;have kb:Kept (frs outer) H s0.heap h' (YZ s.heap (frs (envOfC qual scope s0.heap.objs.size f cd::outer))):=λb o e1 hb=>by
  rcases hb with hb|⟨⟨o',e'⟩,hb⟩
  . cases q:H b with
    |none=>exact absurd q hb
    |some u=>
     obtain⟨o1,q1⟩:=(I.hok b u q).there;have q2:=hx.keeps b o1 q1;rw[e1]at q2;cases q2;exact PySem.W.hideAll_get _ q1 λhm=>by have z:H b=Wu:=I.stkFree b hm;rw[q]at z;cases z
  . obtain⟨o1,q1⟩:=(I.base:Un (frs outer) [] H0 H s0.heap s.heap).there b o' e' (show b ∉ ([]:List Yi)from List.not_mem_nil);have q2:=hx.keeps b o1 q1;rw[e1]at q2;cases q2;refine PySem.W.hideAll_get _ q1 λhm=>?_;have hm':b∈s0.heap.objs.size::frs outer:=I.stkSub b hm;rcases O3.mp hm' with z|z
    . rw[z]at e';exact absurd (Ym e') (Yv _)
    . exact hb z
 have hfo:∀b∈frs outer,∃o,h'.get? b=Ws o/\∀vs,o.data≠.fields vs:=λb hb=>by obtain⟨_,o,q,nf⟩:=I.funs.mem hb;exact⟨o,hx.keeps _ _ q,nf⟩
 obtain⟨r1,r2,r3⟩:=ZeQ un hok kb x1.1 x4 hfo;refine⟨e,cls,_,H,_,rfl,I.os,I.bare,r1,r2,x1,r3,?_,hE⟩;cases q:H e with
 |none=>rfl
 |some u=>obtain⟨o1,q1⟩:=(I.hok e u q).there;rw[hx.new]at q1;cases q1
def ZqY(h:∀cls H',E1 cls Wu H'->E cls Wu H'):Zbb (CXF P w) (Zf4 (CXF P w) P w K mg base N qual scope f cd A outer s0 H0 E) E1:=by
 intro pins Z H s e s' I hx;obtain⟨a,cls,a0,H',B_,rfl,os,bare,un,hok,fl,kb,ha,hE⟩:=hx;have I':=I.call' (ch:=[]) os un hok bare (λb z=>absurd z (by simp));have hfr:(A.deeper (envOfC qual scope s0.heap.objs.size f cd)).frames=Ws (envOfC qual scope s0.heap.objs.size f cd::outer):=I.ok.frames;show YB (model P w) (A.deeper (envOfC qual scope s0.heap.objs.size f cd)) (leaving (envOfC qual scope s0.heap.objs.size f cd) (.ref a)) _ _ s';refine wpAny_leaves_onW hfr rfl fl λh'' x1 x4=>?_;have kb':Kept (frs outer) H' s0.heap s'.heap B_:=λb o e1 hb=>by
  refine kb b o e1 ?_;rcases hb with hb|⟨⟨o',e'⟩,hb⟩
  . exact .inl hb
  . obtain⟨o1,q1⟩:=(I.base:Un (frs outer) [] H0 H s0.heap s.heap).there b o' e' (show b ∉ ([]:List Yi)from List.not_mem_nil);refine .inr ⟨⟨o1,q1⟩,λhm=>?_⟩;have hm':b∈s0.heap.objs.size::frs outer:=I.stkSub b hm;rcases O3.mp hm' with z|z
    . rw[z]at e';exact absurd (Ym e') (Yv _)
    . exact hb z
 have hfo:∀b∈frs outer,∃o,s'.heap.get? b=Ws o/\∀vs,o.data≠.fields vs:=λb hb=>by obtain⟨_,o,q,nf⟩:=I'.funs.mem hb;exact⟨o,q,nf⟩
 obtain⟨r1,r2,r3⟩:=ZeQ (I'.base:Un (frs outer) [] H0 H' s0.heap s'.heap) hok kb' x1.1 x4 hfo;exact⟨a,cls,a0,H',B_,rfl,I'.os,bare,r1,r2,x1,r3,ha,h _ _ hE⟩
end
def Zia:Zbb (CXF P w) X E0:=λ_ _ _ _ _ _ _ h=>by obtain⟨_,_,_,_,_,_,_,_,_,_,_,_,_,z⟩:=h;exact z.elim
def ZrF{K:Yk}{h:YG}{C:Yi}{bmB:List Yj}{newId:String}(X:K.In h)(q:PySem.W.excIn K C bmB newId=Wv):
 ∃bm N nm qn bs hdct sn sub ab col dd k0 k1 k2 k3 k5 mN,h.get? C=Ws (excClassObj nm qn C N bs bm hdct sn sub ab col dd k0 k1 k2 k3 k5 newId)/\h.Ns N mN/\mN "__init__" = Wu/\OwnTail h bmB bm:=by
 unfold PySem.W.excIn at q;split at q
 . rename_i dd cd sl ho;split at q
   . rename_i C' bm k0 k1 k2 k3 n k5 hm hs;simp only[Oa,beq_iff_eq,Bool.not_eq_true']at q;obtain⟨⟨⟨⟨⟨rfl,rfl⟩,hdel⟩,ht⟩,hok⟩,hni⟩:=q;obtain⟨nm,bs,mro,ns,qn,hd,sn,sub,ab,col,del⟩:=cd;dsimp only at hm hdel hok hni;subst hm hdel;have hsl:sl=#[k0,k1,k2,k3,Ws (.builtin n),k5]:=by obtain⟨l⟩:=sl;simp only at hs;rw[hs]
     subst hsl;exact⟨bm,ns,nm,qn,bs,hd,sn,sub,ab,col,dd,k0,k1,k2,k3,k5,_,X _ _ ho,.of_isNs (PySem.W.isNs_of_in X hok),PySem.W.nsMap_none_of_in X hok hni,PySem.W.tail_of_in X ht⟩
   . cases q
 . cases q
section
variable {X:Cx}{x:Str}{C:Yi}{bmB:List Yj}{B_ newId initId:String}{np cpos pos:Pos}{e:Expr}{es:List Expr}{t:TA}{E:XK}
noncomputable def ZsT(C:Yi)(E:XK)(t:TA):TS:=λ_ Z H=>t Z H λvs H1=>vs.length<=sizeLine/\E (.ref C) Wu H1
def ZoL(hR:Zjr X E)(hc:X.calm=Wv)(FB:ExcBaseFacts B_ newId initId bmB)(hg:Gl X x)(hm:X.mg x=Ws (.ref C))(hq:PySem.W.excIn X.K C bmB newId=Wv)(ha:PA X (e::es) t)
 (hdb:(x==("__debug__" : Str))=Ww:=by decide) (he:YA (e::es) X.env=(Ww,eval e X.env)::YA es X.env:=by rfl) (hpl:(YS cpos (YA es X.env)).any (·.1)=Ww:=by rfl) :
 PS X (.Raise (Ws (.Call (.Name x np) (e::es) [] cpos)) Wu pos) (ZsT C E t):=by
 intro pins s Z H D I h;obtain⟨tl,N,nm,q,bs,hdct,sn,sub,ab,col,dd,k0,k1,k2,k3,k5,mN,hC,hN,hni,T⟩:=ZrF I.mod.kin hq;refine wpAny_Raise_call_subT (C:=C) (nm:=nm) (q:=q) (N:=N) (bs:=bs) (bm:=tl) (hdct:=hdct) (sn:=sn) (sub:=sub) (ab:=ab) (col:=col) (dd:=dd) (k0:=k0) (k1:=k1) (k2:=k2) (k3:=k3) (k5:=k5)
  FB (mN:=mN) (T.hasType FB.hasBase) (I.ok.hd hc) (by rw[he];show(Ww || (YS cpos (YA es X.env)).any (·.1))=Ww;rw[hpl];rfl) hni (Zc9 I hg hm ⟨rfl,?_⟩ hdb)
 have h1:=ha cpos pins s Z H _ I h;rw[he]at h1 ⊢;refine Calls.evalArgs_plain (thn h1 λus s2 ⟨vs,H2,I2,r2,hl,hE⟩=>?_);exact⟨rfl,by rw[<- r2.length];exact hl,I2.bk _ _ hC,hN.keeps I2.bk,T.keeps I2.bk,λh' a hmade=>hR pins Z H2 s2 h' a _ us I2 hmade hE⟩
end
noncomputable def cxH(X:Cx)(a:Yi)(oe:Obj):Cx:={X with A:=X.A.mark (Ws (.ref a)),calm:=false,pn:=X.pn++[(a,oe)],xe:=λ_ _=>False}
noncomputable abbrev cxM(X:Cx)(a:Yi):Cx:={X with A:=X.A.mark (Ws (.ref a)),calm:=false,xe:=λ_ _=>False}
section
variable {X:Cx}{pins:List (Yi×Obj)}{Z:St}{H:Hp}{s:Yb}{a:Yi}{oe:Obj}
def Inv.toM(I:Inv X pins Z H s)(a:Yi):Inv (cxM X a) pins Z H s:=⟨⟨I.ok.mod,I.ok.kind,I.ok.glob,I.ok.blt,I.ok.above,I.ok.inj,I.ok.has,I.ok.cab,λz=>absurd z Ow,I.ok.frames,I.ok.stk,I.ok.exf,I.ok.bs,I.ok.bsz,I.ok.noex,I.ok.exfs,I.ok.funs,I.ok.frf⟩,I.os,I.bare,I.base,I.loc,I.cell,I.free,I.freeC,I.pin,I.hok,I.len⟩
def Inv.toH(I:Inv X pins Z H s)(h1:s.heap.get? a=Ws oe)(h2:H a=Wu)(h3:a≠X.env.locals)(h4:a ∉ X.fs)(h5:∀v,oe.data≠.cell v):Inv (cxH X a oe) pins Z H s:=
 ⟨⟨I.ok.mod,I.ok.kind,I.ok.glob,I.ok.blt,I.ok.above,I.ok.inj,I.ok.has,I.ok.cab,λz=>absurd z Ow,I.ok.frames,I.ok.stk,I.ok.exf,I.ok.bs,I.ok.bsz,I.ok.noex,I.ok.exfs,I.ok.funs,I.ok.frf⟩,I.os,I.bare,I.base,I.loc,I.cell,I.free,I.freeC,
  λp hp=>by
   rcases OD.mp (show p∈(X.pn++[(a,oe)])++pins from hp)with z|z
   . rcases OD.mp z with z|z
     . exact I.pin p (Yr _ z)
     . have e:p=(a,oe):=by simpa using z
       subst e;exact⟨h1,h2,h3,h4,h5⟩
   . exact I.pin p (Ov _ z),I.hok,I.len⟩
theorem Inv.ofH(I:Inv (cxH X a oe) pins Z H s)(hd:X.calm=Wv->X.A.handled=Wu):Inv X pins Z H s :=
 ⟨⟨I.ok.mod,I.ok.kind,I.ok.glob,I.ok.blt,I.ok.above,I.ok.inj,I.ok.has,I.ok.cab,hd,I.ok.frames,I.ok.stk,I.ok.exf,I.ok.bs,I.ok.bsz,I.ok.noex,I.ok.exfs,I.ok.funs,I.ok.frf⟩,I.os,I.bare,I.base,I.loc,I.cell,I.free,I.freeC,
   fun p hp=>I.pin p (by
     rcases OD.mp hp with z|z
     . exact Yr _ (Yr _ z)
     . exact Ov _ z),I.hok,I.len⟩
end
def Zkh{K:Yk}(X:K.In s.heap)(h1:PySem.W.typeIn K (.ref C2)=Ws (.type "type"))(h0:(PySem.W.clsIn K C2).isSome=Wv)
 (h2:YV K (.ref C2) (.type "BaseException")=Ws Wv) (h3:YV K (.ref C) (.ref C2)=Ws Wv) (he:s.heap.get? a=Ws oe) (hc:oe.cls=.ref C) (q:Q Wv s):YB M A (excMatches (.ref a) (.ref C2)) Q E s:=by
 have i1:PySem.W.instIn K (.ref C2) (.type "tuple")=Ws Ww:=by unfold PySem.W.instIn;rw[h1];show YV K (.type "type") (.type "tuple")=Ws Ww;show YV [] (.type "type") (.type "tuple")=Ws Ww;decide +kernel
 have L1:=PySem.W.looks_instIn (M:=M) X i1;have L2:=PySem.W.looks_subIn (M:=M) X h2;have L3:=PySem.W.looks_subIn (M:=M) X h3;have L0:PySem.W.Looks M s.heap (isType (.ref C2)) Wv:=by
  unfold PySem.W.clsIn at h0;split at h0
  . rename_i c' d' cd' sl' ho;intro A' Q' E' s' k q;unfold isType loadHead;exact Ya (wpAny_loadPart (k _ _ (X _ _ ho)) (Yc q))
  . cases h0
 have LT:PySem.W.Looks M s.heap (typeOf (.ref a)) (.ref C):=by rw[<- hc];exact(PySem.W.Looks.ld he).andThen .now
 unfold excMatches isExcClass
 repeat (any_goals (first|assumption|lk|wp_step))
structure ExcN(K:Yk)(C2:Yi):Prop where
 ty:PySem.W.typeIn K (.ref C2)=Ws (.type "type")
 cls:(PySem.W.clsIn K C2).isSome=Wv
 exc:YV K (.ref C2) (.type "BaseException")=Ws Wv
def Def(P:Yh)(w:Yg)(K:Yk)(mg:Str->Option Yj)(base:YG)(k:Nat)(x:Str)(ps:List Str)(sp:Sp):Prop:=∃f fd,mg x=Ws (.ref f)/\We K (.ref f)=Wv/\Binds K fd ps []/\FnOk P w K mg base (CXF P w) k f fd ps sp
section
variable {X:Cx}{k:Nat}{x:Str}{ps:List Str}{sp:Sp}{E:XK}{e:Expr}{es:List Expr}{t:TA}{p pos:Pos}
noncomputable def Zw5(sp:Sp)(E:XK)(t:TA):TE:=λZ H Q=>t Z H λvs H1=>sp vs H1 Q E
def ZtB(D:Def X.prog X.w X.K X.mg X.base k x ps sp)(hr:Room k X.A)(hg:Gl X x)(hx:Zbb (CXF X.prog X.w) X E)(ha:PA X (e::es) t)
 (hdb:(x==("__debug__" : Str))=Ww:=by decide) (he:YA (e::es) X.env=(Ww,eval e X.env)::YA es X.env:=by rfl) (hpl:(YS pos (YA es X.env)).any (·.1)=Ww:=by rfl) :
 PE X (.Call (.Name x p) (e::es) [] pos) (Zw5 sp E t):=by
 obtain⟨f,fd,h1,h2,h3,h4⟩:=D;intro pins s Z H Q I h;refine ZqW h4 hr hg h1 h2 h3 .nil hx ha hdb he hpl pins s Z H Q I ?_;have z:t Z H λvs H1=>sp vs H1 Q E:=h;show t Z H λvs H1=>sp (vs++[]) H1 Q E;simpa only[Ys]using z
end
section
variable {X:Cx}{pins:List (Yi×Obj)}{Z:St}{H:Hp}{s:Yb}{h':YG}
def Zmq{ch:List Yi}(hf:∀b∈ch,Zb5 X pins H b):∀b∈ch,(b∈X.ex\/X.s₀.heap.objs.size<=b)/\b≠X.env.locals/\(∀x c,X.env.cells.lookup x=Ws c->c≠b)/\∀p∈X.pn++pins,p.1≠b:=λb hb=>by obtain⟨_,f1,_,f3,f4,f5⟩:=hf b hb;exact⟨f3,f1,f4,f5⟩
def Inv.turnL{t':Nat}{ch:List Yi}(I:Inv X pins Z H s)(hf:∀b∈ch,Zb5 X pins H b)(k:∀b o,b ∉ ch->s.heap.get? b=Ws o->h'.get? b=Ws o):Inv X pins Z H {s with heap:=h',toks:=t'}:=by
 have nit:∀b u,H b=Ws u->b ∉ ch:=λb u e z=>by rw[(hf b z).1]at e;cases e
 refine I.step (g':=s.gens) (d':=s.drawn) (ch:=ch) (Zmq hf) (λb o _ _ hc e _=>k b o hc e) (λb o _ _ hc e _=>⟨o.slots,k b o hc e⟩) (λ_ _ _ _ n=>n)
  (λb o hc e=>⟨o,k b o hc e⟩) (λ_ _ e=>e) (λ_ _ _ e=>e) (λb ps e=>⟨#[],by rw[e];simp⟩) (λm hm=>?_) (λb u e=>?_) I.bare
 . obtain⟨o,es,ep,ho,r⟩:=hm;exact⟨o,es,ep,k _ o (λz=>(hf _ z).2.1 rfl) ho,r⟩
 . refine(I.hok b u e).stay (λc v hc q=>k c v ?_ q) (λ_ q=>q) λ_ _ q=>q;rcases hc with z|z
   . rw[z];exact nit b u e
   . exact nit c _ z
def Inv.turnT{t':Nat}{ch:List Yi}{us:List Yj}(I:Inv X pins Z H s)(hf:∀b∈ch,Zb5 X pins H b)(k:∀b o,b ∉ ch->s.heap.get? b=Ws o->h'.get? b=Ws o)
 (hT:s.heap.objs.size<=T) (tup:ZbP h' T us.toArray) (rv:Zp vs us) (hz:vs.length<=sizeLine):Inv X pins Z (upd H T (.tup vs)) {s with heap:=h',toks:=t'}:=by
 have nit:∀b u,H b=Ws u->b ∉ ch:=λb u e z=>by rw[(hf b z).1]at e;cases e
 have neT:∀b o,s.heap.get? b=Ws o->b≠T:=λb o e=>Ou (Ot (Ym e) hT);have hTn:H T=Wu:=I.hok.fresh hT;refine I.step (g':=s.gens) (d':=s.drawn) (ch:=ch) (Zmq hf) (λb o _ _ hc e _=>k b o hc e) (λb o _ _ hc e _=>⟨o.slots,k b o hc e⟩) (λb o _ e n=>by rw[Zo (neT b o e)];exact n)
  (λb o hc e=>⟨o,k b o hc e⟩) (λb xs e=>by rw[Zo (ZQ e hTn)];exact e) (λb o u e=>by rw[Zo (ZQ e hTn)];exact e) (λb ps e=>⟨#[],by rw[Zo (ZQ e hTn),e];simp⟩) (λm hm=>?_) (λb u e=>?_) I.bare
 . obtain⟨o,es,ep,ho,r⟩:=hm;exact⟨o,es,ep,k _ o (λz=>(hf _ z).2.1 rfl) ho,r⟩
 . by_cases hb:b=T
   . subst hb;rw[Zq]at e;cases e;exact⟨hz,us,rv,tup⟩
   . rw[Zo hb]at e;refine(I.hok b u e).stay (λc v hc q=>k c v ?_ q) (λc q=>by rw[Zo (ZQ q hTn)];exact q) λc xs q=>by rw[Zo (ZQ q hTn)];exact q
     rcases hc with z|z
     . rw[z];exact nit b u e
     . exact nit c _ z
end
noncomputable def Ite(K:Yk)(a:Yi):It:=⟨λi H=>∃xs x,SqL K H a xs/\xs[i]? = Ws x,λi H v H'=>∃p,v=.ref p/\H p=Wu/\∃x,(∀xs,SqL K H a xs->xs[i]? = Ws x)/\H'=upd H p (.tup [.int i,x]),λi H=>∃xs,SqL K H a xs/\xs.length=i⟩
def ZmQ{P:Yh}{w:Yg}{K:Yk}{es:List Expr}{kk:Nat}{tp:Pos}(a it e:Yi)(hei:e≠it)(hae:a≠e)(hai:a≠it):
 Turn P w K (.Tuple es kk tp) (Ite K a) [e,it] e (λi h=>(∃old,IsEnum h e it i old)/\h.IsListIter it a i) where
 mem:=by simp
 obj:=λi h st b hb=>by
  obtain⟨⟨old,he⟩,o,e1,c,d⟩:=st;rcases O3.mp hb with rfl|hb
  . exact⟨_,he,λv z=>by cases z⟩
  . have e2:b=it:=by simpa using hb
    subst e2;exact⟨o,e1,λv z=>by rw[d]at z;cases z⟩
 keep:=λi h h' st k=>by obtain⟨⟨old,he⟩,st⟩:=st;exact⟨⟨old,k e (by simp) _ he⟩,st.at λo z=>k it (by simp) o z⟩
 item:=by
  intro X hP hw hK hc i pins s Z H E I hf st hg;subst hP hw hK;obtain⟨xs,x,hq,hx⟩:=hg;obtain⟨its,rv,p,hz⟩:=I.list hq;have hl:=rv.length;have hi:i<xs.length:=(Ob.mp hx).1;have W:=WalksT.enumerate (prog:=X.prog) (w:=X.w) (I.ok.hd hc) e it a hei hae hai its.toArray;have itm:∀(Q':Option Yj->Yb->Prop) (E':Yj->Yb->Prop),(∀T vals h' tk,(∃t x,its.toArray[i]? = Ws x/\vals=#[.int i t,x])->s.heap.objs.size<=T->ZbP h' T vals ->
   ((∃x,IsEnumOut h' e it ((i:Int)+1) x T)/\h'.IsListIter it a (i+1)/\h'.IsList a its.toArray/\T≠e/\T≠it)->(∀b o,b ∉ [e,it]->s.heap.get? b=Ws o->h'.get? b=Ws o)->Q' (Ws (.ref T)) {s with heap:=h',toks:=tk}) ->
   YB (model X.prog X.w) X.A (pyNext (.ref e)) Q' E' s:=by
   intro Q' E' hQ;obtain⟨⟨old,he⟩,hit⟩:=st;have hx2:its.toArray[i]? = Ws (its.toArray[i]'(by simp;lia)):=Array.getElem?_eq_getElem (by simp;lia);refine wpAny_pyNext_enum_item he hit p.isList hx2 hei λh' ho hit' hT hsz hk=>?_;have e1:e<s.heap.objs.size:=Ym he;have e2:it<s.heap.objs.size:=by obtain⟨_,z,_⟩:=hit;exact Ym z
   exact hQ s.heap.objs.size _ h' (s.toks+1) ⟨_,_,hx2,rfl⟩ (Oq _) ⟨_,hT,rfl,rfl,_,rfl⟩ ⟨⟨_,ho⟩,hit',p.isList.at λo z=>hk a o hae hai z,Nat.ne_of_gt e1,Nat.ne_of_gt e2⟩
    λb o hb z=>hk b o (λe'=>hb (by simp[e'])) (λe'=>hb (by simp[e'])) z
  refine itm _ _ λT vals h1 tk hP hT tup mid kk=>?_;refine⟨_,rfl,W.go _ _ _ i T {s with heap:=h1,toks:=tk} _ _ mid λh2 st2 kk2=>?_⟩;obtain⟨t,y,hy,rfl⟩:=hP;have hy':its[i]? = Ws y:=by simpa using hy
  obtain⟨u,hu,ru⟩:=rv.get hx;rw[hy']at hu;cases hu;have hTw:T ∉ [e,it]:=W.apart i T h1 mid;have tup2:ZbP h2 T #[.int i t,y]:=by obtain⟨o,q,r⟩:=tup;exact⟨o,kk2 T o hTw q,r⟩
  have I2:Inv X pins Z (upd H T (.tup [.int i,x])) {s with heap:=h2,toks:=tk}:=I.turnT hf (λb o hb q=>kk2 b o hb (kk b o hb q)) hT (us:=[.int i t,y]) tup2 (.cons ⟨t,rfl⟩ (.cons ru .nil)) (by show 2<=sizeLine;decide);refine⟨.ref T,_,I2,rfl,⟨T,rfl,I.hok.fresh hT,x,λys hy=>by rw[I.list_inj hy hq];exact hx,rfl⟩,⟨st2.1,st2.2.1⟩,λb hb=>?_⟩;have neb:b≠T:=λz=>hTw (by rw[<- z];exact hb);rw[Zo neb];exact(hf b hb).1
 done:=by
  intro X hP hw hK hc i pins s Z H E I hf st hg;subst hP hw hK;obtain⟨xs,hq,hx⟩:=hg;obtain⟨its,rv,p,hz⟩:=I.list hq;have hl:=rv.length;have W:=WalksT.enumerate (prog:=X.prog) (w:=X.w) (I.ok.hd hc) e it a hei hae hai its.toArray;have e1:its.toArray.size=i:=by simp;lia
  refine W.done s _ _ ?_ λh1 tk kk=>⟨rfl,I.turnL hf kk⟩
  rw[e1];exact⟨st.1,st.2,p.isList⟩
 self:=λA i s Q E st h=>by obtain⟨⟨old,he⟩,_⟩:=st;exact wpAny_pyIter_enum he h
noncomputable def Zwb(K:Yk)(ta:TA):TI:=λZ H R=>ta Z H λvs H1=>∃a,vs=[.ref a]/\(∃xs,SqL K H1 a xs)/\R (Ite K a) H1
def ZqO{X:Cx}{es:List Expr}{kk:Nat}{tp:Pos}{l:Expr}{ta:TA}{p pos:Pos}(hg:Gl X "enumerate")(hm:X.mg "enumerate" = Wu)(ha:PA X [l] ta)(hs:YA [l] X.env=[(Ww,eval l X.env)]:=by rfl):
 PI X (.Tuple es kk tp) (.Call (.Name "enumerate" p) [l] [] pos) (Zwb X.K ta):=by
 intro pins s Z H R I h;refine Call_ (Zda I hg hm boot_enumerate (PyProof.Rows.callWith_type1 (thn (ha pos pins s Z H _ I h) λus s1 ⟨vs,H1,I1,r1,q1⟩=>?_) hs rfl));obtain⟨a,rfl,⟨xs,hq⟩,q⟩:=q1;obtain⟨u,rfl,ru⟩:=vals1 r1;obtain rfl:u=YD a:=ru;obtain⟨its,rv,pl,hz⟩:=I1.list hq;have hlt:a<s1.heap.objs.size:=by obtain⟨_,_,e,_⟩:=pl;exact Ym e
 refine call_enumerate_list pl.isList λh' he hi hsz kk=>?_;refine wpAny_pyIter_enum he ?_;refine⟨s1.heap.objs.size+1,[s1.heap.objs.size+1,s1.heap.objs.size],_,_,H1,rfl,I1.kept (t':=s1.toks) kk,ZmQ a s1.heap.objs.size (s1.heap.objs.size+1) (Nat.succ_ne_self _) (Ou (Nat.lt_succ_of_lt hlt)) (Ou hlt),⟨⟨_,he⟩,hi⟩,λb hb=>?_,q⟩;rcases O3.mp hb with rfl|hb
 . exact I1.fpOk (Nat.le_succ _) (I1.hok.fresh (Nat.le_succ _))
 . have e:b=s1.heap.objs.size:=by simpa using hb
   subst e;exact I1.fpOk (Oq _) (I1.hok.fresh (Oq _))
def ZrU(h:PSs X b t)(r:t D Z H):∃t,PSs X b t/\t D Z H:=⟨t,h,r⟩
def ZbB:RelV (.str x) (.str x t):=⟨t,rfl⟩
def ZC:RelV (.int x) (.int x t):=⟨t,rfl⟩
def Zai:RelV (.ref a) (.ref a):=rfl
def isSome_of{K:Yk}(h:PySem.W.isClsIn K C=Wv):(PySem.W.clsIn K C).isSome=Wv:=h
def DkK(P:Yh)(w:Yg)(K:Yk)(a:Yi)(kvs:List (Key×V)):Prop:=∃(o:Obj) (es:Array DictEntry) (ep:Nat) (vs:List (Key×Yj)),K.lookup a=Ws o/\o.ExactDict/\o.data=.dict es ep/\KeysOf (ZX P w) es/\Pairs (ZX P w) es.toList vs/\(vs.map (·.1)).Nodup/\KV kvs vs/\kvs.length<=sizeLine/\(a==Ye)=Ww
def Dk(P:Yh)(w:Yg)(K:Yk)(H:Hp)(a:Yi)(kvs:List (Key×V)):Prop:=Rd H a (.dK kvs)\/DkK P w K a kvs
section
variable {X:Cx}{pins:List (Yi×Obj)}{Z:St}{H:Hp}{s:Yb}{a:Yi}
def Inv.dk(I:Inv X pins Z H s)(h:Dk X.prog X.w X.K H a kvs):kvs.length<=sizeLine/\(a==Ye)=Ww/\∃vs,KV kvs vs/\s.heap.DictOf (ZX X.prog X.w) a vs:=by
 rcases h with h|⟨o,es,ep,vs,lk,ex,da,ks,ps,nd,kv,z,hm⟩
 . exact Zsw I.hok h
 . exact⟨z,hm,vs,kv,o,es,ep,I.kIn a o lk,ex,da,ks,ps,nd⟩
noncomputable def Zvr(P:Yh)(w:Yg)(K:Yk)(neg:Bool):R2:=λx y H Q=>∃a kvs k,y=.ref a/\x=kV k/\Dk P w K H a kvs/\Q (.bl (if neg then !(Ze2 kvs k).isSome else(Ze2 kvs k).isSome)) H
def ZtI:OpR X (YM .In) (Zvr X.prog X.w X.K Ww):=by intro pins s Z H x y v u Q I rx ry h;obtain⟨a,kvs,k,rfl,rfl,hd,q⟩:=h;cases ry;obtain⟨z,hm,vs,rel,dd⟩:=I.dk hd;refine wpAny_in_of (Zj3 rx) hm dd.mapOf ?_;rw[<- (rel.val k).isSome_eq];exact⟨.bl _,H,I.tok _,rfl,q⟩
def Znk:OpR X (YM .NotIn) (Zvr X.prog X.w X.K Wv):=by intro pins s Z H x y v u Q I rx ry h;obtain⟨a,kvs,k,rfl,rfl,hd,q⟩:=h;cases ry;obtain⟨z,hm,vs,rel,dd⟩:=I.dk hd;refine wpAny_notIn_of (Zj3 rx) hm dd.mapOf ?_;rw[<- (rel.val k).isSome_eq];exact⟨.bl _,H,I.tok _,rfl,q⟩
noncomputable def Zxm(P:Yh)(w:Yg)(K:Yk):R2:=λx y H Q=>∃a kvs k v,x=.ref a/\y=kV k/\Dk P w K H a kvs/\Ze2 kvs k=Ws v/\Q v H
def Zrs:IxR X (Zxm X.prog X.w X.K):=by intro value slice pins s Z H x y v u Q I rx ry h hs;obtain⟨a,kvs,k,z,rfl,rfl,hd,hv,q⟩:=h;cases rx;obtain⟨_,hm,vs,rel,dd⟩:=I.dk hd;obtain⟨w',hw,rw'⟩:=ZfJ.some_of (v:=z) (o:=valueAt vs k) (by rw[<- hv];exact rel.val k);exact subscriptTail_builtinR (x:=w') dd.typeIs PySem.F.slot_dict_getitem.lookup (wpAny_getItem_of (Zj3 ry) dd.mapOf hw ⟨rfl,z,H,I.tok _,rw',q⟩) hs
def Zwp(I:Inv X pins Z H s)(e:H a=Ws (.dK kvs))(l:kvs.length<sizeLine)(ry:RelV (kV k) u)(rv:RelV v r)
 (h:∀s',Inv X pins Z (upd H a (.dK (putK kvs k v))) s'->Q () s'):YB (model X.prog X.w) A (setItem (.ref a) u r) Q E s:=by
 obtain⟨z,hd,vs,rel,dd⟩:=Zsx I.hok e;have hz:vs.length<=sizeLine:=by rw[<- rel.length];exact z
 have hl:(putK kvs k v).length<=sizeLine:=by have:=Zgf kvs k v;lia
 refine wpAny_setItem_pairs (hsz:=hz) (Zj3 ry) dd λh' dd' hs=>h _ ?_;have he:∃q,h'.get? a=Ws q:=let ⟨q,_,_,hq,_⟩:=dd';⟨q,hq⟩;exact ZmB I (by rw[e];exact True.intro) hs he (ZpL hl hd (rel.put k rv) dd')
noncomputable def Zvf:Zr6:=λo i v H Q=>∃a kvs k,o=.ref a/\i=kV k/\H a=Ws (.dK kvs)/\kvs.length<sizeLine/\Q (upd H a (.dK (putK kvs k v)))
def set_dict:Zr7 X Zvf:=by intro pins s Z H o i v ov iv u Q I ro ri rv h;obtain⟨a,kvs,k,rfl,rfl,e,l,q⟩:=h;cases ro;exact Zwp I e l ri rv λs' I'=>⟨_,I',q⟩
end
set_option tactic.hygienic false
section
variable {X:Cx}{elt tg iter:Expr}{ifs:List Expr}{scope sc:Scope}{pos:Pos}{NC:List Str}{js:List (Option Nat)}{k:Nat}{wi:TI}{g:TG}{tc:TT}{te:TE}
def Zk2(hN:X.N.Nodup)(hy:X.N[i0]? = Ws y)(hx:Loc X.env.scope y)(hf:X.fn y=Wv\/X.env.scope.names.lookup y=Ws .local)(S_:CompSc NC X.N js sc scope)(hsc:X.env.scope=sc)(hc:X.calm=Wv)(hi:PI X tg iter wi)
 (hb:∀(pins:List (Yi×Obj)) (Z:St) (C:Yi) (s3:Yb) (H3:Hp) (fp:List Yi),Inv X pins Z H3 s3->(∀b∈fp,Zb5 X pins H3 b)->C=s3.heap.objs.size->PG (ZD X NC scope C s3 H3 fp) tg g/\PIf (ZD X NC scope C s3 H3 fp) ifs tc/\PE (ZD X NC scope C s3 H3 fp) elt te)
 (hk:ZnL k g) (hjk:∀j,j<k->js[j]? = Ws Wu) (hs:∀x,foldedSetIterable iter X.env x=pure x:=by intro _;rfl) (hsw:swapsWith (.ListComp elt [⟨tg,iter,ifs,0⟩] scope pos) (Ws (.Name y py)) spos.line X.env=pure Wv:=by rfl) :
 PS X (.Assign [.Name y py] (.ListComp elt [⟨tg,iter,ifs,0⟩] scope pos) spos) (ZkL (Zsi wi js g tc te) (Zdn i0)):=by
 intro pins s Z H D0 I h;have hcells:∀y∈scope.names,y.2=.free->∃c,X.env.cells.lookup y.1=Ws c:=λy hy hf=>I.ok.has y.1 (.inl (show X.env.scope.names.lookup y.1=Ws .cell by rw[hsc];exact S_.free y hy hf));rw[exec_Assign_Name_used _ _ _ _ hsw];refine Ya (wpAny_standAt (Ya ?_));show YB _ X.A (do let _ <- comprehension (.ListComp elt [⟨tg,iter,ifs,0⟩] scope pos) scope X.env _ (newList []) Ww (eval iter X.env) (Ws (assign (.Name y py) X.env))) _ _ s;refine Ya (Yf (wpAny_comprehension_free (use:=Ws (assign (.Name y py) X.env)) (Q:=λ_ s'=>SP X pins D0 .next s') rfl hs (ZeL hcells) S_.kind S_.locs (thn (hi pins s Z H _ I h) λxv s1 h1=>thn h1 λitv s2 h2=>?_)) (λ_ s' hq=>Yc (Yc hq)) λ_ _ e=>e);obtain⟨it,fp,tn,J,H2,e,I2,T,st2,f2,rest⟩:=h2;subst e;have hD:H2 s2.heap.objs.size=Wu:=I2.hok.fresh (Oq _);obtain⟨W,⟨m0,w0⟩,turn⟩:=rest s2.heap.objs.size hD;refine Yq (wpAny_newFunctionEnv S_.nocell (by intro y hy;simp at hy) (λh4 hns hsb=>?_) S_.kind);have I3:Inv X pins Z (upd H2 s2.heap.objs.size (.lst [])) {s2 with heap:=s2.heap.push {cls:=.type "list",dict:=Wu,data:=.seq ([]:List Yj).toArray}}:=I2.lnew (t':=s2.toks) (ys:=[]) (its:=[]) .nil (Yw _);dsimp only at hns hsb ⊢;generalize hs3:({s2 with heap:=s2.heap.push {cls:=.type "list",dict:=Wu,data:=.seq ([]:List Yj).toArray}}:Yb)=s3 at I3;have eh:s2.heap.push {cls:=.type "list",dict:=Wu,data:=.seq ([]:List Yj).toArray}=s3.heap:=by rw[<- hs3]
 have eD:s2.heap.objs.size<s3.heap.objs.size:=by rw[<- eh,Heap.size_push];exact OH _
 rw[eh]at hns hsb;have keep:∀b o,s3.heap.get? b=Ws o->h4.get? b=Ws o:=λb o e=>(hsb.2 b (Ou (Ym e))).trans (Od _ e);have fpl:∀b∈fp,∃o,s3.heap.get? b=Ws o:=λb hb=>by obtain⟨o,e,_⟩:=T.obj 0 _ st2 b hb;exact⟨o,by rw[<- eh];exact Od _ e⟩
 have neD:∀b∈fp,b≠s2.heap.objs.size:=λb hb=>by obtain⟨o,e,_⟩:=T.obj 0 _ st2 b hb;exact Ou (Ym e)
 have f3:∀b∈fp,Zb5 X pins (upd H2 s2.heap.objs.size (.lst [])) b:=λb hb=>⟨by rw[Zo (neD b hb)];exact(f2 b hb).1,(f2 b hb).2⟩
 have I4:=Zj7 (tk:=s2.toks+([]:List (Str×Yj)).length) S_ hsc hc I3 f3 fpl rfl hns keep;have st4:tn 0 h4:=T.keep 0 _ _ st2 λb hb o e=>keep b o (by rw[<- eh];exact Od _ e);have eC:(s2.heap.push {cls:=.type "list",dict:=Wu,data:=.seq ([]:List Yj).toArray}).objs.size=s3.heap.objs.size:=by rw[eh]
 have loop:∀s4:Yb,s4={s3 with heap:=h4,toks:=s2.toks+([]:List (Str×Yj)).length} ->
  codeAny (model X.prog X.w) X.A (.compLoop (.ListComp elt [⟨tg,iter,ifs,0⟩] scope pos) 0 (.ref it) (.ref s2.heap.objs.size) (compEnvC scope (ZdV X.env scope.names []) s3.heap.objs.size X.env))
   (compPost (model X.prog X.w) X.A X.xe (Ws (assign (.Name y py) X.env)) (λ_ s'=>SP X pins D0 .next s') (.ref s2.heap.objs.size) s3.heap.objs.size) s4:=by
  rintro s4 rfl;refine Zio (Q:=λx H1=>Zdn i0 x Z H1 D0.nx) hb hk hjk rfl I3 f3 fpl I4 T st4 Zq w0 turn (λs6 H5 I6 qn=>?_) (λ_ _ z=>z);obtain⟨m,hm,_⟩:=I6.loc;have Io:Inv X pins Z H5 s6:=I3.comp_out (h'':=s6.heap) f3 rfl I6 ⟨rfl,λ_ _=>rfl⟩;have fC:Zb5 X pins H5 s3.heap.objs.size:=I3.fpOk (Oq _) I6.free;show YB _ X.A (assign (.Name y py) X.env (.ref s2.heap.objs.size)) _ _ _;refine wpAny_assign_Name (Zh1 Io hN hy hx (v:=.ref s2.heap.objs.size) rfl (λs8 I8 ⟨a8,sb8,ha8⟩=>?_) hf);have ne8:s3.heap.objs.size≠a8:=λz=>by
   rcases ha8 with e|e
   . exact fC.2.1 (z.trans e)
   . exact fC.2.2.2.2.1 _ _ e z.symm
  refine⟨m,hm.sameBut sb8 ne8,λh' hs'=>?_⟩;exact⟨_,H5,I8.turnL (t':=s8.toks) (ch:=[s3.heap.objs.size]) (λb hb=>by rw[Ox.mp hb];exact fC) (λb o hb e=>(hs'.2 b (λz=>hb (by rw[z];exact List.mem_singleton_self _))).trans e),qn⟩
 have e4:({s2 with heap:=h4,toks:=s2.toks+([]:List (Str×Yj)).length}:Yb)={s3 with heap:=h4,toks:=s2.toks+([]:List (Str×Yj)).length}:=by rw[<- hs3]
 rw[eC];exact codeAny_compStart_list (loop _ e4) (T.self X.A 0 _ _ _ st4 (loop _ e4))
end
set_option tactic.hygienic true
mutual
inductive Dp(K:Yk)(H:Hp):V->PyData->Prop
 |non:Dp K H .non .none
 |bl (b:Bool):Dp K H (.bl b) (.bool b)
 |int (i:Int):Dp K H (.int i) (.int i)
 |str (x:Str) (ok:Yo x=Wv):Dp K H (.str x) (.str x)
 |lst {a:Yi}{xs:List V}{ds:List PyData}:SqL K H a xs->Dps K H xs ds->Dp K H (.ref a) (.list ds)
 |tup {a:Yi}{xs:List V}{ds:List PyData}:SqT K H a xs->Dps K H xs ds->Dp K H (.ref a) (.tuple ds)
inductive Dps(K:Yk)(H:Hp):List V->List PyData->Prop
 |nil:Dps K H [] []
 |cons {v:V}{vs:List V}{d:PyData}{ds:List PyData}:Dp K H v d->Dps K H vs ds->Dps K H (v::vs) (d::ds)
end
section
variable {K:Yk}{H H':Hp}
mutual
theorem Dp.lay:∀{v:V}{d:PyData},Dp K H v d->d.canLay0=Wv
 |_,_,.non=>rfl
 |_,_,.bl b=>rfl
 |_,_,.int i=>rfl
 |_,_,.str x ok=>ok
 |_,_,.lst h r=>Dps.lay r
 |_,_,.tup h r=>Dps.lay r
theorem Dps.lay:∀{v:List V}{d:List PyData},Dps K H v d->PyData.canLayAll0 d=Wv
 |_,_,.nil=>rfl
 |_,_,.cons h r=>by rw[PyData.canLayAll0,Dp.lay h,Dps.lay r];rfl
end
end
section
variable {X:Cx}{pins:List (Yi×Obj)}{Z:St}{H:Hp}{s:Yb}
mutual
theorem Inv.reads(I:Inv X pins Z H s):∀{v:V}{d:PyData}{u:Yj},Dp X.K H v d->RelV v u->∃as,Reads s.heap u d as
 |_,_,_,.non,r=>by cases r;exact⟨_,.none⟩
 |_,_,_,.bl b,r=>by cases r;exact⟨_,.bool b⟩
 |_,_,_,.int i,r=>by obtain⟨t,rfl⟩:=r;exact⟨_,.int i t⟩
 |_,_,_,.str x ok,r=>by obtain⟨t,rfl⟩:=r;exact⟨_,.str x t⟩
 |_,_,_,.lst h rs,r=>by cases r;obtain⟨its,rv,⟨o,n,e,c,_,dd⟩,_⟩:=I.list h;obtain⟨as,q⟩:=Inv.readsAll I rs rv;exact⟨_,.list e c dd (by simpa using q)⟩
 |_,_,_,.tup h rs,r=>by cases r;obtain⟨its,rv,⟨o,e,c,n,dd⟩,_⟩:=I.tuple h;obtain⟨as,q⟩:=Inv.readsAll I rs rv;exact⟨_,.tuple e c dd (by simpa using q)⟩
theorem Inv.readsAll(I:Inv X pins Z H s):∀{v:List V}{d:List PyData}{u:List Yj},Dps X.K H v d->Zp v u->∃as,ReadsAll s.heap u d as
 |_,_,_,.nil,r=>by cases r;exact⟨_,.nil⟩
 |_,_,_,.cons h rs,r=>by
  cases r with
  |cons r1 r2=>obtain⟨as,q⟩:=Inv.reads I h r1;obtain⟨bs,q2⟩:=Inv.readsAll I rs r2;exact⟨_,.cons q q2⟩
end
end
set_option tactic.hygienic false
namespace Rv
def own:Manifest.owners.lookup (String.ofList ['d','e','s','r','e','v','e','r'].reverse)=Ws Manifest.sig_reversed:=by kernel_rfl
def next:Slot "reversed" "__next__" "reversed.__next__" :=
 .of (owner := "reversed") (n := "__next__") (by rw[typeLookup_type,builtinLookup_eq_fast]<;>kernel_rfl) (by decide +kernel) (by decide +kernel) (by decide +kernel) (by first|exact .inl (by decide +kernel)|exact .inr (by decide +kernel)) (by rw[isSubtype_type]<;>kernel_rfl)
def Zsv:entryFor table "reversed.__next__" = Ws Builtin.«reversed.__next__»:=entryFor_of_tree (by kernel_rfl)
def ZsF(a:Yj):argsOk "reversed.__next__" ⟨[a],[]⟩:=by unfold argsOk;rw[signature?_of (id := "reversed.__next__") (n:=['_','_','t','x','e','n','_','_']) (o:=['d','e','s','r','e','v','e','r']) (by kernel_rfl) own];kernel_rfl
def iter:Slot "reversed" "__iter__" "reversed.__iter__" :=
 .of (owner := "reversed") (n := "__iter__") (by rw[typeLookup_type,builtinLookup_eq_fast]<;>kernel_rfl) (by decide +kernel) (by decide +kernel) (by decide +kernel) (by first|exact .inl (by decide +kernel)|exact .inr (by decide +kernel)) (by rw[isSubtype_type]<;>kernel_rfl)
def ZwF(a:Yj):argsOk "reversed.__iter__" ⟨[a],[]⟩:=by unfold argsOk;rw[signature?_of (id := "reversed.__iter__") (n:=['_','_','r','e','t','i','_','_']) (o:=['d','e','s','r','e','v','e','r']) (by kernel_rfl) own];kernel_rfl
def Zwn:entryFor table "reversed.__iter__" = Ws Builtin.«dict_keyiterator.__iter__» :=entryFor_alias (id' := "dict_keyiterator.__iter__") (by kernel_rfl) (by first|rfl|decide +kernel|(unfold String.splitOn;simp +decide [String.splitOnAux])) (by decide +kernel) (by kernel_rfl)
def ZvO:typeLookup (.type "tuple") "__reversed__" = pure Wu:=by rw[typeLookup_type,builtinLookup_eq_fast]<;>kernel_rfl
def ZlP:isSubtype (.type "reversed") (.type "reversed")=pure Wv:=by rw[isSubtype_type]<;>kernel_rfl
def init:Slot "reversed" "__init__" "object.__init__" :=
 .of (owner := "object") (n := "__init__") (by rw[typeLookup_type,builtinLookup_eq_fast]<;>kernel_rfl) (by decide +kernel) (by decide +kernel) (by decide +kernel) (by first|exact .inl (by decide +kernel)|exact .inr (by decide +kernel)) (by rw[isSubtype_type]<;>kernel_rfl)
def called:TypeCalled "reversed" "reversed.__new__" "object.__init__" := ⟨by decide +kernel,F.create_reversed,⟨_,_,F.mro_reversed⟩,F.made_reversed,by decide +kernel,ZlP,init⟩
noncomputable def obj(l:Yi)(i:Int):Obj:={cls:=.type "reversed",data:=.fields #[.ref l,rawInt i]}
def Is(h:YG)(a l:Yi)(i:Int):Prop:=∃o,h.get? a=Ws o/\o.cls=.type "reversed" /\ o.data=.fields #[.ref l,rawInt i]
section
variable {prog:Yh}{w:Yg}{A:YH}{E:Yj->Yb->Prop}{s:Yb}
def Is.typeIs(x:Is s.heap a l i):s.TypeIs (.ref a) "reversed" := let ⟨o,ho,hc,_⟩:=x;⟨o,ho,hc⟩
def Is.at(x:Is h a l i)(e:∀o,h.get? a=Ws o->h'.get? a=Ws o):Is h' a l i:=let ⟨o,ho,r⟩:=x;⟨o,e _ ho,r⟩
def new(hl:IsTup s.heap l items)(hz:items.size<=sizeLine)
 (h:Q (.ref s.heap.objs.size) {s with heap:=s.heap.push (obj l ((items.size:Int) - 1)),toks:=s.toks+1+1}) :
 codeAny (model prog w) A (.call (.builtin "reversed.__new__") ⟨[.type "reversed",.ref l],[]⟩) (wants Q E) s:=by
 have hfit:(items.size:Int)<2 ^ 63:=by have:=Zb8;lia
 refine codeAny_of_tree ?_;show YB _ A.in1 (do checkBuiltinCall "reversed.__new__" ⟨[.type "reversed",.ref l],[]⟩;again (.builtin "reversed.__new__" ⟨[.type "reversed",.ref l],[]⟩)) _ _ s;refine Ya (Wm (F.newCall_reversed_1 _) (Yc ⟨plainId_quiet F.plain_reversed_new _,codeAny_builtin F.entry_reversed_new ?_⟩));rw[Around.under_plainId F.plain_reversed_new _];unfold Builtin.«reversed.__new__»;refine Ya (Wm (newClass_reversed _) ?_)
 try dsimp only
 refine Ya (Wm (a:=()) (by first|rfl|kernel_rfl) (Ya (Wm (a:=()) (by first|rfl|kernel_rfl) ?_)))
 try dsimp only
 refine Ya (wpAny_specialOf hl.typeIs ZvO ?_)
 try dsimp only
 refine Ya ?_;show YB _ _ (isInstance (.ref l) (.type "dict") >>= λb=>_) _ _ s;refine Ya (wpAny_isInstance hl.typeIs F.sub_tuple_dict ?_);show YB _ _ (specialOf (.ref l) "__getitem__" >>= λb=>_) _ _ s;refine Ya (wpAny_specialOf hl.typeIs slot_tuple_getitem.lookup ?_);refine Wm (a:=true) (by rfl) ?_;show YB _ _ (call (.builtin "len") [.ref l] >>= λb=>_) _ _ s;refine Ya (len_tuple hl hfit ?_);show YB _ _ (asInt? (.int _ _) >>= λb=>_) _ _ _;refine Ya (Yc ?_);show YB _ _ (newObj (.type "reversed") (.fields #[.ref l,rawInt ((items.size:Int) - 1)]) >>= λb=>_) _ _ _;exact Ya (Yq (Yc h))
theorem call(hl:IsTup s.heap l items)(hz:items.size<=sizeLine)
 (h:Q (.ref s.heap.objs.size) {s with heap:=s.heap.push (obj l ((items.size:Int) - 1)),toks:=s.toks+1+1}):YB (model prog w) A (PySem.call (.type "reversed") [.ref l]) Q E s:=by
 refine callType_codes called (F.typeCall_reversed_1 _) F.entry_object_init (new (Q:=λo s1=>o=.ref s.heap.objs.size/\s1={s with heap:=s.heap.push (obj l ((items.size:Int) - 1)),toks:=s.toks+1+1}) hl hz ⟨rfl,rfl⟩) ?_;rintro _ _ ⟨rfl,rfl⟩;have hT:Shared.TypeIs {s with heap:=s.heap.push (obj l ((items.size:Int) - 1)),toks:=s.toks+1+1} (.ref s.heap.objs.size) "reversed" := ⟨_,Oj _ rfl,rfl⟩
 refine⟨hT,F.args_object_init_2 _ _,?_⟩;exact object_init_meets init.lookup F.made_reversed (by decide) prog w _ _ _ ⟨hT,rfl,h⟩
def next_item{it l:Yi}{i:Nat}{Q:Option Yj->Yb->Prop}(hit:Is s.heap it l (i:Int))(hl:IsTup s.heap l items)(hz:items.size<=sizeLine)(hx:items[i]? = Ws x)
 (hQ:∀h' t',Is h' it l ((i:Int) - 1)->Heap.SameBut it s.heap h'->Q (Ws x) {s with heap:=h',toks:=t'}):YB (model prog w) A (pyNext (.ref it)) Q E s:=by
 obtain⟨o,ho,hc,hd⟩:=id hit;have hi:i<items.size:=by have:=(Array.getElem?_eq_some_iff.mp hx).1;exact this
 have l63:=Zb8;unfold pyNext;refine Ya (wpAny_attempt (Wb (name:=O "__next__") hit.typeIs next (Wg next hit.typeIs Zsv ?_ (ZsF _))));unfold Builtin.«reversed.__next__»;refine Ya (Wm (a:=(YD it,[])) rfl ?_)
 try dsimp only
 refine Ya (YR ho hd (x:=.ref l) rfl (Ya (YR ho hd (x:=rawInt (i:Int)) rfl ?_)));show YB _ _ (if (i:Int)<0 then _ else _) _ _ s;rw[if_neg (by lia)];show YB _ _ (specialOf (.ref l) "__getitem__" >>= λb=>_) _ _ s;refine Ya (wpAny_specialOf hl.typeIs slot_tuple_getitem.lookup ?_);show YB _ _ (mkInt (i:Int) >>= λb=>_) _ _ s;refine Ya (wpAny_mkInt ?_);refine Ya (wpAny_attempt (getItem_tuple (s:={s with toks:=s.toks+1}) (j:=i) (x:=x) hl (by lia) (by lia) (seqIndex_of (by lia) (by lia)) hx ?_));show YB _ _ (field (.ref it) 1 >>= λb=>_) _ _ _;refine Ya (YR ho hd (x:=rawInt (i:Int)) rfl ?_);show YB _ _ (setField (.ref it) 1 (rawInt ((i:Int) - 1)) >>= λb=>_) _ _ _;refine Ya (wpAny_setField ho hd (by simp) ?_);refine Yc ⟨x,rfl,Yc (hQ _ _ ?_ (Heap.SameBut.update ..))⟩;exact⟨_,YW _ ho (Obj.isFreed_of_fields (YY hd _)),(Obj.cls_mapFields ..).trans hc,by rw[YY hd]<;>simp⟩
def next_end(hh:A.handled=Wu)(hit:Is s.heap it l (-1))(hQ:∀h',Heap.ExtBut it s.heap h'->Q Wu {s with heap:=h'}):YB (model prog w) A (pyNext (.ref it)) Q E s:=by
 obtain⟨o,ho,hc,hd⟩:=id hit;unfold pyNext;refine Ya (wpAny_attempt (Wb (name:=O "__next__") hit.typeIs next (Wg next hit.typeIs Zsv ?_ (ZsF _))));unfold Builtin.«reversed.__next__»;refine Ya (Wm (a:=(YD it,[])) rfl ?_)
 try dsimp only
 refine Ya (YR ho hd (x:=.ref l) rfl (Ya (YR ho hd (x:=rawInt (-1)) rfl ?_)));show YB _ _ (if (-1:Int)<0 then _ else _) _ _ s;rw[if_pos (by decide)];refine Ya (wpAny_rule ?_);show YB _ _ ((setField (.ref it) 1 (rawInt (-1)) >>= λ_=>setField (.ref it) 0 .none) >>= λb=>_) _ _ _;have e1:=YW (Obj.mapFields (·.setIfInBounds 1 (rawInt (-1)))) ho (Obj.isFreed_of_fields (YY hd _));refine Ya (Ya (wpAny_setField ho hd (by simp) (wpAny_setField e1 (YY hd _) (by simp) ?_)));refine Ya ?_;show YB _ _ (newExc (.type "StopIteration") [] >>= λb=>_) _ _ _;refine Ya ?_;simp only[newExc,newTuple];refine Ya (Yq ?_ (by size_fits));refine Ya (m:=firstArgMember _ _) (Wm (a:=Value.none) (by first|rfl|(simp only[firstArgMember]<;>rfl)) (Yq ?_ (by size_fits)));simp only[raiseNew];refine Ya (wpAny_handled ?_);rw[show A.in1.handled=Wu from hh];refine Ya (Yc (wpAny_throw ?_));refine Ya (wpAny_isInstance (T := "StopIteration") (b:=true) ⟨_,Oj _ rfl,rfl⟩ isSubtype_stop (Yc (hQ _ ?_)));exact((((Heap.ExtBut.refl _ _).trans (Heap.SameBut.update ..).extBut).trans (Heap.SameBut.update ..).extBut).push _).push _
def ZfX(hit:Is s.heap it l i)(h:Q (.ref it) s):YB (model prog w) A (pyIter (.ref it)) Q E s:=by refine wpAny_pyIter_slot hit.typeIs iter (Wg iter hit.typeIs Zwn ?_ (ZwF _));exact Yc ⟨_,rfl, "reversed",_,hit.typeIs,next.lookup,h⟩
end
end Rv
noncomputable def Itv(K:Yk)(a:Yi)(n:Nat):It:=⟨λi H=>∃xs x,SqT K H a xs/\xs.length=n/\xs.reverse[i]? = Ws x,λi H x H'=>H'=H/\∀xs,SqT K H a xs->xs.reverse[i]? = Ws x,λi H=>∃xs,SqT K H a xs/\xs.length=n/\n=i⟩
def Zn6{P:Yh}{w:Yg}{K:Yk}{tg:Expr}(a it:Yi)(n:Nat):Turn P w K tg (Itv K a n) [it] it (λi h=>i<=n/\Rv.Is h it a ((n:Int) - 1 - i)) where
 mem:=by simp
 obj:=λi h st b hb=>by
  have e:b=it:=by simpa using hb
  subst e;obtain⟨_,o,e,c,d⟩:=st;exact⟨o,e,λv z=>by rw[d]at z;cases z⟩
 keep:=λi h h' st k=>⟨st.1,st.2.at λo e=>k it (by simp) o e⟩
 item:=by
  intro X hP hw hK hc i pins s Z H E I hf st hg;subst hP hw hK;obtain⟨hin,st⟩:=st;obtain⟨xs,x,hq,hxn,hx⟩:=hg;obtain⟨its,rv,p,hz⟩:=I.tuple hq;have hl:=rv.length;have hi:i<xs.length:=by have:=(Ob.mp hx).1;simpa using this
  have hx':xs[n - 1 - i]? = Ws x:=by rw[List.getElem?_reverse hi]at hx;rw[<- hxn];exact hx
  obtain⟨u,hu,ru⟩:=rv.get hx';obtain⟨f0,f1,f2,f3,f4,f5⟩:=hf it (by simp);have e1:(n:Int) - 1 - (i:Nat)=((n - 1 - i:Nat):Int):=by lia
  rw[e1]at st;refine Rv.next_item st p (by simp;lia) (x:=u) (by simpa using hu) λh' t' st' sb=>?_;have I1:Inv X pins Z H {s with heap:=h',toks:=t'}:=I.turned (t':=t') (λb o hb e=>(sb.2 b hb).trans e) f0 f1 f3 f4 f5;obtain⟨o,e,c,d⟩:=id st';have e2:((n - 1 - i:Nat):Int) - 1=(n:Int) - 1 - ((i+1:Nat):Int):=by lia
  refine⟨u,rfl,Zj8 (s:={s with heap:=h',toks:=t'}) e c d (by decide) ⟨x,H,I1,ru,⟨rfl,λys hy=>by rw[I.tuple_inj hy hq];exact hx⟩,⟨by lia,by rw[<- e2];exact st'⟩,λb hb=>(hf b hb).1⟩⟩
 done:=by intro X hP hw hK hc i pins s Z H E I hf st hg;subst hP hw hK;obtain⟨xs,hq,hxn,hx⟩:=hg;obtain⟨f0,f1,f2,f3,f4,f5⟩:=hf it (by simp);have st1:=st.2;rw[show(n:Int) - 1 - (i:Nat)=-1 by lia]at st1;exact Rv.next_end (I.ok.hd hc) st1 λh' eb=>⟨rfl,I.turned (t':=s.toks) (λb o hb e=>eb b o hb e) f0 f1 f3 f4 f5⟩
 self:=λ_ _ _ _ _ st h=>Rv.ZfX st.2 h
theorem ZfL:∀{vs:List Yj}{ss:List Str},StrsAre vs ss->Zp (ss.map V.str) vs
 |_,_,.nil=>.nil
 |_,_,.cons y t h=>.cons ⟨t,rfl⟩ (ZfL h)
section
variable {prog:Yh}{w:Yg}{A:YH}{E:Yj->Yb->Prop}{s:Yb}
def ZkM
 (hcol:∀R:List Yj->Yb->Prop,(∀(h':YG) (tk:Nat) (vs:List Yj),s.heap.objs.size<=h'.objs.size->(∀b o,s.heap.get? b=Ws o->h'.get? b=Ws o)->StrsAre vs ss->R vs {s with heap:=h',toks:=tk})->YB (model prog w) A.in1 (collect (.ref r)) R E s)
 (h64:ss.length<64)
 (h:∀(D:Yi) (h':YG) (tk:Nat) (out:List Yj) (ss':List Str) (n:Nat),(∀b o,s.heap.get? b=Ws o->h'.get? b=Ws o)->s.heap.objs.size<=D->h'.get? D=Ws {cls:=.type "list",data:=.seq out.toArray n}->StrsAre out ss'->ss'.Perm ss->sortedS ss'=Wv ->
  Q (.ref D) {s with heap:=h',toks:=tk}):YB (model prog w) A (call (.builtin "sorted") [.ref r]) Q E s:=by
 refine Calls.call_function_entry kind_sorted plain_sorted entry_sorted (args_sorted1 _) ?_;unfold Builtin.«sorted»;refine Ya (m:=checkCount "sorted" 1 1 _) (Yc (Ya (hcol _ λh' tk vs hsz hk hS=>?_)));have hlen:vs.length=ss.length:=by have:=(ZfL hS).length;simpa using this.symm
 have hz:vs.length<=sizeLine:=by rw[YC];lia
 refine Ya (wpAny_newList ?_ hz);have hoL:(h'.push (seqObj "list" vs.toArray 0)).get? h'.objs.size=Ws (seqObj "list" vs.toArray 0):=Oj _ rfl;refine Ya (Wf (Wg slot_list_sort ⟨_,hoL,rfl⟩ entry_list_sort (list_sort_treeK strKind_oneLt hoL hS.keysOf (λv₁ v₂ rest e=>keyKind_strs (by rw[<- e];exact hS)) (by lia) λst' a1 a2=>⟨_,rfl,?_⟩) (args_list_sort _)));refine Yc ⟨_,rfl,?_⟩;obtain⟨ss',h1,h2,h3⟩:=sorted_out_str hS a1 a2;obtain⟨e,he⟩:=sortedHeap_at (out:=(arrOf st').map (·.2)) hoL;have e2:((arrOf st').map (·.2))=((arrOf st').map (·.2)).toList.toArray:=Array.toArray_toList.symm;refine h h'.objs.size _ tk ((arrOf st').map (·.2)).toList ss' e (λb o q=>?_) hsz (by rw[<- e2];exact he) h1 h2 h3;have q':=hk b o q;have hlt:=Ym q';rw[sortedHeap_old (Ou hlt) (by rw[size_push'];exact Nat.lt_succ_of_lt hlt)];exact Od _ q'
def Zkn(K:PySem.W.KdlSrc prog w T r d n P OK)(hh:A.handled=Wu)(hok:OK s.heap)(hn:n<=sizeLine)
 (h:∀(h':YG) (tk:Nat) (acc:Array Yj),s.heap.objs.size<=h'.objs.size->(∀b o,s.heap.get? b=Ws o->h'.get? b=Ws o)->ItemsOf P acc n->R acc.toList {s with heap:=h',toks:=tk}) :
 YB (model prog w) A (collect (.ref r)) R E s:=by
 have lt:=K.there _ hok;unfold collect;refine Ya (wpAny_runValue (codeAny_builtin entry_proto_collect' ?_));rw[Around.under_plainId PySem.F.plain_proto_collect _];show YB _ A.in1 (newList [] >>= λx=>again (.builtin "list.__iadd__" ⟨[x,.ref r],[]⟩)) _ _ s;refine Ya (Yq (Yc ⟨plainId_quiet PySem.F.plain_list_iadd _,codeAny_builtin entry_list_iadd' ?_⟩));rw[Around.under_plainId PySem.F.plain_list_iadd _];have e0:(s.heap.push {cls:=.type "list",data:=.seq ([]:List Yj).toArray}).get? s.heap.objs.size=Ws {cls:=.type "list",data:=.seq #[]}:=Oj _ rfl;show YB _ A.in1 (Builtin.List.listExtendWith (.ref s.heap.objs.size) (.ref r) (.ref s.heap.objs.size)) _ _ _;have key:=PySem.W.kdl_extend (A:=A) (s:={s with heap:=s.heap.push {cls:=.type "list",data:=.seq ([]:List Yj).toArray}})
  (R:=λ(q:Result) (s':Yb)=>∃(h':YG) (tk:Nat) (acc:Array Yj) (c:Nat),q=.ok (.ret (.ref s.heap.objs.size))/\s'={s with heap:=h',toks:=tk}/\(∀b o,s.heap.get? b=Ws o->h'.get? b=Ws o)/\h'.get? s.heap.objs.size=Ws {cls:=.type "list",dict:=Wu,data:=.seq acc c,slots:=#[]}/\ItemsOf P acc n)
  K hh (K.keep _ _ hok λb _ o e=>Od _ e) s.heap.objs.size (Nat.ne_of_gt lt.1) (Nat.ne_of_gt lt.2) (.ref s.heap.objs.size) 0 e0 (λh' tk acc c hk hS hacc=>⟨h',tk,acc,c,rfl,rfl,λb o e=>hk b o (Ou (Ym e)) (Od _ e),hS,hacc⟩) hn
 refine Yf key (λfin s' x=>?_) λe s' x=>?_
 . cases fin with
   |done f=>obtain⟨h',tk,acc,c,e,rfl,hk,hS,hacc⟩:=x;cases e;exact Ya (wpAny_load hS (Yc (h h' tk acc (Yy (Ym hS)) hk hacc)))
   |again c₁=>refine⟨x.1,codeAny_mono x.2 λq s₂ y=>?_⟩;obtain⟨h',tk,acc,c,rfl,rfl,hk,hS,hacc⟩:=y;exact Ya (wpAny_load hS (Yc (h h' tk acc (Yy (Ym hS)) hk hacc)))
 . obtain⟨_,_,_,_,z,_⟩:=x;cases z
end
theorem Zg3:∀{xs:List α}{ys:List β},Paired R xs ys->∀{i:Nat}{x:α},xs[i]? = Ws x->∃y,ys[i]? = Ws y/\R x y
 |_,_,.nil,i,x,e=>by simp at e
 |_,_,.cons h r,0,x,e=>by cases e;exact⟨_,rfl,h⟩
 |_,_,.cons h r,i+1,x,e=>by obtain⟨y,h1,h2⟩:=Zg3 r (i:=i) (x:=x) (by simpa using e);exact⟨y,by simpa using h1,h2⟩
theorem ZgT:∀(ss:List Str) (vs:List Yj),vs.length=ss.length->(∀(j:Nat) (v:Yj),vs[j]? = Ws v->∃x,ss[j]? = Ws x/\(ZX P w).is (YE x) v=Wv)->StrsAre vs ss
 |[],[],_,_=>.nil
 |s::ss,v::vs,hl,h=>by obtain⟨x,e,hx⟩:=h 0 v rfl;cases e;obtain⟨t,rfl⟩:=Value.isStrOf_shape (x:=s) (v:=v) hx;exact .cons s t (ZgT ss vs (by simpa using hl) λj u hu=>h (j+1) u (by simpa using hu))
section
variable {X:Cx}
def ZoB(P:Yh)(w:Yg)(K:Yk):List V->Hp->VK->Prop:=λxs H Q=>∃a kvs ss,xs=[.ref a]/\Dk P w K H a kvs/\kvs.map (·.1)=ss.map YE/\ss.length<64/\∀p ss',H p=Wu->ss'.Perm ss->sortedS ss'=Wv->Q (.ref p) (upd H p (.lst (ss'.map V.str)))
def Zi9(hc:X.A.handled=Wu):Zc3 X (.builtin "sorted") (ZoB X.prog X.w X.K):=by
 intro pins s Z H xs us Q I r h;obtain⟨a,kvs,ss,rfl,hd,hks,h64,q⟩:=h;obtain⟨u,rfl,ru⟩:=vals1 r;cases ru;obtain⟨z,hm,vs,rel,dd⟩:=I.dk hd;obtain⟨ep,hat⟩:=dd.dictAt;have hl:vs.length=kvs.length:=(Paired.length rel).symm;have hl2:kvs.length=ss.length:=by have:=congrArg List.length hks;simpa using this
 have hkey:∀(j:Nat) k x,vs[j]? = Ws (k,x)->∃y,ss[j]? = Ws y/\k=YE y:=λj k x e=>by
  have hj:j<vs.length:=(Ob.mp e).1;have h1:kvs[j]? = Ws kvs[j]:=Og (by lia);obtain⟨u,hu,hu2⟩:=Zg3 rel h1;rw[e]at hu;cases hu;have h3:(kvs.map (·.1))[j]? = Ws kvs[j].1:=by rw[O2,h1];rfl
  rw[hks,O2]at h3;obtain⟨y,hy,e3⟩:=Oo.mp h3;exact⟨y,hy,hu2.1.symm.trans e3.symm⟩
 refine ZkM (ss:=ss) (λR hR=>Zkn (PySem.W.kdl_dict (knd:=ZX X.prog X.w) (kvs:=vs) (ep:=ep) hm) hc hat (by lia) λh' tk acc hsz hk hacc=>?_) h64 λD h' tk out ss' n hk hD ho hS hp hs=>?_
 . refine hR h' tk acc.toList hsz hk (ZgT (P:=X.prog) (w:=X.w) ss acc.toList (by rw[Array.length_toList,hacc.1];lia) λj v hv=>?_);obtain⟨k,x,e,hk2⟩:=hacc.2 j v (by rw[<- Array.getElem?_toList];exact hv);obtain⟨y,hy,rfl⟩:=hkey j k x e;exact⟨y,hy,hk2⟩
 . have hlen:ss'.length<=sizeLine:=by rw[hp.length_eq];lia
   refine⟨.ref D,_,I.laid (a:=D) (o:=.lst (ss'.map V.str)) (t':=tk) hk hD ⟨by simpa using hlen,out,n,ZfL hS,ho⟩,rfl,q D ss' (I.hok.fresh hD) hp hs⟩
end
set_option tactic.hygienic true
theorem ZeC:∀{ns:List Int}{vs:List Yj},Zp (ns.map V.int) vs->IntsAre vs ns
 |[],vs,h=>by cases h;exact .nil
 |s::ss,vs,h=>by
  rw[Op]at h;cases h with
  |cons h1 h2=>obtain⟨t,rfl⟩:=h1;exact .cons s t (ZeC h2)
noncomputable def ZfO(z:Str)(n:Nat):Str:=⟨(YK n z.cps).foldl (·++·) #[]⟩
theorem Zhg(a:Array Nat):∀(n:Nat) (i:Array Nat),((YK n a).foldl (·++·) i).size=i.size+n * a.size
 |0,i=>by simp
 |n+1,i=>by
  rw[List.replicate_succ,Wp,Zhg a n (i++a),Array.size_append,Nat.succ_mul]
  lia
def Ze9(z:Str)(n:Nat):(ZfO z n).length=n * z.length:=by show((YK n z.cps).foldl (·++·) #[]).size=_;rw[Zhg];simp;rfl
section
variable {X:Cx}
def ZnF(hc:X.A.handled=Wu):Zc3 X (.builtin "sum") (λxs H Q=>∃(a:Yi) (ns:List Int),xs=[.ref a]/\SqL X.K H a (ns.map V.int)/\Q (.int ns.sum) H):=by
 intro pins s Z H xs us Q I r h;obtain⟨a,ns,rfl,hq,q⟩:=h;obtain⟨u,rfl,ru⟩:=vals1 r;cases ru;obtain⟨its,rv,pl,hz⟩:=I.list hq;have hi:=ZeC rv;obtain⟨ys,e⟩:=hi.allInts.items;refine sum_intListG (xs:=ys) hc (by rw[<- e];exact pl.isList) λh' tk t' hk=>?_;refine⟨.int ns.sum,H,I.kept (t':=tk) hk,⟨t',?_⟩,q⟩;have e2:=hi.numsOf;have e3:numsOf (intItems ys).toList=ns:=by rw[<- e];exact e2
 rw[nums_intItems]at e3;rw[preSum_eq,List.take_of_length_le (by simp),e3]
def Zq1:OpR X (binaryOp .Mult) (λx y H Q=>∃z n,x=.str z/\y=.int n/\0<=n/\n<=1000/\z.length<=1000/\Q (.str (ZfO z n.toNat)) H):=by
 intro pins s Z H x y v u Q I rx ry h;obtain⟨z,n,rfl,rfl,h0,h1,h2,q⟩:=h;obtain⟨t,rfl⟩:=rx;obtain⟨t2,rfl⟩:=ry;have hl:z.length * n.toNat<=1000000:=Nat.mul_le_mul h2 (by lia:n.toNat<=1000);have hs:(1000000:Nat)<=sizeLine:=by decide
 refine PySem.P.mul_str (by rw[decide_eq_false (by lia:¬ n < -(2 ^ 63:Int)),decide_eq_false (by lia:¬ n ≥ 2 ^ 63)]<;>rfl) (λ_ _=>?_) (λ_ _=>?_) ?_
 . have h3:1<=n:=by lia
   have h4:(9223372036854775807:Int) / n ≥ 1000:=by have:1000<=9223372036854775807 / n:=(Int.le_ediv_iff_mul_le (by lia)).mpr (by lia);exact this
   show ¬ ((z.length:Int) > (2 ^ 63 - 1) / n);rw[show(2 ^ 63 - 1:Int)=9223372036854775807 by decide]
   lia
 . unfold Builtin.Str.tooLong;exact decide_eq_false (by lia)
 . by_cases hn:n<1
   . rw[if_pos hn];refine⟨by decide,.str _,H,I.tok _,⟨_,rfl⟩,?_⟩;rw[show n.toNat=0 by lia]at q;exact q
   . rw[if_neg hn];by_cases h5:(n==1 || z.length==0)=Wv
     . rw[if_pos h5];refine⟨.str _,H,I,⟨_,rfl⟩,?_⟩;have e:ZfO z n.toNat=z:=by
        rw[Wr]at h5;rcases h5 with h5|h5
        . have e1:n.toNat=1:=by have:=eq_of_beq h5;lia
          rw[e1];unfold ZfO;simp
        . have e1:z.length=0:=eq_of_beq h5;have e2:(ZfO z n.toNat).length=0:=by rw[Ze9,e1];simp
          have f:∀y:Str,y.length=0->y=⟨#[]⟩:=λy hy=>by cases y with|mk c=>rw[show c=#[]from Array.eq_empty_of_size_eq_zero hy]
          exact(f _ e2).trans (f z e1).symm
       rw[e]at q;exact q
     . rw[if_neg h5];refine⟨?_,.str _,H,I.tok _,⟨_,rfl⟩,q⟩;show(ZfO z n.toNat).length<=sizeLine;rw[Ze9,Nat.mul_comm]
       lia
def ZiS(hi:i.natAbs<2 ^ 2000)(hj:j.natAbs<2 ^ 2000):IntMulOk i j:=by
 have bits:∀k:Int,k.natAbs<2 ^ 2000->Builtin.Int.intBits k<=2000:=λk hk=>by
  unfold Builtin.Int.intBits;split
  . lia
  . rename_i h;have h0:k.natAbs≠0:=by simpa using h
    have:=(Nat.log2_lt h0).mpr hk
    lia
 unfold IntMulOk;have h1:=bits i hi;have h2:=bits j hj;have h3:Builtin.Int.intTooBig (Builtin.Int.intBits i+Builtin.Int.intBits j:Nat)=Ww:=by
  unfold Builtin.Int.intTooBig;rw[decide_eq_false_iff_not];have:(bitsLine:Nat)=134217728:=by decide
  rw[this]
  lia
 intro q;simp only[Oa]at q;have q2:=q.2;rw[show((Builtin.Int.intBits i:Int)+(Builtin.Int.intBits j:Int))=((Builtin.Int.intBits i+Builtin.Int.intBits j:Nat):Int) by simp]at q2;rw[h3]at q2;cases q2
def Znl:OpR X (binaryOp .Mult) (rI (λi j=>i.natAbs<2 ^ 2000/\j.natAbs<2 ^ 2000) λi j=>.int (i * j)):=opI λ_ _ _ _ _ _ _ hc q=>mul_int q (ZiS hc.1 hc.2)
noncomputable def Zvt(K:Yk):R2:=λx y H Q=>∃a b ys,x=.ref a/\y=.ref b/\SqT K H a []/\SqT K H b ys/\Q (.ref b) H
def Zq4:OpR X (binaryOp .Add) (Zvt X.K):=by
 intro pins s Z H x y v u Q I rx ry h;obtain⟨a,b,ys,rfl,rfl,ha,hb,q⟩:=h;cases rx;cases ry;obtain⟨its,r1,ht,_⟩:=I.tuple ha;obtain⟨its2,r2,hb,_⟩:=I.tuple hb;cases r1;obtain⟨⟨cls,dd,data,sl⟩,ho,hc,n,hd⟩:=id ht;obtain⟨⟨cls2,dd2,data2,sl2⟩,ho2,hc2,n2,hd2⟩:=id hb;simp only at hc hd hc2 hd2;subst hc hd hc2 hd2;exact concat_meets ⟨_,ho,rfl⟩ ⟨_,ho2,rfl⟩ noFill_tuple_add seq_tuple_add PySem.F.slot_tuple_add PySem.F.entry_tuple_add (PySem.F.args_tuple_add_2 _ _)
  (tuple_addW0 a b _ _ n n2 dd dd2 sl sl2 (by simp)) ⟨ho,ho2,⟨.ref b,H,I,rfl,q⟩⟩
end
end L2
namespace HT
open PySem PyProof.Rows
section
variable {prog:Yh}{w:Yg}{A:YH}{E:Yj->Yb->Prop}{s:Yb}
def Zeu{t sl:Yi}{items:Array Yj}{lo hi:Option Int}{Q:Yj->Yb->Prop}(ht:IsTup s.heap t items)(hs:s.heap.IsSliceOf sl vl vu .none)(pl:IsPart vl lo)(pu:IsPart vu hi)
 (hw:sIx items.size 0 lo=0/\sIx items.size items.size hi=items.size) (h:Q (.ref t) s):YB (model prog w) A (getItem (.ref t) (.ref sl)) Q E s:=by
 obtain⟨os,hos,hcs,hds⟩:=id hs;have hTs:s.TypeIs (.ref sl) "slice" := ⟨os,hos,hcs⟩
 unfold getItem
 try with_reducible refine Wf ?_
 first|refine Ya (Yc ?_)|skip
 refine Ya (wpAny_sequenceKey ht.typeIs (by decide) ?_);refine Ya (Wb (name:=O "__getitem__") ht.typeIs Wj
  (Wg Wj ht.typeIs entry_tuple_getitem ?_ (args_tuple_getitem _ _)))
 show YB _ _ (Builtin.Tuple.tupleItemsOf (.ref t) >>= _) _ _ s;refine Ya (tupleItemsOf_ ht ?_);refine Ya (wpAny_typeOf hTs ?_);rw[if_pos (by decide)];refine Ya (ZcS hs pl pu ?_);have hyes:(((sIx items.size 0 lo:Nat):Int)==0&&(1:Int)==1&&(sIx items.size items.size hi - sIx items.size 0 lo)==items.size)=Wv:=by rw[hw.1,hw.2];simp
 show YB _ _ (if (((sIx items.size 0 lo:Nat):Int)==0&&(1:Int)==1&&(sIx items.size items.size hi - sIx items.size 0 lo)==items.size)=Wv then _ else _) _ _ s;rw[if_pos hyes];unfold Builtin.Tuple.tupleIsExact;refine Ya (Ya (wpAny_typeOf ht.typeIs (Yc ?_)));rw[if_pos (by decide)];exact Ya (wpAny_rule (Yc ⟨_,rfl,Yc h⟩))
end
end HT
namespace L2
open PySem PySem.Spec PyProof.Rows
section
variable {X:Cx}
def Zxe(K:Yk):V->Option Int->Option Int->Hp->VK->Prop:=λx lo hi H Q=>∃a xs,x=.ref a/\SqT K H a xs /\
 (HT.sIx xs.length 0 lo=0/\HT.sIx xs.length xs.length hi=xs.length)/\Q (.ref a) H
def Zok:SlR X (Zxe X.K):=by
 intro pins s Z H x v vl vu lo hi sl Q I rx hs pl pu h;obtain⟨a,xs,rfl,hx,hw,q⟩:=h;cases rx;obtain⟨its,r,ht,hz⟩:=I.tuple hx;have hlen:its.toArray.size=xs.length:=by rw[Of];exact r.length.symm
 refine⟨"tuple",_,PyProof.Rows.slot_tuple_getitem.lookup,ht.typeIs,?_⟩;exact HT.Zeu ht hs pl pu (by rw[hlen];exact hw) ⟨.ref a,H,I,rfl,q⟩
end
end L2
namespace L2
set_option tactic.hygienic false
namespace Mx
open PySem PyProof.Rows
def nm:(toString "max" ++ toString ".loop" : String) = "max.loop" := by decide
section
variable {prog:Yh}{w:Yg}{A:YH}{Z_:Result->Yb->Prop}{J:Yi}{fo wo:List Yi}{m:Nat}{P:Nat->Yj->Prop}{S_:Nat->YG->Prop}
theorem loop(W:Walks prog w A.in1 J fo wo m P S_)(bt:Nat->Nat->Bool)(hb:CmpOf prog w A.in1 .Gt P bt)(C:Yi)(hC:C ∉ fo)(kw:List (Str×Yj)):∀(d j:Nat) (s:Yb) (u:Yj) (c:Nat),
 m - (j+1)=d->j+1<=m->S_ (j+1) s.heap->P (argBest bt j) u->s.heap.get? C=Ws {cls:=.type "list",dict:=Wu,data:=.seq #[u,u] c,slots:=#[]} ->
 (∀v hp tk,P (argBest bt (m - 1)) v->(∀b o,b ∉ wo->b≠C->s.heap.get? b=Ws o->hp.get? b=Ws o)->Z_ (.ok (.ret v)) {s with heap:=hp,toks:=tk}) ->
 codeAny (model prog w) A (.builtin "max.loop" ⟨[.ref J,.none,.ref C],kw⟩) Z_ s:=by
 have hCw:C ∉ wo:=λz=>hC (W.sub _ z);intro d;induction d with
 |zero=>
  intro j s u c e1 e2 st pu hc hz;have em:j+1=m:=by omega
  refine codeAny_builtin PySem.F.entry_max_loop ?_;rw[Around.under_plainId YU _];show YB (model prog w) A.in1 (seqItems? (YD C) >>= _) _ _ s;refine Ya (wpAny_seqItems hc rfl ?_);show YB (model prog w) A.in1 (tryCatch (pyNext (YD J)) _ >>= _) _ _ s;refine Ya (wpAny_tryCatch (W.done s _ _ (em ▸ st) λhp tk kp=>?_));have hc1:=kp C _ hCw hc;show YB (model prog w) A.in1 (updateSeq C (λ_=>#[]) >>= _) _ _ _;exact Ya (wpAny_updateSeq hc1 rfl (Ya (wpAny_letGo (Yc (hz u _ tk (by rw[<- em];exact pu) λb o b1 b2 e=>(YN _ _ (YL b2)).trans (kp b o b1 e))))))
 |succ d ih=>
  intro j s u c e1 e2 st pu hc hz;have lt:j+1<m:=by omega
  refine codeAny_builtin PySem.F.entry_max_loop ?_;rw[Around.under_plainId YU _];show YB (model prog w) A.in1 (seqItems? (YD C) >>= _) _ _ s;refine Ya (wpAny_seqItems hc rfl ?_);show YB (model prog w) A.in1 (tryCatch (pyNext (YD J)) _ >>= _) _ _ s;refine Ya (wpAny_tryCatch (W.item (j+1) s _ _ lt st λv hp tk pv st1 kp=>?_));have hc1:=kp C _ hCw hc;show YB (model prog w) A.in1 (tryCatch (holding [v,v] (richCompare CmpOp.Gt v u >>= _)) _ >>= _) _ _ _;refine Ya (wpAny_tryCatch (Wf (Ya (hb (j+1) (argBest bt j) v u _ _ _ pv pu (Ya (Wf (wpAny_truthy_bool (Ya (wpAny_letGo (Yc ?_))))))))));cases q:bt (j+1) (argBest bt j)with
  |true=>
   simp only[if_true];refine Ya (wpAny_updateSeq hc1 rfl (Ya (wpAny_letGo ?_)));rw[nm];refine Yc ⟨plainId_quiet YU _,ih (j+1) _ v _ (by omega) lt (W.frame _ _ _ st1 λb b1 o e=>?_) (by simp only[argBest,q,if_true];exact pv) (YW _ hc1 rfl) λv2 hp2 tk2 pv2 kp2=>?_⟩
   . exact(YN _ _ (λz:C=b=>hC (by rw[z];exact b1))).trans e
   . exact hz v2 hp2 tk2 pv2 λb o b1 b2 e=>kp2 b o b1 b2 ((YN _ _ (YL b2)).trans (kp b o b1 e))
  |false=>simp only[OG,if_false];refine Ya (wpAny_letGo ?_);rw[nm];exact Yc ⟨plainId_quiet YU _,ih (j+1) _ u c (by omega) lt st1 (by simp only[argBest,q,OG,if_false];exact pu) hc1 λv2 hp2 tk2 pv2 kp2=>hz v2 hp2 tk2 pv2 λb o b1 b2 e=>kp2 b o b1 b2 (kp b o b1 e)⟩
def first(W:Walks prog w A.in1 J fo wo m P S_)(bt:Nat->Nat->Bool)(hb:CmpOf prog w A.in1 .Gt P bt)(C:Yi)(hC:C ∉ fo)(dn:Str)(dv:Yj)(st:S_ 0 s.heap)
 (hc:s.heap.get? C=Ws {cls:=.type "list",dict:=Wu,data:=.seq #[] c,slots:=#[]})
 (hz:∀v hp tk,(m=0->v=dv)->(0<m->P (argBest bt (m - 1)) v)->(∀b o,b ∉ wo->b≠C->s.heap.get? b=Ws o->hp.get? b=Ws o)->Z_ (.ok (.ret v)) {s with heap:=hp,toks:=tk}) :
 codeAny (model prog w) A (.builtin "max.loop" ⟨[.ref J,.none,.ref C],[(dn,dv)]⟩) Z_ s:=by
 have hCw:C ∉ wo:=λz=>hC (W.sub _ z);refine codeAny_builtin PySem.F.entry_max_loop ?_;rw[Around.under_plainId YU _];show YB (model prog w) A.in1 (seqItems? (YD C) >>= _) _ _ s;refine Ya (wpAny_seqItems hc rfl ?_);show YB (model prog w) A.in1 (tryCatch (pyNext (YD J)) _ >>= _) _ _ s;by_cases hm:0<m
 . refine Ya (wpAny_tryCatch (W.item 0 s _ _ hm st λv hp tk pv st1 kp=>?_));have hc1:=kp C _ hCw hc;show YB (model prog w) A.in1 (updateSeq C (λ_=>#[v,v]) >>= _) _ _ _;refine Ya (wpAny_updateSeq hc1 rfl ?_);rw[nm];refine Yc ⟨plainId_quiet YU _,loop W bt hb C hC _ _ 0 _ v _ rfl hm (W.frame _ _ _ st1 λb b1 o e=>?_) pv (YW _ hc1 rfl) λv2 hp2 tk2 pv2 kp2=>?_⟩
   . exact(YN _ _ (λz:C=b=>hC (by rw[z];exact b1))).trans e
   . exact hz v2 hp2 tk2 (λz=>by omega) (λ_=>pv2) λb o b1 b2 e=>kp2 b o b1 b2 ((YN _ _ (YL b2)).trans (kp b o b1 e))
 . have h0:m=0:=by omega
   refine Ya (wpAny_tryCatch (W.done s _ _ (h0 ▸ st) λhp tk kp=>?_));exact Ya (wpAny_rule (Yc (hz dv hp tk (λ_=>rfl) (λz=>absurd z hm) λb o b1 _ e=>kp b o b1 e)))
end
section
variable {prog:Yh}{w:Yg}{A:YH}{E:Yj->Yb->Prop}{s:Yb}
def args(a d:Yj):argsOk "max" ⟨[a],[("default",d)]⟩:=by unfold argsOk;kernel_rfl
theorem call
 (h:YB (model prog w) A.in1 (pyIter x) (λit s2=>∃J fo wo m P S_ bt,it=.ref J/\Walks prog w A.in1 J fo wo m P S_/\S_ 0 s2.heap/\(∀b∈fo,b<s2.heap.objs.size)/\CmpOf prog w A.in1 .Gt P bt /\
  ∀v hp tk,(m=0->v=dv)->(0<m->P (argBest bt (m - 1)) v)->(∀b o,b ∉ wo->s2.heap.get? b=Ws o->hp.get? b=Ws o)->Q v {s2 with heap:=hp,toks:=tk}) E s) :
 YB (model prog w) A (PySem.call (.builtin "max") [x] [("default",dv)]) Q E s:=by
 refine wpAny_call (codeAny_call_builtin PySem.F.plain_max PySem.F.entry_max ?_);simp only[checkBuiltinCall,PySem.F.kind_max];have go:YB (model prog w) A.in1 (Builtin.«max» ⟨[x],[("default",dv)]⟩) (λfin s'=>match fin with
  |.done f=>(match (Except.ok f:Result)with|.ok (.ret v)=>Q v s'|.ok _=>False|.error e=>E e s')
  |.again c'=>c'.quiet=Wv/\codeAny (model prog w) A c' (λr s'=>match r with|.ok (.ret v)=>Q v s'|.ok _=>False|.error e=>E e s') s') E s:=by
  show YB (model prog w) A.in1 (Builtin.Builtins.bindParams "max" ["key", "default"] 0 ⟨[],[("default",dv)]⟩ >>= _) _ _ s;refine Ya (Wm (show Builtin.Builtins.bindParams "max" ["key", "default"] 0 ⟨[],[("default",dv)]⟩=pure [Wu,Ws dv]from rfl) (Ya (Yc (Ya (Yf h (λit s2 q=>?_) λ_ _ e=>e)))));obtain⟨J,fo,wo,m,P,S_,bt,rfl,W,st,hfo,hb,hQ⟩:=q;refine Ya (Yq ?_);have hC:s2.heap.objs.size ∉ fo:=λz=>Yv _ (hfo _ z);rw[nm];exact Yc ⟨plainId_quiet YU _,first W bt hb s2.heap.objs.size hC _ dv (W.frame _ _ _ st λb _ o e=>Od _ e) (Oj _ rfl) λv hp tk a1 a2 kp=>hQ v hp tk a1 a2 λb o b1 e=>kp b o b1 (Ou (Ym e)) (Od _ e)⟩
 cases hs:Manifest.signature? "max" with
 |none=>exact Yc go
 |some sig=>have ha:=args x dv;simp only[argsOk,hs]at ha;have h2:Bind.checkArgs "max" sig ⟨[x],[("default",dv)]⟩=pure ():=ha;show YB _ A.in1 (Bind.checkArgs "max" sig ⟨[x],[("default",dv)]⟩) _ _ s;rw[h2];exact Yc go
end
end Mx
end L2
namespace L2
open PySem PySem.Spec PyProof.Rows
set_option tactic.hygienic false
noncomputable def ZdM:List Int->Int->Int
 |[],d=>d
 |x::r,_=>r.foldl (λm y=>if y > m then y else m) x
theorem Ziv(ns:List Int):∀k,k<ns.length->(argBest (λi j=>Wx (ns.getD i 0 > ns.getD j 0)) k)<ns.length/\ns.getD (argBest (λi j=>Wx (ns.getD i 0 > ns.getD j 0)) k) 0=ZdM (ns.take (k+1)) 0
 |0,h=>by
  cases ns with
  |nil=>simp at h
  |cons x r=>exact⟨by simp[argBest],by simp[argBest,ZdM]⟩
 |k+1,h=>by
  obtain⟨h1,h2⟩:=Ziv ns k (by omega);have e:ZdM (ns.take (k+1+1)) 0=if ns.getD (k+1) 0 > ZdM (ns.take (k+1)) 0 then ns.getD (k+1) 0 else ZdM (ns.take (k+1)) 0:=by
   cases ns with
   |nil=>simp at h
   |cons x r=>
    have hk:k<r.length:=by simpa using h
    show((r.take (k+1)).foldl _ x)=_;rw[List.take_succ_eq_append_getElem hk,List.foldl_append];simp only[Wp,List.foldl_nil];have:(x::r).getD (k+1) 0=r[k]:=by simp[List.getD_eq_getElem?_getD,Og hk]
    rw[this];rfl
  rw[e,<- h2];have ea:argBest (λi j=>Wx (ns.getD i 0 > ns.getD j 0)) (k+1)=if Wx (ns.getD (k+1) 0 > ns.getD (argBest (λi j=>Wx (ns.getD i 0 > ns.getD j 0)) k) 0)=Wv then k+1 else argBest (λi j=>Wx (ns.getD i 0 > ns.getD j 0)) k:=rfl;rw[ea];by_cases q:ns.getD (k+1) 0 > ns.getD (argBest (λi j=>Wx (ns.getD i 0 > ns.getD j 0)) k) 0
  . rw[if_pos (decide_eq_true q),if_pos q];exact⟨h,rfl⟩
  . rw[if_neg (by simpa using q),if_neg q];exact⟨h1,rfl⟩
section
variable {X:Cx}
def Zpd(hc:X.calm=Wv)(I:Inv X pins Z H s)(hx:SqL X.K H a (ns.map V.int))(q:Q (.int (ZdM ns d)) H):
 YB (model X.prog X.w) X.A (PySem.call (.builtin "max") [.ref a] [("default",.int d t)]) (EP X pins Z Q) X.xe s:=by
 obtain⟨its,rv,pl,hz⟩:=I.list hx;have hlt:a<s.heap.objs.size:=by obtain⟨_,_,e,_⟩:=pl;exact Ym e
 have hl:its.length=ns.length:=by have:=rv.length;rw[Yt]at this;exact this.symm
 have val:∀{i:Nat}{v:Yj},its.toArray[i]? = Ws v->i<ns.length/\∃t,v=.int (ns.getD i 0) t:=λ{i v} hv=>by
  have hv':its[i]? = Ws v:=by simpa using hv
  have hi:i<ns.length:=by rw[<- hl];exact(Ob.mp hv').1
  have hb:(ns.map V.int)[i]? = Ws (.int ns[i]):=by rw[O2,Og hi]<;>rfl
  obtain⟨u',e',r'⟩:=rv.get hb;rw[hv']at e';cases e';obtain⟨t,rfl⟩:=r';exact⟨hi,t,by simp[List.getD_eq_getElem?_getD,Og hi]⟩
 refine Mx.call (wpAny_pyIter_list pl.isList ?_);refine⟨s.heap.objs.size,_,_,_,_,_,λi j=>Wx (ns.getD i 0 > ns.getD j 0),rfl,Walks.list (A:=X.A.in1) (show X.A.in1.handled=Wu from I.ok.hd hc) s.heap.objs.size a (Ou hlt) its.toArray,⟨⟨_,Oj _ rfl,rfl,rfl⟩,pl.isList.push _⟩,?_,?_,λv hp tk a1 a2 kp=>?_⟩
 . intro b hb;have hp1:b<s.heap.objs.size+1:=by
    simp at hb;rcases hb with rfl|rfl
    . exact OH _
    . exact Nat.lt_succ_of_lt hlt
   simpa[Heap.push]using hp1
 . exact CmpOf.ints_gt (λi=>ns.getD i 0) λi v hv=>(val hv).2
 . refine⟨.int (ZdM ns d),H,I.kept λb o e=>kp b o (λz=>?_) (Od _ e),?_,q⟩
   . have:b=s.heap.objs.size:=by simpa using z
     subst this;exact absurd (Ym e) (Yv _)
   . have hsz:its.toArray.size=ns.length:=by rw[Of,hl]
     by_cases h0:ns=[]
     . subst h0;have:=a1 (by rw[hsz];rfl);subst this;exact⟨t,rfl⟩
     . have hp0:0<ns.length:=List.length_pos_iff.mpr h0;obtain⟨_,t3,ev⟩:=val (a2 (by rw[hsz];exact hp0));refine⟨t3,?_⟩;rw[ev,hsz,(Ziv ns (ns.length - 1) (by omega)).2,List.take_of_length_le (by omega)];cases ns with
       |nil=>exact absurd rfl h0
       |cons x r=>rfl
noncomputable def Zu4(K:Yk)(ta tb:TE):TE:=λZ H Q=>ta Z H λv H1=>tb Z H1 λu H2=>∃a ns d,v=.ref a/\u=.int d/\SqL K H2 a (ns.map V.int)/\Q (.int (ZdM ns d)) H2
def ZqQ(hg:Gl X "max")(hm:X.mg "max" = Wu)(hc:X.calm=Wv)(ha:PE X x ta)(hb:PE X y tb)(he:YA [x] X.env=[(Ww,eval x X.env)]):
 PE X (.Call (.Name "max" p) [x] [⟨Ws "default",y,kp⟩] pos) (Zu4 X.K ta tb):=by
 intro pins s Z H Q I h;refine YX (Zda I hg hm boot_max ?_);refine PyProof.Rows.callWith_kw ?_ (by rw[he];rfl) (by rw[he];rfl);rw[he];refine Calls.spliced_cons (thn (ha pins s Z H _ I h) λv s1 ⟨vv,H1,I1,r1,q1⟩=>Calls.spliced_nil ?_);refine kws_cons (thn (hb pins s1 Z H1 _ I1 q1) λu s2 ⟨uu,H2,I2,r2,q2⟩=>kws_nil ?_);obtain⟨a,ns,d,rfl,rfl,hq,q⟩:=q2;cases r1;obtain⟨t,rfl⟩:=r2;exact Zpd hc I2 hq q
end
end L2
namespace L2
open PySem PySem.Spec PyProof PyProof.Rows PySem.AutoSeq1
set_option maxRecDepth 8000 in
def Zlo(l:Yi)(items:Array Yj)(n:Nat)(b:Yi)(items2:Array Yj)(n2:Nat)(od:Option Yi)(sl:Array (Option Yj))(hs0:¬(!items.isEmpty&&Wo (items.size+items2.size))=Wv)(hs1:items.size<=sizeLine)(hs2:items.size+items2.size<=sizeLine+1):
 Meets (Builtin.«list.extend» ⟨[.ref l,.ref b],[]⟩) (λ_ R s=>s.heap.get? l=Ws {cls:=.type "list",dict:=Wu,data:=.seq items n,slots:=#[]}/\s.heap.get? b=Ws {cls:=.type "tuple",dict:=od,data:=.seq items2 n2,slots:=sl}/\R (.ok (.ret Value.none)) {s with heap:=s.heap.update l (Obj.mapSeq λx=>x++items2),toks:=s.toks}):=
 .of_wp λprog w A R s h=>by
  obtain⟨hp,g,d,tk,os⟩:=s;obtain⟨hl,hb,h⟩:=h;have f1:=idx_int;have f2:=AutoSeq1.sub_tuple_tuple;have f3:=AutoSeq1.sub_list_list;have f4:=AutoSeq1.sub_tuple_list;have f5:=AutoSeq1.sub_list_tuple;have hz':(items++items2).size<=sizeLine+1:=by rw[Array.size_append];exact hs2
  wp_walk using (wpAny_updateSeq hl rfl (hz:=hs1) (_hz':=hz')),wpAny_loadPart' hl,wpAny_loadPart' hb;exact⟨_,rfl,h⟩
section
variable {X:Cx}
def ZoD(K:Yk):V->List V->Hp->VK->Prop:=λx vs H Q=>∃l b xs zs,x=.ref l/\vs=[.ref b]/\H l=Ws (.lst xs)/\SqT K H b zs/\xs.length+zs.length<=sizeLine/\Q .non (upd H l (.lst (xs++zs)))
def Zlc:MtM X "list.extend" (ZoD X.K):=by
 intro pins s Z H x vs v us Q I rx rv h;obtain⟨l,b,xs,zs,rfl,rfl,hH,hB,hz,q⟩:=h;cases rx;obtain⟨u,rfl,ru⟩:=rv.one;cases ru;obtain⟨z,its,n,r,hl,e⟩:=I.lstM hH;obtain⟨its2,r2,⟨o,e2,oc,n2,od⟩,z2⟩:=I.tuple hB;obtain⟨cls,dc,dat,sl⟩:=o;simp only at oc od;subst oc;subst od;have hl2:=r2.length;have hsz:its.toArray.size+its2.toArray.size<=sizeLine:=by rw[Of,Of];lia
 have hlong:¬ (!its.toArray.isEmpty&&Wo (its.toArray.size+its2.toArray.size))=Wv:=by rw[ZjT hsz,Bool.and_false];exact Ow
 refine call_meets F.slot_list_extend ⟨_,e,rfl⟩ F.entry_list_extend (F.args_list_extend_2 _ _)
  (Zlo l its.toArray n b its2.toArray n2 dc sl hlong (by rw[Of];lia) (by lia)) ⟨e,e2,?_⟩
 refine⟨.non,_,I.lset (its':=its++its2) hH e (by simp) (r.append r2) ?_,rfl,q⟩;rw[OA]
 lia
end
end L2
namespace L2
open PySem PySem.Spec PyProof.Rows
noncomputable def ZuD(K:Yk)(a:Yi)(n:Nat):It:=⟨λi H=>∃xs x,SqL K H a xs/\xs.length=n/\xs.reverse[i]? = Ws x,λi H x H'=>H'=H/\∀xs,SqL K H a xs->xs.reverse[i]? = Ws x,λi H=>∃xs,SqL K H a xs/\xs.length=n/\n=i⟩
def ZmO{P:Yh}{w:Yg}{K:Yk}{tg:Expr}(a it:Yi)(n:Nat):Turn P w K tg (ZuD K a n) [it] it (λi h=>i<=n/\h.IsRevIter it a ((n:Int) - 1 - i)) where
 mem:=by simp
 obj:=λi h st b hb=>by
  have e:b=it:=by simpa using hb
  subst e;obtain⟨_,o,e,c,d⟩:=st;exact⟨o,e,λv z=>by rw[d]at z;cases z⟩
 keep:=λi h h' st k=>⟨st.1,st.2.at λo e=>k it (by simp) o e⟩
 item:=by
  intro X hP hw hK hc i pins s Z H E I hf st hg;subst hP hw hK;obtain⟨hin,st⟩:=st;obtain⟨xs,x,hq,hxn,hx⟩:=hg;obtain⟨its,rv,p,hz⟩:=I.list hq;have hl:=rv.length;have hi:i<xs.length:=by have:=(Ob.mp hx).1;simpa using this
  have hx':xs[n - 1 - i]? = Ws x:=by rw[List.getElem?_reverse hi]at hx;rw[<- hxn];exact hx
  obtain⟨u,hu,ru⟩:=rv.get hx';obtain⟨f0,f1,f2,f3,f4,f5⟩:=hf it (by simp);have e1:(n:Int) - 1 - (i:Nat)=((n - 1 - i:Nat):Int):=by lia
  rw[e1]at st;refine wpAny_pyNext_rev_item st p.isList (x:=u) (by simpa using hu) λh' st' sb=>?_;have I1:Inv X pins Z H {s with heap:=h'}:=I.turned (t':=s.toks) (λb o hb e=>(sb.2 b hb).trans e) f0 f1 f3 f4 f5;obtain⟨o,e,c,d⟩:=id st';have e2:((n - 1 - i:Nat):Int) - 1=(n:Int) - 1 - ((i+1:Nat):Int):=by lia
  exact⟨u,rfl,Zj8 (s:={s with heap:=h'}) e c d (by decide) ⟨x,H,I1,ru,⟨rfl,λys hy=>by rw[I.list_inj hy hq];exact hx⟩,⟨by lia,by rw[<- e2];exact st'⟩,λb hb=>(hf b hb).1⟩⟩
 done:=by intro X hP hw hK hc i pins s Z H E I hf st hg;subst hP hw hK;obtain⟨xs,hq,hxn,hx⟩:=hg;obtain⟨f0,f1,f2,f3,f4,f5⟩:=hf it (by simp);have st1:=st.2;rw[show(n:Int) - 1 - (i:Nat)=-1 by lia]at st1;exact wpAny_pyNext_rev_end (I.ok.hd hc) st1 λh' eb=>⟨rfl,I.turned (t':=s.toks) (λb o hb e=>eb b o hb e) f0 f1 f3 f4 f5⟩
 self:=λ_ _ _ _ _ st h=>wpAny_pyIter_revIter st.2 h
noncomputable def Zwa(K:Yk)(ta:TA):TI:=λZ H R=>ta Z H λvs H1=>∃a xs,vs=[.ref a]/\((SqT K H1 a xs/\R (Itv K a xs.length) H1)\/(SqL K H1 a xs/\R (ZuD K a xs.length) H1))
def ZqN{X:Cx}{tg l:Expr}{ta:TA}{p pos:Pos}(hg:Gl X "reversed")(hm:X.mg "reversed" = Wu)(ha:PA X [l] ta)(hs:YA [l] X.env=[(Ww,eval l X.env)]:=by rfl):
 PI X tg (.Call (.Name "reversed" p) [l] [] pos) (Zwa X.K ta):=by
 intro pins s Z H R I h;refine Call_ (Zda I hg hm boot_reversed (PyProof.Rows.callWith_type1 (thn (ha pos pins s Z H _ I h) λus s1 ⟨vs,H1,I1,r1,q1⟩=>?_) hs rfl));obtain⟨a,xs,rfl,q⟩:=q1;obtain⟨u,rfl,ru⟩:=vals1 r1;obtain rfl:u=YD a:=ru;rcases q with ⟨hq,q⟩|⟨hq,q⟩
 . obtain⟨its,rv,pl,hz⟩:=I1.tuple hq;have hl:=rv.length;refine Rv.call pl (by simp;lia) ?_;have e1:((its.toArray.size:Nat):Int) - 1=(xs.length:Int) - 1 - ((0:Nat):Int):=by simp;lia
   have st:Rv.Is (s1.heap.push (Rv.obj a (((its.toArray.size:Nat):Int) - 1))) s1.heap.objs.size a ((xs.length:Int) - 1 - ((0:Nat):Int)):=⟨_,Oj _ rfl,rfl,by rw[<- e1];rfl⟩
   refine Rv.ZfX st ?_;refine⟨s1.heap.objs.size,[s1.heap.objs.size],_,_,H1,rfl,I1.kept (t':=s1.toks+1+1) λb o e=>Od _ e,Zn6 a _ xs.length,⟨Yw _,st⟩,λb hb=>?_,q⟩;have e:b=s1.heap.objs.size:=by simpa using hb
   subst e;exact I1.fpOk (Oq _) (I1.hok.fresh (Oq _))
 . obtain⟨its,rv,pl,hz⟩:=I1.list hq;have hl:=rv.length;refine call_reversed_list pl.isList ?_;have e1:((its.toArray.size:Nat):Int) - 1=(xs.length:Int) - 1 - ((0:Nat):Int):=by simp;lia
   have st:(s1.heap.push (revObj a (((its.toArray.size:Nat):Int) - 1))).IsRevIter s1.heap.objs.size a ((xs.length:Int) - 1 - ((0:Nat):Int)):=⟨_,Oj _ rfl,rfl,by rw[<- e1];rfl⟩
   refine wpAny_pyIter_revIter st ?_;refine⟨s1.heap.objs.size,[s1.heap.objs.size],_,_,H1,rfl,I1.kept (t':=s1.toks) λb o e=>Od _ e,ZmO a _ xs.length,⟨Yw _,st⟩,λb hb=>?_,q⟩;have e:b=s1.heap.objs.size:=by simpa using hb
   subst e;exact I1.fpOk (Oq _) (I1.hok.fresh (Oq _))
set_option tactic.hygienic false
namespace Rv
def Zug:Slot "reversed" "__length_hint__" "reversed.__length_hint__" :=
 .of (owner := "reversed") (n := "__length_hint__") (by rw[typeLookup_type,builtinLookup_eq_fast]<;>kernel_rfl) (by decide +kernel) (by decide +kernel) (by decide +kernel) (by first|exact .inl (by decide +kernel)|exact .inr (by decide +kernel)) (by rw[isSubtype_type]<;>kernel_rfl)
def Zwo:entryFor table "reversed.__length_hint__" = Ws Builtin.«reversed.__length_hint__»:=entryFor_of_tree (by kernel_rfl)
def ZwG(a:Yj):argsOk "reversed.__length_hint__" ⟨[a],[]⟩:=by unfold argsOk;rw[signature?_of (id := "reversed.__length_hint__") (n:=['_','_','t','n','i','h','_','h','t','g','n','e','l','_','_']) (o:=['d','e','s','r','e','v','e','r']) (by kernel_rfl) own];kernel_rfl
def ZvP:typeLookup (.type "reversed") "__len__" = pure Wu:=by rw[typeLookup_type,builtinLookup_eq_fast]<;>kernel_rfl
section
variable {prog:Yh}{w:Yg}{A:YH}{E:Yj->Yb->Prop}{s:Yb}
def walks(hh:A.handled=Wu)(I l:Yi)(hne:l≠I)(items:Array Yj)(hz:items.size<=sizeLine):
 Walks prog w A I [I,l] [I] items.size (λi v=>items[items.size - 1 - i]? = Ws v) (λi h=>i<=items.size/\Is h I l ((items.size:Int) - 1 - (i:Int))/\IsTup h l items) where
 sub:=λb hb=>by simp at hb;simp[hb]
 frame:=λ_ _ _ x hk=>⟨x.1,x.2.1.at λo e=>hk I (by simp) o e,let ⟨o,e,r⟩:=x.2.2;⟨o,hk l (by simp) o e,r⟩⟩
 item:=λi s Q E hi x hQ=>by have hit:=x.2.1;rw[show(items.size:Int) - 1 - (i:Int)=((items.size - 1 - i:Nat):Int) by lia]at hit;have hx:items[items.size - 1 - i]? = Ws (items[items.size - 1 - i]'(by lia)):=Array.getElem?_eq_getElem (by lia);refine next_item hit x.2.2 hz hx λh' t' hit' hs'=>?_;rw[show((items.size - 1 - i:Nat):Int) - 1=(items.size:Int) - 1 - ((i+1:Nat):Int) by lia]at hit';exact hQ _ h' t' hx ⟨hi,hit',let ⟨o,e,r⟩:=x.2.2;⟨o,(hs'.2 l hne).trans e,r⟩⟩ λb o hb eo=>hs'.extBut b o (λh=>hb (by simp[h])) eo
 done:=λs Q E x hQ=>by have hit:=x.2.1;rw[show(items.size:Int) - 1 - (items.size:Int)=-1 by lia]at hit;exact next_end hh hit λh' he'=>hQ h' s.toks λb o hb eo=>he' b o (λh=>hb (by simp[h])) eo
 self:=λ_ _ _ _ x hQ=>ZfX x.2.1 hQ
def Zry(hit:Is s.heap it l ((items.size:Int) - 1))(hl:IsTup s.heap l items)(hz:items.size<=sizeLine)
 (hQ:∀u tk,s.toks<=tk->Q (.int (items.size:Int) u) {s with toks:=tk}):YB (model prog w) A (PySem.call (.builtin "reversed.__length_hint__") [.ref it]) Q E s:=by
 have hfit:(items.size:Int)<2 ^ 63:=by have:=Zb8;lia
 obtain⟨o,ho,hc,hd⟩:=id hit;refine Wg Zug hit.typeIs Zwo ?_ (ZwG _);unfold Builtin.«reversed.__length_hint__»;refine Ya (Wm (a:=YD it) rfl ?_);refine Ya (YR ho hd (x:=.ref l) rfl ?_);rw[if_neg (by simp)];refine Ya (len_tuple hl hfit ?_);refine Ya (m:=asInt? (.int _ _)) (Yc ?_);dsimp only;refine Ya (YR ho hd (x:=rawInt ((items.size:Int) - 1)) rfl ?_);show YB _ _ (if (items.size:Int)<(items.size:Int) - 1+1 then _ else _) _ _ _;rw[if_neg (by lia),show(items.size:Int) - 1+1=items.size by lia];unfold retInt;refine Ya (wpAny_mkInt ?_);exact Yc ⟨_,rfl,hQ _ _ (by simp only;lia)⟩
def Zuf:typeLookup (.type "reversed") "__length_hint__" = pure (Ws (.builtin "reversed.__length_hint__")):=Zug.lookup
def collects(hh:A.handled=Wu)(hit:Is s.heap I l ((items.size:Int) - 1))(hl:IsTup s.heap l items)(hne:l≠I)(hz:items.size<=sizeLine)(h0:0<items.size)
 (hQ:∀s' acc,Moved [I] (λa b=>b=a) s s'->ItemsOf (λi v=>items[items.size - 1 - i]? = Ws v) acc items.size->Q acc.toList s'):YB (model prog w) A (collect (.ref I)) Q E s:=by
 have W:=(walks (prog:=prog) (w:=w) (A:=A.in1) hh I l hne items hz).toS;have hst:0<=items.size/\Is s.heap I l ((items.size:Int) - 1 - ((0:Nat):Int))/\IsTup s.heap l items:=⟨Yw _,by simpa using hit,hl⟩
 have hfp:∀b∈[I,l],b<s.heap.objs.size:=λb hb=>by
  rcases O3.mp hb with rfl|hb
  . obtain⟨o,ho,_⟩:=hit;exact Ym ho
  . rw[Ox.mp hb];obtain⟨o,ho,_⟩:=hl;exact Ym ho
 have hSf:s.heap.objs.size ∉ [I,l]:=λhm=>absurd (hfp _ hm) (Yv _);have hSI:s.heap.objs.size≠I:=λe=>hSf (by rw[e];simp);unfold collect;refine Ya (wpAny_runValue ?_);refine codeAny_builtin F.entry_proto_collect ?_;rw[Around.under_plainId F.plain_proto_collect _];show YB _ A.in1 (newList [] >>= λk=>again (.builtin "list.__iadd__" ⟨[k,.ref I],[]⟩)) _ _ s;refine Ya (Yq (Yc ⟨plainId_quiet F.plain_list_iadd _,?_⟩));refine codeAny_builtin F.entry_list_iadd ?_;rw[Around.under_plainId F.plain_list_iadd _];generalize hob:({cls:=.type "list",data:=.seq ([]:List Yj).toArray}:Obj)=ob;have hst1:=W.frame 0 s (s.heap.push ob) s.toks hst (Oq _) λb _ o e=>Od _ e;have hS1:(s.heap.push ob).get? s.heap.objs.size=Ws ob:=Oj _ (by rw[<- hob];rfl);have e1:Builtin.List.listSameRef (.ref s.heap.objs.size) (.ref I)=Ww:=by simp[Builtin.List.listSameRef,hSI]
 have hT:Shared.TypeIs {s with heap:=s.heap.push ob} (.ref I) "reversed" := hst1.2.1.typeIs;show YB _ A.in1 (Builtin.List.listExtendWith (.ref s.heap.objs.size) (.ref I) (.ref s.heap.objs.size)) _ _ _;unfold Builtin.List.listExtendWith;refine Ya (wpAny_typeOf hT ?_);rw[if_neg (by rw[e1];decide)];refine Ya (W.self 0 _ _ _ hst1 (Ya (Wf ?_)));unfold Builtin.List.listLengthHint;refine Ya (wpAny_specialOf hT ZvP ?_);show YB _ A.in1 (specialOf (YD I) (O "__length_hint__") >>= _) _ _ _;refine Ya (wpAny_specialOf hT Zuf ?_);have hsp:splitId "reversed.__length_hint__" = Ws ("reversed", "__length_hint__"):=by decide +kernel
 dsimp only;rw[hsp];dsimp only;refine Ya (wpAny_isInstance (b:=true) hT ZlP ?_);rw[if_neg (by decide),if_neg (by decide +kernel)];refine Ya (wpAny_rule (Ya (Wm (Zug.bind _) ?_)));dsimp only;refine Ya (wpAny_attempt (Zry (by simpa using hst1.2.1) hst1.2.2 hz λu tk htk=>?_));dsimp only;have ea:asInt? (Value.int (items.size:Int) u)=pure (Ws (items.size:Int)):=rfl;rw[ea];clear ea;generalize hk:(items.size:Int)=kk;refine Ya ?_;refine Yc ?_;dsimp only;have l1:Builtin.List.listFitsIndex kk=Wv:=by
  have:=Zb8;unfold Builtin.List.listFitsIndex;rw[Oa,decide_eq_true_iff,decide_eq_true_iff]
  lia
 have l2:Wo kk.toNat=Ww:=by
  unfold Wo;rw[decide_eq_false_iff_not]
  lia
 rw[if_neg (by rw[l1];decide),if_neg (by lia),if_neg (by rw[l2];decide)];refine Yc ?_;rw[if_pos (by rw[Wr];left;rw[bne_iff_ne];lia)];subst hob;refine Ya (wpAny_rule (Ya ?_));show YB _ A.in1 (updateSeq s.heap.objs.size (·.push .none) >>= λ_=>updateSeq s.heap.objs.size (·.pop)) _ _ _;refine Ya (wpAny_updateSeq hS1 rfl ?_);have hS2:=YW (Obj.mapSeq (·.push Value.none)) hS1 rfl;refine wpAny_updateSeq hS2 rfl ?_;have hS3:=YW (Obj.mapSeq (·.pop)) hS2 rfl;generalize hob:({cls:=.type "list",data:=.seq ([]:List Yj).toArray}:Obj)=ob at *;have oth:∀b o,b≠s.heap.objs.size->(s.heap.push ob).get? b=Ws o->(((s.heap.push ob).update s.heap.objs.size (Obj.mapSeq (·.push Value.none))).update s.heap.objs.size (Obj.mapSeq (·.pop))).get? b=Ws o:=λb o hb e=>(YN _ _ (YL hb)).trans ((YN _ _ (YL hb)).trans e)
 have hst2:=W.frame 0 ({s with heap:=s.heap.push ob}:Yb) _ tk hst1 htk λb hb o e=>oth b o (λh=>hSf (h ▸ hb)) e;obtain⟨c,hS4⟩:∃c,(((s.heap.push ob).update s.heap.objs.size (Obj.mapSeq (·.push Value.none))).update s.heap.objs.size (Obj.mapSeq (·.pop))).get? s.heap.objs.size=Ws {cls:=.type "list",dict:=Wu,data:=.seq #[] c,slots:=#[]}:=by subst hob;exact⟨_,hS3⟩
 refine Yc ⟨plainId_quiet F.plain_extend_loop _,?_⟩;refine codeAny_extend_loopS W hz _ hSf _ items.size 0 _ #[] _ rfl (Yw _) hst2 hS4 (ItemsOf.nil _) λs' acc' c' hm hS' hacc=>?_;show YB _ A (load s.heap.objs.size >>= _) _ _ s';refine Ya (wpAny_load hS' (Yc (hQ s' acc' ?_ hacc)));refine Moved.drop_new (o:=ob) (tk:=tk) (Moved.trans W.gtrans ?_ hm) htk;exact⟨λb o hb e=>oth b o (λh=>hb (h ▸ Oi)) e,rfl,rfl,rfl,Oq _⟩
def ZsM(hh:A.handled=Wu)(hit:Is s.heap I l ((items.size:Int) - 1))(hl:IsTup s.heap l items)(hne:l≠I)(hz:items.size<=sizeLine)(h0:0<items.size)
 (h:∀s' acc,Moved [I] (λa b=>b=a) s s'->ItemsOf (λi v=>items[items.size - 1 - i]? = Ws v) acc items.size->Q (.ref s'.heap.objs.size) {s' with heap:=s'.heap.push {cls:=.type "tuple",data:=.seq acc}}) :
 codeAny (model prog w) A (.call (.builtin "tuple.__new__") ⟨[.type "tuple",.ref I],[]⟩) (wants Q E) s:=by
 refine codeAny_of_tree ?_;show YB _ A.in1 (checkBuiltinCall "tuple.__new__" ⟨[.type "tuple",.ref I],[]⟩ >>= λ_=>again (.builtin "tuple.__new__" ⟨[.type "tuple",.ref I],[]⟩)) _ _ s;refine Ya (Wm (F.newCall_tuple_1 _) (Yc ⟨plainId_quiet F.plain_tuple_new _,?_⟩));refine codeAny_builtin F.entry_tuple_new ?_;rw[Around.under_plainId F.plain_tuple_new _];have hsub:=sub_tuple_self;have hinit:=init_tuple_lookup;have hmh:=madeHere_tuple;have hTI:=hit.typeIs
 wp_walk using wpAny_typeOf hTI,collects (A:=A.in1) hh hit hl hne hz h0
 intro s' acc hm hacc;show YB _ _ (Builtin.Tuple.tupleExact acc.toList.toArray >>= λv=>ret v) _ _ _;have e:acc.toList.toArray=acc:=by simp
 rw[e];unfold Builtin.Tuple.tupleExact;refine Ya (Yq (Yc (h s' acc hm hacc)) (by show acc.size<=sizeLine;rw[hacc.1];exact hz))
def Zqg(hh:A.handled=Wu)(hit:Is s.heap I l ((items.size:Int) - 1))(hl:IsTup s.heap l items)(hne:l≠I)(hz:items.size<=sizeLine)(h0:0<items.size)
 (h:∀s' acc,Moved [I] (λa b=>b=a) s s'->ItemsOf (λi v=>items[items.size - 1 - i]? = Ws v) acc items.size->Q (.ref s'.heap.objs.size) {s' with heap:=s'.heap.push {cls:=.type "tuple",data:=.seq acc}}) :
 YB (model prog w) A (PySem.call (.type "tuple") [.ref I]) Q E s:=by
 refine callType_codes (Q₁:=λobj s1=>s1.TypeIs obj "tuple" /\ Q obj s1) F.called_tuple (F.typeCall_tuple_1 _) F.entry_object_init (ZsM hh hit hl hne hz h0 λs' acc hm hacc=>⟨⟨_,Oj _ rfl,rfl⟩,h s' acc hm hacc⟩) λobj s1 h1=>?_;exact⟨h1.1,F.args_object_init_2 obj _,object_init_meets F.called_tuple.init.lookup F.called_tuple.made (by decide) prog w A.in1 _ s1 ⟨h1.1,rfl,h1.2⟩⟩
end
end Rv
noncomputable def Zqk(K:Yk)(ta:TA):TE:=λZ H Q=>ta Z H λvs H1=>∃a xs,vs=[.ref a]/\SqT K H1 a xs/\xs≠[]/\∀p,H1 p=Wu->Q (.ref p) (upd H1 p (.tup xs.reverse))
theorem Zng (hc:X.calm=Wv) (hgT:Gl X "tuple") (hmT:X.mg "tuple" = Wu) (hgR:Gl X "reversed") (hmR:X.mg "reversed" = Wu) (ha:PA X [l] ta)
   (hs:YA [l] X.env=[(Ww,eval l X.env)]:=by rfl):PE X (.Call (.Name "tuple" p) [.Call (.Name "reversed" p2) [l] [] pos2] [] pos) (Zqk X.K ta):=by
 intro pins s Z H Q I h;refine Call_ (Zda I hgT hmT boot_tuple (PyProof.Rows.callWith_type1 ?_ rfl rfl));show YB _ _ (spliced ((Ww,eval (.Call (.Name "reversed" p2) [l] [] pos2) X.env)::[])) _ _ s;refine Calls.spliced_cons ?_;refine Call_ (Zda I hgR hmR boot_reversed (PyProof.Rows.callWith_type1 (thn (ha pos2 pins s Z H _ I h) fun us s1 ⟨vs,H1,I1,r1,q1⟩=>?_) hs rfl));obtain ⟨a,xs,rfl,hq,hx0,q⟩:=q1;obtain ⟨u,rfl,ru⟩:=vals1 r1;obtain rfl:u=YD a:=ru;obtain ⟨its,rv,pl,hz⟩:=I1.tuple hq;have hln:=rv.length;have hpos:0<its.toArray.size:=by
   cases xs with
   | nil=>exact absurd rfl hx0
   | cons x r=>simp at hln ⊢;lia
 have hzz:its.toArray.size<=sizeLine:=by simp;lia
 refine Rv.call pl hzz (Calls.spliced_nil ?_);have hlt:a<s1.heap.objs.size:=by obtain ⟨o,ho,_⟩:=pl;exact Ym ho
 refine Rv.Zqg (I.ok.hd hc) (l:=a) (items:=its.toArray) ⟨_,Oj _ rfl,rfl,rfl⟩ (pl.push _) (Ou hlt) hzz hpos fun s' acc hm hacc=>?_;obtain ⟨hk,hg,hd,ho,ht⟩:=hm;have kp:∀ b o,s1.heap.get? b=Ws o->s'.heap.get? b=Ws o:=fun b o e=>hk b o (fun hb=>by
   rw [Ox.mp hb] at e;exact absurd (Ym e) (Yv _)) (Od _ e)
 have es:s'={s1 with heap:=s'.heap,toks:=s'.toks}:=by
   obtain ⟨a1,a2,a3,a4,a5⟩:=s';simp only at hg hd ho;simp only [hg,hd,ho]
 have ea:acc.toList=its.reverse:=by
   apply List.ext_getElem?;intro j;rcases Nat.lt_or_ge j its.length with hj|hj
   . have hj':j<acc.size:=by rw [hacc.1];simpa using hj
     have e1:=hacc.2 j acc[j] (Array.getElem?_eq_getElem hj');rw [List.getElem?_reverse hj,Array.getElem?_toList,Array.getElem?_eq_getElem hj',<- e1];simp
   . rw [List.getElem?_eq_none (by have:=hacc.1;simp at this ⊢;lia),List.getElem?_eq_none (by simpa using hj)]
 have I2:Inv X pins Z H1 s':=by
   rw [es];exact I1.kept (t':=s'.toks) kp
 have ev:acc=its.reverse.toArray:=by rw [<- ea]
 have rr:Zp xs.reverse its.reverse:=rv.reverse;have I3:Inv X pins Z (upd H1 s'.heap.objs.size (.tup xs.reverse)) {s' with heap:=s'.heap.push {cls:=.type "tuple",data:=.seq acc}}:=by
   rw [ev];exact I2.laid (t':=s'.toks) (fun b o e=>Od _ e) (Oq _) (show Zar X.prog X.w _ _ _ (.tup xs.reverse) from ⟨by simpa using hz,its.reverse,rr,ZbP.fresh _ _⟩)
 exact ⟨.ref s'.heap.objs.size,_,I3,rfl,q _ (I2.hok.fresh (Oq _))⟩
set_option tactic.hygienic true
namespace Tx
noncomputable def place(x:Str):List Str->Option Nat
 |[]=>Wu
 |y::r=>if y=x then Ws 0 else(place x r).map (·+1)
theorem ZjP:∀{ys:List Str}{j:Nat},place x ys=Ws j->ys[j]? = Ws x/\∀m,m<j->∀y,ys[m]? = Ws y->y≠x
 |[],j,h=>by cases h
 |y::r,j,h=>by
  unfold place at h;by_cases e:y=x
  . rw[if_pos e]at h;cases h;exact⟨by simp[e],λm hm=>absurd hm (Nat.not_lt_zero _)⟩
  . rw[if_neg e]at h;obtain⟨k,hk,rfl⟩:=Oo.mp h;obtain⟨h1,h2⟩:=ZjP hk;refine⟨by simpa using h1,λm hm z hz=>?_⟩;cases m with
    |zero=>simp at hz;rw[<- hz];exact e
    |succ m=>exact h2 m (by lia) z (by simpa using hz)
section
variable {prog:Yh}{w:Yg}{A:YH}{E:Yj->Yb->Prop}{s:Yb}
def Zlt(hl:IsTup s.heap t items)(hn:items.size=ys.length)(hi:∀(i:Nat) (y:Str),ys[i]? = Ws y->∃t,items[i]? = Ws (Value.str y t))(hj:place x ys=Ws j)
 (hQ:∀u tk,Q (.int (j:Int) u) {s with toks:=tk}):YB (model prog w) A (PySem.call (.builtin "tuple.index") [.ref t,.str x tx]) Q E s:=by
 obtain⟨o,ho,hc,n,hd⟩:=id hl;refine Wg F.slot_tuple_index hl.typeIs F.entry_tuple_index ?_ (F.args_tuple_index_2 _ _);unfold Builtin.«tuple.index»;refine Ya (Wm (a:=(YD t,[Value.str x tx])) rfl ?_);dsimp only;unfold Builtin.Tuple.tupleItemsOf;refine Ya (Ya (wpAny_seqItems ho hd (Yc ?_)))
 try dsimp only
 refine Ya (Yc ?_);refine Ya (Yc ?_);rw[Std.Legacy.Range.forIn_eq_forIn_range'];obtain⟨p1,p2⟩:=ZjP hj;have hjl:j<ys.length:=(Ob.mp p1).1;have e0:List.range' [:min items.size items.size].start [:min items.size items.size].size [:min items.size items.size].step=List.range' 0 (items.size - 0):=by show List.range' 0 ((min items.size items.size - 0+1 - 1) / 1) 1=_;simp
 rw[e0];refine Ya (wpAny_forIn_list _ (λl b s'=>∃i,l=List.range' i (items.size - i)/\b=(Wu,())/\s'=s/\i<=j) _ ?_ ?_ _ _ ⟨0,rfl,rfl,rfl,Yw _⟩)
 . rintro i rest b s' ⟨k,hk,rfl,rfl,hkj⟩;have hks:k<items.size:=by lia
   rw[show items.size - k=(items.size - (k+1))+1 by lia,List.range'_succ]at hk;obtain⟨rfl,rfl⟩:=List.cons.inj hk;obtain⟨y,hy⟩:∃y,ys[i]? = Ws y:=⟨ys[i]'(by lia),Og (by lia)⟩
   obtain⟨ty,ht⟩:=hi i y hy;rw[ht];dsimp only;refine Ya (eqBool_str ?_);by_cases e:i=j
   . subst e;rw[p1]at hy;cases hy;rw[if_pos (by simp)];unfold retInt;refine Ya (Ya (wpAny_mkInt (Yc (Yc ?_))));exact Yc ⟨_,rfl,hQ _ _⟩
   . rw[if_neg (by have:=p2 i (by lia) y hy;simpa using this)];exact Yc ⟨i+1,rfl,rfl,rfl,by lia⟩
 . rintro b s' ⟨k,hk,rfl,rfl,hkj⟩;have:=congrArg List.length hk;simp at this
   lia
end
end Tx
def Zk0(K:Yk):V->List V->Hp->VK->Prop:=λx vs H Q=>∃a ys y j,x=.ref a/\vs=[.str y]/\SqT K H a (ys.map .str)/\Tx.place y ys=Ws j/\Q (.int (j:Int)) H
def Zpa:MtR X "tuple.index" (Zk0 X.K):=by
 intro pins s Z H x vs v us Q I rx rv h;obtain⟨a,ys,y,j,rfl,rfl,hq,hp,q⟩:=h;cases rx;obtain⟨u,rfl,ru⟩:=rv.one;obtain⟨t,rfl⟩:=ru;obtain⟨its,rs,pl,hz⟩:=I.tuple hq;have hl:=rs.length;refine Tx.Zlt pl (by simpa using hl.symm) (λi z hi=>?_) hp λu tk=>?_
 . obtain⟨u,hu,ru⟩:=rs.get (i:=i) (x:=.str z) (by simp[hi]);obtain⟨t2,rfl⟩:=ru;exact⟨t2,by simpa using hu⟩
 . exact⟨.int j,H,I.kept (h':=s.heap) (t':=tk) (λb o e=>e),⟨u,rfl⟩,q⟩
noncomputable def ZcQ(K:Yk):Bool:=K.all λp=>!Wx (p.2.cls=.type "tuple") || p.2.dict.isNone
def Zr0{K:Yk}(h:ZcQ K=Wv)(e:K.lookup a=Ws o)(hc:o.cls=.type "tuple"):o.dict=Wu:=by
 have hm:∃b,(b,o)∈K:=by
  induction K with
  |nil=>cases e
  |cons p r ih=>
   rw[OF]at e;split at e
   . cases e;exact⟨p.1,Oi⟩
   . obtain⟨b,hb⟩:=ih (by unfold ZcQ at h ⊢;rw[List.all_cons,Oa]at h;exact h.2) e;exact⟨b,Oh _ hb⟩
 obtain⟨b,hb⟩:=hm;have:=OC.mp h _ hb;simp only[hc,decide_true,Bool.not_true,Bool.false_or]at this;simpa using this
noncomputable def ZwW(K:Yk)(to:TE)(t:TA):TE:=λZ H Q=>to Z H λx H1=>(∃a ys,x=.ref a/\SqT K H1 a ys)/\t Z H1 λxs H2=>Zk0 K x xs H2 Q
def Ztv{X:Cx}(hK:ZcQ X.K=Wv)(ho:PE X o to)(ha:PA X [e] t)
 (hbase:attributeBase o "index" X.env (eval o X.env)=eval o X.env)
 (hfew:((YS cpos (YA [e] X.env)).all (λx=>!x.1)&&(backToKw cpos (Wa [] X.env)).all (λx=>x.1.isSome)&&Wx ([e].length+([]:List Keyword).length+(if ([]:List Keyword).isEmpty then 0 else 1)<30))=Wv)
 (hline:(apos.endLine==cpos.line)=Wv) (hs:YA [e] X.env=[(Ww,eval e X.env)]) :
 PE X (.Call (.Attribute o "index" apos) [e] [] cpos) (ZwW X.K to t):=by
 intro pins s Z H Q I h;refine wpAny_Call_method_late hbase hfew hline rfl (thn (ho pins s Z H _ I h) λv s1 ⟨x,H1,I1,r1,ty,q1⟩=>?_);obtain⟨a,ys,rfl,hq⟩:=ty;cases r1;have ht:∃ob,s1.heap.get? a=Ws ob/\ob.cls=.type "tuple" /\ ob.dict=Wu:=by
  rcases hq with hq|⟨ob,its,n,hk,hc,hs,hz,r⟩
  . obtain⟨z,its,r,ob,e1,e2,e3,_⟩:=hq.ok I1.hok;exact⟨ob,e1,e2,e3⟩
  . exact⟨ob,I1.kIn a ob hk,hc,Zr0 hK hk hc⟩
 obtain⟨ob,e1,e2,e3⟩:=ht;refine⟨"tuple", "tuple.index",F.plainAttrs_tuple,F.slot_tuple_index,F.type_tuple_index,⟨ob,e1,e2⟩,λb hb=>by cases hb;exact⟨ob,e1,e3⟩,?_⟩;have hA:=ha cpos pins s1 Z H1 _ I1 q1;rw[hs]at hA ⊢;refine Calls.callWith_builtin rfl (Calls.evalArgs_plain ?_);exact thn hA λus s2 ⟨vs,H2,I2,r2,q2⟩=>Zpa pins s2 Z H2 (.ref a) vs (.ref a) us Q I2 rfl r2 q2
def Zv3(X:Cx)(hs:List ExceptHandler)(Q:Flow->Yb->Prop):Yj->Yb->Prop:=λe s₁=>YB (model X.prog X.w) X.A (noteFrame e X.env) (λ_ s₂=>YB (model X.prog X.w) X.A (setFlight e Wu) (λ_ s₃=>YB (model X.prog X.w) X.A (handleBy e X.env hs) Q X.xe s₃) X.xe s₂) X.xe s₁
section
variable {X:Cx}{cx:Str}{np hpos pos:Pos}{C2:Yi}{b0:Stmt}{suite body:List Stmt}
def Zni(hgc:Gl X cx)(hmc:X.mg cx=Ws (.ref C2))(hC:ExcN X.K C2)(hstk:X.stack=X.env::X.outer)(hfrm:X.env.frame=Ws X.env.locals)
 (hdb2:(cx==("__debug__" : Str))=Ww) (hE:∀cls H',E1 cls Wu H'->YV X.K cls (.ref C2)=Ws Wv/\∀C,cls=.ref C->∀a oe s',oe.cls=cls->Inv (cxH X a oe) pins Z H' s'->YB (model X.prog X.w) (cxH X a oe).A (execs (b0::suite) X.env) Q (λ_ _=>False) s')
 (hcls:∀cls H',E1 cls Wu H'->∃C,cls=.ref C) (I1:Inv X pins Z H s) (hq:CXF X.prog X.w X.stack H s E1 e s'):Zv3 X [.ExceptHandler (Ws (.Name cx np)) Wu (b0::suite) hpos] Q e s':=by
 obtain⟨a,cls,a0,H',B_,rfl,os,bare,un,hok,fl,kb,hna,h1⟩:=hq;obtain⟨C,rfl⟩:=hcls _ _ h1;obtain⟨hsub,hts⟩:=hE _ _ h1;have hfr:X.A.frames=Ws (X.env::X.outer):=by rw[<- hstk];exact I1.ok.frames
 have fl':Heap.FlyingW B_ (X.env::X.outer) a (.ref C) a0 s'.heap:=by rw[<- hstk];exact fl
 have I':=I1.call' (ch:=[]) os un hok bare (λb z=>absurd z (by simp));have hfo:∀b∈frs X.stack,∃o,s'.heap.get? b=Ws o/\∀vs,o.data≠.fields vs:=λb hb=>by obtain⟨_,o,q,nf⟩:=I'.stack.mem hb;exact⟨o,q,nf⟩
 have atH:∀h2:YG,B_.StaysIn h2->s'.heap.UpToSlots h2->∀tk,Inv X pins Z H' {s' with heap:=h2,toks:=tk}:=λh2 st up tk=>by obtain⟨r1,r2,_⟩:=ZeQ un hok kb st up hfo;exact I1.call' (s':={s' with heap:=h2,toks:=tk}) (ch:=[]) os r1 r2 bare (λb z=>absurd z (by simp))
 refine wpAny_looks_onW hfr hfrm fl' λh4 held4 up4=>?_;refine wpAny_landsW held4 λh5 fl5 up5=>?_;have I5:Inv X pins Z H' {s' with heap:=h5}:=atH h5 fl5.1 (up4.trans up5) s'.toks;refine wpAny_handleBy_cons (codeAny_handlers_test (Zc9 (X:=cxM X a) (I5.toM a) hgc hmc ?_ hdb2)) (by intro q;cases q);obtain⟨oe,hoe,hoc⟩:=fl5.there;refine Zkh (s:={s' with heap:=h5}) I5.kIn hC.ty hC.cls hC.exc hsub hoe hoc (codeAny_handlers_suite ?_);refine lands_againW fl5 λh6 fl6 up6=>?_;have I6:Inv X pins Z H' {s' with heap:=h6}:=atH h6 fl6.1 ((up4.trans up5).trans up6) s'.toks;obtain⟨oe6,ws,hoe6,hoc6,hod6,_⟩:=fl6.first;have hnl:a≠X.env.locals:=λz=>by obtain⟨m,⟨o,es',ep,ho,hd,_⟩,_⟩:=I6.loc;rw[<- z,hoe6]at ho;cases ho;rw[hod6]at hd;cases hd
 have hnf:a ∉ X.fs:=λz=>by obtain⟨_,o,q,nf⟩:=I6.funs.mem z;rw[hoe6]at q;cases q;exact nf _ hod6
 have IH:Inv (cxH X a oe6) pins Z H' {s' with heap:=h6}:=I6.toH hoe6 hna hnl hnf (λv z=>by rw[hod6]at z;cases z);exact Yf (hts C rfl a oe6 _ hoc6 IH) (λ_ _ z=>z) λ_ _ z=>z.elim
end
noncomputable def Zsd(K:Yk)(sp:Sp)(C2:Yi)(i:Nat)(ts:Yi->Obj->TS)(t:TA):TS:=λD Z H=>t Z H λvs H1=>sp vs H1 (λv H2=>D.nx (Z.set i (Ws v)) H2) (λcls _ H2=>∃C,cls=.ref C/\YV K (.ref C) (.ref C2)=Ws Wv/\∀a oe,ts a oe D Z H2)
section
variable {X:Cx}{k:Nat}{x cx n:Str}{ps:List Str}{sp:Sp}{e:Expr}{es:List Expr}{t:TA}{p np cpos apos hpos pos px:Pos}{C2:Yi}{i:Nat}{b0:Stmt}{suite:List Stmt}{ts:Yi->Obj->TS}
def Zna(F:Def X.prog X.w X.K X.mg X.base k x ps sp)(hr:Room k X.A)(hg:Gl X x)(ha:PA X.nox (e::es) t)
 (hgc:Gl X cx) (hmc:X.mg cx=Ws (.ref C2)) (hC:ExcN X.K C2) (hN:X.N.Nodup) (hi:X.N[i]? = Ws n) (hx:Loc X.env.scope n) (hf:X.fn n=Wv\/X.env.scope.names.lookup n=Ws .local) (hstk:X.stack=X.env::X.outer) (hfrm:X.env.frame=Ws X.env.locals)
 (hsuite:∀a oe,PSs (cxH X a oe) (b0::suite) (ts a oe)) (hdb:(x==("__debug__" : Str))=Ww) (hdb2:(cx==("__debug__" : Str))=Ww) (he:YA (e::es) X.env=(Ww,eval e X.env)::YA es X.env) (hpl:(YS cpos (YA es X.env)).any (·.1)=Ww)
 (hsw:swapsWith (.Call (.Name x p) (e::es) [] cpos) (Ws (.Name n px)) apos.line X.env=pure Ww:=by rfl) :
 PS X (.Try [.Assign [.Name n px] (.Call (.Name x p) (e::es) [] cpos) apos] [.ExceptHandler (Ws (.Name cx np)) Wu (b0::suite) hpos] [] [] pos) (Zsd X.K sp C2 i ts t):=by
 obtain⟨f,fd,hm,hk,hb,F⟩:=F;intro pins s Z H D I h;refine wpAny_Try_except (wpAny_execs_cons (wpAny_Assign_Name (YX (Zc9 I hg hm ?_ hdb)) hsw));refine PySem.W.callWith_K (h₀:=X.base) I.ok.mod.kin hk (Yf (ha cpos pins s Z H _ (I.wish _) h) (λus s1 ⟨vs,H1,I1',r,q⟩=>?_) λ_ _ z=>z.elim) he hpl;have I1:Inv X pins Z H1 s1:=I1'.unwish;refine⟨I1.kIn,?_⟩;have hlen:(us++[]).length=ps.length:=by rw[Ys,<- r.length];exact F.len _ _ _ _ q
 have hbt:=hb s1 us I1.kIn hlen;rw[Ys]at hbt;refine wpAny_call (codeAny_mono (F.run X.A X.stack s1 H1 ⟨us,[]⟩ us vs _ _ hr I1.env0 hbt r q) λr s' hq=>?_);cases r with
 |ok fl=>
  cases fl with
  |ret u=>obtain⟨v,H',I',rv,q'⟩:=I1.after hq;exact Ze5 I' hN hi hx rv (λs2 I2=>wpAny_execs_nil (wpAny_execs_nil ⟨_,H',I2,q'⟩)) hf
  |next=>exact False.elim hq
  |brk=>exact False.elim hq
  |cont=>exact False.elim hq
 |error ev=>
  have hq:CXF X.prog X.w X.stack H1 s1 (λcls _ H2=>∃C,cls=.ref C/\YV X.K (.ref C) (.ref C2)=Ws Wv/\∀a oe,ts a oe D Z H2) ev s':=hq;refine Zni (np:=np) (hpos:=hpos) (Z:=Z) (Q:=SP X pins D) hgc hmc hC hstk hfrm hdb2 (λcls H' z=>?_) (λcls H' z=>?_) I1 hq
  . obtain⟨C,rfl,hs,ht⟩:=z;refine⟨hs,λ_ _ a oe s' _ I'=>?_⟩;refine Yf (hsuite a oe pins s' Z H' D I' (ht a oe)) (λfl s8 q8=>?_) λ_ _ z=>z;cases fl with
    |next=>obtain⟨σ',H8,I8,q8⟩:=q8;exact⟨σ',H8,I8.ofH I.ok.hd,q8⟩
    |brk=>obtain⟨σ',H8,I8,q8⟩:=q8;exact⟨σ',H8,I8.ofH I.ok.hd,q8⟩
    |cont=>obtain⟨σ',H8,I8,q8⟩:=q8;exact⟨σ',H8,I8.ofH I.ok.hd,q8⟩
    |ret v=>obtain⟨y,σ',H8,I8,r8,q8⟩:=q8;exact⟨y,σ',H8,I8.ofH I.ok.hd,r8,q8⟩
  . obtain⟨C,rfl,_⟩:=z;exact⟨C,rfl⟩
end
def Znq(h:env.frame=env'.frame):noteFrame e env=noteFrame e env':=by unfold noteFrame PySem.frameOf;rw[h]
structure Fly(B_:YG)(l:List Env)(a:Yi)(cls a0 fl:Yj)(h:YG):Prop where
 stay:B_.StaysIn h
 new:B_.get? a=Wu
 fr:h.FunFrames B_ l
 tr:h.TracedAtW B_ a cls a0 fl
section
variable {M:Model}{A:YH}{E:Yj->Yb->Prop}{s:Yb}{B_:YG}{l:List Env}{a:Yi}{cls a0 fl:Yj}{Q:Unit->Yb->Prop}
def Zn2(x:Fly B_ l a cls a0 fl h)(t1:h.get? T=Ws oT)(t2:oT.data=.fields ts)(t3:B_.get? T=Wu):
 (∀b,b≠T->(h.update T (Obj.mapFields (·.setIfInBounds 3 v))).get? b=h.get? b)/\B_.StaysIn (h.update T (Obj.mapFields (·.setIfInBounds 3 v)))/\(h.update T (Obj.mapFields (·.setIfInBounds 3 v))).FunFrames B_ l/\h.UpToSlots (h.update T (Obj.mapFields (·.setIfInBounds 3 v))):=by
 have o:∀b,b≠T->(h.update T (Obj.mapFields (·.setIfInBounds 3 v))).get? b=h.get? b:=λb hb=>YN _ _ (YL hb);have nr:∀b ob,h.get? b=Ws ob->(∀vs,ob.data≠.fields vs)->b≠T:=λb ob hb hn z=>by subst z;cases t1.symm.trans hb;exact hn _ t2
 exact⟨o,λb ob hb=>(o b λz=>by subst z;cases t3.symm.trans hb).trans (x.stay b ob hb),x.fr.of_keeps λb ob hb hn=>⟨ob,(o b (nr b ob hb hn)).trans hb,rfl⟩,λb ob hb hn=>⟨ob.slots,(o b (nr b ob hb hn)).trans hb⟩⟩
def Zhh(x:Fly B_ l a cls a0 fl s.heap)(q:∀h',Fly B_ l a cls a0 (f.elim .none λz=>rawInt z) h'->s.heap.UpToSlots h'->Q () {s with heap:=h'}):YB M A (setFlight (.ref a) f) Q E s:=by obtain⟨oe,us,T,oT,ts,b1,b2,b3,b4,b5,b6,b7,b8,b9⟩:=x.tr;have z3:3<ts.size:=(Array.getElem?_eq_some_iff.mp b9).1;obtain⟨o,k1,k2,k3⟩:=Zn2 (v:=f.elim .none λz=>rawInt z) x b7 b8 b5;unfold setFlight;refine Ya (YR b1 b3 b4 ?_);rw[if_pos (by simp)];refine wpAny_setField b7 b8 z3 (q _ ⟨k1,x.new,k2,oe,us,T,_,_,(o a (YL b6)).trans b1,b2,b3,b4,b5,b6,YW _ b7 (Obj.isFreed_of_fields (YY b8 _)),YY b8 _,by simp[z3]⟩ k3)
def Zli(hfr:A.frames=Ws (env::outer))(hf:env.frame=Ws L)(x:Fly B_ (env::outer) a cls a0 fl s.heap)(q:∀h',Heap.FlyingW B_ outer a cls a0 h'->s.heap.UpToSlots h'->Q () {s with heap:=h'}):YB M A (leaving env (.ref a)) Q E s:=by
 have fin:∀(s1:Yb),Fly B_ (env::outer) a cls a0 (rawInt L) s1.heap->s.heap.UpToSlots s1.heap->(∀h',{s1 with heap:=h'}={s with heap:=h'})->YB M A (setFlight (.ref a) Wu) Q E s1:=λs1 x1 u e=>Zhh x1 λh' x2 u2=>by rw[e];exact q h' ⟨x2.stay,x2.new,x2.fr.2.2,x2.tr⟩ (u.trans u2)
 unfold leaving;refine Ya ?_;by_cases hL:fl=rawInt L
 . subst hL;exact wpAny_noteFrame_againW hf x.tr (fin s x (Heap.UpToSlots.refl _) λ_=>rfl)
 . obtain⟨oe,us,T,oT,ts,b1,b2,b3,b4,b5,b6,b7,b8,b9⟩:=x.tr;obtain⟨c1,c2⟩:=b2;subst c1;obtain⟨o,k1,k2,k3⟩:=Zn2 (v:=.none) x b7 b8 b5;unfold noteFrame;simp only[hf];refine Ya (YR b1 b3 b4 ?_);rw[if_pos (by simp)];refine Ya (YR b7 b8 b9 ?_);rw[if_neg (by simpa using hL)];refine Ya (wpAny_setField b7 b8 (Array.getElem?_eq_some_iff.mp b9).1 ?_);refine wpAny_entryW hfr k2 hf ((o a (YL b6)).trans b1) k1 x.new b3 (Array.getElem?_eq_some_iff.mp b4).1 c2 λh' ⟨x1,x2,x3,x4⟩=>?_;exact fin _ ⟨x1,x.new,x2,x3⟩ (k3.trans x4) λ_=>rfl
end
def Zj2(un:Un fs [] H H' h h1)(hok:HOk P w H' h1)(kb:Kept fs H' h h1 B_)(stay:B_.StaysIn h2)
 (hf:∀b∈fs,∀o,h1.get? b=Ws o->∃sl,h2.get? b=Ws {o with slots:=sl}):Un fs [] H H' h h2/\HOk P w H' h2/\Kept fs H' h h2 B_:=by
 have tr:∀b u,H' b=Ws u->∃o,h1.get? b=Ws o/\h2.get? b=Ws o/\B_.get? b=Ws o:=λb u e=>by obtain⟨o,q⟩:=(hok b u e).there;have z:=kb b o q (.inl (by rw[e];simp));exact⟨o,q,stay _ _ z,z⟩
 have old:∀b o,h.get? b=Ws o->b ∉ fs->∃o1,h1.get? b=Ws o1/\h2.get? b=Ws o1/\B_.get? b=Ws o1:=λb o e hb=>by obtain⟨o1,q⟩:=un.there b o e (by simp);have z:=kb b o1 q (.inr ⟨⟨o,e⟩,hb⟩);exact⟨o1,q,stay _ _ z,z⟩
 refine⟨⟨λb o e n hb _=>?_,λb o e n hb _=>?_,λb o e n _=>un.free b o e n (by simp),λb o e _=>?_,un.tups,un.frzs,un.tbls⟩,λb u e=>?_,λb o e hb=>?_⟩
 . obtain⟨o1,q1,q2,_⟩:=old b o e hb;cases (un.keep b o e n hb (by simp)).symm.trans q1;exact q2
 . obtain⟨sl,z⟩:=un.slot b o e n hb (by simp);obtain⟨sl',q⟩:=hf b hb _ z;exact⟨sl',q⟩
 . by_cases hb:b∈fs
   . obtain⟨o1,q1⟩:=un.there b o e (by simp);obtain⟨sl',q⟩:=hf b hb _ q1;exact⟨_,q⟩
   . obtain⟨o1,_,q2,_⟩:=old b o e hb;exact⟨_,q2⟩
 . refine(hok b u e).stay (λc v hc q=>?_) (λ_ q=>q) λ_ _ q=>q;have hc':∃u',H' c=Ws u':=by
    rcases hc with rfl|hc
    . exact⟨u,e⟩
    . exact⟨_,hc⟩
   obtain⟨u',e'⟩:=hc';obtain⟨o,q1,q2,_⟩:=tr c u' e';cases q.symm.trans q1;exact q2
 . rcases hb with hb|⟨⟨o',e'⟩,hb⟩
   . cases q:H' b with
     |none=>exact absurd q hb
     |some u=>obtain⟨o1,q1,q2,q3⟩:=tr b u q;cases e.symm.trans q2;exact q3
   . obtain⟨o1,q1,q2,q3⟩:=old b o' e' hb;cases e.symm.trans q2;exact q3
def Fly.hide(x:Fly B_ l a cls a0 fl h)(hn:h.Ns C m)(sb:Heap.SameBut C h h')(hl:∀b∈l.filterMap (·.frame),b≠C):Fly (YZ B_ [C]) l a cls a0 fl h':=by
 obtain⟨oC,es,ep,hoC,hdC,_⟩:=hn;have nf:∀b o vs,h.get? b=Ws o->o.data=.fields vs->b≠C:=λb o vs e d z=>by subst z;cases hoC.symm.trans e;rw[hdC]at d;cases d
 have small:∀b,B_.get? b=Wu->(YZ B_ [C]).get? b=Wu:=λb e=>by
  cases q:(YZ B_ [C]).get? b with
  |none=>rfl
  |some o=>rw[PySem.W.of_hideAll _ q]at e;cases e
 obtain⟨oe,us,T,oT,ts,b1,b2,b3,b4,b5,b6,b7,b8,b9⟩:=x.tr;refine⟨λb o e=>?_,small _ x.new,?_,oe,us,T,oT,ts,(sb.2 a (nf _ _ _ b1 b3)).trans b1,b2,b3,b4,small _ b5,b6,(sb.2 T (nf _ _ _ b7 b8)).trans b7,b8,b9⟩
 . have hb:b≠C:=λz=>by rw[z,PySem.W.hideAll_none [C] (by simp)]at e;cases e
   exact(sb.2 b hb).trans (x.stay b o (PySem.W.of_hideAll _ e))
 . have go:∀l:List Env,h.FunFrames B_ l->(∀b∈l.filterMap (·.frame),b≠C)->h'.FunFrames (YZ B_ [C]) l:=by
    intro l;induction l with
    |nil=>exact λ_ _=>trivial
    |cons e r ih=>rintro ⟨k,⟨L,o,f1,f2,f3,f4⟩,k2⟩ hb;have hL:L≠C:=hb L (List.mem_filterMap.mpr ⟨e,Oi,f1⟩);refine⟨k,⟨L,o,f1,small _ f2,(sb.2 L hL).trans f3,f4⟩,ih k2 λb hb'=>hb b ?_⟩;obtain⟨y,hy,ey⟩:=List.mem_filterMap.mp hb';exact List.mem_filterMap.mpr ⟨y,Oh _ hy,ey⟩
   exact go l x.fr hl
section
variable {P:Yh}{w:Yg}{K:Yk}{mg:Str->Option Yj}{base:YG}{N:List Str}{qual:Str}{scope:Scope}{f:Yi}{cd:Yj}{A:YH}{outer:List Env}{s0:Yb}{H0:Hp}{E:XK}
def Znj(I3:Inv (Zf4 (CXF P w) P w K mg base N qual scope f cd A outer s0 H0 E) pins3 σ3 H3 s3)
 (f3:∀b∈fp,Zb5 (Zf4 (CXF P w) P w K mg base N qual scope f cd A outer s0 H0 E) pins3 H3 b) (hC:C=s3.heap.objs.size) (hE:∀cls H',E1 cls Wu H'->E cls Wu H'):Zbb (CXF P w) (ZD (Zf4 (CXF P w) P w K mg base N qual scope f cd A outer s0 H0 E) NC sc C s3 H3 fp) E1:=by
 intro pins Z H s e s' I hx;obtain⟨a,cls,a0,H',B_,rfl,os,bare,un,hok,fl,kb,ha,hE1⟩:=hx;have I':=I.call' (ch:=[]) os un hok bare (λb z=>absurd z (by simp));have I0:Inv (ZD (Zf4 (CXF P w) P w K mg base N qual scope f cd A outer s0 H0 E) NC sc C s3 H3 fp) [] Z H' s':=I'.pins_of λp hp=>by cases hp
 have Io:=I3.comp_out (h'':=s'.heap) f3 hC I0 ⟨rfl,λ_ _=>rfl⟩;have hfr:(A.deeper (envOfC qual scope s0.heap.objs.size f cd)).frames=Ws (envOfC qual scope s0.heap.objs.size f cd::outer):=I3.ok.frames;have lt3:s0.heap.objs.size<s3.heap.objs.size:=I3.lt;have frC:∀b∈frs (envOfC qual scope s0.heap.objs.size f cd::outer),b≠C:=λb hb z=>by
  have hm:b∈s0.heap.objs.size::frs outer:=I3.stkSub b hb;subst z;rw[hC]at hm;rcases O3.mp hm with q|q
  . exact absurd q (Nat.ne_of_gt lt3)
  . obtain⟨_,o,q1,_⟩:=I3.funs.mem q;exact absurd (Ym q1) (Yv _)
 show YB (model P w) (A.deeper (envOfC qual scope s0.heap.objs.size f cd)) (noteFrame (.ref a) _) _ _ s';rw[Znq (env:=compEnvC sc (ZdV (Zf4 (CXF P w) P w K mg base N qual scope f cd A outer s0 H0 E).env sc.names []) C (Zf4 (CXF P w) P w K mg base N qual scope f cd A outer s0 H0 E).env) (env':=envOfC qual scope s0.heap.objs.size f cd) rfl];refine wpAny_looks_onW hfr rfl fl λh4 held4 up4=>?_;obtain⟨m,hn,_⟩:=I'.loc;have hn4:h4.Ns C m:=up4.ns hn;refine⟨m,hn4,λh5 sb cenv hc=>?_⟩;have x5:Fly (YZ B_ [C]) (envOfC qual scope s0.heap.objs.size f cd::outer) a cls a0 (rawInt s0.heap.objs.size) h5:=Fly.hide ⟨held4.1,held4.2.1,held4.2.2.1,held4.2.2.2⟩ hn4 sb frC;have ht:=x5.tr;obtain⟨oe,us,T,oT,ts,b1,b2,b3,b4,b5,b6,b7,b8,b9⟩:=ht;unfold PySem.passOn;refine Ya (YR b1 b3 b4 ?_);rw[if_neg (by simp)];refine Ya (Zhh (s:={s' with heap:=h5}) x5 λh6 x6 up6=>wpAny_throw ?_);show YB (model P w) (A.deeper (envOfC qual scope s0.heap.objs.size f cd)) (leaving (envOfC qual scope s0.heap.objs.size f cd) (.ref a)) _ _ {s' with heap:=h6};refine Zli hfr rfl x6 λh7 x7 up7=>?_;have kb':Kept (frs outer) H' s0.heap s'.heap (YZ B_ [C]):=λb o e1 hb=>by
  have nC:b≠C:=λz=>by
   subst z;rcases hb with hb|⟨⟨o',e'⟩,hb⟩
   . exact hb I'.free
   . rw[hC]at e';exact absurd (Ym e') (Nat.not_lt.mpr (Yy lt3))
  refine PySem.W.hideAll_get _ (kb b o e1 ?_) (by simpa using nC);rcases hb with hb|⟨⟨o',e'⟩,hb⟩
  . exact .inl hb
  . obtain⟨o1,q1⟩:=(I3.base:Un (frs outer) [] H0 H3 s0.heap s3.heap).there b o' e' (show b ∉ ([]:List Yi)from List.not_mem_nil);have nfp:b ∉ fp:=λhm=>by
     rcases(f3 b hm).2.2.2.1 with z|z
     . cases z
     . exact absurd (Ym e') (Nat.not_lt.mpr z)
    obtain⟨o2,q2⟩:=I.base.there b o1 q1 nfp;refine .inr ⟨⟨o2,q2⟩,λhm=>?_⟩;have hm':b∈s0.heap.objs.size::frs outer:=I3.stkSub b hm;rcases O3.mp hm' with z|z
    . rw[z]at e';exact absurd (Ym e') (Yv _)
    . exact hb z
 have hff:∀b∈frs outer,∀o,s'.heap.get? b=Ws o->∃sl,h7.get? b=Ws {o with slots:=sl}:=λb hb o e1=>by
  obtain⟨_,o',q1,nf⟩:=Io.funs.mem hb;cases e1.symm.trans q1;obtain⟨sl4,q4⟩:=up4 b o e1 nf;have hm:b∈frs (envOfC qual scope s0.heap.objs.size f cd::outer):=by obtain⟨y,hy,ey⟩:=List.mem_filterMap.mp hb;exact List.mem_filterMap.mpr ⟨y,Oh _ hy,ey⟩
  have q5:=(sb.2 b (frC b hm)).trans q4;obtain⟨sl6,q6⟩:=up6 b _ q5 nf;obtain⟨sl7,q7⟩:=up7 b _ q6 nf;exact⟨sl7,q7⟩
 obtain⟨r1,r2,r3⟩:=Zj2 (Io.base:Un (frs outer) [] H0 H' s0.heap s'.heap) hok kb' x7.1 hff;exact⟨a,cls,a0,H',_,rfl,Io.os,bare,r1,r2,x7,r3,ha,hE _ _ hE1⟩
end
end L2
namespace IV
open PySem PySem.Spec PyProof.Rows L2
set_option tactic.hygienic false
inductive D where
 |non|bl (b:Bool)|int (i:Int)|str (x:Str)|tup (xs:List D)|ref (i:Nat)|ty (n:String)
 |ro (xs:List D)|kd (x:Str)
inductive DO where
 |lst (xs:List D)|dic (kvs:List (Key×D))|ins (C:Str) (fs:List (Str×D))
 |fdic (kvs:List (Key×D))
noncomputable abbrev Hd:=List DO
inductive R(α:Type) where
 |bad|ok (a:α) (h:Hd)|exc (c:Str) (h:Hd)
noncomputable def R.bind(r:R α)(k:α->Hd->R β):R β:=match r with
 |.bad=>.bad
 |.ok a h=>k a h
 |.exc c h=>.exc c h
def R.bind_ok:(R.ok a h).bind k=k a h:=rfl
def R.bind_bad:(R.bad:R α).bind k=.bad:=rfl
noncomputable def R.ofO(o:Option α)(h:Hd):R α:=match o with
 |some a=>.ok a h
 |none=>.bad
def R.ofO_some:R.ofO (Ws a) h=.ok a h:=rfl
noncomputable abbrev Ev:=List (Option D)
inductive Bf where
 |len|isi|int|tup|lst|sum|all|srt|mx
 deriving DecidableEq
inductive Mf where
 |app|ext|pop|rev|clr
 deriving DecidableEq
mutual
inductive Ex where
 |var (i:Nat)|cst (d:D)|glo (x:Str)
 |bin (op:Operator) (a b:Ex)|cmp (op:CmpOp) (a b:Ex)|cmp2 (op op':CmpOp) (a b c:Ex)
 |neg (a:Ex)|nt (a:Ex)|ands (es:Exs)|ors (es:Exs)|ite (c:Tx) (a b:Ex)
 |tupl (es:Exs)|lstl (es:Exs)|ix (a i:Ex)|sl (a:Ex) (lo hi:Option Ex)
 |blt (f:Bf) (es:Exs)|call (f:Str) (es:Exs)|meth (m:Mf) (o:Ex) (es:Exs)
 |comp (NC:List Str) (js:List (Option Nat)) (it:Ix) (g:Tg) (c:Option Tx) (e:Ex)
 |sorts (e:Ex)|dictl (ps:Exs)|maxd (e d:Ex)
 |att (Cs:List Str) (o:Ex) (f:Str)|mk (C:Str) (es:Exs)|mcl (C m:Str) (o:Ex) (es:Exs)|any
 |trev (e:Ex)|tix (o e:Ex)|lrv (e:Ex)|lix (o e:Ex)|lin (a b:Ex)
inductive Exs where
 |nil|cons (e:Ex) (es:Exs)
inductive Ix where
 |pl (e:Ex)|rng (e:Ex)|rng2 (a b:Ex)|enu (e:Ex)|rev (e:Ex)
 |en1 (e:Ex)|en0 (e:Ex)|dk (e:Ex)
inductive Tg where
 |nm (i:Nat)|two (i j:Nat)|many (is:List Nat)
inductive Tx where
 |ex (e:Ex)|ands (ts:Txs)|ors (ts:Txs)|nt (a:Tx)
inductive Txs where
 |one (t:Tx)|cons (t:Tx) (ts:Txs)
end
noncomputable abbrev Ex.ci(i:Int):Ex:=.cst (.int i)
noncomputable abbrev Ex.Ci_(x:String):Ex:=.cst (.str (O x))
mutual
inductive Sx where
 |ret (e:Ex)|set (g:Tg) (e:Ex)|put (o i e:Ex)|aug (i:Nat) (op:Operator) (e:Ex)|drp (e:Ex)
 |iff (c:Tx) (a b:Sxs)|whl (c:Tx) (b:Sxs)|forr (g:Tg) (it:Ix) (b:Sxs)|pas|brk|cnt
 |seta (Cs:List Str) (o:Ex) (f:Str) (e:Ex)|auga (Cs:List Str) (o:Ex) (f:Str) (e:Ex)|any
 |rai (C:Str) (e:Ex)|trs (i:Nat) (f:Str) (es:Exs) (C:Str)
inductive Sxs where
 |nil|cons (s:Sx) (r:Sxs)
end
noncomputable abbrev Ex.v:=Ex.var
noncomputable abbrev Exs.c:=Exs.cons
noncomputable abbrev Exs.n:=Exs.nil
noncomputable abbrev Sxs.c:=Sxs.cons
noncomputable abbrev Sxs.n:=Sxs.nil
noncomputable abbrev Txs.c:=Txs.cons
noncomputable instance:DecidableEq D:=λa b=>Classical.propDecidable (a=b)
noncomputable instance:DecidableEq DO:=λa b=>Classical.propDecidable (a=b)
mutual
noncomputable def D.py(rd:Nat->Option PyData):D->Option PyData
 |.non=>Ws .none
 |.bl b=>Ws (.bool b)
 |.int i=>Ws (.int i)
 |.str x=>Ws (.str x)
 |.tup xs=>(D.pys rd xs).map .tuple
 |.ro xs=>(D.pys rd xs).map .list
 |.ref i=>rd i
 |_=>Wu
noncomputable def D.pys(rd:Nat->Option PyData):List D->Option (List PyData)
 |[]=>Ws []
 |x::xs=>(D.py rd x).bind λd=>(D.pys rd xs).map λds=>d::ds
end
noncomputable def ZiH(h:Hd):Nat->Nat->Option PyData
 |0,_=>Wu
 |n+1,i=>match h[i]? with
  |some (.lst xs)=>(D.pys (ZiH h n) xs).map .list
  |_=>Wu
noncomputable def ZjJ(h:Hd)(d:D):Option PyData:=D.py (ZiH h 4) d
noncomputable def Zc7(o:DO)(h:Hd):R D:=.ok (.ref h.length) (h++[o])
noncomputable def lstOf(d:D)(h:Hd):Option (List D):=match d with
 |.ref i=>match h[i]? with
  |some (.lst xs)=>Ws xs
  |_=>Wu
 |.ro xs=>Ws xs
 |_=>Wu
noncomputable def dicOf(GD:Str->Option (List (Key×D)))(d:D)(h:Hd):Option (List (Key×D)):=match d with
 |.ref i=>match h[i]? with
  |some (.dic kvs)=>Ws kvs
  |some (.fdic kvs)=>Ws kvs
  |_=>Wu
 |.kd x=>GD x
 |_=>Wu
noncomputable def keyOf:D->Option Key
 |.int i=>Ws (.inl i)
 |.str x=>Ws (.inr x)
 |_=>Wu
noncomputable def Zbh(kvs:List (Key×D))(k:Key):Option D:=(kvs.find? λp=>Wx (p.1=k)).map (·.2)
noncomputable def putD(kvs:List (Key×D))(k:Key)(v:D):List (Key×D):=if (kvs.any λkv=>Wx (kv.1=k))=Wv then kvs.map (λkv=>if kv.1=k then(kv.1,v)else kv)else kvs++[(k,v)]
noncomputable def cutD(xs:List D)(lo hi:Option Int):List D:=(xs.drop (HT.sIx xs.length 0 lo)).take (HT.sIx xs.length xs.length hi - HT.sIx xs.length 0 lo)
noncomputable def D.flat:D->Bool
 |.int _|.str _|.bl _|.non=>Wv
 |_=>Ww
noncomputable def eqF:D->D->Bool
 |.int i,.int j=>i==j
 |.str i,.str j=>i==j
 |.non,.non=>Wv
 |.bl i,.bl j=>i==j
 |.int i,.bl j=>i==(if j then 1 else 0)
 |.bl i,.int j=>(if i then 1 else 0)==j
 |_,_=>Ww
noncomputable def ZfK(GD:Str->Option (List (Key×D)))(d:D)(h:Hd):Option Bool:=match d with
 |.non=>Ws Ww
 |.bl b=>Ws b
 |.int i=>Ws (i != 0)
 |.str x=>if x.length<=sizeLine then Ws (!(x.length==0))else Wu
 |.tup xs=>Ws (!xs.isEmpty)
 |.ref i=>match h[i]? with
  |some (.lst xs)=>Ws (!xs.isEmpty)
  |some (.dic xs)=>Ws (!xs.isEmpty)
  |_=>Wu
 |.ro xs=>Ws (!xs.isEmpty)
 |_=>Wu
noncomputable def int2(x y:D)(k:Int->Int->R D):R D:=match x with
 |.int i=>match y with
  |.int j=>k i j
  |_=>.bad
 |_=>.bad
noncomputable def Zr4(x y:D)(h:Hd):R D:=match x with
 |.int i=>match y with
  |.int j=>.ok (.int (i+j)) h
  |_=>.bad
 |.str i=>match y with
  |.str j=>if i.length+j.length<=sizeLine then .ok (.str (i++j)) h else .bad
  |_=>.bad
 |.tup xs=>match y with
  |.tup ys=>if xs.length+ys.length<=sizeLine then .ok (.tup (xs++ys)) h else .bad
  |_=>.bad
 |.ref i=>match y with
  |.ref j=>match h[i]? with
   |some (.lst xs)=>match h[j]? with
    |some (.lst ys)=>if xs.length+ys.length<=sizeLine then Zc7 (.lst (xs++ys)) h else .bad
    |_=>.bad
   |_=>.bad
  |_=>.bad
 |_=>.bad
noncomputable def ZvT(x y:D)(h:Hd):R D:=match x with
 |.str z=>match y with
  |.int n=>if 0<=n/\n<=1000/\z.length<=1000 then .ok (.str (ZfO z n.toNat)) h else .bad
  |_=>.bad
 |x=>int2 x y λi j=>if i.natAbs<2 ^ 2000/\j.natAbs<2 ^ 2000 then .ok (.int (i * j)) h else .bad
noncomputable def opB(op:Operator)(x y:D)(h:Hd):R D:=match op with
 |.Add=>Zr4 x y h
 |.Sub=>int2 x y λi j=>.ok (.int (i - j)) h
 |.Mult=>ZvT x y h
 |.Mod=>int2 x y λi j=>if 0<j then .ok (.int (i % j)) h else .bad
 |.FloorDiv=>int2 x y λi j=>if 0<j/\j<1073741824 then .ok (.int (i / j)) h else .bad
 |.Pow=>int2 x y λi j=>if 0<=j/\j<=1000000/\i.natAbs<2 ^ 64 then .ok (.int (i ^ j.toNat)) h else .bad
 |_=>.bad
noncomputable def ZcU(neg:Bool)(x y:D)(h:Hd):R D:=match ZjJ h x,ZjJ h y with
 |some a,Ws b=>if min a.depth b.depth<=1100 then .ok (.bl (if neg then !YQ a b else YQ a b)) h else .bad
 |_,_=>.bad
noncomputable def seqOf(d:D)(h:Hd):Option (List D):=match d with
 |.tup xs=>Ws xs
 |d=>lstOf d h
noncomputable def Zcj(GD:Str->Option (List (Key×D)))(neg:Bool)(x y:D)(h:Hd):R D:=match seqOf y h with
 |some xs=>if x.flat&&xs.all D.flat then .ok (.bl (if neg then !xs.any (λz=>eqF z x)else xs.any λz=>eqF z x)) h else .bad
 |none=>match dicOf GD y h,keyOf x with
  |some kvs,Ws k=>.ok (.bl (if neg then !(Zbh kvs k).isSome else(Zbh kvs k).isSome)) h
  |_,_=>.bad
noncomputable def ZiO(f:Int->Int->Bool)(x y:D)(h:Hd):R D:=match x,y with
 |.int i,.int j=>.ok (.bl (f i j)) h
 |_,_=>.bad
noncomputable def opN(neg:Bool)(x y:D)(h:Hd):R D:=match y with
 |.non=>.ok (.bl (if neg then !Wx (x=.non)else Wx (x=.non))) h
 |_=>.bad
noncomputable def opC(GD:Str->Option (List (Key×D)))(op:CmpOp)(x y:D)(h:Hd):R D:=match op with
 |.Eq=>ZcU Ww x y h
 |.NotEq=>ZcU Wv x y h
 |.Lt=>ZiO (λi j=>Wx (i<j)) x y h
 |.LtE=>ZiO (λi j=>Wx (i<=j)) x y h
 |.Gt=>ZiO (λi j=>Wx (j<i)) x y h
 |.GtE=>ZiO (λi j=>Wx (j<=i)) x y h
 |.In=>Zcj GD Ww x y h
 |.NotIn=>Zcj GD Wv x y h
 |.Is=>opN Ww x y h
 |.IsNot=>opN Wv x y h
noncomputable def ZbD(GD:Str->Option (List (Key×D)))(x y:D)(h:Hd):R D:=match y with
 |.int i=>match seqOf x h with
  |some xs=>R.ofO (atI xs i) h
  |none=>match x with
   |.str z=>if z.length<=sizeLine then R.ofO ((atI z.cps.toList i).map λc=>.str ⟨#[c]⟩) h else .bad
   |_=>match dicOf GD x h with
    |some kvs=>R.ofO (Zbh kvs (.inl i)) h
    |none=>.bad
 |.str z=>match dicOf GD x h with
  |some kvs=>R.ofO (Zbh kvs (.inr z)) h
  |none=>.bad
 |_=>.bad
noncomputable def Zgu(x:D)(l u:Option Int)(h:Hd):R D:=match x with
 |.tup xs=>.ok (.tup (cutD xs l u)) h
 |.str y=>if y.length<=sizeLine then .ok (.str (Yp y l u)) h else .bad
 |d=>match lstOf d h with
  |some xs=>Zc7 (.lst (cutD xs l u)) h
  |none=>.bad
noncomputable def ZuV(d:D)(h:Hd):Option String:=match d with
 |.int _=>Ws "int"
 |.str _=>Ws "str"
 |.bl _=>Ws "bool"
 |.non=>Ws "NoneType"
 |.tup _=>Ws "tuple"
 |d=>(lstOf d h).map λ_ => "list"
noncomputable def Zlk(t T:String):Option Bool:=if T∈["int", "str", "bool", "tuple", "list"]/\t∈["int", "str", "bool", "tuple", "list", "NoneType"]then Ws (t==T || (t == "bool" && T == "int"))else Wu
noncomputable def intsOf:List D->Option (List Int)
 |[]=>Ws []
 |.int i::r=>(intsOf r).map λz=>i::z
 |_=>Wu
noncomputable def ZsC:List D->Option (List Bool)
 |[]=>Ws []
 |.bl i::r=>(ZsC r).map λz=>i::z
 |_=>Wu
noncomputable def strsOf:List D->Option (List Str)
 |[]=>Ws []
 |.str i::r=>(strsOf r).map λz=>i::z
 |_=>Wu
noncomputable def Zel:List (Key×D)->Option (List Str)
 |[]=>Ws []
 |(.inr x,_)::r=>(Zel r).map λz=>x::z
 |_=>Wu
noncomputable def Zm9(x:Str):List Str->List Str
 |[]=>[x]
 |y::r=>if ltCps y.cps.toList x.cps.toList then y::Zm9 x r else x::y::r
noncomputable def ZcR:List Str->List Str
 |[]=>[]
 |x::r=>Zm9 x (ZcR r)
noncomputable def ZlB(xs:List D)(h:Hd):R D:=match xs with
 |[.str y]=>if y.length<=sizeLine then .ok (.int y.length) h else .bad
 |[d]=>R.ofO ((seqOf d h).map λxs=>.int xs.length) h
 |_=>.bad
noncomputable def Zuz(xs:List D)(h:Hd):R D:=match xs with
 |[d,.ty T]=>R.ofO ((ZuV d h).bind λt=>(Zlk t T).map .bl) h
 |_=>.bad
noncomputable def ZxG(xs:List D)(h:Hd):R D:=match xs with
 |[.int i]=>.ok (.int i) h
 |[.bl b]=>.ok (.int (if b then 1 else 0)) h
 |_=>.bad
noncomputable def Zr2(xs:List D)(h:Hd):R D:=match xs with
 |[.tup xs]=>.ok (.tup xs) h
 |[d]=>R.ofO ((lstOf d h).map .tup) h
 |_=>.bad
noncomputable def ZxF(xs:List D)(h:Hd):R D:=match xs with
 |[d]=>match seqOf d h with
  |some xs=>Zc7 (.lst xs) h
  |none=>.bad
 |_=>.bad
noncomputable def Zp4(xs:List D)(h:Hd):R D:=match xs with
 |[d]=>R.ofO (((lstOf d h).bind intsOf).map λns=>.int ns.sum) h
 |_=>.bad
noncomputable def ZxH(xs:List D)(h:Hd):R D:=match xs with
 |[d]=>R.ofO (((lstOf d h).bind ZsC).map λbs=>.bl (bs.all id)) h
 |_=>.bad
noncomputable def ZfH(GD:Str->Option (List (Key×D)))(xs:List D)(h:Hd):R D:=match xs with
 |[d]=>match (dicOf GD d h).bind Zel with
  |some ss=>if ss.length<64/\ss.all Yo=Wv then Zc7 (.lst ((ZcR ss).map .str)) h else .bad
  |none=>.bad
 |_=>.bad
noncomputable def ZmJ(x d:D)(h:Hd):R D:=match d with
 |.int d=>R.ofO (((lstOf x h).bind intsOf).map λns=>.int (ZdM ns d)) h
 |_=>.bad
noncomputable def bMx(xs:List D)(h:Hd):R D:=match xs with
 |[.int i,.int j]=>.ok (.int (if j > i then j else i)) h
 |[d]=>match (lstOf d h).bind intsOf with
  |some ns=>if ns≠[]then .ok (.int (ZdM ns 0)) h else .bad
  |none=>.bad
 |_=>.bad
noncomputable def ZcE(GD:Str->Option (List (Key×D))):Bf->List D->Hd->R D
 |.len=>ZlB
 |.isi=>Zuz
 |.int=>ZxG
 |.tup=>Zr2
 |.lst=>ZxF
 |.sum=>Zp4
 |.all=>ZxH
 |.srt=>ZfH GD
 |.mx=>bMx
noncomputable def Zp3(x:D)(h:Hd):R D:=match x with
 |.tup (y::ys)=>.ok (.tup (y::ys).reverse) h
 |_=>.bad
noncomputable def Zwx(x:D)(h:Hd):R D:=match x with
 |.tup ys=>Zc7 (.lst ys.reverse) h
 |_=>.bad
noncomputable def Zv6:D->Bool
 |.tup _=>Wv
 |_=>Ww
noncomputable def ZnK(x y:D)(h:Hd):R D:=match x,y with
 |.tup xs,.str z=>match strsOf xs with
  |some ss=>R.ofO ((Tx.place z ss).map λ(j:Nat)=>.int (j:Int)) h
  |none=>.bad
 |_,_=>.bad
noncomputable def Zwy(x y:D)(h:Hd):R D:=match lstOf x h,y with
 |some xs,.str z=>match strsOf xs with
  |some ss=>R.ofO ((Tx.place z ss).map λ(j:Nat)=>.int (j:Int)) h
  |none=>.bad
 |_,_=>.bad
noncomputable def Zwz(x y:D)(h:Hd):R D:=match ZjJ h x,ZjJ h y with
 |some a,Ws (.list bs)=>if min (PyData.depthAll bs) a.depth<=1000 then .ok (.bl (bs.any λb=>YQ b a)) h else .bad
 |_,_=>.bad
noncomputable def ZdJ:List D->Option (List (Key×D))
 |[]=>Ws []
 |k::v::r=>match keyOf k,ZdJ r with
  |some k,Ws r=>Ws ((k,v)::r)
  |_,_=>Wu
 |_=>Wu
noncomputable def ZeO(kvs more:List (Key×D)):List (Key×D):=more.foldl (λacc kv=>putD acc kv.1 kv.2) kvs
noncomputable def ZtU(i:Nat)(ys xs:List D)(h:Hd):R D:=match xs with
 |[d]=>if ys.length<sizeLine then .ok .non (h.set i (.lst (ys++[d])))else .bad
 |_=>.bad
noncomputable def Zrl(i:Nat)(ys xs:List D)(h:Hd):R D:=match xs with
 |[.ref j]=>match h[j]? with
  |some (.lst zs)=>if ys.length+zs.length<=sizeLine then .ok .non (h.set i (.lst (ys++zs)))else .bad
  |_=>.bad
 |[.tup zs]=>if ys.length+zs.length<=sizeLine then .ok .non (h.set i (.lst (ys++zs)))else .bad
 |_=>.bad
noncomputable def ZtT(i:Nat)(ys xs:List D)(h:Hd):R D:=match xs with
 |[]=>match ys[ys.length - 1]? with
  |some y=>.ok y (h.set i (.lst ys.dropLast))
  |none=>.bad
 |_=>.bad
noncomputable def ZvW(i:Nat)(ys xs:List D)(h:Hd):R D:=match xs with
 |[]=>.ok .non (h.set i (.lst ys.reverse))
 |_=>.bad
noncomputable def ZvX(i:Nat)(ys xs:List D)(h:Hd):R D:=match xs with
 |[]=>.ok .non (h.set i (.lst []))
 |_=>.bad
noncomputable def ZhO:Mf->Nat->List D->List D->Hd->R D
 |.app=>ZtU
 |.ext=>Zrl
 |.pop=>ZtT
 |.rev=>ZvW
 |.clr=>ZvX
noncomputable def Zck(m:Mf)(o:D)(xs:List D)(h:Hd):R D:=match o with
 |.ref i=>match h[i]? with
  |some (.lst ys)=>ZhO m i ys xs h
  |_=>.bad
 |_=>.bad
noncomputable def Zgj(o:D)(h:Hd):Bool:=match o with
 |.ref i=>match h[i]? with
  |some (.lst _)=>Wv
  |_=>Ww
 |_=>Ww
noncomputable def ZbQ(o i v:D)(h:Hd):R Unit:=match o with
 |.ref a=>match h[a]? with
  |some (.lst xs)=>match i with
   |.int k=>match ixN xs.length k with
    |some j=>.ok () (h.set a (.lst (xs.set j v)))
    |none=>.bad
   |_=>.bad
  |some (.dic kvs)=>match keyOf i with
   |some k=>if kvs.length<sizeLine then .ok () (h.set a (.dic (putD kvs k v)))else .bad
   |none=>.bad
  |_=>.bad
 |_=>.bad
structure Wk where
 src:Option (Nat×List D)
 xs:List D
noncomputable def Wk.stays(src:Option (Nat×List D))(h:Hd):Bool:=match src with
 |none=>Wv
 |some (i,xs)=>Wx (h[i]? = Ws (.lst xs))
noncomputable def Zbg(d:D)(h:Hd):Option Wk:=match d with
 |.tup xs=>Ws ⟨Wu,xs⟩
 |.ro xs=>Ws ⟨Wu,xs⟩
 |.ref i=>match h[i]? with
  |some (.lst xs)=>Ws ⟨Ws (i,xs),xs⟩
  |_=>Wu
 |_=>Wu
noncomputable def ZhZ(d:D)(h:Hd):Option Wk:=match d with
 |.ro xs=>Ws ⟨Wu,xs⟩
 |.ref i=>match h[i]? with
  |some (.lst xs)=>Ws ⟨Ws (i,xs),xs⟩
  |_=>Wu
 |_=>Wu
noncomputable def ZnY(d:D)(h:Hd):Option Wk:=match d with
 |.tup xs=>Ws ⟨Wu,xs⟩
 |.ref i=>match h[i]? with
  |some (.lst xs)=>Ws ⟨Ws (i,xs),xs⟩
  |_=>Wu
 |_=>Wu
noncomputable def ZaE(lo:Int)(n:Nat):List D:=(List.range n).map λ(k:Nat)=>.int (lo+(k:Int))
noncomputable def Zdq(xs:List D):List D:=xs.mapIdx λk x=>.tup [.int (k:Int),x]
noncomputable def ZpK(xs:List D):List D:=xs.mapIdx λk x=>.tup [.int ((k+1:Nat):Int),x]
noncomputable def Zv4:Key->D
 |.inl i=>.int i
 |.inr x=>.str x
noncomputable def Zwd(x:D)(h:Hd):R Wk:=match x with
 |.ref i=>match h[i]? with
  |some (.dic kvs)=>.ok ⟨Wu,kvs.map λp=>Zv4 p.1⟩ (h.set i (.fdic kvs))
  |some (.fdic kvs)=>.ok ⟨Wu,kvs.map λp=>Zv4 p.1⟩ h
  |_=>.bad
 |_=>.bad
noncomputable def ZbT(i:Int):Bool:=Wx (-(2 ^ 62)<=i)&&Wx (i<2 ^ 62)
noncomputable def ZkP:List Nat->List D->Ev->Ev
 |i::is,x::xs,S=>ZkP is xs (S.set i (Ws x))
 |_,_,S=>S
noncomputable def ZbS(g:Tg)(d:D)(S:Ev):Option Ev:=match g with
 |.nm i=>Ws (S.set i (Ws d))
 |.two i j=>match d with
  |.tup [a,b]=>Ws ((S.set i (Ws a)).set j (Ws b))
  |_=>Wu
 |.many is=>match d with
  |.tup xs=>if xs.length=is.length then Ws (ZkP is xs S)else Wu
  |_=>Wu
noncomputable def Zc0(js:List (Option Nat))(S:Ev):Ev:=js.map λo=>o.bind λj=>(S[j]?).join
inductive Fl where
 |nx|bk|ct|rt (d:D)
noncomputable def ZK(src:Option (Nat×List D))(g:Tg)(body:Ev->Hd->R (Fl×Ev)):List D->Ev->Hd->R (Fl×Ev)
 |[],S,h=>if Wk.stays src h then .ok (.nx,S) h else .bad
 |d::ds,S,h=>if Wk.stays src h then match ZbS g d S with
  |none=>.bad
  |some ρ1=>(body ρ1 h).bind λp h2=>match p with
   |(.nx,ρ2)=>ZK src g body ds ρ2 h2
   |(.ct,ρ2)=>ZK src g body ds ρ2 h2
   |(.bk,ρ2)=>.ok (.nx,ρ2) h2
   |(.rt d,ρ2)=>.ok (.rt d,ρ2) h2
  else .bad
noncomputable def Zag(test:Ev->Hd->R Bool)(body:Ev->Hd->R (Fl×Ev)):Nat->Ev->Hd->R (Fl×Ev)
 |0,_,_=>.bad
 |n+1,S,h=>(test S h).bind λb h1=>if b then(body S h1).bind λp h2=>match p with
  |(.nx,ρ2)=>Zag test body n ρ2 h2
  |(.ct,ρ2)=>Zag test body n ρ2 h2
  |(.bk,ρ2)=>.ok (.nx,ρ2) h2
  |(.rt d,ρ2)=>.ok (.rt d,ρ2) h2
  else .ok (.nx,S) h1
noncomputable def R.plain:R α->R α
 |.exc _ _=>.bad
 |r=>r
noncomputable def Z0(src:Option (Nat×List D))(g:Tg)(test:Ev->Hd->R Bool)(elt:Ev->Hd->R D):List D->Ev->List D->Hd->R (List D)
 |[],_,acc,h=>if Wk.stays src h then .ok acc h else .bad
 |d::ds,S,acc,h=>if Wk.stays src h/\acc.length<sizeLine then match ZbS g d S with
  |none=>.bad
  |some ρ1=>(test ρ1 h).bind λb h1=>if b then(elt ρ1 h1).bind λx h2=>Z0 src g test elt ds S (acc++[x]) h2 else Z0 src g test elt ds S acc h1
  else .bad
noncomputable def ZhA(C:Str)(i:Nat)(S:Ev)(r:R D):R (Fl×Ev):=match r with
 |.bad=>.bad
 |.ok v h=>.ok (.nx,S.set i (Ws v)) h
 |.exc c h=>if c=C then .ok (.nx,S.set i (Ws .non)) h else .bad
noncomputable def mnm(C m:Str):Str:=C++(O "." ++ m)
noncomputable def Zaf(d:D)(h:Hd):Option (Str×List (Str×D)):=match d with
 |.ref i=>match h[i]? with
  |some (.ins C fs)=>Ws (C,fs)
  |_=>Wu
 |_=>Wu
noncomputable def ZfY(Cs:List Str)(f:Str)(x:D)(h:Hd):R D:=match Zaf x h with
 |some (C,fs)=>if C∈Cs then R.ofO (fs.lookup f) h else .bad
 |none=>.bad
noncomputable def Zg0(f:Str)(v:D):List (Str×D)->List (Str×D)
 |[]=>[(f,v)]
 |(g,x)::r=>if g=f then(g,v)::r else(g,x)::Zg0 f v r
noncomputable def ZfN(Cs:List Str)(f:Str)(x d:D)(h:Hd):R D:=match x with
 |.ref i=>match h[i]? with
  |some (.ins C fs)=>if C∈Cs/\fs.length<1000 then .ok .non (h.set i (.ins C (Zg0 f d fs)))else .bad
  |_=>.bad
 |_=>.bad
noncomputable def Zgv(Cf:Str->List D->Hd->R D)(C:Str)(xs:List D)(h:Hd):R D:=(Cf (mnm C (O "__init__")) (.ref h.length::xs) (h++[.ins C []])).bind λd h2=>match d with
 |.non=>.ok (.ref h.length) h2
 |_=>.bad
structure Tb where
 G:Str->Option D
 GD:Str->Option (List (Key×D))
 C:Str->List D->Hd->R D
 L:Nat
mutual
noncomputable def ev(T:Tb):Ex->Ev->Hd->R D
 |.var i,S,h=>R.ofO (S[i]?).join h
 |.cst d,_,h=>.ok d h
 |.glo x,_,h=>R.ofO (T.G x) h
 |.bin op a b,S,h=>(ev T a S h).bind λx h1=>(ev T b S h1).bind λy h2=>opB op x y h2
 |.cmp op a b,S,h=>(ev T a S h).bind λx h1=>(ev T b S h1).bind λy h2=>opC T.GD op x y h2
 |.cmp2 op op' a b c,S,h=>(ev T a S h).bind λx h1=>(ev T b S h1).bind λy h2=>(opC T.GD op x y h2).bind λr h3=>match r with
  |.bl Wv=>(ev T c S h3).bind λz h4=>opC T.GD op' y z h4
  |.bl Ww=>.ok (.bl Ww) h3
  |_=>.bad
 |.neg a,S,h=>(ev T a S h).bind λx h1=>match x with
  |.int i=>.ok (.int (-i)) h1
  |_=>.bad
 |.nt a,S,h=>(ev T a S h).bind λx h1=>match x with
  |.bl b=>.ok (.bl (!b)) h1
  |_=>.bad
 |.ands es,S,h=>evAnd T es S h
 |.ors es,S,h=>evOr T es S h
 |.ite c a b,S,h=>(tst T c S h).bind λc h1=>if c then ev T a S h1 else ev T b S h1
 |.tupl es,S,h=>(evs T es S h).bind λxs h1=>if xs.length<=sizeLine then .ok (.tup xs) h1 else .bad
 |.lstl es,S,h=>(evs T es S h).bind λxs h1=>if xs.length<=sizeLine then Zc7 (.lst xs) h1 else .bad
 |.ix a i,S,h=>(ev T a S h).bind λx h1=>(ev T i S h1).bind λy h2=>ZbD T.GD x y h2
 |.sl a lo hi,S,h=>(ev T a S h).bind λx h1=>(evo T lo S h1).bind λl h2=>(evo T hi S h2).bind λu h3=>Zgu x l u h3
 |.blt f es,S,h=>(evs T es S h).bind λxs h1=>ZcE T.GD f xs h1
 |.call f es,S,h=>(evs T es S h).bind λxs h1=>T.C f xs h1
 |.meth m o es,S,h=>(ev T o S h).bind λx h1=>if Zgj x h1 then(evs T es S h1).bind λxs h2=>Zck m x xs h2 else .bad
 |.comp _ js it g c e,S,h=>(evi T it S h).bind λw h1=>(Z0 w.src g (tsto T c) (ev T e) w.xs (Zc0 js S) [] h1).bind λxs h2=>Zc7 (.lst xs) h2
 |.sorts e,S,h=>(ev T e S h).bind λx h1=>match (lstOf x h1).bind strsOf with
  |some ss=>if ss.length<64 then Zc7 (.lst ((ZcR ss.eraseDups).map .str)) h1 else .bad
  |none=>.bad
 |.maxd e d,S,h=>(ev T e S h).bind λx h1=>(ev T d S h1).bind λy h2=>ZmJ x y h2
 |.dictl ps,S,h=>(evs T ps S h).bind λxs h1=>match ZdJ xs with
  |some kvs=>if kvs.length<=15 then Zc7 (.dic (ZeO [] kvs)) h1 else .bad
  |none=>.bad
 |.att Cs o f,S,h=>(ev T o S h).bind λx h1=>ZfY Cs f x h1
 |.mk C es,S,h=>(evs T es S h).bind λxs h1=>Zgv T.C C xs h1
 |.mcl C m o es,S,h=>(ev T o S h).bind λx h1=>match Zaf x h1 with
  |some (C',fs)=>if C'=C/\fs.lookup m=Wu then(evs T es S h1).bind λxs h2=>T.C (mnm C m) (x::xs) h2 else .bad
  |none=>.bad
 |.any,_,_=>.bad
 |.trev e,S,h=>(ev T e S h).bind λx h1=>Zp3 x h1
 |.lrv e,S,h=>(ev T e S h).bind λx h1=>Zwx x h1
 |.tix o e,S,h=>(ev T o S h).bind λx h1=>if Zv6 x then(ev T e S h1).bind λy h2=>ZnK x y h2 else .bad
 |.lix o e,S,h=>(ev T o S h).bind λx h1=>if Zgj x h1 then(ev T e S h1).bind λy h2=>Zwy x y h2 else .bad
 |.lin a b,S,h=>(ev T a S h).bind λx h1=>(ev T b S h1).bind λy h2=>Zwz x y h2
noncomputable def evs(T:Tb):Exs->Ev->Hd->R (List D)
 |.nil,_,h=>.ok [] h
 |.cons e es,S,h=>(ev T e S h).bind λx h1=>(evs T es S h1).bind λxs h2=>.ok (x::xs) h2
noncomputable def evAnd(T:Tb):Exs->Ev->Hd->R D
 |.nil,_,_=>.bad
 |.cons e es,S,h=>match es with
  |.nil=>ev T e S h
  |.cons _ _=>(ev T e S h).bind λx h1=>match x with
   |.bl Wv=>evAnd T es S h1
   |.bl Ww=>.ok (.bl Ww) h1
   |_=>.bad
noncomputable def evOr(T:Tb):Exs->Ev->Hd->R D
 |.nil,_,_=>.bad
 |.cons e es,S,h=>match es with
  |.nil=>ev T e S h
  |.cons _ _=>(ev T e S h).bind λx h1=>match x with
   |.bl Wv=>.ok (.bl Wv) h1
   |.bl Ww=>evOr T es S h1
   |_=>.bad
noncomputable def evo(T:Tb):Option Ex->Ev->Hd->R (Option Int)
 |none,_,h=>.ok Wu h
 |some e,S,h=>(ev T e S h).bind λx h1=>match x with
  |.int i=>.ok (Ws i) h1
  |_=>.bad
noncomputable def tst(T:Tb):Tx->Ev->Hd->R Bool
 |.ex e,S,h=>(ev T e S h).bind λx h1=>R.ofO (ZfK T.GD x h1) h1
 |.ands ts,S,h=>tstAnd T ts S h
 |.ors ts,S,h=>tstOr T ts S h
 |.nt a,S,h=>(tst T a S h).bind λc h1=>.ok (!c) h1
noncomputable def tstAnd(T:Tb):Txs->Ev->Hd->R Bool
 |.one t,S,h=>tst T t S h
 |.cons t ts,S,h=>(tst T t S h).bind λc h1=>if c then tstAnd T ts S h1 else .ok Ww h1
noncomputable def tstOr(T:Tb):Txs->Ev->Hd->R Bool
 |.one t,S,h=>tst T t S h
 |.cons t ts,S,h=>(tst T t S h).bind λc h1=>if c then .ok Wv h1 else tstOr T ts S h1
noncomputable def tsto(T:Tb):Option Tx->Ev->Hd->R Bool
 |none,_,h=>.ok Wv h
 |some e,S,h=>tst T e S h
noncomputable def evi(T:Tb):Ix->Ev->Hd->R Wk
 |.pl e,S,h=>(ev T e S h).bind λx h1=>R.ofO (Zbg x h1) h1
 |.rng e,S,h=>(ev T e S h).bind λx h1=>match x with
  |.int j=>if ZbT j then .ok ⟨Wu,ZaE 0 j.toNat⟩ h1 else .bad
  |_=>.bad
 |.rng2 a b,S,h=>(ev T a S h).bind λx h1=>(ev T b S h1).bind λy h2=>match x,y with
  |.int i,.int j=>if ZbT i&&ZbT j then .ok ⟨Wu,ZaE i (j - i).toNat⟩ h2 else .bad
  |_,_=>.bad
 |.enu e,S,h=>(ev T e S h).bind λx h1=>R.ofO ((ZhZ x h1).map λw=>⟨w.src,Zdq w.xs⟩) h1
 |.rev e,S,h=>(ev T e S h).bind λx h1=>R.ofO ((ZnY x h1).map λw=>⟨w.src,w.xs.reverse⟩) h1
 |.en1 e,S,h=>(ev T e S h).bind λx h1=>match x with
  |.tup xs=>.ok ⟨Wu,ZpK xs⟩ h1
  |_=>.bad
 |.en0 e,S,h=>(ev T e S h).bind λx h1=>match x with
  |.tup xs=>.ok ⟨Wu,Zdq xs⟩ h1
  |_=>.bad
 |.dk e,S,h=>(ev T e S h).bind λx h1=>Zwd x h1
end
mutual
noncomputable def xs1(T:Tb):Sx->Ev->Hd->R (Fl×Ev)
 |.ret e,S,h=>(ev T e S h).bind λx h1=>.ok (.rt x,S) h1
 |.set g e,S,h=>(ev T e S h).bind λx h1=>(R.ofO (ZbS g x S) h1).bind λρ1 h2=>.ok (.nx,ρ1) h2
 |.put o i e,S,h=>(ev T e S h).bind λx h1=>(ev T o S h1).bind λy h2=>(ev T i S h2).bind λz h3=>(ZbQ y z x h3).bind λ_ h4=>.ok (.nx,S) h4
 |.aug i op e,S,h=>(R.ofO (S[i]?).join h).bind λx h1=>(ev T e S h1).bind λy h2=>match op,x,y with
  |.Add,.int a,.int b=>.ok (.nx,S.set i (Ws (.int (a+b)))) h2
  |_,_,_=>.bad
 |.drp e,S,h=>(ev T e S h).bind λ_ h1=>.ok (.nx,S) h1
 |.iff c a b,S,h=>(tst T c S h).bind λt h1=>if t then xs2 T a S h1 else xs2 T b S h1
 |.whl c b,S,h=>Zag (tst T c) (xs2 T b) T.L S h
 |.forr g it b,S,h=>(evi T it S h).bind λw h1=>ZK w.src g (xs2 T b) w.xs S h1
 |.pas,S,h=>.ok (.nx,S) h
 |.brk,S,h=>.ok (.bk,S) h
 |.cnt,S,h=>.ok (.ct,S) h
 |.seta Cs o f e,S,h=>(ev T e S h).bind λd h1=>(ev T o S h1).bind λx h2=>(ZfN Cs f x d h2).bind λ_ h3=>.ok (.nx,S) h3
 |.auga Cs o f e,S,h=>(ev T o S h).bind λx h1=>(ZfY Cs f x h1).bind λv h2=>(ev T e S h2).bind λy h3=>match v,y with
  |.int a,.int b=>if (Zaf x h1).map (·.1)=(Zaf x h3).map (·.1)then(ZfN Cs f x (.int (a+b)) h3).bind λ_ h4=>.ok (.nx,S) h4 else .bad
  |_,_=>.bad
 |.any,_,_=>.bad
 |.rai C e,S,h=>(ev T e S h).bind λ_ h1=>.exc C h1
 |.trs i f es C,S,h=>(evs T es S h).plain.bind λxs h1=>ZhA C i S (T.C f xs h1)
noncomputable def xs2(T:Tb):Sxs->Ev->Hd->R (Fl×Ev)
 |.nil,S,h=>.ok (.nx,S) h
 |.cons s r,S,h=>(xs1 T s S h).bind λp h1=>match p with
  |(.nx,ρ1)=>xs2 T r ρ1 h1
  |p=>.ok p h1
end
structure Fd where
 ps:List Str
 N:List Str
 body:Sxs
structure Pg where
 tb:List (Str×Fd)
 G:Str->Option D
 GD:Str->Option (List (Key×D))
 L:Nat
 ms:List (Str×Fd):=[]
noncomputable def Pg.look(P:Pg)(f:Str):Option Fd:=match P.tb.lookup f with
 |some fd=>Ws fd
 |none=>P.ms.lookup f
noncomputable def ZF(N:List Str)(ds:List D):Ev:=ds.map Ws++YK (N.length - ds.length) Wu
noncomputable def Ze:R (Fl×Ev)->R D
 |.ok (.rt d,_) h=>.ok d h
 |.ok (.nx,_) h=>.ok .non h
 |.exc c h=>.exc c h
 |_=>.bad
noncomputable def run(P:Pg):Nat->Str->List D->Hd->R D
 |0,_,_,_=>.bad
 |n+1,f,ds,h=>match P.look f with
  |none=>.bad
  |some fd=>if ds.length=fd.ps.length then Ze (xs2 ⟨P.G,P.GD,run P n,P.L⟩ fd.body (ZF fd.N ds) h)else .bad
noncomputable def Pg.tbl(P:Pg)(n:Nat):Tb:=⟨P.G,P.GD,run P n,P.L⟩
def FzL(K:Yk)(H:Hp)(a:Yi)(xs:List V):Prop:=(∃o,H a=Ws (.frz o (.lst xs)))\/∃(o:Obj) (its:Array Yj) (n:Nat),K.lookup a=Ws o/\o.cls=.type "list" /\ o.dict=Wu/\o.data=.seq its n/\its.size<=sizeLine/\Zp xs its.toList
def FzL.sq{K:Yk}(h:FzL K H a xs):SqL K H a xs:=h.elim (λ⟨o,h⟩=>.inl (.inr ⟨o,h⟩)) .inr
structure Yx where
 K:Yk
 mg:Str->Option Yj
mutual
inductive RD(Y:Yx)(H:Hp)(B:List Yi):D->V->Prop
 |non:RD Y H B .non .non
 |bl (b:Bool):RD Y H B (.bl b) (.bl b)
 |int (i:Int):RD Y H B (.int i) (.int i)
 |str (x:Str) (ok:Yo x=Wv):RD Y H B (.str x) (.str x)
 |tup {a:Yi}{vs:List V}{ds:List D}:SqT Y.K H a vs->RDs Y H B ds vs->RD Y H B (.tup ds) (.ref a)
 |ref {i:Nat}{a:Yi}:B[i]? = Ws a->RD Y H B (.ref i) (.ref a)
 |ty (n:String):RD Y H B (.ty n) (.ty n)
 |ro {a:Yi}{vs:List V}{ds:List D}:FzL Y.K H a vs->RDs Y H B ds vs->RD Y H B (.ro ds) (.ref a)
 |kd {x:Str}{a:Yi}:Y.mg x=Ws (.ref a)->RD Y H B (.kd x) (.ref a)
inductive RDs(Y:Yx)(H:Hp)(B:List Yi):List D->List V->Prop
 |nil:RDs Y H B [] []
 |cons {d:D}{v:V}{ds:List D}{vs:List V}:RD Y H B d v->RDs Y H B ds vs->RDs Y H B (d::ds) (v::vs)
end
inductive RKs(Y:Yx)(H:Hp)(B:List Yi){κ:Type}:List (κ×D)->List (κ×V)->Prop
 |nil:RKs Y H B [] []
 |cons {k:κ}{d:D}{v:V}{ds:List (κ×D)}{vs:List (κ×V)}:RD Y H B d v->RKs Y H B ds vs->RKs Y H B ((k,d)::ds) ((k,v)::vs)
def RO(Y:Yx)(H:Hp)(B:List Yi)(a:Yi):DO->Prop
 |.lst ds=>∃vs,H a=Ws (.lst vs)/\RDs Y H B ds vs
 |.dic kvs=>∃kvs',H a=Ws (.dK kvs')/\RKs Y H B kvs kvs'
 |.ins C fs=>∃Ca dx fs',H a=Ws (.ins Ca dx fs')/\Y.mg C=Ws (.ref Ca)/\RKs Y H B fs fs'
 |.fdic kvs=>∃o kvs',H a=Ws (.frz o (.dK kvs'))/\RKs Y H B kvs kvs'
def Zdm(kvs:List (Key×D)):Prop:=∀p∈kvs,∀x,p.1=.inr x->Yo x=Wv
def DOk:DO->Prop
 |.dic kvs=>Zdm kvs
 |.fdic kvs=>Zdm kvs
 |_=>True
structure RH(Y:Yx)(H:Hp)(B:List Yi)(h:Hd):Prop where
 len:h.length=B.length
 nd:B.Nodup
 ob:∀(i:Nat) (o:DO) (a:Yi),h[i]? = Ws o->B[i]? = Ws a->RO Y H B a o
 ks:∀(i:Nat) (o:DO),h[i]? = Ws o->DOk o
structure Gr(H:Hp)(B:List Yi)(H':Hp)(μ':List Yi):Prop where
 pre:∀(i:Nat) (a:Yi),B[i]? = Ws a->μ'[i]? = Ws a
 new:∀a∈μ',a∈B\/H a=Wu
 keep:∀b o,b ∉ B->H b=Ws o->H' b=Ws o
 fz:∀b o u,H b=Ws (.frz o u)->H' b=Ws (.frz o u)
def Gr.refl:Gr H B H B:=⟨λ_ _ h=>h,λ_ h=>.inl h,λ_ _ _ h=>h,λ_ _ _ h=>h⟩
def Gr.trans(a:Gr H B H1 μ1)(b:Gr H1 μ1 H2 μ2):Gr H B H2 μ2:=by
 refine⟨λi x h=>b.pre i x (a.pre i x h),λx hx=>?_,λx o hx h=>?_,λx o u h=>b.fz x o u (a.fz x o u h)⟩
 . rcases b.new x hx with h|h
   . exact a.new x h
   . by_cases hm:x∈B
     . exact .inl hm
     . cases q:H x with
       |none=>exact .inr rfl
       |some o=>rw[a.keep x o hm q]at h;cases h
 . refine b.keep x o (λhm=>?_) (a.keep x o hx h);rcases a.new x hm with z|z
   . exact hx z
   . rw[h]at z;cases z
def Mu:Option HO->Prop
 |some (.lst _)|some (.dK _)|some (.ins _ _ _)|some (.frz _ (.dK _))=>True
 |_=>False
def RO.mut(h:RO Y H B a o):Mu (H a):=by
 cases o with
 |lst ds=>obtain⟨vs,e,_⟩:=h;rw[e];trivial
 |dic ds=>obtain⟨vs,e,_⟩:=h;rw[e];trivial
 |ins C ds=>obtain⟨_,_,_,e,_⟩:=h;rw[e];trivial
 |fdic ds=>obtain⟨_,_,e,_⟩:=h;rw[e];trivial
def RH.mem(r:RH Y H B h)(ha:a∈B):∃(i:Nat) (o:DO),B[i]? = Ws a/\h[i]? = Ws o/\RO Y H B a o:=by
 obtain⟨i,hi⟩:=List.mem_iff_getElem?.mp ha;have hl:i<h.length:=by rw[r.len];exact(Ob.mp hi).1
 exact⟨i,h[i],hi,Og hl,r.ob i _ a (Og hl) hi⟩
theorem RH.mut(r:RH Y H B h)(ha:a∈B):Mu (H a):=let ⟨_,_,_,_,q⟩:=r.mem ha;q.mut
def Gr.rdT(r:RH Y H B h)(g:Gr H B H' μ')(t:SqT Y.K H a xs):SqT Y.K H' a xs:=by
 rcases t with t|t
 . rcases t with t|⟨o,t⟩
   . exact .inl (.inl (g.keep a _ (λhm=>by have:=r.mut hm;rw[t]at this;exact this) t))
   . exact .inl (.inr ⟨o,g.fz a _ _ t⟩)
 . exact .inr t
def Gr.rdF(r:RH Y H B h)(g:Gr H B H' μ')(t:FzL Y.K H a xs):FzL Y.K H' a xs:=by
 rcases t with ⟨o,t⟩|t
 . exact .inl ⟨o,g.fz a _ _ t⟩
 . exact .inr t
section
variable {Y:Yx}{H H':Hp}{B μ':List Yi}{h:Hd}
structure Tr(Y:Yx)(H:Hp)(B:List Yi)(H':Hp)(μ':List Yi):Prop where
 t:∀{a xs},SqT Y.K H a xs->SqT Y.K H' a xs
 f:∀{a xs},FzL Y.K H a xs->FzL Y.K H' a xs
 m:∀{i:Nat}{a},B[i]? = Ws a->μ'[i]? = Ws a
mutual
theorem RD.tr(T:Tr Y H B H' μ'):∀{d:D}{v:V},RD Y H B d v->RD Y H' μ' d v
 |_,_,.non=>.non
 |_,_,.bl b=>.bl b
 |_,_,.int i=>.int i
 |_,_,.str x ok=>.str x ok
 |_,_,.tup t s=>.tup (T.t t) (RDs.tr T s)
 |_,_,.ref e=>.ref (T.m e)
 |_,_,.ty n=>.ty n
 |_,_,.ro t s=>.ro (T.f t) (RDs.tr T s)
 |_,_,.kd e=>.kd e
theorem RDs.tr(T:Tr Y H B H' μ'):∀{d:List D}{v:List V},RDs Y H B d v->RDs Y H' μ' d v
 |_,_,.nil=>.nil
 |_,_,.cons a s=>.cons (RD.tr T a) (RDs.tr T s)
end
theorem RKs.tr(T:Tr Y H B H' μ'):∀{d:List (κ×D)}{v:List (κ×V)},RKs Y H B d v->RKs Y H' μ' d v
 |_,_,.nil=>.nil
 |_,_,.cons a s=>.cons (a.tr T) (RKs.tr T s)
theorem RO.tr(T:Tr Y H B H' μ')(q:RO Y H B a o)(e:H' a=H a):RO Y H' μ' a o:=by
 cases o with
 |lst ds=>obtain⟨vs,z,s⟩:=q;exact⟨vs,e.trans z,s.tr T⟩
 |dic ds=>obtain⟨vs,z,s⟩:=q;exact⟨vs,e.trans z,s.tr T⟩
 |ins C ds=>obtain⟨a1,a2,a3,z,m,s⟩:=q;exact⟨a1,a2,a3,e.trans z,m,s.tr T⟩
 |fdic ds=>obtain⟨o,vs,z,s⟩:=q;exact⟨o,vs,e.trans z,s.tr T⟩
def Gr.tr(r:RH Y H B h)(g:Gr H B H' μ'):Tr Y H B H' μ':=⟨g.rdT r,g.rdF r,g.pre _ _⟩
def RD.mono(r:RH Y H B h)(g:Gr H B H' μ')(q:RD Y H B d v):RD Y H' μ' d v:=q.tr (g.tr r)
def RDs.mono(r:RH Y H B h)(g:Gr H B H' μ')(q:RDs Y H B d v):RDs Y H' μ' d v:=q.tr (g.tr r)
def RKs.mono{d:List (κ×D)}(r:RH Y H B h)(g:Gr H B H' μ')(q:RKs Y H B d v):RKs Y H' μ' d v:=q.tr (g.tr r)
theorem RDs.length:∀{d:List D}{v:List V},RDs Y H B d v->d.length=v.length
 |_,_,.nil=>rfl
 |_,_,.cons a s=>by rw[Os,Os,s.length]
theorem RKs.length:∀{d:List (κ×D)}{v:List (κ×V)},RKs Y H B d v->d.length=v.length
 |_,_,.nil=>rfl
 |_,_,.cons a s=>by rw[Os,Os,s.length]
theorem RDs.get:∀{ds:List D}{vs:List V},RDs Y H B ds vs->∀{i:Nat}{d:D},ds[i]? = Ws d->∃v,vs[i]? = Ws v/\RD Y H B d v
 |_,_,.nil,i,d,e=>by simp at e
 |_,_,.cons a s,0,d,e=>by cases e;exact⟨_,rfl,a⟩
 |_,_,.cons a s,i+1,d,e=>by obtain⟨v,h1,h2⟩:=RDs.get s (i:=i) (d:=d) (by simpa using e);exact⟨v,by simpa using h1,h2⟩
theorem RDs.append:∀{ds es:List D}{vs ws:List V},RDs Y H B ds vs->RDs Y H B es ws->RDs Y H B (ds++es) (vs++ws)
 |_,_,_,_,.nil,s=>s
 |_,_,_,_,.cons a r,s=>.cons a (r.append s)
theorem RDs.take:∀{ds:List D}{vs:List V} (n:Nat),RDs Y H B ds vs->RDs Y H B (ds.take n) (vs.take n)
 |_,_,0,_=>.nil
 |_,_,_+1,.nil=>.nil
 |_,_,n+1,.cons a s=>.cons a (s.take n)
theorem RDs.drop:∀{ds:List D}{vs:List V} (n:Nat),RDs Y H B ds vs->RDs Y H B (ds.drop n) (vs.drop n)
 |_,_,0,s=>s
 |_,_,_+1,.nil=>.nil
 |_,_,n+1,.cons a s=>s.drop n
theorem RDs.reverse(s:RDs Y H B ds vs):RDs Y H B ds.reverse vs.reverse:=by
 have gen:∀{ds es:List D}{vs ws:List V},RDs Y H B ds vs->RDs Y H B es ws->RDs Y H B (ds.reverseAux es) (vs.reverseAux ws):=by
  intro ds;induction ds with
  |nil=>intro es vs ws a b;cases a;exact b
  |cons d ds ih=>
   intro es vs ws a b;cases a with
   |cons a s=>have z:=ih s (RDs.cons a b);exact z
 exact gen s .nil
theorem RDs.dropLast(s:RDs Y H B ds vs):RDs Y H B ds.dropLast vs.dropLast:=by rw[List.dropLast_eq_take,List.dropLast_eq_take,s.length];exact s.take _
theorem RDs.set(r:RD Y H B d v):∀{ds:List D}{vs:List V} (i:Nat),RDs Y H B ds vs->RDs Y H B (ds.set i d) (vs.set i v)
 |_,_,_,.nil=>.nil
 |_,_,0,.cons _ s=>.cons r s
 |_,_,i+1,.cons a s=>.cons a (RDs.set r i s)
def RDs.cut(s:RDs Y H B ds vs)(lo hi:Option Int):RDs Y H B (cutD ds lo hi) (Zkk vs lo hi):=by unfold cutD Zkk;rw[s.length];exact(s.drop _).take _
theorem RDs.isEmpty(s:RDs Y H B ds vs):ds.isEmpty=vs.isEmpty:=by cases s<;>rfl
theorem RDs.atI(s:RDs Y H B ds vs)(e:L2.atI ds i=Ws d):∃v,L2.atI vs i=Ws v/\RD Y H B d v:=by
 unfold L2.atI at e ⊢;rw[s.length]at e;cases q:ixN vs.length i with
 |none=>rw[q]at e;cases e
 |some j=>rw[q]at e;exact s.get (i:=j) e
theorem RKs.val[DecidableEq κ]:∀{ds:List (κ×D)}{vs:List (κ×V)},RKs Y H B ds vs->∀(k:κ),((ds.find? λp=>Wx (p.1=k))=Wu/\(vs.find? λp=>Wx (p.1=k))=Wu)\/∃d v,(ds.find? λp=>Wx (p.1=k))=Ws (k,d)/\(vs.find? λp=>Wx (p.1=k))=Ws (k,v)/\RD Y H B d v
 |_,_,.nil,k=>.inl ⟨rfl,rfl⟩
 |_,_,.cons (k:=k') (d:=d) (v:=v) a s,k=>by
  by_cases e:k'=k
  . subst e;exact .inr ⟨d,v,by simp,by simp,a⟩
  . rcases s.val k with ⟨h1,h2⟩|⟨d,v,h1,h2,h3⟩
    . exact .inl ⟨by simp[e,h1],by simp[e,h2]⟩
    . exact .inr ⟨d,v,by simp[e,h1],by simp[e,h2],h3⟩
end
def Zub{α:Type}{l:List α}(hl:l.Nodup){i j:Nat}{x:α}(a:l[i]? = Ws x)(b:l[j]? = Ws x):i=j:=by obtain⟨h1,e1⟩:=Ob.mp a;obtain⟨h2,e2⟩:=Ob.mp b;exact(List.getElem_inj hl).mp (e1.trans e2.symm)
section
variable {Y:Yx}{H:Hp}{B:List Yi}{h:Hd}
def Gr.add(g:Gr H0 μ0 H B)(hp:H0 p=Wu):Gr H0 μ0 H (B++[p]):=⟨λi a e=>by have e:=g.pre i a e;rw[Oe (Ob.mp e).1];exact e,λa ha=>(OD.mp ha).elim (g.new a) λz=>by rw[Ox.mp z];exact .inr hp,g.keep,g.fz⟩
def Zn1{H0 H:Hp}(hp:H0 p=Wu)(e:H0 b=Ws u):upd H p o b=H b:=Zo λz=>by rw[z,hp]at e;cases e
def Gr.put(g:Gr H0 μ0 H B)(hp:H0 p=Wu):Gr H0 μ0 (upd H p o) B:=⟨g.pre,g.new,λb u hb e=>(Zn1 hp e).trans (g.keep b u hb e),λb u v e=>(Zn1 hp e).trans (g.fz b u v e)⟩
def Gr.lay0(hp:H p=Wu):Gr H B (upd H p o) B:=Gr.refl.put hp
def Gr.lay(hp:H p=Wu):Gr H B (upd H p o) (B++[p]):=(Gr.lay0 hp).add hp
def NF:Option HO->Prop
 |some (.frz _ _)=>False
 |_=>True
def Gr.write(hp:p∈B)(nf:NF (H p)):Gr H B (upd H p o) B:=⟨λ_ _ e=>e,λa ha=>.inl ha,λb u hb e=>by rw[Zo (show b≠p from λz=>hb (by rw[z];exact hp))];exact e,λb u v e=>by rw[Zo (λz=>by rw[z]at e;rw[e]at nf;exact nf)];exact e⟩
def RO.mono(r:RH Y H B h)(g:Gr H B H' μ')(q:RO Y H B a o)(e:H' a=H a):RO Y H' μ' a o:=q.tr (g.tr r) e
theorem RH.tr(r:RH Y H B h)(T:Tr Y H B H' B)(k:∀a∈B,H' a=H a):RH Y H' B h:=⟨r.len,r.nd,λi o a e1 e2=>(r.ob i o a e1 e2).tr T (k a (O1 e2)),r.ks⟩
def RH.keep(r:RH Y H B h)(g:Gr H B H' B)(k:∀a∈B,H' a=H a):RH Y H' B h:=r.tr (g.tr r) k
def Tr.more:Tr Y H B H (B++[p]):=⟨id,id,λe=>by rw[Oe (Ob.mp e).1];exact e⟩
def Zt5(k:∀(i:Nat) (o:DO),h[i]? = Ws o->DOk o)(dk:DOk o):∀(i:Nat) (o':DO),(h++[o])[i]? = Ws o'->DOk o':=by
 intro i o' e1;by_cases hi:i<h.length
 . rw[Oe hi]at e1;exact k i o' e1
 . have hi':i=h.length:=by
    have:=(Ob.mp e1).1;simp at this
    lia
   subst hi';rw[Om (Oq _)]at e1;simp at e1;subst e1;exact dk
def RH.add(r:RH Y H B h)(np:p ∉ B)(n:RO Y H (B++[p]) p o)(dk:DOk o:=by trivial):RH Y H (B++[p]) (h++[o]):=by
 refine⟨by simp[r.len],?_,λi o' a e1 e2=>?_,Zt5 r.ks dk⟩
 . rw[List.nodup_append];refine⟨r.nd,by simp,λa ha b hb=>?_⟩;rw[Ox.mp hb];intro z;exact np (z ▸ ha)
 . by_cases hi:i<h.length
   . rw[Oe hi]at e1;rw[Oe (by rw[<- r.len];exact hi)]at e2;exact(r.ob i o' a e1 e2).tr .more rfl
   . have hi':i=h.length:=by
      have:=(Ob.mp e1).1;simp at this
      lia
     subst hi';rw[Om (Oq _)]at e1;rw[Om (by rw[r.len];exact Oq _)]at e2;simp[r.len]at e1 e2;subst e1;subst e2;exact n
def RH.fr(r:RH Y H B h)(hp:H p=Wu):p ∉ B:=λz=>by have:=r.mut z;rw[hp]at this;exact this
theorem RH.lay0(r:RH Y H B h)(hp:H p=Wu):RH Y (upd H p u) B h:=r.keep (Gr.lay0 hp) λa ha=>Zo λz=>r.fr hp (z ▸ ha)
def RH.lay(r:RH Y H B h)(hp:H p=Wu)(n:RO Y (upd H p u) (B++[p]) p o)(dk:DOk o:=by trivial):RH Y (upd H p u) (B++[p]) (h++[o]):=(r.lay0 hp).add (r.fr hp) n dk
theorem RH.write{p:Yi}{i:Nat}{u:HO}{o:DO}(r:RH Y H B h)(hp:B[i]? = Ws p)(n:RO Y (upd H p u) B p o)(nf:NF (H p))(dk:DOk o:=by trivial):RH Y (upd H p u) B (h.set i o):=by
 have hm:p∈B:=O1 hp;refine⟨by simp[r.len],r.nd,λj o' a e1 e2=>?_,λj o' e1=>?_⟩
 rotate_right
 . by_cases hj:j=i
   . subst hj;have hl:j<h.length:=by rw[r.len];exact(Ob.mp hp).1
     rw[Ol hl]at e1;cases e1;exact dk
   . rw[Oc (YL hj)]at e1;exact r.ks j o' e1
 by_cases hj:j=i
 . subst hj;rw[hp]at e2;cases e2;have hl:j<h.length:=by rw[r.len];exact(Ob.mp hp).1
   rw[Ol hl]at e1;cases e1;exact n
 . rw[Oc (YL hj)]at e1;refine(r.ob j o' a e1 e2).mono r (Gr.write hm nf) (Zo λz=>hj ?_);subst z;exact Zub r.nd e2 hp
end
def Fin(Y:Yx)(rel:Hp->List Yi->α->β->Prop)(H:Hp)(B:List Yi)(r:R α)(Q:β->Hp->Prop)(E:XK):Prop:=match r with
 |.bad=>False
 |.ok a h'=>∀b H' μ',Gr H B H' μ'->RH Y H' μ' h'->rel H' μ' a b->Q b H'
 |.exc c h'=>∀H' μ' C,Gr H B H' μ'->RH Y H' μ' h'->Y.mg c=Ws (.ref C)->E (.ref C) Wu H'
section
variable {Y:Yx}{α β α' β':Type}{rel:Hp->List Yi->α->β->Prop}{rel':Hp->List Yi->α'->β'->Prop}{H H1:Hp}{B μ1:List Yi}{E:XK}
def Fin.mono(g:Gr H B H1 μ1)(f:Fin Y rel H B r Q E):Fin Y rel H1 μ1 r Q E:=by
 cases r with
 |bad=>exact f
 |ok a h=>exact λb H' μ' g'=>f b H' μ' (g.trans g')
 |exc c h=>exact λH' μ' C g'=>f H' μ' C (g.trans g')
theorem Fin.bind(f:Fin Y rel' H B (r.bind k) Q E)
 (hk:∀a h1 b H1 μ1,r=.ok a h1->Gr H B H1 μ1->RH Y H1 μ1 h1->rel H1 μ1 a b->Fin Y rel' H1 μ1 (k a h1) Q E->Q1 b H1):Fin Y rel H B r Q1 E:=by
 cases r with
 |bad=>exact f
 |ok a h=>exact λb H' μ' g' rh rl=>hk a h b H' μ' rfl g' rh rl (Fin.mono g' f)
 |exc c h=>exact f
theorem Fin.ok(f:Fin Y rel H B (.ok a h) Q E)(rh:RH Y H B h)(r:rel H B a b):Q b H:=f b H B Gr.refl rh r
def Fin.at(f:Fin Y rel H B (.ok a h) Q E)(g:Gr H B H1 μ1)(rh:RH Y H1 μ1 h)(r:rel H1 μ1 a b):Q b H1:=f b H1 μ1 g rh r
theorem Fin.ofO(f:Fin Y rel H B (R.ofO o h) Q E):∃a,o=Ws a/\Fin Y rel H B (.ok a h) Q E:=by
 cases o with
 |none=>exact f.elim
 |some a=>exact⟨a,rfl,f⟩
def Fin.iff[Decidable c](f:Fin Y rel H B (if c then r else .bad) Q E):c/\Fin Y rel H B r Q E:=by
 by_cases h:c
 . rw[if_pos h]at f;exact⟨h,f⟩
 . rw[if_neg h]at f;exact f.elim
def Fin.new(f:Fin Y (RD Y) H B (Zc7 o h) Q E)(rh:RH Y H B h)(hp:H p=Wu)(n:RO Y (upd H p u) (B++[p]) p o)(dk:DOk o:=by trivial):Q (.ref p) (upd H p u):=f.at (Gr.lay hp) (rh.lay hp n dk) (.ref (by rw[rh.len];simp))
theorem Fin.tup(f:Fin Y (RD Y) H B (.ok (.tup ds) h) Q E)(rh:RH Y H B h)(hp:H p=Wu)(r:RDs Y H B ds vs):Q (.ref p) (upd H p (.tup vs)):=f.at (Gr.lay0 hp) (rh.lay0 hp) (.tup (.inl (.inl Zq)) (r.mono rh (Gr.lay0 hp)))
def Fin.wrote(f:Fin Y rel H B (.ok a (h.set i o)) Q E)(rh:RH Y H B h)(hp:B[i]? = Ws p)(n:RO Y (upd H p u) B p o)(r:rel (upd H p u) B a b)(nf:NF (H p))(dk:DOk o:=by trivial):Q b (upd H p u):=f.at (Gr.write (O1 hp) nf) (rh.write hp n nf dk) r
end
section
variable {Y:Yx}{H:Hp}{B:List Yi}{h:Hd}
theorem RD.lst(rh:RH Y H B h)(r:RD Y H B (.ref i) v)(e:h[i]? = Ws (.lst xs)):∃a vs,v=.ref a/\B[i]? = Ws a/\H a=Ws (.lst vs)/\RDs Y H B xs vs:=by
 cases r with
 |ref q=>obtain⟨vs,h1,h2⟩:=rh.ob i _ _ e q;exact⟨_,vs,rfl,q,h1,h2⟩
theorem RD.dic(rh:RH Y H B h)(r:RD Y H B (.ref i) v)(e:h[i]? = Ws (.dic xs)):∃a vs,v=.ref a/\B[i]? = Ws a/\H a=Ws (.dK vs)/\RKs Y H B xs vs:=by
 cases r with
 |ref q=>obtain⟨vs,h1,h2⟩:=rh.ob i _ _ e q;exact⟨_,vs,rfl,q,h1,h2⟩
theorem RD.lstOf(rh:RH Y H B h)(r:RD Y H B d v)(e:lstOf d h=Ws xs):∃a vs,v=.ref a/\SqL Y.K H a vs/\RDs Y H B xs vs:=by
 cases d with
 |ref i=>
  unfold IV.lstOf at e;simp only at e;split at e
  . cases e;rename_i q;obtain⟨a,vs,h1,h2,h3,h4⟩:=r.lst rh q;exact⟨a,vs,h1,.of h3,h4⟩
  . cases e
 |ro ys=>
  cases e;cases r with
  |ro q s=>exact⟨_,_,rfl,q.sq,s⟩
 |_=>cases e
theorem RD.seqOf(rh:RH Y H B h)(r:RD Y H B d v)(e:seqOf d h=Ws xs):∃a vs,v=.ref a/\(SqL Y.K H a vs\/SqT Y.K H a vs)/\RDs Y H B xs vs:=by
 by_cases ht:∃ys,d=.tup ys
 . obtain⟨ys,rfl⟩:=ht;cases e;cases r with
   |tup q s=>exact⟨_,_,rfl,.inr q,s⟩
 . have e':IV.lstOf d h=Ws xs:=by
    cases d with
    |tup ys=>exact absurd ⟨ys,rfl⟩ ht
    |_=>exact e
   obtain⟨a,vs,h1,h2,h3⟩:=r.lstOf rh e';exact⟨a,vs,h1,.inl h2,h3⟩
def RD.int_inv(r:RD Y H B (.int i) v):v=.int i:=by cases r;rfl
def RD.str_inv(r:RD Y H B (.str i) v):v=.str i/\Yo i=Wv:=by cases r with|str x ok=>exact⟨rfl,ok⟩
def RD.tup_inv(r:RD Y H B (.tup ds) v):∃a vs,v=.ref a/\SqT Y.K H a vs/\RDs Y H B ds vs:=by cases r with|tup q s=>exact⟨_,_,rfl,q,s⟩
def Zib(hx:Yo x=Wv)(hy:Yo y=Wv):Yo (x++y)=Wv:=by show(x.cps++y.cps).all _=Wv;rw[Array.all_append];unfold Yo at hx hy;rw[hx,hy];rfl
def Zo5(hx:Yo x=Wv)(n:Nat):Yo (ZfO x n)=Wv:=by
 have gen:∀(n:Nat) (a:Array Nat),a.all (·<0x110000)=Wv->((YK n x.cps).foldl (·++·) a).all (·<0x110000)=Wv:=by
  intro n;induction n with
  |zero=>intro a h;exact h
  |succ n ih=>intro a h;rw[List.replicate_succ,Wp];refine ih _ ?_;rw[Array.all_append,h];exact hx
 exact gen n #[] (by simp)
def Zo6(hx:Yo x=Wv)(h:c∈x.cps.toList):Yo ⟨#[c]⟩=Wv:=by unfold Yo at hx ⊢;rw[Array.all_eq_true']at hx;have:=hx c (by simpa using h);simpa using this
def Zrj(h:atI xs i=Ws x):x∈xs:=by
 unfold atI at h;cases q:ixN xs.length i with
 |none=>rw[q]at h;cases h
 |some j=>rw[q]at h;exact O1 (i:=j) h
end
section
variable {X:Cx}{Y:Yx}{E:XK}
noncomputable def rB(Y:Yx)(E:XK)(f:D->D->Hd->R D):R2:=λx y H Q=>∃dx dy h B,RH Y H B h/\RD Y H B dx x/\RD Y H B dy y/\Fin Y (RD Y) H B (f dx dy h) Q E
theorem Fin.int2(f:Fin Y (RD Y) H B (int2 x y k) Q E):∃i j,x=.int i/\y=.int j/\Fin Y (RD Y) H B (k i j) Q E:=by
 cases x with
 |int i=>
  cases y with
  |int j=>exact⟨i,j,rfl,rfl,f⟩
  |_=>exact f.elim
 |_=>exact f.elim
def ZtM(hY:Y.K=X.K)(op:Operator):OpR X (binaryOp op) (rB Y E (opB op)):=by
 intro pins s Z H x y v u Q I rx ry hh;obtain⟨dx,dy,h,B,rh,r1,r2,f⟩:=hh;cases op with
 |Add=>
  have f:Fin Y (RD Y) H B (Zr4 dx dy h) Q E:=f;cases dx with
  |int i=>
   cases dy with
   |int j=>cases r1;cases r2;exact ZtK pins s Z H _ _ v u Q I rx ry ⟨_,_,rfl,rfl,f.ok rh (.int _)⟩
   |_=>exact f.elim
  |str i=>
   cases dy with
   |str j=>
    obtain⟨hz,f⟩:=Fin.iff f;cases r1 with|str _ o1=>
    cases r2 with|str _ o2=>
    exact Zk6 pins s Z H _ _ v u Q I rx ry ⟨_,_,rfl,rfl,hz,f.ok rh (.str _ (Zib o1 o2))⟩
   |_=>exact f.elim
  |tup xs=>
   cases dy with
   |tup ys=>
    obtain⟨hz,f⟩:=Fin.iff f;obtain⟨a,vs,rfl,t1,s1⟩:=r1.tup_inv;obtain⟨b,ws,rfl,t2,s2⟩:=r2.tup_inv;rw[s1.length,s2.length]at hz;by_cases h0:vs=[]
    . subst h0;cases s1;exact Zq4 pins s Z H _ _ v u Q I rx ry ⟨a,b,ws,rfl,rfl,hY ▸ t1,hY ▸ t2,f.ok rh (.tup t2 s2)⟩
    . refine Zq3 pins s Z H _ _ v u Q I rx ry ⟨a,b,vs,ws,rfl,rfl,hY ▸ t1,hY ▸ t2,h0,hz,λe=>?_,λe p hp=>f.tup rh hp (s1.append s2)⟩;subst e;cases s2;rw[Ys]at f;exact f.ok rh (.tup t1 s1)
   |_=>exact f.elim
  |ref i=>
   cases dy with
   |ref j=>
    unfold Zr4 at f;simp only at f;split at f
    . rename_i e1;split at f
      . rename_i e2;obtain⟨hz,f⟩:=f.iff;obtain⟨a,vs,rfl,_,h1,s1⟩:=r1.lst rh e1;obtain⟨b,ws,rfl,_,h2,s2⟩:=r2.lst rh e2;rw[s1.length,s2.length]at hz;exact ZtJ pins s Z H _ _ v u Q I rx ry ⟨a,b,vs,ws,rfl,rfl,h1,h2,hz,λp hp=>f.new rh hp ⟨_,Zq,(s1.append s2).mono rh (Gr.lay hp)⟩⟩
      . exact f.elim
    . exact f.elim
   |_=>exact f.elim
  |_=>exact f.elim
 |Sub=>obtain⟨i,j,rfl,rfl,f⟩:=Fin.int2 f;cases r1;cases r2;exact ZtE pins s Z H _ _ v u Q I rx ry ⟨_,_,rfl,rfl,f.ok rh (.int _)⟩
 |Mult=>
  have f:Fin Y (RD Y) H B (ZvT dx dy h) Q E:=f;cases dx with
  |str z=>
   cases dy with
   |int n=>
    obtain⟨hz,f⟩:=Fin.iff f;cases r1 with|str _ o1=>
    cases r2;exact Zq1 pins s Z H _ _ v u Q I rx ry ⟨_,_,rfl,rfl,hz.1,hz.2.1,hz.2.2,f.ok rh (.str _ (Zo5 o1 _))⟩
   |_=>exact f.elim
  |int i=>obtain⟨i,j,e1,rfl,f⟩:=Fin.int2 (show Fin Y (RD Y) H B (IV.int2 (.int i) dy λi j=>if i.natAbs<2 ^ 2000/\j.natAbs<2 ^ 2000 then .ok (.int (i * j)) h else .bad) Q E from f);cases e1;obtain⟨hz,f⟩:=f.iff;cases r1;cases r2;exact Znl pins s Z H _ _ v u Q I rx ry ⟨_,_,rfl,rfl,hz,f.ok rh (.int _)⟩
  |_=>exact f.elim
 |Mod=>obtain⟨i,j,rfl,rfl,f⟩:=Fin.int2 f;obtain⟨hz,f⟩:=f.iff;cases r1;cases r2;exact ZtG pins s Z H _ _ v u Q I rx ry ⟨_,_,rfl,rfl,hz,f.ok rh (.int _)⟩
 |FloorDiv=>obtain⟨i,j,rfl,rfl,f⟩:=Fin.int2 f;obtain⟨hz,f⟩:=f.iff;cases r1;cases r2;exact Zq2 pins s Z H _ _ v u Q I rx ry ⟨_,_,rfl,rfl,hz,f.ok rh (.int _)⟩
 |Pow=>obtain⟨i,j,rfl,rfl,f⟩:=Fin.int2 f;obtain⟨hz,f⟩:=f.iff;cases r1;cases r2;exact ZtF pins s Z H _ _ v u Q I rx ry ⟨_,_,rfl,rfl,hz,f.ok rh (.int _)⟩
 |_=>exact f.elim
end
set_option tactic.hygienic true
structure Gk(X:Cx)(Y:Yx)(T:Tb):Prop where
 K:Y.K=X.K
 mg:Y.mg=X.mg
 gd:∀x kvs,T.GD x=Ws kvs->∃a kvs',X.mg x=Ws (.ref a)/\DkK X.prog X.w X.K a kvs'/\∀H B,RKs Y H B kvs kvs'
 g:∀x d,T.G x=Ws d->∃v u,X.mg x=Ws u/\RelV v u/\∀H B,RD Y H B d v
 bare:ZcQ X.K=Wv
section
variable {X:Cx}{Y:Yx}{E:XK}{T:Tb}{H:Hp}{B:List Yi}{h:Hd}
theorem RD.dicOf(G:Gk X Y T)(rh:RH Y H B h)(r:RD Y H B d v)(e:dicOf T.GD d h=Ws kvs):∃a kvs',v=.ref a/\Dk X.prog X.w X.K H a kvs'/\RKs Y H B kvs kvs':=by
 cases d with
 |ref i=>
  unfold IV.dicOf at e;simp only at e;split at e
  . cases e;rename_i q;obtain⟨a,vs,h1,_,h3,h4⟩:=r.dic rh q;exact⟨a,vs,h1,.inl (.inl h3),h4⟩
  . cases e;rename_i q;cases r with
    |ref qm=>obtain⟨o,vs,h1,h2⟩:=rh.ob i _ _ q qm;exact⟨_,vs,rfl,.inl (.inr ⟨o,h1⟩),h2⟩
  . cases e
 |kd x=>
  obtain⟨a,kvs',h1,h2,h3⟩:=G.gd x kvs e;cases r with
  |kd q=>rw[G.mg,h1]at q;cases q;exact⟨a,kvs',rfl,.inr h2,h3 H B⟩
 |_=>cases e
def Zpq(r:RD Y H B d v)(e:keyOf d=Ws k):∀x,k=.inr x->Yo x=Wv:=by
 cases d with
 |int i=>cases e;intro x z;cases z
 |str i=>
  cases e;intro x z;cases z;cases r with
  |str _ ok=>exact ok
 |_=>cases e
def Zg9(h:Zdm kvs)(hk:∀x,k=.inr x->Yo x=Wv):Zdm (putD kvs k c):=by
 intro p hp x e;unfold putD at hp;split at hp
 . obtain⟨q,hq,rfl⟩:=List.mem_map.mp hp;refine h q hq x ?_;split at e<;>exact e
 . rcases OD.mp hp with hp|hp
   . exact h p hp x e
   . rw[Ox.mp hp]at e;exact hk x e
def Zem(r:RD Y H B d v)(e:keyOf d=Ws k):v=kV k:=by
 cases d with
 |int i=>cases e;cases r;rfl
 |str i=>cases e;cases r;rfl
 |_=>cases e
def RKs.valV_rel(s:RKs Y H B ds vs)(k:Key):(Zbh ds k=Wu/\Ze2 vs k=Wu)\/∃d v,Zbh ds k=Ws d/\Ze2 vs k=Ws v/\RD Y H B d v:=by
 unfold Zbh Ze2;rcases s.val k with ⟨h1,h2⟩|⟨d,v,h1,h2,h3⟩
 . exact .inl ⟨by rw[h1];rfl,by rw[h2];rfl⟩
 . exact .inr ⟨d,v,by rw[h1];rfl,by rw[h2];rfl,h3⟩
theorem RKs.any_rel(k:Key):∀{ds:List (Key×D)}{vs:List (Key×V)},RKs Y H B ds vs->(ds.any λkv=>Wx (kv.1=k))=(vs.any λkv=>Wx (kv.1=k))
 |_,_,.nil=>rfl
 |_,_,.cons a s=>by rw[Wc,Wc,s.any_rel k]
theorem RKs.map_rel(k:Key)(r:RD Y H B d v):∀{ds:List (Key×D)}{vs:List (Key×V)},RKs Y H B ds vs->RKs Y H B (ds.map λkv=>if kv.1=k then(kv.1,d)else kv) (vs.map λkv=>if kv.1=k then(kv.1,v)else kv)
 |_,_,.nil=>.nil
 |_,_,.cons (k:=k') a s=>by
  rw[Op,Op];by_cases e:k'=k
  . rw[if_pos e,if_pos e];exact .cons r (s.map_rel k r)
  . rw[if_neg e,if_neg e];exact .cons a (s.map_rel k r)
theorem RKs.append:∀{ds es:List (κ×D)}{vs ws:List (κ×V)},RKs Y H B ds vs->RKs Y H B es ws->RKs Y H B (ds++es) (vs++ws)
 |_,_,_,_,.nil,s=>s
 |_,_,_,_,.cons a r,s=>.cons a (r.append s)
def RKs.put(s:RKs Y H B ds vs)(k:Key)(r:RD Y H B d v):RKs Y H B (putD ds k d) (putK vs k v):=by
 unfold putD putK;rw[s.any_rel k];split
 . exact s.map_rel k r
 . exact s.append (.cons r .nil)
mutual
theorem RD.dp(rh:RH Y H B h)(rd:Nat->Option PyData)(hr:∀i p a,rd i=Ws p->B[i]? = Ws a->Dp Y.K H (.ref a) p):∀{d:D}{v:V}{p:PyData},RD Y H B d v->D.py rd d=Ws p->Dp Y.K H v p
 |_,_,_,.non,e=>by cases e;exact .non
 |_,_,_,.bl b,e=>by cases e;exact .bl b
 |_,_,_,.int i,e=>by cases e;exact .int i
 |_,_,_,.str x ok,e=>by cases e;exact .str x ok
 |_,_,_,.tup t s,e=>by rw[D.py]at e;obtain⟨ps,e1,rfl⟩:=Oo.mp e;exact .tup t (RDs.dps rh rd hr s e1)
 |_,_,_,.ref q,e=>hr _ _ _ e q
 |_,_,_,.ty n,e=>by cases e
 |_,_,_,.ro t s,e=>by rw[D.py]at e;obtain⟨ps,e1,rfl⟩:=Oo.mp e;exact .lst t.sq (RDs.dps rh rd hr s e1)
 |_,_,_,.kd q,e=>by cases e
theorem RDs.dps(rh:RH Y H B h)(rd:Nat->Option PyData)(hr:∀i p a,rd i=Ws p->B[i]? = Ws a->Dp Y.K H (.ref a) p):∀{d:List D}{v:List V}{p:List PyData},RDs Y H B d v->D.pys rd d=Ws p->Dps Y.K H v p
 |_,_,_,.nil,e=>by cases e;exact .nil
 |_,_,_,.cons a s,e=>by rw[D.pys]at e;obtain⟨q,e1,e2⟩:=Option.bind_eq_some_iff.mp e;obtain⟨qs,e3,rfl⟩:=Oo.mp e2;exact .cons (RD.dp rh rd hr a e1) (RDs.dps rh rd hr s e3)
end
theorem ZlV(rh:RH Y H B h):∀(n i:Nat) (p:PyData) (a:Yi),ZiH h n i=Ws p->B[i]? = Ws a->Dp Y.K H (.ref a) p
 |0,i,p,a,e,q=>by cases e
 |n+1,i,p,a,e,q=>by
  rw[ZiH]at e;split at e
  . rename_i xs he;obtain⟨ps,e1,rfl⟩:=Oo.mp e;obtain⟨vs,z,s⟩:=rh.ob i _ a he q;exact .lst (.of z) (RDs.dps rh _ (ZlV rh n) s e1)
  . cases e
def ZgL(rh:RH Y H B h)(r:RD Y H B d v)(e:ZjJ h d=Ws p):Dp Y.K H v p:=r.dp rh _ (ZlV rh 4) e
def Zhi(r:RD Y H B d v)(f:d.flat=Wv):ZeF v=Wv:=by cases r<;>first|rfl|cases f
theorem Zf1:∀{ds:List D}{vs:List V},RDs Y H B ds vs->ds.all D.flat=Wv->vs.all ZeF=Wv
 |_,_,.nil,_=>rfl
 |_,_,.cons a s,f=>by rw[List.all_cons,Oa]at f;rw[List.all_cons,Zhi a f.1,Zf1 s f.2];rfl
def Zus(r:RD Y H B d v)(q:RD Y H B e w)(f:d.flat=Wv)(g:e.flat=Wv):eqF d e=eqV v w:=by cases r<;>cases q<;>first|rfl|exact absurd f (by simp[D.flat])|exact absurd g (by simp[D.flat])
theorem any_rel(q:RD Y H B e w)(g:e.flat=Wv):∀{ds:List D}{vs:List V},RDs Y H B ds vs->ds.all D.flat=Wv->(ds.any λz=>eqF z e)=vs.any λy=>eqV y w
 |_,_,.nil,_=>rfl
 |_,_,.cons a s,f=>by rw[List.all_cons,Oa]at f;rw[Wc,Wc,Zus a q f.1 g,any_rel q g s f.2]
def Zrb(hr:Room k X.A)(h60:60<=k)(hY:Y.K=X.K):OpR X (YM .Eq) (rB Y E (ZcU Ww)):=by
 intro pins s Z H x y v u Q I rx ry hh;obtain⟨dx,dy,h,B,rh,r1,r2,f⟩:=hh;unfold ZcU at f;split at f
 . rename_i e1 e2;obtain⟨hz,f⟩:=f.iff;have d1:=ZgL rh r1 e1;have d2:=ZgL rh r2 e2;rw[hY]at d1 d2;obtain⟨as,q1⟩:=I.reads d1 rx;obtain⟨bs,q2⟩:=I.reads d2 ry;have:=hr.un;exact SeqAt.compareEq_reads q1 q2 d1.lay d2.lay (by lia) ⟨.bl _,H,I,rfl,f.ok rh (.bl _)⟩
 . exact f.elim
def Zq6(hr:Room k X.A)(h60:60<=k)(hY:Y.K=X.K):OpR X (YM .NotEq) (rB Y E (ZcU Wv)):=by
 intro pins s Z H x y v u Q I rx ry hh;obtain⟨dx,dy,h,B,rh,r1,r2,f⟩:=hh;unfold ZcU at f;split at f
 . rename_i e1 e2;obtain⟨hz,f⟩:=f.iff;have d1:=ZgL rh r1 e1;have d2:=ZgL rh r2 e2;rw[hY]at d1 d2;obtain⟨as,q1⟩:=I.reads d1 rx;obtain⟨bs,q2⟩:=I.reads d2 ry;have:=hr.un;exact SeqAt.compareNe_reads q1 q2 d1.lay d2.lay (by lia) ⟨.bl _,H,I,rfl,f.ok rh (.bl _)⟩
 . exact f.elim
def ZgM(ho:OpR X (YM op) (rI0 λi j=>.bl (g i j))):OpR X (YM op) (rB Y E (ZiO g)):=by
 intro pins s Z H x y v u Q I rx ry hh;obtain⟨dx,dy,h,B,rh,r1,r2,f⟩:=hh;unfold ZiO at f;split at f
 . cases r1;cases r2;exact ho pins s Z H _ _ v u Q I rx ry ⟨_,_,rfl,rfl,f.ok rh (.bl _)⟩
 . exact f.elim
def Zmb(r:RD Y H B d v):Wx (d=.non)=Wx (v=.non):=by cases r<;>simp
def Zq9:OpR X (YM .Is) (rB Y E (opN Ww)):=by
 intro pins s Z H x y v u Q I rx ry hh;obtain⟨dx,dy,h,B,rh,r1,r2,f⟩:=hh;unfold opN at f;split at f
 . cases r2;have z:=Zmb r1;simp only[OG,if_false,z]at f;exact ZtH pins s Z H _ _ v u Q I rx ry ⟨rfl,f.ok rh (.bl _)⟩
 . exact f.elim
def Znn:OpR X (YM .IsNot) (rB Y E (opN Wv)):=by
 intro pins s Z H x y v u Q I rx ry hh;obtain⟨dx,dy,h,B,rh,r1,r2,f⟩:=hh;unfold opN at f;split at f
 . cases r2;have z:=Zmb r1;simp only[if_true,z]at f;exact Zq0 pins s Z H _ _ v u Q I rx ry ⟨rfl,f.ok rh (.bl _)⟩
 . exact f.elim
def Zra(G:Gk X Y T):OpR X (YM .In) (rB Y E (Zcj T.GD Ww)):=by
 intro pins s Z H x y v u Q I rx ry hh;obtain⟨dx,dy,h,B,rh,r1,r2,f⟩:=hh;unfold Zcj at f;split at f
 . rename_i xs e1;obtain⟨hz,f⟩:=f.iff;rw[Oa]at hz;obtain⟨a,vs,rfl,hs,rs⟩:=r2.seqOf rh e1;have q:=f.ok rh (.bl _);simp only[OG,if_false,any_rel r1 hz.1 rs hz.2]at q;exact Znm pins s Z H _ _ v u Q I rx ry ⟨a,vs,rfl,G.K ▸ hs,Zhi r1 hz.1,Zf1 rs hz.2,q⟩
 . split at f
   . rename_i kvs k e1 e2;obtain⟨a,kvs',rfl,hd,rk⟩:=r2.dicOf G rh e1;have q:=f.ok rh (.bl _);have z:(Zbh kvs k).isSome=(Ze2 kvs' k).isSome:=by rcases rk.valV_rel k with ⟨h1,h2⟩|⟨d,v,h1,h2,_⟩<;>rw[h1,h2]<;>rfl
     rw[z]at q;exact ZtI pins s Z H _ _ v u Q I rx ry ⟨a,kvs',k,rfl,Zem r1 e2,hd,q⟩
   . exact f.elim
def Zk7(G:Gk X Y T):OpR X (YM .NotIn) (rB Y E (Zcj T.GD Wv)):=by
 intro pins s Z H x y v u Q I rx ry hh;obtain⟨dx,dy,h,B,rh,r1,r2,f⟩:=hh;unfold Zcj at f;split at f
 . rename_i xs e1;obtain⟨hz,f⟩:=f.iff;rw[Oa]at hz;obtain⟨a,vs,rfl,hs,rs⟩:=r2.seqOf rh e1;have q:=f.ok rh (.bl _);simp only[if_true,any_rel r1 hz.1 rs hz.2]at q;exact ZiN pins s Z H _ _ v u Q I rx ry ⟨a,vs,rfl,G.K ▸ hs,Zhi r1 hz.1,Zf1 rs hz.2,q⟩
 . split at f
   . rename_i kvs k e1 e2;obtain⟨a,kvs',rfl,hd,rk⟩:=r2.dicOf G rh e1;have q:=f.ok rh (.bl _);have z:(Zbh kvs k).isSome=(Ze2 kvs' k).isSome:=by rcases rk.valV_rel k with ⟨h1,h2⟩|⟨d,v,h1,h2,_⟩<;>rw[h1,h2]<;>rfl
     rw[z]at q;exact Znk pins s Z H _ _ v u Q I rx ry ⟨a,kvs',k,rfl,Zem r1 e2,hd,q⟩
   . exact f.elim
def ZfS(hr:Room k X.A)(h60:60<=k)(G:Gk X Y T)(op:CmpOp):OpR X (YM op) (rB Y E (opC T.GD op)):=by
 cases op with
 |Eq=>exact Zrb hr h60 G.K
 |NotEq=>exact Zq6 hr h60 G.K
 |Lt=>exact ZgM ZvG
 |LtE=>exact ZgM ZvH
 |Gt=>exact ZgM ZvI
 |GtE=>exact ZgM ZvJ
 |Is=>exact Zq9
 |IsNot=>exact Znn
 |In=>exact Zra G
 |NotIn=>exact Zk7 G
def Zq7(G:Gk X Y T):IxR X (rB Y E (ZbD T.GD)):=by
 intro value slice pins s Z H x y v u Q I rx ry hh hs;obtain⟨dx,dy,h,B,rh,r1,r2,f⟩:=hh;have dict:∀(kvs:List (Key×D)) (k:Key),dicOf T.GD dx h=Ws kvs->y=kV k->Fin Y (RD Y) H B (R.ofO (Zbh kvs k) h) Q E->YB (model X.prog X.w) X.A (subscriptTail value slice v u) (EP X pins Z Q) X.xe s:=by
  intro kvs k e1 ey f;obtain⟨d,e2,f⟩:=f.ofO;obtain⟨a,kvs',rfl,hd,rk⟩:=r1.dicOf G rh e1;rcases rk.valV_rel k with ⟨h1,h2⟩|⟨d',w,h1,h2,h3⟩
  . rw[h1]at e2;cases e2
  . rw[h1]at e2;cases e2;exact Zrs value slice pins s Z H _ _ v u Q I rx ry ⟨a,kvs',k,w,rfl,ey,hd,h2,f.ok rh h3⟩ hs
 unfold ZbD at f;split at f
 . rename_i i;cases r2;split at f
   . rename_i xs e1;obtain⟨d,e2,f⟩:=f.ofO;obtain⟨a,vs,rfl,hq,rs⟩:=r1.seqOf rh e1;obtain⟨w,e3,rw'⟩:=rs.atI e2;rcases hq with hq|hq
     . exact Zrr value slice pins s Z H _ _ v u Q I rx ry ⟨a,vs,i,w,rfl,rfl,G.K ▸ hq,e3,f.ok rh rw'⟩ hs
     . exact Zcx value slice pins s Z H _ _ v u Q I rx ry ⟨a,vs,i,w,rfl,rfl,G.K ▸ hq,e3,f.ok rh rw'⟩ hs
   . split at f
     . obtain⟨hz,f⟩:=f.iff;obtain⟨d,e2,f⟩:=f.ofO;obtain⟨c,e3,rfl⟩:=Oo.mp e2;obtain⟨rfl,ok⟩:=r1.str_inv;exact Zua value slice pins s Z H _ _ v u Q I rx ry ⟨_,i,c,rfl,rfl,hz,e3,f.ok rh (.str _ (Zo6 ok (Zrj e3)))⟩ hs
     . split at f
       . rename_i kvs e1;exact dict kvs (.inl i) e1 rfl f
       . exact f.elim
 . rename_i z;obtain⟨rfl,ok⟩:=r2.str_inv;split at f
   . rename_i kvs e1;exact dict kvs (.inr z) e1 rfl f
   . exact f.elim
 . exact f.elim
def Zo4(hx:Yo x=Wv)(h:∀c∈y.cps.toList,c∈x.cps.toList):Yo y=Wv:=by unfold Yo at hx ⊢;rw[Array.all_eq_true']at hx ⊢;intro c hc;exact hx c (by simpa using h c (by simpa using hc))
def Zqi(hY:Y.K=X.K)(rh:RH Y H B h)(r:RD Y H B d v)(e:ZfK T.GD d h=Ws b):ZuC X.K v H b:=by
 cases d with
 |non=>cases r;cases e;rfl
 |bl c=>cases r;cases e;rfl
 |int c=>cases r;cases e;rfl
 |str c=>
  cases r;unfold ZfK at e;simp only at e;split at e
  . rename_i hz;cases e;refine⟨hz,?_⟩;by_cases h0:c.length=0
    . simp[h0]
    . have h1:((c.length:Int) != 0)=Wv:=by
       simp
       lia
      rw[h1];simp[h0]
  . cases e
 |tup xs=>obtain⟨a,vs,rfl,t,s⟩:=r.tup_inv;cases e;exact .inr (.inl ⟨vs,hY ▸ t,by rw[s.isEmpty]⟩)
 |ref i=>
  unfold ZfK at e;simp only at e;split at e
  . rename_i q;cases e;obtain⟨a,vs,rfl,_,h3,s⟩:=r.lst rh q;exact .inl ⟨vs,.of h3,by rw[s.isEmpty]⟩
  . rename_i q;cases e;obtain⟨a,vs,rfl,_,h3,s⟩:=r.dic rh q;exact .inr (.inr ⟨vs,h3,by cases s<;>rfl⟩)
  . cases e
 |ro xs=>
  cases e;cases r with
  |ro q s=>exact .inl ⟨_,hY ▸ q.sq,by rw[s.isEmpty]⟩
 |ty n=>cases e
 |kd x=>cases e
end
section
variable {X:Cx}{Y:Yx}{E:XK}{T:Tb}{H:Hp}{B:List Yi}{h:Hd}
def rS(Y:Yx)(E:XK):V->Option Int->Option Int->Hp->VK->Prop:=λx l u H Q=>∃d h B,RH Y H B h/\RD Y H B d x/\Fin Y (RD Y) H B (Zgu d l u h) Q E
def ZgW(y:Str)(l u:Option Int):∀c∈(Yp y l u).cps.toList,c∈y.cps.toList:=by
 intro c hc;unfold Yp at hc;split at hc
 . exact hc
 . simp only[List.mem_filterMap]at hc;obtain⟨i,_,hi⟩:=hc;have:=Array.mem_of_getElem? hi;simpa using this
def ZnD{xs:List D}{lo hi:Option Int}(h:HT.sIx xs.length 0 lo=0/\HT.sIx xs.length xs.length hi=xs.length):cutD xs lo hi=xs:=by unfold cutD;rw[h.1,h.2];simp
def Zq5(hY:Y.K=X.K):SlR X (rS Y E):=by
 intro pins s Z H x v vl vu lo hi sl Q I rx hs pl pu hh;obtain⟨d,h,B,rh,r,f⟩:=hh;unfold Zgu at f;split at f
 . rename_i xs;obtain⟨a,vs,rfl,t,rs⟩:=r.tup_inv;by_cases hw:HT.sIx vs.length 0 lo=0/\HT.sIx vs.length vs.length hi=vs.length
   . rw[ZnD (by rw[rs.length];exact hw)]at f;exact Zok pins s Z H _ v vl vu lo hi sl Q I rx hs pl pu ⟨a,vs,rfl,hY ▸ t,hw,f.ok rh (.tup t rs)⟩
   . exact ZsY pins s Z H _ v vl vu lo hi sl Q I rx hs pl pu ⟨a,vs,rfl,hY ▸ t,hw,λp hp=>f.tup rh hp (rs.cut lo hi)⟩
 . obtain⟨hz,f⟩:=f.iff;obtain⟨rfl,ok⟩:=r.str_inv;exact ZsZ pins s Z H _ v vl vu lo hi sl Q I rx hs pl pu ⟨_,rfl,hz,f.ok rh (.str _ (Zo4 ok (ZgW _ _ _)))⟩
 . split at f
   . rename_i xs e1;obtain⟨a,vs,rfl,hl,rs⟩:=r.lstOf rh e1;exact Zqo pins s Z H _ v vl vu lo hi sl Q I rx hs pl pu ⟨a,vs,rfl,hY ▸ hl,λp hp=>f.new rh hp ⟨_,Zq,(rs.cut lo hi).mono rh (Gr.lay hp)⟩⟩
   . exact f.elim
def rF(Y:Yx)(E:XK)(f:List D->Hd->R D):List V->Hp->VK->Prop:=λxs H Q=>∃ds h B,RH Y H B h/\RDs Y H B ds xs/\Fin Y (RD Y) H B (f ds h) Q E
def RDs.one(r:RDs Y H B [d] xs):∃x,xs=[x]/\RD Y H B d x:=by
 cases r with
 |cons a s=>cases s;exact⟨_,rfl,a⟩
def RDs.two(r:RDs Y H B [d,e] xs):∃x y,xs=[x,y]/\RD Y H B d x/\RD Y H B e y:=by
 cases r with
 |cons a s=>obtain⟨y,rfl,b⟩:=s.one;exact⟨_,_,rfl,a,b⟩
def ZrY(hY:Y.K=X.K):Zc3 X (.builtin "len") (rF Y E ZlB):=by
 intro pins s Z H xs us Q I r hh;obtain⟨ds,h,B,rh,rs,f⟩:=hh;unfold ZlB at f;split at f
 . obtain⟨hz,f⟩:=f.iff;obtain⟨x,rfl,rd⟩:=rs.one;obtain⟨rfl,ok⟩:=rd.str_inv;exact Zja pins s Z H _ us Q I r ⟨_,rfl,hz,f.ok rh (.int _)⟩
 . obtain⟨e,e1,f⟩:=f.ofO;obtain⟨zs,e2,rfl⟩:=Oo.mp e1;obtain⟨x,rfl,rd⟩:=rs.one;obtain⟨a,vs,rfl,hq,rv⟩:=rd.seqOf rh e2;refine Zjb pins s Z H _ us Q I r ⟨a,vs,rfl,hY ▸ hq,?_⟩;rw[<- rv.length];exact f.ok rh (.int _)
 . exact f.elim
def Zrq{K:Yk}{t T:String}{b:Bool}(e:Zlk t T=Ws b):PySem.W.kitOne K (.type t) (.type T)=Ws b:=by
 have all:(["int", "str", "bool", "tuple", "list"].all λT=>["int", "str", "bool", "tuple", "list", "NoneType"].all λt=>Wx (PySem.W.kitOne [] (.type t) (.type T)=Ws (t==T || (t == "bool" && T == "int"))))=Wv:=by decide +kernel
 unfold Zlk at e;split at e
 . rename_i hm;cases e;rw[OC]at all;have h1:=all T hm.1;rw[OC]at h1;exact Znx (of_decide_eq_true (h1 t hm.2))
 . cases e
def ZuU(hY:Y.K=X.K)(rh:RH Y H B h)(r:RD Y H B d v)(e:ZuV d h=Ws t):TyN X.K v H t:=by
 have lst:(IV.lstOf d h).map (λ_ => "list")=Ws t->TyN X.K v H t:=λe=>by obtain⟨xs,e1,rfl⟩:=Oo.mp e;obtain⟨a,vs,rfl,hl,rs⟩:=r.lstOf rh e1;exact .inl ⟨rfl,vs,hY ▸ hl⟩
 cases d with
 |int i=>cases e;cases r;rfl
 |str i=>cases e;cases r;rfl
 |bl i=>cases e;cases r;rfl
 |non=>cases e;cases r;rfl
 |tup xs=>cases e;obtain⟨a,vs,rfl,t,rs⟩:=r.tup_inv;exact .inr ⟨rfl,vs,hY ▸ t⟩
 |ref i=>exact lst e
 |ro xs=>exact lst e
 |ty n=>exact lst e
 |kd x=>exact lst e
def ZrZ(hY:Y.K=X.K):Zc3 X (.builtin "isinstance") (rF Y E Zuz):=by
 intro pins s Z H xs us Q I r hh;obtain⟨ds,h,B,rh,rs,f⟩:=hh;unfold Zuz at f;split at f
 . obtain⟨e,e1,f⟩:=f.ofO;obtain⟨t,e2,e3⟩:=Option.bind_eq_some_iff.mp e1;obtain⟨b,e4,rfl⟩:=Oo.mp e3;obtain⟨x,y,rfl,r1,r2⟩:=rs.two;cases r2;exact ZpX pins s Z H _ us Q I r ⟨x,t,_,b,rfl,ZuU hY rh r1 e2,Zrq e4,f.ok rh (.bl _)⟩
 . exact f.elim
def ZrV(hY:Y.K=X.K):Zc3 X (.type "tuple") (rF Y E Zr2):=by
 intro pins s Z H xs us Q I r hh;obtain⟨ds,h,B,rh,rs,f⟩:=hh;unfold Zr2 at f;split at f
 . obtain⟨x,rfl,r1⟩:=rs.one;obtain⟨a,vs,rfl,t,rv⟩:=r1.tup_inv;exact ZeM pins s Z H _ us Q I r ⟨a,vs,rfl,.inr ⟨hY ▸ t,f.ok rh (.tup t rv)⟩⟩
 . obtain⟨e,e1,f⟩:=f.ofO;obtain⟨zs,e2,rfl⟩:=Oo.mp e1;obtain⟨x,rfl,r1⟩:=rs.one;obtain⟨a,vs,rfl,hl,rv⟩:=r1.lstOf rh e2;exact ZeM pins s Z H _ us Q I r ⟨a,vs,rfl,.inl ⟨hY ▸ hl,λp hp=>f.tup rh hp rv⟩⟩
 . exact f.elim
theorem Zhb:∀{ds:List D}{vs:List V}{ns:List Int},RDs Y H B ds vs->intsOf ds=Ws ns->vs=ns.map V.int
 |_,_,_,.nil,e=>by cases e;rfl
 |_,_,_,.cons (d:=d) a s,e=>by
  cases d with
  |int i=>rw[intsOf]at e;obtain⟨z,e1,rfl⟩:=Oo.mp e;cases a;rw[Zhb s e1];rfl
  |_=>cases e
def ZrW(hc:X.A.handled=Wu)(hY:Y.K=X.K):Zc3 X (.builtin "sum") (rF Y E Zp4):=by
 intro pins s Z H xs us Q I r hh;obtain⟨ds,h,B,rh,rs,f⟩:=hh;unfold Zp4 at f;split at f
 . obtain⟨e,e1,f⟩:=f.ofO;obtain⟨ns,e2,rfl⟩:=Oo.mp e1;obtain⟨zs,e3,e4⟩:=Option.bind_eq_some_iff.mp e2;obtain⟨x,rfl,r1⟩:=rs.one;obtain⟨a,vs,rfl,hl,rv⟩:=r1.lstOf rh e3;rw[Zhb rv e4]at hl;exact ZnF hc pins s Z H _ us Q I r ⟨a,ns,rfl,hY ▸ hl,f.ok rh (.int _)⟩
 . exact f.elim
def rM(Y:Yx)(E:XK)(m:Mf):V->List V->Hp->VK->Prop:=λx xs H Q=>∃d ds h B,RH Y H B h/\RD Y H B d x/\RDs Y H B ds xs/\Fin Y (RD Y) H B (Zck m d ds h) Q E
noncomputable def mid:Mf->String
 |.app => "list.append"
 |.ext => "list.extend"
 |.pop => "list.pop"
 |.rev => "list.reverse"
 |.clr => "list.clear"
def Zme(hY:Y.K=X.K)(m:Mf):MtM X (mid m) (rM Y E m):=by
 intro pins s Z H x xs v us Q I rx rs hh;obtain⟨d,ds,h,B,rh,r1,r2,f⟩:=hh;unfold Zck at f;split at f
 . split at f
   . rename_i i ys e;obtain⟨a,vs,rfl,hi,hl,rv⟩:=r1.lst rh e;cases m with
     |app=>
      unfold ZhO ZtU at f;simp only at f;split at f
      . obtain⟨hz,f⟩:=f.iff;obtain⟨y,rfl,ry⟩:=r2.one;have g:Gr H B (upd H a (.lst (vs++[y]))) B:=Gr.write (O1 hi) (by rw[hl];trivial);exact Zic pins s Z H _ _ v us Q I rx rs ⟨a,vs,y,rfl,rfl,hl,by rw[<- rv.length];exact hz,f.wrote rh hi ⟨_,Zq,(rv.append (.cons ry .nil)).mono rh g⟩ .non (by rw[hl];trivial)⟩
      . exact f.elim
     |ext=>
      unfold ZhO Zrl at f;simp only at f;split at f
      . split at f
        . rename_i zs e2;obtain⟨hz,f⟩:=f.iff;obtain⟨y,rfl,ry⟩:=r2.one;obtain⟨b,ws,rfl,hj,hl2,rw'⟩:=ry.lst rh e2;have g:Gr H B (upd H a (.lst (vs++ws))) B:=Gr.write (O1 hi) (by rw[hl];trivial);exact Znr pins s Z H _ _ v us Q I rx rs ⟨a,b,vs,ws,rfl,rfl,hl,hl2,by rw[<- rv.length,<- rw'.length];exact hz,f.wrote rh hi ⟨_,Zq,(rv.append rw').mono rh g⟩ .non (by rw[hl];trivial)⟩
        . exact f.elim
      . obtain⟨hz,f⟩:=f.iff;obtain⟨y,rfl,ry⟩:=r2.one;obtain⟨b,ws,rfl,t,rw'⟩:=ry.tup_inv;have g:Gr H B (upd H a (.lst (vs++ws))) B:=Gr.write (O1 hi) (by rw[hl];trivial);exact Zlc pins s Z H _ _ v us Q I rx rs ⟨a,b,vs,ws,rfl,rfl,hl,hY ▸ t,by rw[<- rv.length,<- rw'.length];exact hz,f.wrote rh hi ⟨_,Zq,(rv.append rw').mono rh g⟩ .non (by rw[hl];trivial)⟩
      . exact f.elim
     |pop=>
      unfold ZhO ZtT at f;simp only at f;split at f
      . split at f
        . rename_i y e2;cases r2;rw[rv.length]at e2;obtain⟨w,e3,rw'⟩:=rv.get e2;have g:Gr H B (upd H a (.lst vs.dropLast)) B:=Gr.write (O1 hi) (by rw[hl];trivial);exact ZtQ pins s Z H _ _ v us Q I rx rs ⟨a,vs,w,rfl,rfl,hl,e3,f.wrote rh hi ⟨_,Zq,rv.dropLast.mono rh g⟩ (rw'.mono rh g) (by rw[hl];trivial)⟩
        . exact f.elim
      . exact f.elim
     |rev=>
      unfold ZhO ZvW at f;simp only at f;split at f
      . cases r2;have g:Gr H B (upd H a (.lst vs.reverse)) B:=Gr.write (O1 hi) (by rw[hl];trivial);exact Zlb pins s Z H _ _ v us Q I rx rs ⟨a,vs,rfl,rfl,hl,f.wrote rh hi ⟨_,Zq,rv.reverse.mono rh g⟩ .non (by rw[hl];trivial)⟩
      . exact f.elim
     |clr=>
      unfold ZhO ZvX at f;simp only at f;split at f
      . cases r2;exact Zpb pins s Z H _ _ v us Q I rx rs ⟨a,vs,rfl,rfl,hl,f.wrote rh hi ⟨_,Zq,.nil⟩ .non (by rw[hl];trivial)⟩
      . exact f.elim
   . exact f.elim
 . exact f.elim
noncomputable def rP(Y:Yx)(E:XK):Zr6:=λo i v H Q=>∃a b c h B,RH Y H B h/\RD Y H B a o/\RD Y H B b i/\RD Y H B c v/\Fin Y (λ_ _ (_:Unit) (_:Unit)=>True) H B (ZbQ a b c h) (λ_ H'=>Q H') E
def Ztj:Zr7 X (rP Y E):=by
 intro pins s Z H o i v ov iv u Q I ro ri rv hh;obtain⟨a,b,c,h,B,rh,ra,rb,rc,f⟩:=hh;unfold ZbQ at f;split at f
 . split at f
   . rename_i j xs e;split at f
     . split at f
       . rename_i j' e2;obtain⟨p,vs,rfl,hi,hl,rs⟩:=ra.lst rh e;have hb:=rb.int_inv;subst hb;rw[rs.length]at e2;have g:Gr H B (upd H p (.lst (vs.set j' v))) B:=Gr.write (O1 hi) (by rw[hl];trivial);exact set_list pins s Z H _ _ v ov iv u Q I ro ri rv ⟨p,vs,_,j',rfl,rfl,hl,e2,f.wrote (b:=()) rh hi ⟨_,Zq,(RDs.set rc j' rs).mono rh g⟩ trivial (by rw[hl];trivial)⟩
       . exact f.elim
     . exact f.elim
   . rename_i j kvs e;split at f
     . rename_i k e2;obtain⟨hz,f⟩:=f.iff;obtain⟨p,vs,rfl,hi,hl,rs⟩:=ra.dic rh e;have g:Gr H B (upd H p (.dK (putK vs k v))) B:=Gr.write (O1 hi) (by rw[hl];trivial);exact set_dict pins s Z H _ _ v ov iv u Q I ro ri rv ⟨p,vs,k,rfl,Zem rb e2,hl,by rw[<- rs.length];exact hz,f.wrote (b:=()) rh hi ⟨_,Zq,(rs.put k rc).mono rh g⟩ trivial (by rw[hl];trivial) (Zg9 (rh.ks _ _ e) (Zpq rb e2))⟩
     . exact f.elim
   . exact f.elim
 . exact f.elim
end
def rW(K:Yk)(x:V)(H1:Hp)(R:It->Hp->Prop):Prop:=(∃a,x=.ref a/\(∃xs,SqL K H1 a xs)/\R (Itl K a) H1)\/(∃a,x=.ref a/\(∃xs,SqT K H1 a xs)/\R (Itt K a) H1)
def Ztr(hl:PE X l tl):PI X tg l (λZ H R=>tl Z H λx H1=>rW X.K x H1 R):=by
 intro pins s Z H R I h;refine thn (hl pins s Z H _ I h) λv s1 ⟨x,H1,I1,r1,q1⟩=>?_;have fp1:∀b∈[s1.heap.objs.size],Zb5 X pins H1 b:=λb hb=>by
  have e:b=s1.heap.objs.size:=by simpa using hb
  subst e;exact I1.fpOk (Oq _) (I1.hok.fresh (Oq _))
 rcases q1 with ⟨a,rfl,⟨xs,hq⟩,q⟩|⟨a,rfl,⟨xs,hq⟩,q⟩
 . cases r1;obtain⟨its,rv,p,hz⟩:=I1.list hq;exact wpAny_pyIter_list p.isList ⟨s1.heap.objs.size,[s1.heap.objs.size],_,_,H1,rfl,I1.kept (t':=s1.toks) λb o e=>Od _ e,ZmP a _,⟨_,Oj _ rfl,rfl,rfl⟩,fp1,q⟩
 . cases r1;obtain⟨its,rv,p,hz⟩:=I1.tuple hq;exact wpAny_pyIter_tuple (show s1.heap.IsTuple a its.toArray from p) ⟨s1.heap.objs.size,[s1.heap.objs.size],_,_,H1,rfl,I1.kept (t':=s1.toks) λb o e=>Od _ e,ZkJ a _,⟨_,Oj _ rfl,rfl,rfl⟩,fp1,q⟩
def WJ(Y:Yx)(H0:Hp)(μ0:List Yi)(w:Wk)(J:It):Prop:=∀H B h,Gr H0 μ0 H B->RH Y H B h->Wk.stays w.src h=Wv ->
 (∀i d,w.xs[i]? = Ws d->J.go i H/\∀x H',J.yld i H x H'->Gr H B H' B/\RH Y H' B h/\RD Y H' B d x)/\J.stop w.xs.length H
section
variable {X:Cx}{Y:Yx}{E:XK}{T:Tb}{H:Hp}{B:List Yi}{h:Hd}
def ZsG(hY:Y.K=X.K)(rh:RH Y H B h)(t:SqT Y.K H a vs)(s:RDs Y H B xs vs):WJ Y H B ⟨Wu,xs⟩ (Itt X.K a):=by intro H1 μ1 h1 g rh1 st;have t1:=g.rdT rh t;have s1:=s.mono rh g;rw[hY]at t1;refine⟨λi d e=>?_,⟨vs,t1,by rw[s.length];exact Oq _⟩⟩;obtain⟨v,e1,r1⟩:=s1.get e;refine⟨⟨vs,v,t1,e1⟩,λx H' ⟨eH,q⟩=>?_⟩;subst eH;have:=q vs t1;rw[e1]at this;cases this;exact⟨Gr.refl,rh1,r1⟩
def Zr9(hY:Y.K=X.K)(rh:RH Y H B h)(t:FzL Y.K H a vs)(s:RDs Y H B xs vs):WJ Y H B ⟨Wu,xs⟩ (Itl X.K a):=by intro H1 μ1 h1 g rh1 st;have t1:=(g.rdF rh t).sq;have s1:=s.mono rh g;rw[hY]at t1;refine⟨λi d e=>?_,⟨vs,t1,by rw[s.length];exact Oq _⟩⟩;obtain⟨v,e1,r1⟩:=s1.get e;refine⟨⟨vs,v,t1,e1⟩,λx H' ⟨eH,q⟩=>?_⟩;subst eH;have:=q vs t1;rw[e1]at this;cases this;exact⟨Gr.refl,rh1,r1⟩
def ZgU(st:Wk.stays (Ws (i,xs)) h=Wv):h[i]? = Ws (.lst xs):=of_decide_eq_true st
def ZnV(hi:B[i]? = Ws a):WJ Y H B ⟨Ws (i,xs),xs⟩ (Itl X.K a):=by intro H1 μ1 h1 g rh1 st;obtain⟨vs,hl,s1⟩:=rh1.ob i _ a (ZgU st) (g.pre i a hi);have t1:SqL X.K H1 a vs:=.of hl;refine⟨λi d e=>?_,⟨vs,t1,by rw[s1.length];exact Oq _⟩⟩;obtain⟨v,e1,r1⟩:=s1.get e;refine⟨⟨vs,v,t1,e1⟩,λx H' ⟨eH,q⟩=>?_⟩;subst eH;have:=q vs t1;rw[e1]at this;cases this;exact⟨Gr.refl,rh1,r1⟩
def ZsH{lo:Int}:WJ Y H B ⟨Wu,ZaE lo n⟩ (Itr lo n):=by
 intro H1 μ1 h1 g rh1 st;have hl:(ZaE lo n).length=n:=by simp[ZaE]
 refine⟨λi d e=>?_,by show n<=(ZaE lo n).length;rw[hl];exact Oq _⟩;have hi:i<n:=by have:=(Ob.mp e).1;rw[hl]at this;exact this
 refine⟨hi,λx H' ⟨eH,q⟩=>?_⟩;subst eH q;have:d=.int (lo+i):=by unfold ZaE at e;rw[O2,List.getElem?_range hi]at e;exact(YF e).symm
 subst this;exact⟨Gr.refl,rh1,.int _⟩
def ZpJ{xs:List D}{i:Nat}{d:D}(e:(Zdq xs)[i]? = Ws d):∃x,xs[i]? = Ws x/\d=.tup [.int i,x]:=by unfold Zdq at e;rw[List.getElem?_mapIdx]at e;obtain⟨x,e1,e2⟩:=Oo.mp e;exact⟨x,e1,e2.symm⟩
def ZlH{a:Yi}{src:Option (Nat×List D)}{xs:List D}(hw:WJ Y H B ⟨src,xs⟩ (Itl X.K a))(sq:∀H1 μ1 h1,Gr H B H1 μ1->RH Y H1 μ1 h1->Wk.stays src h1=Wv->∃vs,SqL X.K H1 a vs/\RDs Y H1 μ1 xs vs):WJ Y H B ⟨src,Zdq xs⟩ (Ite X.K a):=by
 intro H1 μ1 h1 g rh1 st;obtain⟨vs,t1,s1⟩:=sq H1 μ1 h1 g rh1 st;have hl:(Zdq xs).length=xs.length:=by simp[Zdq]
 refine⟨λi d e=>?_,⟨vs,t1,by rw[hl,s1.length]⟩⟩;obtain⟨x0,e0,rfl⟩:=ZpJ e;obtain⟨v,e1,r1⟩:=s1.get e0;refine⟨⟨vs,v,t1,e1⟩,λx H' ⟨p,ex,hp,y,q,eH⟩=>?_⟩;subst ex eH;have:=q vs t1;rw[e1]at this;cases this;exact⟨Gr.lay0 hp,rh1.lay0 hp,.tup (.inl (.inl Zq)) (.cons (.int _) (.cons (r1.mono rh1 (Gr.lay0 hp)) .nil))⟩
def ZsI(hY:Y.K=X.K)(rh:RH Y H B h)(t:SqT Y.K H a vs)(s:RDs Y H B xs vs):WJ Y H B ⟨Wu,xs.reverse⟩ (Itv X.K a vs.length):=by intro H1 μ1 h1 g rh1 st;have t1:=g.rdT rh t;have s1:=(s.mono rh g).reverse;rw[hY]at t1;refine⟨λi d e=>?_,⟨vs,t1,rfl,by simp[s.length]⟩⟩;obtain⟨v,e1,r1⟩:=s1.get e;refine⟨⟨vs,v,t1,rfl,e1⟩,λx H' ⟨eH,q⟩=>?_⟩;subst eH;have:=q vs t1;rw[e1]at this;cases this;exact⟨Gr.refl,rh1,r1⟩
def Zqa(hi:B[i]? = Ws a):WJ Y H B ⟨Ws (i,xs),xs.reverse⟩ (ZuD X.K a xs.length):=by intro H1 μ1 h1 g rh1 st;obtain⟨vs,hl,s0⟩:=rh1.ob i _ a (ZgU st) (g.pre i a hi);have t1:SqL X.K H1 a vs:=.of hl;have s1:=s0.reverse;refine⟨λi d e=>?_,⟨vs,t1,s0.length.symm,by simp⟩⟩;obtain⟨v,e1,r1⟩:=s1.get e;refine⟨⟨vs,v,t1,s0.length.symm,e1⟩,λx H' ⟨eH,q⟩=>?_⟩;subst eH;have:=q vs t1;rw[e1]at this;cases this;exact⟨Gr.refl,rh1,r1⟩
def Zqc{d:D}{R:It->Hp->Prop}(hY:Y.K=X.K)(rh:RH Y H B h)(r:RD Y H B d x)(e:Zbg d h=Ws w)(q:∀J,WJ Y H B w J->R J H):rW X.K x H R:=by
 cases d with
 |tup xs=>cases e;obtain⟨a,vs,rfl,t,s⟩:=r.tup_inv;exact .inr ⟨a,rfl,⟨vs,hY ▸ t⟩,q _ (ZsG hY rh t s)⟩
 |ro xs=>
  cases e;cases r with
  |ro t s=>exact .inl ⟨_,rfl,⟨_,hY ▸ t.sq⟩,q _ (Zr9 hY rh t s)⟩
 |ref i=>
  unfold Zbg at e;simp only at e;split at e
  . rename_i xs he;cases e;obtain⟨a,vs,rfl,hi,hl,s⟩:=r.lst rh he;exact .inl ⟨a,rfl,⟨vs,.of hl⟩,q _ (ZnV hi)⟩
  . cases e
 |_=>cases e
end
structure Kl where
 cs:List Str
 ats:List Str
 ms:List (Str×Str)
 is:List Str
 xs:List Str:=[]
structure Gm where
 N:List Str
 sc:Scope
 fs:List Str
 top:Bool
 kl:Kl
noncomputable def glb(Γ:Gm)(x:Str):Bool:=Wx (Γ.sc.names.lookup x=Ws .globalImplicit)&&!(x==("__debug__" : Str))
noncomputable def Zqe(sc:Scope)(x:Str):Bool:=Wx (sc.names.lookup x=Ws .local) || Wx (sc.names.lookup x=Ws .cell) || Wx (sc.names.lookup x=Ws .free)
noncomputable def ZmI:Bf->Str
 |.len => "len" |.isi => "isinstance" |.int => "int" |.tup => "tuple" |.lst => "list" |.sum => "sum" |.all => "all" |.srt => "sorted" |.mx => "max"
noncomputable def bok:Bf->Bool
 |.mx=>Ww
 |.lst=>Ww
 |.int=>Ww
 |.all=>Ww
 |_=>Wv
noncomputable def Zpc:Mf->Str
 |.app => "append" |.ext => "extend" |.pop => "pop" |.rev => "reverse" |.clr => "clear"
noncomputable def ZlL:List String:=["int", "str", "bool", "tuple", "list"]
structure Pt where
 a:Expr:=default
 b:Expr:=default
 c:Expr:=default
 xs:List Expr:=[]
 s:Str:=⟨#[]⟩
 op:Operator:=.Add
 cs:List CmpOp:=[]
 u:UnaryOp:=.Not
 bo:BoolOp:=.And
 p:Pos:=default
 kw:List Keyword:=[]
 l:Option Expr:=Wu
 h:Option Expr:=Wu
 st:Option Expr:=Wu
 ks:List (Option Expr):=[]
 gs:List Comprehension:=[]
 sc:Scope:=default
 k:Nat:=0
 v:Const:=.none
noncomputable def tgE:Expr->Nat
 |.Starred _ _=>0|.BoolOp _ _ _=>1|.UnaryOp _ _ _=>2|.IfExp _ _ _ _=>3|.Compare _ _ _ _=>4|.Slice _ _ _ _=>5|.Name _ _=>6|.BinOp _ _ _ _=>7|.Tuple _ _ _=>8|.List _ _=>9
 |.Subscript _ _ _=>10|.Call _ _ _ _=>11|.Attribute _ _ _=>12|.ListComp _ _ _ _=>13|.Dict _ _ _=>14|.Constant _ _ _=>15|.NamedExpr _ _ _=>17|.Set _ _ _=>18|.SetComp _ _ _ _=>19|.DictComp _ _ _ _ _=>19|_=>16
noncomputable def prt(e:Expr):Pt:=match e with
 |.BoolOp o xs p=>{bo:=o,xs:=xs,p:=p}
 |.UnaryOp o x p=>{a:=x,u:=o,p:=p}
 |.IfExp t x y p=>{a:=t,b:=x,c:=y,p:=p}
 |.Compare l os rs p=>{a:=l,cs:=os,xs:=rs,p:=p}
 |.Slice l u s p=>{l:=l,h:=u,st:=s,p:=p}
 |.Name x p=>{s:=x,p:=p}
 |.BinOp l o r p=>{a:=l,b:=r,op:=o,p:=p}
 |.Tuple xs k p=>{xs:=xs,k:=k,p:=p}
 |.List xs p=>{xs:=xs,p:=p}
 |.Subscript x y p=>{a:=x,b:=y,p:=p}
 |.Call f xs kw p=>{a:=f,xs:=xs,kw:=kw,p:=p}
 |.Attribute x n p=>{a:=x,s:=n,p:=p}
 |.ListComp x gs sc p=>{a:=x,gs:=gs,p:=p,sc:=sc}
 |.Dict ks vs p=>{ks:=ks,xs:=vs,p:=p}
 |.Constant c k p=>{v:=c,k:=k,p:=p}
 |_=>{a:=e}
noncomputable def mkE(n:Nat)(p:Pt):Expr:=match n with
 |1=>.BoolOp p.bo p.xs p.p|2=>.UnaryOp p.u p.a p.p|3=>.IfExp p.a p.b p.c p.p|4=>.Compare p.a p.cs p.xs p.p|5=>.Slice p.l p.h p.st p.p|6=>.Name p.s p.p|7=>.BinOp p.a p.op p.b p.p
 |8=>.Tuple p.xs p.k p.p|9=>.List p.xs p.p|10=>.Subscript p.a p.b p.p|11=>.Call p.a p.xs p.kw p.p|12=>.Attribute p.a p.s p.p
 |13=>.ListComp p.a p.gs p.sc p.p|14=>.Dict p.ks p.xs p.p|15=>.Constant p.v p.k p.p|_=>p.a
def rb(e:Expr):mkE (tgE e) (prt e)=e:=by cases e<;>rfl
def bL{a b:Bool}(h:(a&&b)=Wv):a=Wv:=by cases a with|true=>rfl|false=>cases h
def bR{a b:Bool}(h:(a&&b)=Wv):b=Wv:=by cases a with|true=>exact h|false=>cases h
def bO{a b:Bool}{P:Prop}(h:(a || b)=Wv)(l:a=Wv->P)(r:b=Wv->P):P:=by cases a with|true=>exact l rfl|false=>exact r h
def ff{P:Prop}(h:Ww=Wv):P:=by cases h
def dS{α:Type}{P:α->Prop}{a b:α}[Decidable (a=b)](h:Wx (a=b)=Wv)(k:P b):P a:=of_decide_eq_true h ▸ k
noncomputable def an(n:Nat)(e:Expr)(f:Pt->Bool):Bool:=Wx (tgE e=n)&&f (prt e)
section
variable {P:Expr->Prop}{e:Expr}
def Zba(h:an n e f=Wv)(k:∀p,f p=Wv->P (mkE n p)):P e:=rb e ▸ dS (P:=λm=>P (mkE m (prt e))) (bL h) (k _ (bR h))
noncomputable def l1{α:Type}(xs:List α)(f:α->Bool):Bool:=match xs with
 |[y]=>f y
 |_=>Ww
@[elab_as_elim] theorem ZbE{α:Type}{P:List α->Prop}{xs:List α}{f:α->Bool}(h:l1 xs f=Wv)(k:∀y,f y=Wv->P [y]):P xs:=by
 cases xs with
 |nil=>cases h
 |cons y r=>
  cases r with
  |nil=>exact k y h
  |cons _ _=>cases h
noncomputable def l2{α:Type}(xs:List α)(f:α->α->Bool):Bool:=match xs with
 |[x,y]=>f x y
 |_=>Ww
@[elab_as_elim] theorem Zsr{α:Type}{P:List α->Prop}{xs:List α}{f:α->α->Bool}(h:l2 xs f=Wv)(k:∀x y,f x y=Wv->P [x,y]):P xs:=by
 cases xs with
 |nil=>cases h
 |cons x r=>
  cases r with
  |nil=>cases h
  |cons y r=>
   cases r with
   |nil=>exact k x y h
   |cons _ _=>cases h
noncomputable def l0{α:Type}(xs:List α)(b:Bool):Bool:=xs.isEmpty&&b
def Zif{α:Type}{P:List α->Prop}{xs:List α}(h:l0 xs b=Wv)(k:b=Wv->P []):P xs:=by
 cases xs with
 |nil=>exact k h
 |cons _ _=>cases h
@[irreducible] def aN(e:Expr)(f:Str->Bool):Bool:=an 6 e λp=>f p.s
@[elab_as_elim] theorem ZvS(h:aN e f=Wv)(k:∀x q,f x=Wv->P (.Name x q)):P e:=by unfold aN at h;exact Zba h λ_ h=>k _ _ h
@[irreducible] def aX(x:Str)(e:Expr)(b:Bool):Bool:=an 6 e λp=>Wx (p.s=x)&&b
@[elab_as_elim] theorem ZnR(h:aX x e b=Wv)(k:∀q,b=Wv->P (.Name x q)):P e:=by unfold aX at h;exact Zba h λp h=>dS (P:=λs=>P (.Name s p.p)) (bL h) (k _ (bR h))
@[irreducible] def aB2(o:Operator)(e:Expr)(f:Expr->Expr->Bool):Bool:=an 7 e λp=>Wx (p.op=o)&&f p.a p.b
@[elab_as_elim] theorem ZwA(h:aB2 o e f=Wv)(k:∀l r q,f l r=Wv->P (.BinOp l o r q)):P e:=by unfold aB2 at h;exact Zba h λp h=>dS (P:=λs=>P (.BinOp p.a s p.b p.p)) (bL h) (k _ _ _ (bR h))
@[irreducible] def aC1(o:CmpOp)(e:Expr)(f:Expr->Expr->Bool):Bool:=an 4 e λp=>Wx (p.cs=[o])&&l1 p.xs λr=>f p.a r
@[elab_as_elim] theorem ZsB(h:aC1 o e f=Wv)(k:∀l r q,f l r=Wv->P (.Compare l [o] [r] q)):P e:=by unfold aC1 at h;exact Zba h λp h=>dS (P:=λs=>P (.Compare p.a s p.xs p.p)) (bL h) (ZbE (P:=λs=>P (.Compare p.a [o] s p.p)) (bR h) λ_ h=>k _ _ _ h)
@[irreducible] def aC2(o o':CmpOp)(e:Expr)(f:Expr->Expr->Expr->Bool):Bool:=an 4 e λp=>Wx (p.cs=[o,o'])&&l2 p.xs λm r=>f p.a m r
@[elab_as_elim] theorem ZsA(h:aC2 o o' e f=Wv)(k:∀l m r q,f l m r=Wv->P (.Compare l [o,o'] [m,r] q)):P e:=by unfold aC2 at h;exact Zba h λp h=>dS (P:=λs=>P (.Compare p.a s p.xs p.p)) (bL h) (Zsr (P:=λs=>P (.Compare p.a [o,o'] s p.p)) (bR h) λ_ _ h=>k _ _ _ _ h)
@[irreducible] def aU(u:UnaryOp)(e:Expr)(f:Expr->Bool):Bool:=an 2 e λp=>Wx (p.u=u)&&f p.a
@[elab_as_elim] theorem ZsL(h:aU u e f=Wv)(k:∀x q,f x=Wv->P (.UnaryOp u x q)):P e:=by unfold aU at h;exact Zba h λp h=>dS (P:=λs=>P (.UnaryOp s p.a p.p)) (bL h) (k _ _ (bR h))
@[irreducible] def aO(o:BoolOp)(e:Expr)(f:List Expr->Bool):Bool:=an 1 e λp=>Wx (p.bo=o)&&f p.xs
@[elab_as_elim] theorem Zrf(h:aO o e f=Wv)(k:∀xs q,f xs=Wv->P (.BoolOp o xs q)):P e:=by unfold aO at h;exact Zba h λp h=>dS (P:=λs=>P (.BoolOp s p.xs p.p)) (bL h) (k _ _ (bR h))
@[irreducible] def aI(e:Expr)(f:Expr->Expr->Expr->Bool):Bool:=an 3 e λp=>f p.a p.b p.c
@[elab_as_elim] theorem Zxt(h:aI e f=Wv)(k:∀t x y q,f t x y=Wv->P (.IfExp t x y q)):P e:=by unfold aI at h;exact Zba h λ_ h=>k _ _ _ _ h
@[irreducible] def aT(e:Expr)(f:List Expr->Bool):Bool:=an 8 e λp=>f p.xs
@[elab_as_elim] theorem Zjw(h:aT e f=Wv)(k:∀xs j q,f xs=Wv->P (.Tuple xs j q)):P e:=by unfold aT at h;exact Zba h λ_ h=>k _ _ _ h
@[irreducible] def aLs(e:Expr)(f:List Expr->Bool):Bool:=an 9 e λp=>f p.xs
@[elab_as_elim] theorem ZvZ(h:aLs e f=Wv)(k:∀xs q,f xs=Wv->P (.List xs q)):P e:=by unfold aLs at h;exact Zba h λ_ h=>k _ _ h
@[irreducible] def aS(e:Expr)(f:Expr->Expr->Bool):Bool:=an 10 e λp=>f p.a p.b
@[elab_as_elim] theorem Zs1(h:aS e f=Wv)(k:∀x y q,f x y=Wv->P (.Subscript x y q)):P e:=by unfold aS at h;exact Zba h λ_ h=>k _ _ _ h
@[irreducible] def aSl(e:Expr)(f:Expr->Option Expr->Option Expr->Bool):Bool:=aS e λx y=>an 5 y λp=>p.st.isNone&&f x p.l p.h
@[elab_as_elim] theorem Zve(h:aSl e f=Wv)(k:∀x l u q r,f x l u=Wv->P (.Subscript x (.Slice l u Wu q) r)):P e:=by
 unfold aSl at h;exact Zs1 h λx _ r h=>Zba (P:=λy=>P (.Subscript x y r)) h λp h=>by show P (.Subscript x (.Slice p.l p.h p.st p.p) r);rw[Option.isNone_iff_eq_none.mp (bL h)];exact k _ _ _ _ _ (bR h)
@[irreducible] def aCN(n:Str)(e:Expr)(f:List Expr->Bool):Bool:=an 11 e λp=>aX n p.a (l0 p.kw (f p.xs))
@[elab_as_elim] theorem ZeK(h:aCN n e f=Wv)(k:∀p ys q,f ys=Wv->P (.Call (.Name n p) ys [] q)):P e:=by unfold aCN at h;exact Zba h λp h=>ZnR (P:=λa=>P (.Call a p.xs p.kw p.p)) h λq h=>Zif (P:=λw=>P (.Call (.Name n q) p.xs w p.p)) h λh=>k _ _ _ h
@[irreducible] def aCk(n w:Str)(e:Expr)(f:List Expr->Expr->Bool):Bool:=an 11 e λp=>aX n p.a (l1 p.kw λy=>match y with|⟨a,z,_⟩=>Wx (a=Ws w)&&f p.xs z)
@[elab_as_elim] theorem Zwr(h:aCk n w e f=Wv)(k:∀p ys z r q,f ys z=Wv->P (.Call (.Name n p) ys [⟨Ws w,z,r⟩] q)):P e:=by
 unfold aCk at h;exact Zba h λp h=>ZnR (P:=λa=>P (.Call a p.xs p.kw p.p)) h λq h=>ZbE (P:=λw=>P (.Call (.Name n q) p.xs w p.p)) h λy h=>match y,h with
  |⟨_,z,r⟩,h=>dS (P:=λs=>P (.Call (.Name n q) p.xs [⟨s,z,r⟩] p.p)) (bL h) (k _ _ _ _ _ (bR h))
@[irreducible] def aA(n:Str)(e:Expr)(f:Expr->Pos->Bool):Bool:=an 12 e λp=>Wx (p.s=n)&&f p.a p.p
@[elab_as_elim] theorem Zr5(h:aA n e f=Wv)(k:∀x q,f x q=Wv->P (.Attribute x n q)):P e:=by unfold aA at h;exact Zba h λp h=>dS (P:=λs=>P (.Attribute p.a s p.p)) (bL h) (k _ _ (bR h))
@[irreducible] def aCA(n:Str)(e:Expr)(f:Expr->Pos->List Expr->Pos->Bool):Bool:=an 11 e λp=>aA n p.a λx ap=>l0 p.kw (f x ap p.xs p.p)
@[elab_as_elim] theorem ZpY(h:aCA n e f=Wv)(k:∀x ap ys cp,f x ap ys cp=Wv->P (.Call (.Attribute x n ap) ys [] cp)):P e:=by unfold aCA at h;exact Zba h λp h=>Zr5 (P:=λa=>P (.Call a p.xs p.kw p.p)) h λx q h=>Zif (P:=λw=>P (.Call (.Attribute x n q) p.xs w p.p)) h λh=>k _ _ _ _ h
@[irreducible] def aLC(e:Expr)(f:Expr->Expr->Expr->List Expr->Scope->Bool):Bool:=an 13 e λp=>l1 p.gs λg=>match g with|⟨t,i,c,n⟩=>Wx (n=0)&&f p.a t i c p.sc
@[elab_as_elim] theorem Zsp(h:aLC e f=Wv)(k:∀x t i c sc q,f x t i c sc=Wv->P (.ListComp x [⟨t,i,c,0⟩] sc q)):P e:=by
 unfold aLC at h;exact Zba h λp h=>ZbE (P:=λg=>P (.ListComp p.a g p.sc p.p)) h λg h=>match g,h with
  |⟨t,i,c,_⟩,h=>dS (P:=λs=>P (.ListComp p.a [⟨t,i,c,s⟩] p.sc p.p)) (bL h) (k _ _ _ _ _ _ (bR h))
@[irreducible] def aD(e:Expr)(f:List (Option Expr)->List Expr->Bool):Bool:=an 14 e λp=>f p.ks p.xs
@[elab_as_elim] theorem ZxB(h:aD e f=Wv)(k:∀ks vs q,f ks vs=Wv->P (.Dict ks vs q)):P e:=by unfold aD at h;exact Zba h λ_ h=>k _ _ _ h
@[irreducible] def aK(e:Expr)(f:Const->Bool):Bool:=an 15 e λp=>f p.v
@[elab_as_elim] theorem Zv5(h:aK e f=Wv)(k:∀c j q,f c=Wv->P (.Constant c j q)):P e:=by unfold aK at h;exact Zba h λ_ h=>k _ _ _ h
end
noncomputable def ZxE:D->Const->Bool
 |.int i,.int j=>Wx (i=j)
 |.str x,.str y=>Wx (x=y)&&Yo y
 |.bl b,.bool c=>Wx (b=c)
 |.non,.none=>Wv
 |_,_=>Ww
noncomputable def Zwu(Γ:Gm)(d:D)(e:Expr):Bool:=(aK e λc=>ZxE d c) || match d with
 |.ty n=>aX (Str.ofString n) e (Wx (n∈ZlL)&&glb Γ (Str.ofString n))
 |_=>Ww
noncomputable def ZpT(NC N:List Str)(js:List (Option Nat))(sc scope:Scope):Bool:=
 Wx (scope.kind=.function)&&Wx (sc.kind=.function)&&(scope.names.all λy=>Wx (y.2≠.cell))&&(scope.names.all λy=>!Wx (y.2=.local) || Wx (scope.names.lookup y.1=Ws .local)) &&
  (scope.names.all λy=>!Wx (y.2=.free) || Wx (sc.names.lookup y.1=Ws .cell))&&decide NC.Nodup&&Wx (js.length=NC.length) &&
  ((NC.zip js).all λp=>p.2.all λj=>Wx (N[j]? = Ws p.1)&&Wx (scope.names.lookup p.1=Ws .free))
def Zkl(h:ZpT NC N js sc scope=Wv):CompSc NC N js sc scope:=by
 unfold ZpT at h;rw[Oa,Oa,Oa,Oa,Oa,Oa,Oa]at h;obtain⟨⟨⟨⟨⟨⟨⟨a,b⟩,c⟩,d⟩,e⟩,f⟩,g⟩,i⟩:=h;rw[OC]at c d e;refine⟨of_decide_eq_true a,of_decide_eq_true b,λy hy=>of_decide_eq_true (c y hy),λy hy e1=>?_,λy hy e1=>?_,of_decide_eq_true f,of_decide_eq_true g,i⟩
 . have:=d y hy;rw[decide_eq_true e1]at this;simpa using this
 . have:=e y hy;rw[decide_eq_true e1]at this;simpa using this
noncomputable def Zla(N:List Str)(own:Str->Bool)(i:Nat)(e:Expr):Bool:=aN e λx=>Wx (N[i]? = Ws x)&&own x
noncomputable def ZmE(N:List Str)(own:Str->Bool):List Nat->List Expr->Bool
 |[],es=>es.isEmpty
 |i::is,es=>match es with
  |e::es=>Zla N own i e&&ZmE N own is es
  |[]=>Ww
noncomputable def ZmG(N:List Str)(own:Str->Bool)(i j:Nat)(e:Expr):Bool:=aT e λes=>l2 es λa b=>Zla N own i a&&Zla N own j b
noncomputable def ZmF(N:List Str)(own:Str->Bool)(is:List Nat)(e:Expr):Bool:=aT e λes=>ZmE N own is es
noncomputable def ZrR(N:List Str)(own:Str->Bool)(g:Tg)(e:Expr):Bool:=match g with
 |.nm i=>Zla N own i e
 |.two i j=>ZmG N own i j e
 |.many is=>ZmF N own is e
@[elab_as_elim] theorem ZbX{P:Expr->Prop}(h:Zla N own i e=Wv)(k:∀x p,N[i]? = Ws x->own x=Wv->P (.Name x p)):P e:=ZvS h λ_ _ h=>k _ _ (of_decide_eq_true (bL h)) (bR h)
noncomputable def isTup(e:Expr):Bool:=Wx (tgE e=8)
@[elab_as_elim] theorem Zss{P:Expr->Prop}(h:isTup e=Wv)(k:∀xs j q,P (.Tuple xs j q)):P e:=Zjw (P:=P) (f:=λ_=>Wv) (by unfold aT an;rw[show Wx (tgE e=8)=Wv from h];rfl) λ_ _ _ _=>k _ _ _
noncomputable def tgk:Tg->Nat
 |.nm i=>i+1
 |.two i j=>max i j+1
 |.many is=>is.foldr max 0+1
noncomputable def ZvF(sc:Scope)(x:Str):Bool:=Wx (sc.names.lookup x=Ws .local)
noncomputable def ownD(sc:Scope)(x:Str):Bool:=Wx (sc.names.lookup x=Ws .local) || Wx (sc.names.lookup x=Ws .cell)
noncomputable def Zcv(e:Expr):Bool:=Wx (tgE e≠18)
noncomputable def Zg5(e:Expr):Bool:=Wx (tgE e≠5)
noncomputable def ZbW(e:Expr):Bool:=Wx (tgE e≠0)
noncomputable def Zb7(e:Expr):Bool:=!(Wx (tgE e=11)&&(prt e).xs.isEmpty)
noncomputable def Zk4(e:Expr):Bool:=Wx (6<=tgE e)&&Wx (tgE e<=16)
mutual
noncomputable def chk(Γ:Gm):Ex->Expr->Bool
 |.var i,e=>aN e λx=>Wx (Γ.N[i]? = Ws x)&&(Zqe Γ.sc x&&(!(x==("__debug__" : Str))&&!(x==("__classdict__" : Str))))
 |.cst d,e=>Zwu Γ d e
 |.glo x,e=>aX x e (glb Γ x)
 |.bin op a b,e=>aB2 op e λl r=>chk Γ a l&&chk Γ b r
 |.cmp op a b,e=>aC1 op e λl r=>chk Γ a l&&(chk Γ b r&&Zcv r)
 |.cmp2 o1 o2 a b c,e=>aC2 o1 o2 e λl m r=>chk Γ a l&&(chk Γ b m&&(chk Γ c r&&Zcv r))
 |.neg a,e=>aU .USub e λx=>chk Γ a x
 |.nt a,e=>aU .Not e λx=>chk Γ a x
 |.ands es,e=>aO .And e λxs=>chks Γ es xs
 |.ors es,e=>aO .Or e λxs=>chks Γ es xs
 |.ite c a b,e=>aI e λt x y=>chkt Γ c t&&(chk Γ a x&&chk Γ b y)
 |.tupl es,e=>aT e λxs=>chks Γ es xs
 |.lstl es,e=>aLs e λxs=>chks Γ es xs
 |.ix a i,e=>aS e λx y=>chk Γ a x&&(chk Γ i y&&Zg5 y)
 |.sl a lo hi,e=>aSl e λx l u=>chk Γ a x&&(chko Γ lo l&&chko Γ hi u)
 |.blt f es,e=>aCN (ZmI f) e λys=>(bok f&&glb Γ (ZmI f))&&(chks Γ es ys&&!ys.isEmpty)
 |.call f es,e=>aCN f e λys=>Wx (f∈Γ.fs)&&(glb Γ f&&(chks Γ es ys&&!ys.isEmpty))
 |.meth m o es,e=>aCA (Zpc m) e λx ap ys cp=>chk Γ o x&&(Zb7 x&&(chks Γ es ys&&(Wx (ys.length<29)&&(ap.endLine==cp.line))))
 |.trev e,x=>aCN "tuple" x λys=>l1 ys λz=>aCN "reversed" z λys=>l1 ys λy=>glb Γ "tuple" && (glb Γ "reversed" && (chk Γ e y&&ZbW y))
 |.lrv _,_=>Ww
 |.tix o e,x=>aCA "index" x λx ap ys cp=>l1 ys λy=>chk Γ o x&&(Zb7 x&&(chk Γ e y&&(ZbW y&&(ap.endLine==cp.line))))
 |.lix _ _,_=>Ww
 |.lin _ _,_=>Ww
 |.comp NC js it g c e,x=>aLC x λelt tg iter ifs scope=>Γ.top&&(ZpT NC Γ.N js Γ.sc scope&&(chki Γ it tg iter&&(Zcv iter&&(ZrR NC (ZvF scope) g tg&&(((List.range (tgk g)).all λj=>Wx (js[j]? = Ws Wu)) &&
  (chkf ⟨NC,scope,Γ.fs,Ww,Γ.kl⟩ c ifs&&chk ⟨NC,scope,Γ.fs,Ww,Γ.kl⟩ e elt))))))
 |.sorts _,_=>Ww
 |.maxd a d,e=>aCk "max" "default" e λys z=>l1 ys λy=>glb Γ "max" && (chk Γ a y&&(ZbW y&&chk Γ d z))
 |.dictl ps,e=>aD e λkeys values=>Wx (keys.length<=15)&&chkp Γ ps keys values
 |.att Cs o f,e=>aA f e λx _=>chk Γ o x&&(Zb7 x&&((Cs.all λC=>Wx (C∈Γ.kl.cs))&&Wx (f∈Γ.kl.ats)))
 |.mk C es,e=>aCN C e λys=>Wx (C∈Γ.kl.is)&&(glb Γ C&&chks Γ es ys)
 |.mcl C m o es,e=>aCA m e λx ap ys cp=>chk Γ o x&&(Zb7 x&&(chks Γ es ys&&(Wx ((C,m)∈Γ.kl.ms)&&(Wx (ys.length<29)&&(ap.endLine==cp.line)))))
 |.any,_=>Wv
noncomputable def chks(Γ:Gm):Exs->List Expr->Bool
 |.nil,es=>es.isEmpty
 |.cons e r,es=>match es with
  |x::xs=>chk Γ e x&&(ZbW x&&chks Γ r xs)
  |[]=>Ww
noncomputable def chkp(Γ:Gm):Exs->List (Option Expr)->List Expr->Bool
 |.nil,ks,vs=>ks.isEmpty&&vs.isEmpty
 |.cons k r,ks,vs=>match r with
  |.cons v r'=>match ks,vs with
   |some kx::ks,vx::vs=>chk Γ k kx&&(chk Γ v vx&&chkp Γ r' ks vs)
   |_,_=>Ww
  |.nil=>Ww
noncomputable def chko(Γ:Gm):Option Ex->Option Expr->Bool
 |none,x=>x.isNone
 |some a,x=>match x with
  |some x=>chk Γ a x
  |none=>Ww
noncomputable def chkf(Γ:Gm):Option Tx->List Expr->Bool
 |none,x=>x.isEmpty
 |some a,x=>l1 x λx=>chkt Γ a x
noncomputable def ZxC(Γ:Gm):Ex->Expr->Bool
 |.cmp op a b,e=>aC1 op e λl r=>chk Γ a l&&(chk Γ b r&&Zcv r)
 |.cmp2 o1 o2 a b c,e=>aC2 o1 o2 e λl m r=>chk Γ a l&&(chk Γ b m&&(chk Γ c r&&Zcv r))
 |_,_=>Ww
noncomputable def chkt(Γ:Gm):Tx->Expr->Bool
 |.ex e,x=>(Zk4 x&&chk Γ e x) || ZxC Γ e x
 |.ands ts,x=>aO .And x λxs=>chkts Γ ts xs
 |.ors ts,x=>aO .Or x λxs=>chkts Γ ts xs
 |.nt t,x=>aU .Not x λy=>chkt Γ t y
noncomputable def chkts(Γ:Gm):Txs->List Expr->Bool
 |.one t,xs=>l1 xs λx=>chkt Γ t x
 |.cons t ts,xs=>match xs with
  |x::r=>chkt Γ t x&&(!r.isEmpty&&chkts Γ ts r)
  |_=>Ww
noncomputable def chki(Γ:Gm):Ix->Expr->Expr->Bool
 |.pl e,_,x=>chk Γ e x
 |.rng e,_,x=>aCN "range" x λys=>l1 ys λy=>glb Γ "range" && (chk Γ e y&&ZbW y)
 |.rng2 _ _,_,_=>Ww
 |.enu e,tg,x=>aCN "enumerate" x λys=>l1 ys λy=>glb Γ "enumerate" && (chk Γ e y&&(ZbW y&&isTup tg))
 |.rev e,_,x=>aCN "reversed" x λys=>l1 ys λy=>glb Γ "reversed" && (chk Γ e y&&ZbW y)
 |.en1 _,_,_=>Ww
 |.en0 _,_,_=>Ww
 |.dk _,_,_=>Ww
end
def leS(a b:Str):Prop:=¬ b.cps.toList<a.cps.toList
def Zie(h:leS a b)(q:leS b c):leS a c:=by unfold leS at *;rw[List.not_lt]at *;exact List.le_trans h q
def Zpi(h:leS a b)(q:leS b a):a=b:=by unfold leS at *;rw[List.not_lt]at *;have e:=List.le_antisymm h q;obtain⟨⟨a⟩⟩:=a;obtain⟨⟨b⟩⟩:=b;simp at e;subst e;rfl
def Zjy:∀{ss:List Str},sortedS ss=Wv->ss.Pairwise leS:=by
 have gen:∀(r:List Str) (p:Str),risingS p r=Wv->(∀x∈r,leS p x)/\r.Pairwise leS:=by
  intro r;induction r with
  |nil=>intro p _;exact⟨by simp,.nil⟩
  |cons x r ih=>
   intro p h;rw[risingS,Oa]at h;obtain⟨h1,h2⟩:=ih x h.2;have hx:leS p x:=by have:=h.1;rw[ltCps_eq]at this;unfold leS;simpa using this
   refine⟨λy hy=>?_,.cons h1 h2⟩;rcases O3.mp hy with rfl|hy
   . exact hx
   . exact Zie hx (h1 y hy)
 intro ss h;cases ss with
 |nil=>exact .nil
 |cons x r=>obtain⟨h1,h2⟩:=gen r x h;exact .cons h1 h2
theorem ZgZ(x:Str):∀r:List Str,(Zm9 x r).Perm (x::r)
 |[]=>.refl _
 |y::r=>by
  unfold Zm9;split
  . exact((ZgZ x r).cons y).trans (.swap x y r)
  . exact .refl _
theorem Zei:∀r:List Str,(ZcR r).Perm r
 |[]=>.refl _
 |x::r=>(ZgZ x _).trans ((Zei r).cons x)
theorem ZjK(x:Str):∀r:List Str,r.Pairwise leS->(Zm9 x r).Pairwise leS
 |[],_=>.cons (by simp) .nil
 |y::r,h=>by
  cases h with
  |cons h1 h2=>
   unfold Zm9;split
   . rename_i hlt;rw[ltCps_eq]at hlt;have hlt:=of_decide_eq_true hlt;refine .cons (λz hz=>?_) (ZjK x r h2);rcases O3.mp ((ZgZ x r).mem_iff.mp hz)with rfl|hz
     . unfold leS;rw[List.not_lt];exact List.le_of_lt hlt
     . exact h1 z hz
   . rename_i hlt;have hxy:leS x y:=by unfold leS;rw[ltCps_eq]at hlt;simpa using hlt
     refine .cons (λz hz=>?_) (.cons h1 h2);rcases O3.mp hz with rfl|hz
     . exact hxy
     . exact Zie hxy (h1 z hz)
theorem Zh2:∀r:List Str,(ZcR r).Pairwise leS
 |[]=>.nil
 |x::r=>ZjK x _ (Zh2 r)
def ZmV(hp:ss'.Perm ss)(hs:sortedS ss'=Wv):ss'=ZcR ss:=(hp.trans (Zei ss).symm).eq_of_pairwise (λ_ _ _ _ h q=>Zpi h q) (Zjy hs) (Zh2 ss)
section
variable {X:Cx}{Y:Yx}{E:XK}{T:Tb}{H:Hp}{B:List Yi}{h:Hd}
theorem Zgi:∀{ds:List (Key×D)}{vs:List (Key×V)}{ss:List Str},RKs Y H B ds vs->Zel ds=Ws ss->vs.map (·.1)=ss.map YE
 |_,_,_,.nil,e=>by cases e;rfl
 |_,_,_,.cons (k:=k) a s,e=>by
  cases k with
  |inl i=>cases e
  |inr x=>rw[Zel]at e;obtain⟨z,e1,rfl⟩:=Oo.mp e;rw[Op,Op,Zgi s e1]
theorem ZlR:∀(ss:List Str),(∀x∈ss,Yo x=Wv)->RDs Y H B (ss.map D.str) (ss.map V.str)
 |[],_=>.nil
 |x::r,h=>.cons (.str x (h x (by simp))) (ZlR r λy hy=>h y (by simp[hy]))
def ZrX(hc:X.A.handled=Wu)(G:Gk X Y T):Zc3 X (.builtin "sorted") (rF Y E (ZfH T.GD)):=by
 intro pins s Z H xs us Q I r hh;obtain⟨ds,h,B,rh,rs,f⟩:=hh;unfold ZfH at f;split at f
 . split at f
   . rename_i ss e2;obtain⟨hz,f⟩:=f.iff;obtain⟨kvs,e3,e4⟩:=Option.bind_eq_some_iff.mp e2;obtain⟨x,rfl,r1⟩:=rs.one;obtain⟨a,kvs',rfl,hd,rk⟩:=r1.dicOf G rh e3;obtain⟨hz,hok⟩:=hz;refine Zi9 hc pins s Z H _ us Q I r ⟨a,kvs',ss,rfl,hd,Zgi rk e4,hz,λp ss' hp h1 h2=>?_⟩;rw[ZmV h1 h2];refine f.new rh hp ⟨_,Zq,ZlR _ λy hy=>?_⟩;rw[OC]at hok;exact hok y ((Zei ss).mem_iff.mp hy)
   . exact f.elim
 . exact f.elim
end
set_option tactic.hygienic false
def RS(Y:Yx)(H:Hp)(B:List Yi)(S:Ev)(Z:L2.St):Prop:=Z.length=S.length/\∀(i:Nat) (d:D),S[i]? = Ws (Ws d)->∃v,Z[i]? = Ws (Ws v)/\RD Y H B d v
section
variable {Y:Yx}{H H':Hp}{B μ':List Yi}{h:Hd}{S:Ev}{Z:L2.St}
theorem RS.mono(rh:RH Y H B h)(g:Gr H B H' μ')(r:RS Y H B S Z):RS Y H' μ' S Z:=⟨r.1,λi d e=>let ⟨v,h1,h2⟩:=r.2 i d e;⟨v,h1,h2.mono rh g⟩⟩
def RS.var(r:RS Y H B S Z){i:Nat}{d:D}(e:(S[i]?).join=Ws d):∃v,Z[i]? = Ws (Ws v)/\RD Y H B d v:=by
 refine r.2 i d ?_;cases q:S[i]? with
 |none=>rw[q]at e;cases e
 |some o=>rw[q]at e;cases o with
  |none=>cases e
  |some d'=>cases e;rfl
theorem RS.set(r:RS Y H B S Z){i:Nat}{d:D}{v:V}(q:RD Y H B d v):RS Y H B (S.set i (Ws d)) (Z.set i (Ws v)):=by
 refine⟨by simp[r.1],λj e he=>?_⟩;by_cases hj:i=j
 . subst hj;have hl:i<S.length:=by have:=(Ob.mp he).1;simpa using this
   rw[Ol hl]at he;cases he;exact⟨v,by rw[Ol (by rw[r.1];exact hl)],q⟩
 . rw[Oc hj]at he;obtain⟨w,h1,h2⟩:=r.2 j e he;exact⟨w,by rw[Oc hj];exact h1,h2⟩
theorem RS.capt(r:RS Y H B S Z)(js:List (Option Nat)):RS Y H B (Zc0 js S) (capt js Z):=by
 refine⟨by simp[Zc0,L2.capt],λi d e=>?_⟩;unfold Zc0 at e;unfold L2.capt;rw[O2]at e ⊢;cases q:js[i]? with
 |none=>rw[q]at e;cases e
 |some o=>
  rw[q]at e;cases o with
  |none=>cases e
  |some j=>
   have e':(S[j]?).join=Ws d:=by simpa using e
   obtain⟨v,h1,h2⟩:=r.var e';exact⟨v,by simp[h1],h2⟩
end
inductive Sm(Y:Yx)(E:XK){α β:Type}(rel:Hp->List Yi->α->β->Prop)(m:Ev->Hd->R α)(Z:L2.St)(H:Hp)(Q:β->Hp->Prop):Prop
 |mk (S:Ev) (h:Hd) (B:List Yi) (rh:RH Y H B h) (rs:RS Y H B S Z) (f:Fin Y rel H B (m S h) Q E):Sm Y E rel m Z H Q
def eqR{α:Type}:Hp->List Yi->α->α->Prop:=λ_ _ a b=>a=b
theorem Sm.bind{α β γ δ:Type}{Q:β->Hp->Prop}{rel:Hp->List Yi->γ->δ->Prop}{rel':Hp->List Yi->α->β->Prop}{m:Ev->Hd->R γ}{k:Ev->γ->Hd->R α}(s:Sm Y E rel' (λS h=>(m S h).bind (k S)) Z H Q)
 {Q1:δ->Hp->Prop}
 (hk:∀S d h1 v H1 μ1,RH Y H1 μ1 h1->RS Y H1 μ1 S Z->rel H1 μ1 d v->Fin Y rel' H1 μ1 (k S d h1) Q E->Q1 v H1):Sm Y E rel m Z H Q1:=by
 cases s with
 |mk S h B rh rs f=>exact⟨S,h,B,rh,rs,f.bind λd h1 x H1 μ1 _ g rh1 rd f1=>hk S d h1 x H1 μ1 rh1 (rs.mono rh g) rd f1⟩
section
variable (T:Tb) (Y:Yx) (E:XK)
noncomputable def Zah(e:Ex):TE:=Sm Y E (RD Y) (ev T e)
noncomputable def ZkR(e:Exs):TA:=Sm Y E (RDs Y) (evs T e)
noncomputable def ZkQ(e:Tx):TT:=Sm Y E eqR (tst T e)
noncomputable def Zw9(e:Option Ex):TO:=Sm Y E eqR (evo T e)
noncomputable def Zxa(e:Ix):TI:=Sm Y E (WJ Y) (evi T e)
noncomputable def ZfM(f:Str):Sp:=λvs H Q E=>∃ds h B,RH Y H B h/\RDs Y H B ds vs/\Fin Y (RD Y) H B (T.C f ds h) Q E
end
structure Gd(T:Tb)(Γ:Gm)(X:Cx)(Y:Yx)(E:XK)(k:Nat):Prop where
 gk:Gk X Y T
 N:X.N=Γ.N
 sc:Γ.top=Wv->X.env.scope=Γ.sc
 vis:∀x,Zqe Γ.sc x=Wv->Vis X.env.scope x
 glo:∀x,Γ.sc.names.lookup x=Ws .globalImplicit->Gl X x
 nd:X.N.Nodup
 calm:X.calm=Wv
 room:Room k X.A
 h60:60<=k
 pass:Zbb (CXF X.prog X.w) X E
 defs:∀f∈Γ.fs,∃ps,Def X.prog X.w X.K X.mg X.base k f ps (ZfM T Y f)
 blt:∀x∈(["len", "isinstance", "int", "tuple", "list", "sum", "all", "sorted", "range", "enumerate", "reversed", "str", "bool", "max"]:List Str),X.mg x=Wu
 room1:Room (k+1) X.A
 passC:Γ.top=Wv->∀(pins:List (Yi×Obj)) (Z:L2.St) (NC:List Str) (scope:Scope) (C:Yi) (s3:Yb) (H3:Hp) (fp:List Yi),Inv X pins Z H3 s3->(∀b∈fp,Zb5 X pins H3 b)->C=s3.heap.objs.size->Zbb (CXF X.prog X.w) (ZD X NC scope C s3 H3 fp) E
 cls:∀C∈Γ.kl.cs,∃a,X.mg C=Ws (.ref a)/\Cls X.K a/\∀f∈Γ.kl.ats,Zbv X.K a f
 mts:∀p∈Γ.kl.ms,∃a f fd ps,X.mg p.1=Ws (.ref a)/\Cls X.K a/\Meth X.K a p.2 f/\FnOk X.prog X.w X.K X.mg X.base (CXF X.prog X.w) k f fd ps (ZfM T Y (mnm p.1 p.2))/\Binds X.K fd ps []
 mks:∀C∈Γ.kl.is,∃a f fd ps,X.mg C=Ws (.ref a)/\Mk X.K a f/\FnOk X.prog X.w X.K X.mg X.base (CXF X.prog X.w) k f fd ps (ZfM T Y (mnm C (O "__init__")))/\Binds X.K fd ps []
def _root_.L2.PE.imp(h:PE X e t)(i:∀Z H Q,t' Z H Q->t Z H Q):PE X e t':=λpins s Z H Q I q=>h pins s Z H Q I (i Z H Q q)
def _root_.L2.PT.imp(h:PT X e t)(i:∀Z H Q,t' Z H Q->t Z H Q):PT X e t':=λpins s Z H Q I q=>h pins s Z H Q I (i Z H Q q)
def _root_.L2.PW.imp(h:PW X e t)(i:∀Z H Q,t' Z H Q->t Z H Q):PW X e t':=λw pins s Z H Q I q=>h w pins s Z H Q I (i Z H Q q)
def _root_.L2.PA.imp(h:PA X e t)(i:∀Z H Q,t' Z H Q->t Z H Q):PA X e t':=λp pins s Z H Q I q=>h p pins s Z H Q I (i Z H Q q)
def _root_.L2.PO.imp(h:PO X e t)(i:∀Z H Q,t' Z H Q->t Z H Q):PO X e t':=λpins s Z H Q I q=>h pins s Z H Q I (i Z H Q q)
def _root_.L2.PI.imp(h:PI X tg e t)(i:∀Z H Q,t' Z H Q->t Z H Q):PI X tg e t':=λpins s Z H Q I q=>h pins s Z H Q I (i Z H Q q)
structure Kd(x:Expr):Prop where
 star:tgE x≠0->∀xs env,YA (x::xs) env=(Ww,eval x env)::YA xs env
 set:tgE x≠18->∀env v,foldedSetIterable x env v=pure v
 mark:tgE x≠18->∀op,behindInMarks op x=Ww
 ix:tgE x≠5->Zjs x
 put:tgE x≠5->∀o pos env v,assign (.Subscript o x pos) env v=(do
  let ov <- holding [v] (eval o env);let iv <- holding [v,ov] (eval x env)
  standAt pos
  holding [v,ov,iv] (setItem ov iv v)
  release [v,ov,iv] [])
 tr:Zk4 x=Wv->∀env whole,isTrue x env whole=(do let v <- whole;standAt x.pos;holding [v] (truthy v))
 sw:tgE x≠13->tgE x≠19->∀t n env,swapsWith x t n env=pure Ww
 st:tgE x≠8->∀es j q env,swappedStores [.Tuple es j q] x env=pure Wu
def kdE(x:Expr):Kd x:=by
 cases x<;>exact⟨by first|exact λ_ _ _=>rfl|exact λh=>absurd rfl h,by first|exact λ_ _ _=>rfl|exact λh=>absurd rfl h,by first|exact λ_ _=>rfl|exact λh=>absurd rfl h,by first|exact λ_ _ _=>rfl|exact λh=>absurd rfl h,
  by first|exact λ_ _ _ _ _=>rfl|exact λh=>absurd rfl h,
  by first|exact λ_ _ _=>rfl|exact λh=>ff h,by first|exact λ_ _ _ _ _=>rfl|exact λh=>absurd rfl h|exact λ_ h=>absurd rfl h,by first|exact λ_ _ _ _ _=>rfl|exact λh=>absurd rfl h⟩
def ZA(env:Env)(h:ZbW x=Wv):YA (x::xs) env=(Ww,eval x env)::YA xs env:=(kdE x).star (of_decide_eq_true h) _ _
def ZkO(env:Env)(h:Zcv x=Wv):∀v,foldedSetIterable x env v=pure v:=(kdE x).set (of_decide_eq_true h) _
def ZgO(h:Zcv x=Wv):behindInMarks op x=Ww:=(kdE x).mark (of_decide_eq_true h) _
def Zoj(h:Zg5 x=Wv):Zjs x:=(kdE x).ix (of_decide_eq_true h)
def Zfy(h:Zb7 x=Wv):attributeBase x n env (eval x env)=eval x env:=by
 cases x with
 |Call f as ks p=>
  cases as with
  |nil=>cases h
  |cons a as=>cases f<;>rfl
 |_=>rfl
theorem Ze7(Γ:Gm)(env:Env):∀(es:Exs) (xs:List Expr),chks Γ es xs=Wv->∀pos,(YS pos (YA xs env)).any (·.1)=Ww/\(YS pos (YA xs env)).all (λx=>!x.1)=Wv
 |.nil,[],_,_=>⟨rfl,rfl⟩
 |.nil,_::_,h,_=>ff h
 |.cons _ _,[],h,_=>ff h
 |.cons _ r,x::xs,h,pos=>by rw[ZA env (bL (bR h))];exact Ze7 Γ env r xs (bR (bR h)) pos
def Zdr(env:Env)(h:chks Γ es (y::r)=Wv):YA (y::r) env=(Ww,eval y env)::YA r env/\∀pos,(YS pos (YA r env)).any (·.1)=Ww:=by
 cases es with
 |nil=>exact ff h
 |cons e s=>exact⟨ZA env (bL (bR h)),λpos=>(Ze7 Γ env s r (bR (bR h)) pos).1⟩
@[elab_as_elim] theorem ZpR{P:List Expr->Prop}(h:chks Γ es ys=Wv)(h1:(!ys.isEmpty)=Wv)(k:∀y r,chks Γ es (y::r)=Wv->P (y::r)):P ys:=by
 cases ys with
 |nil=>exact ff h1
 |cons y r=>exact k y r h
def Gd.gl{T:Tb}{Γ:Gm}{X:Cx}{Y:Yx}{E:XK}{k:Nat}(G:Gd T Γ X Y E k){x:Str}(h:glb Γ x=Wv):Gl X x/\(x==("__debug__" : Str))=Ww:=by unfold glb at h;rw[Oa]at h;exact⟨G.glo x (of_decide_eq_true h.1),by simpa using h.2⟩
theorem Zg6{f:Str->NameKind->NameKind}(x:Str):∀names:List (Str×NameKind),(names.map λp=>(p.1,f p.1 p.2)).lookup x=(names.lookup x).map (f x)
 |[]=>rfl
 |(n,k)::r=>by
  rw[Op,OF,OF];by_cases e:x=n
  . subst e;simp
  . have:(x==n)=Ww:=by simpa using e
    simp only[this];exact Zg6 x r
def Zb6(scope:Scope)(env:Env)(x:Str):(relabel scope env).names.lookup x=(scope.names.lookup x).map λk=>if (k==Yn&&env.scope.kind==.function&&env.kindOf x==Ws .cell)then NameKind.cell else k:=by
 have e:(relabel scope env).names=scope.names.map λp=>(p.1,(λ(n:Str) (k:NameKind)=>if (k==Yn&&env.scope.kind==.function&&env.kindOf n==Ws .cell)then NameKind.cell else k) p.1 p.2):=by unfold relabel;simp only;refine List.map_congr_left λp _=>?_;obtain⟨n,k⟩:=p;simp only;split<;>rfl
 rw[e];exact Zg6 (f:=λ(n:Str) (k:NameKind)=>if (k==Yn&&env.scope.kind==.function&&env.kindOf n==Ws .cell)then NameKind.cell else k) x scope.names
def Gd.comp{T:Tb}{Γ:Gm}{X:Cx}{Y:Yx}{E:XK}{k:Nat}(G:Gd T Γ X Y E k)(NC:List Str)(scope:Scope)(C:Yi)(s3:Yb)(H3:Hp)(fp:List Yi)(nd:NC.Nodup)(hp:Zbb (CXF X.prog X.w) (ZD X NC scope C s3 H3 fp) E):Gd T ⟨NC,scope,Γ.fs,Ww,Γ.kl⟩ (ZD X NC scope C s3 H3 fp) Y E k:=by
 refine⟨⟨G.gk.K,G.gk.mg,G.gk.gd,G.gk.g,G.gk.bare⟩,rfl,(λh=>by cases h),λx hx=>?_,λx hx=>?_,nd,rfl,G.room,G.h60,hp,G.defs,G.blt,G.room1,(λh=>by cases h),G.cls,G.mts,G.mks⟩
 . show Vis (relabel scope X.env) x;unfold Vis;rw[Zb6];unfold Zqe at hx;rw[Wr,Wr]at hx;rcases hx with (hx|hx)|hx
   . rw[of_decide_eq_true hx];exact .inl rfl
   . rw[of_decide_eq_true hx];exact .inr (.inl rfl)
   . rw[of_decide_eq_true hx];by_cases q:(X.env.scope.kind==.function&&X.env.kindOf x==Ws .cell)=Wv
     . refine .inr (.inl ?_);have:(Yn==Yn&&X.env.scope.kind==.function&&X.env.kindOf x==Ws .cell)=Wv:=by simpa using q
       simp only[Yu,this,if_true]
     . refine .inr (.inr ?_);have:¬ ((Yn==Yn&&X.env.scope.kind==.function&&X.env.kindOf x==Ws .cell)=Wv):=by simpa using q
       simp only[Yu,this,if_false];rfl
 . show(relabel scope X.env).names.lookup x=Ws .globalImplicit;rw[Zb6,hx];rfl
section
variable {T:Tb}{Y:Yx}{E:XK}{Z:L2.St}{H:Hp}{Q:VK}
def Zqq{a b:Ex}{f:D->D->Hd->R D}(s:Sm Y E (RD Y) (λS h=>(ev T a S h).bind λx h1=>(ev T b S h1).bind λy h2=>f x y h2) Z H Q):Zah T Y E a Z H λx H1=>Zah T Y E b Z H1 λy H2=>rB Y E f x y H2 Q:=s.bind λS d h1 x H1 μ1 rh1 rs1 rd f1=>⟨S,h1,μ1,rh1,rs1,f1.bind λe h2 y H2 μ2 _ g2 rh2 re f2=>⟨d,e,h2,μ2,rh2,rd.mono rh1 g2,re,f2⟩⟩
end
def Zuw{T:Tb}{Γ:Gm}{X:Cx}{Y:Yx}{E:XK}{k:Nat}(G:Gd T Γ X Y E k)(f:Bf)(hb:bok f=Wv){e:Expr}{es:List Expr}{t:TA}{p pos:Pos}(hg:Gl X (ZmI f))(ha:PA X (e::es) t)
 (he:YA (e::es) X.env=(Ww,eval e X.env)::YA es X.env) (hpl:(YS pos (YA es X.env)).any (·.1)=Ww):PE X (.Call (.Name (ZmI f) p) (e::es) [] pos) (tCB (rF Y E (ZcE T.GD f)) t):=by
 have hY:=G.gk.K;cases f with
 |len=>exact Zfa (ZrY hY) hg (G.blt _ (by decide)) (by decide +kernel) ha (by decide) (by decide) he hpl
 |isi=>exact Zfa (ZrZ hY) hg (G.blt _ (by decide)) (by decide +kernel) ha (by decide) (by decide) he hpl
 |int=>cases hb
 |tup=>exact Znh (ZrV hY) hg (G.blt _ (by decide)) (by decide +kernel) ha (by decide) (by decide) he hpl
 |lst=>cases hb
 |sum=>exact Zfa (ZrW G.room.hd hY) hg (G.blt _ (by decide)) (by decide +kernel) ha (by decide) (by decide) he hpl
 |all=>cases hb
 |mx=>cases hb
 |srt=>exact Zfa (ZrX G.room.hd G.gk) hg (G.blt _ (by decide)) (by decide +kernel) ha (by decide) (by decide) he hpl
set_option tactic.hygienic true
def Zhv{v:V}(rd:∀H B,RD Y H B d v)(p:PE X x (tC v)):PE X x (Zah T Y E (.cst d)):=PE.imp p λZ H Q s=>by
 cases s with
 |mk S h B rh rs f=>exact Fin.ok (r:=rd H B) (show Fin Y (RD Y) H B (.ok d h) Q E from f) rh
def ZpS(G:Gd T Γ X Y E k)(h:Zwu Γ d x=Wv):PE X x (Zah T Y E (.cst d)):=by
 refine bO h (λh=>Zv5 (P:=λx=>PE X x _) h λc j q h=>?_) λh=>?_
 . cases d with
   |int i=>cases c with
    |int j=>exact dS (P:=λi=>PE X _ (Zah T Y E (.cst (.int i)))) h (Zhv (λ_ _=>.int _) Ztz)
    |_=>exact ff h
   |str i=>cases c with
    |str j=>exact dS (P:=λi=>PE X _ (Zah T Y E (.cst (.str i)))) (bL h) (Zhv (λ_ _=>.str _ (bR h)) Ztw)
    |_=>exact ff h
   |bl i=>cases c with
    |bool j=>exact dS (P:=λi=>PE X _ (Zah T Y E (.cst (.bl i)))) h (Zhv (λ_ _=>.bl _) ZvE)
    |_=>exact ff h
   |non=>cases c with
    |none=>exact Zhv (λ_ _=>.non) ZoT
    |_=>exact ff h
   |_=>exact ff h
 . cases d with
   |ty n=>
    refine ZnR (P:=λx=>PE X x _) h λp h=>?_;obtain⟨g1,g2⟩:=G.gl (bR h);have all:(ZlL.all λn=>Wx (bootBuiltins (Str.ofString n)=Ws (.type n))&&(Wx (Str.ofString n ≠ "__name__")&&Wx (Str.ofString n∈(["len", "isinstance", "int", "tuple", "list", "sum", "all", "sorted", "range", "enumerate", "reversed", "str", "bool", "max"]:List Str))))=Wv:=by decide +kernel
    have a:=OC.mp all n (of_decide_eq_true (bL h));exact Zhv (λ_ _=>.ty _) (ZqX g1 (G.blt _ (of_decide_eq_true (bR (bR a)))) (of_decide_eq_true (bL a)) rfl (of_decide_eq_true (bL (bR a))) g2)
   |_=>exact ff h
def R.bind_eq{α β:Type}{r:R α}{k:α->Hd->R β}{b:β}{h:Hd}(e:r.bind k=.ok b h):∃a h1,r=.ok a h1/\k a h1=.ok b h:=by
 cases r with
 |bad=>cases e
 |ok a h1=>exact⟨a,h1,rfl,e⟩
 |exc c h1=>cases e
def R.bind_assoc{α β γ:Type}{r:R α}{k:α->Hd->R β}{l:β->Hd->R γ}:(r.bind k).bind l=r.bind λa h=>(k a h).bind l:=by cases r<;>rfl
def Zo3(e:opC GD op x y h=.ok r h'):∃b,r=.bl b:=by
 have i2:∀{f:Int->Int->Bool},ZiO f x y h=.ok r h'->∃b,r=.bl b:=λe=>by
  unfold ZiO at e;split at e
  . cases e;exact⟨_,rfl⟩
  . cases e
 have eq:∀{n:Bool},ZcU n x y h=.ok r h'->∃b,r=.bl b:=λe=>by
  unfold IV.ZcU at e;split at e
  . split at e
    . cases e;exact⟨_,rfl⟩
    . cases e
  . cases e
 have inn:∀{n:Bool},Zcj GD n x y h=.ok r h'->∃b,r=.bl b:=λe=>by
  unfold Zcj at e;split at e
  . split at e
    . cases e;exact⟨_,rfl⟩
    . cases e
  . split at e
    . cases e;exact⟨_,rfl⟩
    . cases e
 have n1:∀{n:Bool},opN n x y h=.ok r h'->∃b,r=.bl b:=λe=>by
  unfold opN at e;split at e
  . cases e;exact⟨_,rfl⟩
  . cases e
 unfold opC at e;split at e
 . exact eq e
 . exact eq e
 . exact i2 e
 . exact i2 e
 . exact i2 e
 . exact i2 e
 . exact inn e
 . exact inn e
 . exact n1 e
 . exact n1 e
def ZvU(m:Mf):Slot "list" (Zpc m) (mid m)/\typeOf (.builtin (mid m))=pure (.type "method_descriptor"):=by
 cases m with
 |app=>exact⟨PySem.F.slot_list_append,PySem.F.type_list_append⟩
 |ext=>exact⟨PySem.F.slot_list_extend,PySem.F.type_list_extend⟩
 |pop=>exact⟨PySem.F.slot_list_pop,PySem.F.type_list_pop⟩
 |rev=>exact⟨PySem.F.slot_list_reverse,PySem.F.type_list_reverse⟩
 |clr=>exact⟨PySem.F.slot_list_clear,PySem.F.type_list_clear⟩
section
variable {Y:Yx}{α β α' β':Type}{rel:Hp->List Yi->α->β->Prop}{rel':Hp->List Yi->α'->β'->Prop}{H0 H H1:Hp}{μ0 B μ1:List Yi}{E:XK}
def Fin.bindB(g0:Gr H0 μ0 H B)(f:Fin Y rel' H0 μ0 (r.bind k) Q E)
 (hk:∀a h1 b H1 μ1,r=.ok a h1->Gr H B H1 μ1->RH Y H1 μ1 h1->rel H1 μ1 a b->Fin Y rel' H0 μ0 (k a h1) Q E->Q1 b H1):Fin Y rel H B r Q1 E:=by
 cases r with
 |bad=>exact f
 |ok a h=>exact λb H' μ' g' rh rl=>hk a h b H' μ' rfl g' rh rl f
 |exc c h=>exact λH' μ' C g'=>f H' μ' C (g0.trans g')
def Fin.bindAt(g0:Gr H0 μ0 H B)(f:Fin Y rel' H0 μ0 (r.bind k) Q E)
 (hk:∀a h1 b H1 μ1,r=.ok a h1->Gr H B H1 μ1->RH Y H1 μ1 h1->rel H1 μ1 a b->Fin Y rel' H0 μ0 (k a h1) Q E->Q1 b H1):Fin Y rel H B r Q1 E:=by
 cases r with
 |bad=>exact f
 |ok a h=>exact λb H' μ' g' rh rl=>hk a h b H' μ' rfl g' rh rl f
 |exc c h=>exact λH' μ' C g'=>f H' μ' C (g0.trans g')
end
noncomputable def Zj9:List Nat->TGs
 |[]=>ZrC
 |i::is=>Zka (Zdn i) (Zj9 is)
noncomputable def tgR(K:Yk):Tg->TG
 |.nm i=>Zdn i
 |.two i j=>ZrB K 2 (Zka (Zdn i) (Zka (Zdn j) ZrC))
 |.many is=>ZrB K is.length (Zj9 is)
theorem Zjv:∀is:List Nat,is.foldr max 0<k->ZkE k (Zj9 is)
 |[],_=>ZlO
 |i::is,h=>by simp only[List.foldr_cons]at h;exact ZgS (by lia) (Zjv is (by lia))
def Zu1(K:Yk)(g:Tg):ZnL (tgk g) (tgR K g):=by
 cases g with
 |nm i=>exact Zqj (OH i)
 |two i j=>exact Zoa (ZgS (show i<max i j+1 by lia) (ZgS (show j<max i j+1 by lia) ZlO))
 |many is=>exact Zoa (Zjv is (OH _))
theorem Zf3:∀(is:List Nat) (es:List Expr),ZmE N own is es=Wv->(assignEach es env).length=is.length/\List.findIdx? (λx=>x.fst) (assignEach es env)=Wu
 |[],[],_=>⟨rfl,rfl⟩
 |i::is,e::es,h=>by
  obtain⟨a,b⟩:=Zf3 (env:=env) is _ (bR h);refine ZbX (P:=λe=>(assignEach (e::es) env).length=_/\List.findIdx? (λx=>x.fst) (assignEach (e::es) env)=Wu) (bL h) λx p _ _=>⟨congrArg (·+1) a,?_⟩
  simp only[assignEach,List.findIdx?_cons,b];rfl
 |[],_::_,h=>ff h
 |_::_,[],h=>ff h
theorem ZjQ(hN:X.N=N)(nd:X.N.Nodup)(ho:∀x,own x=Wv->Loc X.env.scope x/\(X.fn x=Wv\/X.env.scope.names.lookup x=Ws .local)):∀(is:List Nat) (es:List Expr),ZmE N own is es=Wv->PGs X es (Zj9 is)
 |[],[],_=>Zl5
 |i::is,e::es,h=>ZbX (P:=λe=>PGs X (e::es) _) (bL h) λx p e1 e2=>Zg2 (Zl7 nd (by rw[hN];exact e1) (ho _ e2).1 (ho _ e2).2) (ZjQ hN nd ho is _ (bR h))
 |[],_::_,h=>ff h
 |_::_,[],h=>ff h
def Zl6(hN:X.N=N)(nd:X.N.Nodup)(hc:X.calm=Wv)(ho:∀x,own x=Wv->Loc X.env.scope x/\(X.fn x=Wv\/X.env.scope.names.lookup x=Ws .local))(h:ZrR N own g tg=Wv):PG X tg (tgR X.K g):=by
 have nm:∀{i x p},N[i]? = Ws x->own x=Wv->PG X (.Name x p) (Zdn i):=λe1 e2=>Zl7 nd (by rw[hN];exact e1) (ho _ e2).1 (ho _ e2).2;cases g with
 |nm i=>exact ZbX (P:=λt=>PG X t _) h λx p e1 e2=>nm e1 e2
 |two i j=>exact Zjw (P:=λt=>PG X t _) (show ZmG N own i j tg=Wv from h) λxs k q h=>Zsr (P:=λxs=>PG X (.Tuple xs k q) _) h λa b h=>ZbX (P:=λa=>PG X (.Tuple [a,b] k q) _) (bL h) λx p e1 e2=>ZbX (P:=λb=>PG X (.Tuple [_,b] k q) _) (bR h) λy r e3 e4=>ZoQ hc (Zg2 (nm e1 e2) (Zg2 (nm e3 e4) Zl5))
 |many is=>exact Zjw (P:=λt=>PG X t _) (show ZmF N own is tg=Wv from h) λxs k q h=>ZoQ (hn:=(Zf3 _ _ h).1) (hst:=(Zf3 _ _ h).2) hc (ZjQ hN nd ho _ _ h)
theorem Zmf:∀(is:List Nat) {ds:List D}{vs:List V}{S:Ev}{Z:L2.St},RDs Y H B ds vs->RS Y H B S Z->ds.length=is.length->(∀σ1,RS Y H B (ZkP is ds S) σ1->Q σ1 H)->Zj9 is vs Z H Q
 |[],ds,vs,S,Z,r,rs,hl,q=>by
  cases r with
  |nil=>exact⟨rfl,q _ rs⟩
  |cons a s=>simp at hl
 |i::is,ds,vs,S,Z,r,rs,hl,q=>by
  cases r with
  |nil=>simp at hl
  |cons a s=>exact⟨_,_,rfl,Zmf is s (rs.set a) (by simpa using hl) q⟩
def Zjc{Y:Yx}{K:Yk}{Q:L2.St->Hp->Prop}(hY:Y.K=K)(r:RD Y H B d v)(rs:RS Y H B S Z)(e:ZbS g d S=Ws ρ1)(q:∀σ1,RS Y H B ρ1 σ1->Q σ1 H):tgR K g v Z H Q:=by
 cases g with
 |nm i=>cases e;exact q _ (rs.set r)
 |two i j=>
  unfold ZbS at e;simp only at e;split at e
  . cases e;obtain⟨a,vs,rfl,t,s⟩:=r.tup_inv;obtain⟨x,y,rfl,r1,r2⟩:=s.two;exact⟨a,_,rfl,hY ▸ t,rfl,x,_,rfl,y,_,rfl,rfl,q _ ((rs.set r1).set r2)⟩
  . cases e
 |many is=>
  unfold ZbS at e;simp only at e;split at e
  . split at e
    . rename_i hl;cases e;obtain⟨a,vs,rfl,t,s⟩:=r.tup_inv;exact⟨a,vs,rfl,hY ▸ t,by rw[<- s.length,hl],Zmf is s rs hl q⟩
    . cases e
  . cases e
section
variable {Y:Yx}{H:Hp}{B:List Yi}{h:Hd}{Dd:Yi}{ys zs:List V}
def Zoh{K:Yk}(hD:H Dd=Ws (.lst ys))(t:SqT K H a vs):SqT K (upd H Dd (.lst zs)) a vs:=by
 rcases t with t|t
 . rcases t with t|⟨o,t⟩
   . exact .inl (.inl (by rw[Zo (λz=>by rw[z,hD]at t;cases t)];exact t))
   . exact .inl (.inr ⟨o,by rw[Zo (λz=>by rw[z,hD]at t;cases t)];exact t⟩)
 . exact .inr t
def Zpv{K:Yk}(hD:H Dd=Ws (.lst ys))(t:FzL K H a vs):FzL K (upd H Dd (.lst zs)) a vs:=by
 rcases t with ⟨o,t⟩|t
 . exact .inl ⟨o,by rw[Zo (λz=>by rw[z,hD]at t;cases t)];exact t⟩
 . exact .inr t
def Tr.swap(hD:H Dd=Ws (.lst ys)):Tr Y H B (upd H Dd (.lst zs)) B:=⟨Zoh hD,Zpv hD,id⟩
theorem RH.swap(hD:H Dd=Ws (.lst ys))(hn:Dd ∉ B)(r:RH Y H B h):RH Y (upd H Dd (.lst zs)) B h:=r.tr (.swap hD) λ_ ha=>Zo λz=>hn (z ▸ ha)
def Gr.out(g:Gr H B H' μ')(hD:H Dd=Ws o)(hn:Dd ∉ B):H' Dd=Ws o/\Dd ∉ μ':=⟨g.keep _ _ hn hD,λhm=>(g.new _ hm).elim hn λz=>by rw[hD]at z;cases z⟩
end
inductive CwS(Y:Yx)(H1:Hp)(μ1:List Yi)(xs:List D)(Dd:Yi)(F:List D->List D->Hd->Prop)(i m:Nat)(ys:List V)(H:Hp):Prop
 |mk (acc:List D) (h:Hd) (B:List Yi) (hi:i<=xs.length) (hm:m=xs.length - i) (g:Gr H1 μ1 H B) (rh:RH Y H B h) (ra:RDs Y H B acc ys) (nd:Dd ∉ B) (f:F (xs.drop i) acc h):CwS Y H1 μ1 xs Dd F i m ys H
def ZmC{T:Tb}{Y:Yx}{E:XK}{K:Yk}(hY:Y.K=K){js:List (Option Nat)}{g:Tg}{c:Option Tx}{e:Ex}{tc:TT}{J:It}{w:Wk}{H1:Hp}{μ1:List Yi}{h1:Hd}{S:Ev}{Z:L2.St}{Q:VK}{Dd:Yi}
 (htc:∀Z H Q,Sm Y E eqR (tsto T c) Z H Q->tc Z H Q)
 (rh:RH Y H1 μ1 h1) (rs:RS Y H1 μ1 S Z) (wj:WJ Y H1 μ1 w J) (f:Fin Y (RD Y) H1 μ1 ((Z0 w.src g (tsto T c) (ev T e) w.xs (Zc0 js S) [] h1).bind λxs h2=>Zc7 (.lst xs) h2) Q E) (hD:H1 Dd=Wu) :
 ∃W:Nat->Nat->List V->Hp->Prop,(∃m,W 0 m [] (upd H1 Dd (.lst []))) /\
  ∀i m ys H,W i m ys H->H Dd=Ws (.lst ys)->(J.stop i H/\Q (.ref Dd) H) \/
   (J.go i H/\ys.length<sizeLine/\∀x H',J.yld i H x H'->tgR K g x (capt js Z) H' λσ2 H2=>tc σ2 H2 λb H3=>
    if b=Wv then Zah T Y E e σ2 H3 λy H4=>H4 Dd=Ws (.lst ys)/\∃m',m'<m/\W (i+1) m' (ys++[y]) (upd H4 Dd (.lst (ys++[y])))
    else H3 Dd=Ws (.lst ys)/\∃m',m'<m/\W (i+1) m' ys H3):=by
 have n1:=rh.fr hD;refine⟨CwS Y H1 μ1 w.xs Dd λxs acc h=>Fin Y (RD Y) H1 μ1 ((Z0 w.src g (tsto T c) (ev T e) xs (Zc0 js S) acc h).bind λxs h2=>Zc7 (.lst xs) h2) Q E,⟨w.xs.length,[],h1,μ1,Yw _,(Nat.sub_zero _).symm,Gr.lay0 hD,rh.lay0 hD,.nil,n1,f⟩,?_⟩;rintro i m ys H ⟨acc,h,B,hi,rfl,g1,rh1,ra,nD,f1⟩ hl;by_cases hlt:i<w.xs.length
 . obtain⟨d,hd⟩:∃d,w.xs[i]? = Ws d:=⟨_,Og hlt⟩
   have hdrop:w.xs.drop i=d::w.xs.drop (i+1):=by rw[List.drop_eq_getElem_cons hlt];have:=Og hlt;rw[hd]at this;rw[<- YF this]
   rw[hdrop,Z0]at f1;by_cases hs:Wk.stays w.src h=Wv/\acc.length<sizeLine
   . rw[if_pos hs]at f1;obtain⟨go,yl⟩:=(wj H B h g1 rh1 hs.1).1 i d hd;refine .inr ⟨go,by rw[<- ra.length];exact hs.2,λx H' hy=>?_⟩;obtain⟨g2,rh2,rx⟩:=yl x H' hy;obtain⟨hl2,nD2⟩:=g2.out hl nD;have g02:=g1.trans g2;split at f1
     . exact f1.elim
     . rename_i ρ1 hb;refine Zjc hY rx ((rs.mono rh g02).capt js) hb λσ1 rs1=>htc σ1 H' _ ⟨ρ1,h,B,rh2,rs1,?_⟩;rw[R.bind_assoc]at f1;refine Fin.bindAt g02 f1 λb h3 b' H3 μ3 _ g3 rh3 eb f3=>?_;subst eb;obtain⟨hl3,nD3⟩:=g3.out hl2 nD2;have g03:=g02.trans g3;cases b with
       |true=>rw[if_pos rfl]at f3 ⊢;rw[R.bind_assoc]at f3;refine⟨ρ1,h3,μ3,rh3,rs1.mono rh2 g3,Fin.bindAt g03 f3 λy h4 y' H4 μ4 _ g4 rh4 ry f4=>?_⟩;obtain⟨hl4,nD4⟩:=g4.out hl3 nD3;refine⟨hl4,_,Nat.sub_lt_sub_left hlt (OH i),acc++[y],h4,μ4,hlt,rfl,(g03.trans g4).put hD,rh4.swap hl4 nD4,((((ra.mono rh1 g2).mono rh2 g3).mono rh3 g4).append (.cons ry .nil)).tr (.swap hl4),nD4,f4⟩
       |false=>rw[if_neg (by decide)]at f3 ⊢;exact⟨hl3,_,Nat.sub_lt_sub_left hlt (OH i),acc,h3,μ3,hlt,rfl,g03,rh3,(ra.mono rh1 g2).mono rh2 g3,nD3,f3⟩
   . rw[if_neg hs]at f1;exact f1.elim
 . have he:i=w.xs.length:=by lia
   subst he;rw[List.drop_eq_nil_of_le (Oq _),Z0]at f1;by_cases hs:Wk.stays w.src h=Wv
   . rw[if_pos hs]at f1;refine .inl ⟨(wj H B h g1 rh1 hs).2,?_⟩;have f2:Fin Y (RD Y) H1 μ1 (.ok (.ref h.length) (h++[.lst acc])) Q E:=f1;exact f2.at (g1.add hD) (rh1.add nD ⟨ys,hl,ra.tr .more⟩) (.ref (by rw[rh1.len];simp))
   . rw[if_neg hs]at f1;exact f1.elim
section
variable {Y:Yx}{H:Hp}{B:List Yi}{h:Hd}
theorem RKs.look:∀{fs:List (Str×D)}{gs:List (Str×V)},RKs Y H B fs gs->(∀d,fs.lookup f=Ws d->∃v,gs.lookup f=Ws v/\RD Y H B d v)/\(fs.lookup f=Wu->gs.lookup f=Wu)
 |_,_,.nil=>⟨λd e=>by simp at e,λ_=>rfl⟩
 |_,_,.cons (k:=k) (d:=d0) (v:=v0) a s=>by
  by_cases e:f=k
  . subst e;exact⟨λd z=>by simp at z;subst z;exact⟨_,by simp,a⟩,λz=>by simp at z⟩
  . have b:(f==k)=Ww:=by simpa using e
    obtain⟨q1,q2⟩:=RKs.look (f:=f) s;refine⟨λd z=>?_,λz=>?_⟩
    . rw[OF,b]at z ⊢;exact q1 d z
    . rw[OF,b]at z ⊢;exact q2 z
theorem RKs.putAF(r:RD Y H B d v):∀{fs:List (Str×D)}{gs:List (Str×V)},RKs Y H B fs gs->RKs Y H B (Zg0 f d fs) (Zcu f v gs)
 |_,_,.nil=>.cons r .nil
 |_,_,.cons (k:=k) a s=>by
  unfold Zg0 Zcu;by_cases e:k=f
  . rw[if_pos e,if_pos e];exact .cons r s
  . rw[if_neg e,if_neg e];exact .cons a (RKs.putAF r s)
def Zhc(rh:RH Y H B h)(r:RD Y H B d v)(e:Zaf d h=Ws (C,fs)):∃i a Ca dx gs,d=.ref i/\v=.ref a/\B[i]? = Ws a/\h[i]? = Ws (.ins C fs)/\H a=Ws (.ins Ca dx gs)/\Y.mg C=Ws (.ref Ca)/\RKs Y H B fs gs:=by
 unfold Zaf at e;split at e
 . rename_i i;split at e
   . rename_i C' fs' hi;cases e;cases r with
     |ref q=>rename_i a;obtain⟨Ca,dx,gs,z,m,s⟩:=rh.ob i _ a hi q;exact⟨i,a,Ca,dx,gs,rfl,rfl,q,hi,z,m,s⟩
   . cases e
 . cases e
def Zrk(rh:RH Y H B h)(hx:H x=Wu)(hd:H dx=Wu)(ne:dx≠x)(m:Y.mg C=Ws (.ref Ca)):RH Y (upd (upd H dx (.own x)) x (.ins Ca dx [])) (B++[x]) (h++[.ins C []])/\Gr H B (upd (upd H dx (.own x)) x (.ins Ca dx [])) (B++[x]):=by
 have hx':upd H dx (.own x) x=Wu:=by rw[Zo (λz=>ne z.symm)];exact hx
 exact⟨(rh.lay0 hd).lay hx' ⟨Ca,dx,[],Zq,m,.nil⟩,(Gr.lay0 hd).trans (Gr.lay hx')⟩
end
def Zns(hbase:attributeBase o name env (eval o env)=eval o env)
 (hform:methodCallForm (args.length+([]:List Keyword).length) (YS pos (YA args env)) (backToKw pos (Wa [] env))=Wv) (hline:(apos.endLine==pos.line)=Wv) :
 eval (.Call (.Attribute o name apos) args [] pos) env=(do
  let ov <- eval o env
  standAt apos.atName
  let (f,first) <- holding [ov] (getMethod ov name (do return (<- importBound o env).getD Wv))
  callWith pos f first (YS pos (YA args env)) (backToKw pos (Wa [] env))):=by
 have hpos:methodCallPos Wv o env apos pos=pure pos:=by unfold methodCallPos;simp[hline]
 rw[arm_eval_Call,hbase];unfold methodCall;simp only[hform,hpos];rfl
section
variable {T:Tb}{Γ:Gm}{X:Cx}{Y:Yx}{E:XK}{k:Nat}
def ZuB(G:Gd T Γ X Y E k)(hc:(Cs.all λC=>Wx (C∈Γ.kl.cs))=Wv)(hf:f∈Γ.kl.ats)(rh:RH Y H B h)(rd:RD Y H B d x)(ff:Fin Y (RD Y) H B (ZfY Cs f d h) Q E):
 ∃a C dx fs v,x=.ref a/\H a=Ws (.ins C dx fs)/\Cls X.K C/\Zbv X.K C f/\fs.lookup f=Ws v/\Q v H:=by
 unfold ZfY at ff;split at ff
 . rename_i C fs e;obtain⟨hC,ff⟩:=ff.iff;obtain⟨i,a,Ca,dx,gs,rfl,rfl,q,hi,z,m,s⟩:=Zhc rh rd e;obtain⟨w,e1,ff⟩:=ff.ofO;obtain⟨v,l,rv⟩:=(s.look (f:=f)).1 w e1;rw[OC]at hc;obtain⟨Ca',m',cl,na⟩:=G.cls C (of_decide_eq_true (hc C hC));rw[G.gk.mg,m']at m;cases m;exact⟨a,Ca,dx,gs,v,rfl,z,cl,na f hf,l,ff.ok rh rv⟩
 . exact ff.elim
def Zon(G:Gd T Γ X Y E k)(hc:(Cs.all λC=>Wx (C∈Γ.kl.cs))=Wv)(hf:f∈Γ.kl.ats)(rh:RH Y H B h)(rd:RD Y H B d x)(re:RD Y H B e y)(ff:Fin Y (RD Y) H B (ZfN Cs f d e h) Q E):
 ∃a C dx fs,x=.ref a/\H a=Ws (.ins C dx fs)/\Cls X.K C/\Zbv X.K C f/\fs.length<1000/\Q .non (upd H a (.ins C dx (Zcu f y fs))):=by
 unfold ZfN at ff;split at ff
 . rename_i i;split at ff
   . rename_i C fs hi;obtain⟨⟨hC,hl⟩,ff⟩:=ff.iff;obtain⟨i',a,Ca,dx,gs,e1,rfl,q,hi',z,m,s⟩:=Zhc rh rd (show Zaf (.ref i) h=Ws (C,fs) by simp[Zaf,hi]);cases e1;rw[OC]at hc;obtain⟨Ca',m',cl,na⟩:=G.cls C (of_decide_eq_true (hc C hC));have m0:=m;rw[G.gk.mg,m']at m;cases m;refine⟨a,Ca,dx,gs,rfl,z,cl,na f hf,by rw[<- s.length];exact hl,ff.at (Gr.write (O1 q) (by rw[z];trivial)) (rh.write q ?_ (by rw[z];trivial)) .non⟩;exact⟨Ca,dx,_,Zq,m0,(RKs.putAF re s).mono rh (Gr.write (O1 q) (by rw[z];trivial))⟩
   . exact ff.elim
 . exact ff.elim
def ZvV(G:Gd T Γ X Y E k)(h2:C∈Γ.kl.is)(h3:glb Γ C=Wv)(h4:chks Γ es ys=Wv)(ha:PA X ys (ZkR T Y E es)):PE X (.Call (.Name C p) ys [] pos) (Zah T Y E (.mk C es)):=by
 obtain⟨a,f,fd,ps,m,M,F,B_⟩:=G.mks _ h2;obtain⟨g1,g2⟩:=G.gl h3;have key:∀(ds:List D) (h1:Hd) (xs:List V) (H1:Hp) (μ1:List Yi) (Q:VK),RH Y H1 μ1 h1->RDs Y H1 μ1 ds xs->Fin Y (RD Y) H1 μ1 (Zgv T.C C ds h1) Q E->∀x dx,H1 x=Wu->H1 dx=Wu->dx≠x ->
  ZfM T Y (mnm C (O "__init__")) (.ref x::(xs++[])) (upd (upd H1 dx (.own x)) x (.ins a dx [])) (λv H2=>v=.non/\Q (.ref x) H2) E:=by
  intro ds h1 xs H1 μ1 Q rh1 rds f1 x dx hx hd ne;obtain⟨rh2,g2⟩:=Zrk (C:=C) (Ca:=a) rh1 hx hd ne (by rw[G.gk.mg];exact m);have px:(μ1++[x])[h1.length]? = Ws x:=by rw[rh1.len];simp
  refine⟨.ref h1.length::ds,h1++[.ins C []],μ1++[x],rh2,.cons (.ref px) (by rw[Ys];exact rds.mono rh1 g2),?_⟩;refine Fin.bind (Fin.mono g2 f1) λd h3 v H3 μ3 _ g3 rh3 rd3 f3=>?_;cases d with
  |non=>cases rd3;exact⟨rfl,f3.ok rh3 (.ref (g3.pre _ _ px))⟩
  |_=>exact f3.elim
 cases ys with
 |nil=>
  cases es with
  |nil=>
   exact(ZoV M F G.room1 g1 m B_ .nil G.pass g2).imp λZ H Q s=>by
    cases s with
    |mk S h B rh rs f=>exact key [] h [] H B Q rh .nil f
  |cons e r=>exact ff h4
 |cons y ys=>exact(ZqR M F G.room1 g1 m B_ .nil G.pass ha g2 (Zdr X.env h4).1 ((Zdr X.env h4).2 _)).imp λZ H Q s=>Sm.bind s λS ds h1 xs H1 μ1 rh1 _ rds f1=>key ds h1 xs H1 μ1 Q rh1 rds f1
def ZtS(G:Gd T Γ X Y E k)(h5:(C,n)∈Γ.kl.ms)(h3:Zb7 xo=Wv)(h4:chks Γ es ys=Wv)(h6:ys.length<29)(h7:(ap.endLine==cp.line)=Wv)(ho:PE X xo (Zah T Y E o))(ha:PA X ys (ZkR T Y E es)):
 PE X (.Call (.Attribute xo n ap) ys [] cp) (Zah T Y E (.mcl C n o es)):=by
 obtain⟨a,f,fd,ps,mm,c,hm,F,B_⟩:=G.mts _ h5;have hform:methodCallForm (ys.length+([]:List Keyword).length) (YS cp (YA ys X.env)) (backToKw cp (Wa [] X.env))=Wv:=by
  unfold methodCallForm;rw[(Ze7 Γ X.env es ys h4 _).2];have h30:Wx (ys.length+([]:List Keyword).length+(if (backToKw cp (Wa [] X.env)).isEmpty then 0 else 1)<30)=Wv:=by
   rw[decide_eq_true_eq];show ys.length+0+0<30
   lia
  rw[h30];rfl
 have ht:=Zns (o:=xo) (name:=n) (apos:=ap) (pos:=cp) (args:=ys) (env:=X.env) (Zfy h3) hform h7;have key:∀(d:D) (h1:Hd) (x:V) (H1:Hp) (μ1:List Yi) (S:Ev) (Z:L2.St) (Q:VK),RH Y H1 μ1 h1->RS Y H1 μ1 S Z->RD Y H1 μ1 d x->Fin Y (RD Y) H1 μ1 (match Zaf d h1 with
  |some (C',fs)=>if C'=C/\fs.lookup n=Wu then(evs T es S h1).bind λxs h2=>T.C (mnm C n) (d::xs) h2 else .bad
  |none=>.bad) Q E->∃b dx fs,x=.ref b/\H1 b=Ws (.ins a dx fs)/\fs.lookup n=Wu/\ZkR T Y E es Z H1 λvs H2=>ZfM T Y (mnm C n) (x::(vs++[])) H2 Q E:=by
  intro d h1 x H1 μ1 S Z Q rh1 rs1 rd f1;split at f1
  . rename_i C' fs e;obtain⟨⟨e1,e2⟩,f1⟩:=f1.iff;subst e1;obtain⟨i,b,Ca,dx,gs,rfl,rfl,q,hi,z,m',s⟩:=Zhc rh1 rd e;rw[G.gk.mg,mm]at m';cases m';refine⟨b,dx,gs,rfl,z,(s.look (f:=n)).2 e2,S,h1,μ1,rh1,rs1,f1.bind λds h2 vs H2 μ2 _ g2 rh2 rds f2=>⟨_,h2,μ2,rh2,.cons (rd.mono rh1 g2) (by rw[Ys];exact rds),f2⟩⟩
  . exact f1.elim
 cases ys with
 |nil=>
  cases es with
  |nil=>
   exact(ZoU ho c hm F G.room B_ .nil G.pass ht).imp λZ H Q s=>Sm.bind s λS d h1 x H1 μ1 rh1 rs1 rd f1=>by
    obtain⟨b,dx,fs,e1,e2,e3,s⟩:=key d h1 x H1 μ1 S Z Q rh1 rs1 rd f1;cases s with
    |mk ρ' h' μ' rh' rs' f'=>exact⟨b,dx,fs,e1,e2,e3,f'.ok rh' .nil⟩
  |cons e r=>exact ff h4
 |cons y ys=>exact(ZqP ho c hm F G.room B_ .nil G.pass ha (Zdr X.env h4).1 ((Zdr X.env h4).2 _) ht).imp λZ H Q s=>Sm.bind s λS d h1 x H1 μ1 rh1 rs1 rd f1=>key d h1 x H1 μ1 S Z Q rh1 rs1 rd f1
end
section
variable {X:Cx}{Y:Yx}{E:XK}{H:Hp}{B:List Yi}{h:Hd}
theorem ZlQ:∀{xs:List D}{vs:List V}{ss:List Str},RDs Y H B xs vs->strsOf xs=Ws ss->vs=ss.map .str
 |[],vs,ss,r,e=>by cases r;cases e;rfl
 |d::ds,vs,ss,r,e=>by
  cases r with
  |cons r1 r2=>
   cases r1 with
   |str x ok=>rw[strsOf]at e;obtain⟨t,e1,rfl⟩:=Oo.mp e;rw[ZlQ r2 e1];rfl
   |_=>cases e
def ZsS(hY:Y.K=X.K)(ea:V.ref a=.ref b)(t:SqT Y.K H b vs)(s:RDs Y H B xs vs)(rh:RH Y H B h)(ry:RD Y H B y v)
 (f:Fin Y (RD Y) H B (ZnK (.tup xs) y h) Q E):Zk0 X.K (.ref a) [v] H Q:=by
 cases ry with
 |str z ok=>
  unfold ZnK at f;simp only at f;split at f
  . rename_i ss e;obtain⟨d,e1,f⟩:=f.ofO;obtain⟨j,e2,rfl⟩:=Oo.mp e1;have ev:=ZlQ s e;subst ev;exact⟨b,ss,z,j,ea,rfl,hY ▸ t,e2,f.ok rh (.int _)⟩
  . exact f.elim
 |_=>exact f.elim
end
def Zl9{q:Prop}(X:Cx)(hx:ZvF scope x=Wv):Loc (relabel scope X.env) x/\(q\/(relabel scope X.env).names.lookup x=Ws .local):=by
 have:(relabel scope X.env).names.lookup x=Ws .local:=by rw[Zb6,of_decide_eq_true hx];rfl
 exact⟨.inl this,.inr this⟩
def ZnU(e:ZhZ (.ref i) h=Ws w):∃xs,h[i]? = Ws (.lst xs)/\w=⟨Ws (i,xs),xs⟩:=by
 unfold ZhZ at e;simp only at e;split at e
 . cases e;exact⟨_,by assumption,rfl⟩
 . cases e
def ZuT{X:Cx}{h1:Hd}(K:Y.K=X.K)(rh:RH Y H1 μ1 h1)(r:RD Y H1 μ1 d v)(il:Zgj d h1=Wv):tyV X.K "list" v H1:=by
 cases r with
 |ref q=>
  rename_i i a;have:∃xs,h1[i]? = Ws (.lst xs):=by
   unfold Zgj at il;simp only at il;split at il
   . exact⟨_,by assumption⟩
   . cases il
  obtain⟨xs,hx⟩:=this;obtain⟨vs,hl,_⟩:=rh.ob i _ a hx q;exact .inl ⟨rfl,vs,.of hl⟩
 |_=>cases il
def Zrh(G:Gd T Γ X Y E k)(ho:PE X xo (Zah T Y E o))(h3:Zb7 xo=Wv)(h4:chks Γ es ys=Wv)(h5:ys.length<29)(h6:(ap.endLine==cp.line)=Wv)(ha:PA X ys (ZkR T Y E es)):
 PE X (.Call (.Attribute xo (Zpc m) ap) ys [] cp) (Zah T Y E (.meth m o es)):=by
 obtain⟨sl,ty⟩:=ZvU m;cases ys with
 |nil=>
  cases es with
  |nil=>exact(ZtC PySem.F.plainAttrs_list sl ty (Zme (Y:=Y) (E:=E) G.gk.K m) ho (Zfy h3) h6).imp λZ H Q s=>Sm.bind s λS d h1 x H1 μ1 rh1 rs1 rd f1=>⟨ZuT G.gk.K rh1 rd f1.iff.1,d,[],h1,μ1,rh1,rd,.nil,f1.iff.2⟩
  |cons e r=>exact ff h4
 |cons y ys=>
  refine(ZvD PySem.F.plainAttrs_list sl ty (Zme (Y:=Y) (E:=E) G.gk.K m) ho ha (Zfy h3) ?_ h6 (Zdr X.env h4).1 ((Zdr X.env h4).2 _)).imp λZ H Q s=>Sm.bind s λS d h1 x H1 μ1 rh1 rs1 rd f1=>⟨ZuT G.gk.K rh1 rd f1.iff.1,S,h1,μ1,rh1,rs1,f1.iff.2.bind λds h2 xs H2 μ2 _ g2 rh2 rds f2=>⟨d,ds,h2,μ2,rh2,rd.mono rh1 g2,rds,f2⟩⟩
  rw[(Ze7 Γ X.env es (y::ys) h4 _).2];have h30:Wx ((y::ys).length+([]:List Keyword).length+(if ([]:List Keyword).isEmpty then 0 else 1)<30)=Wv:=by rw[decide_eq_true_eq];exact Nat.lt_succ_of_lt h5
  rw[h30];rfl
def ZxI(hb:∀d h',e=.ok d h'->∃c,d=.bl c)(f:Fin Y eqR H B (e.bind λx h1=>R.ofO (ZfK GD x h1) h1) Q E):Fin Y (RD Y) H B e (λv H'=>∃c,v=.bl c/\Q c H') E:=
 f.bind λd h1 x H1 μ1 er g rh1 rd f1=>by obtain⟨c,rfl⟩:=hb d h1 er;cases rd;exact⟨c,rfl,Fin.ok (show Fin Y eqR H1 μ1 (.ok c h1) Q E from f1) rh1 rfl⟩
def ZxJ{f:D->D->Hd->R D}(hf:∀x y h d h',f x y h=.ok d h'->∃c,d=.bl c)(s:Sm Y E eqR (λS h=>((ev T a S h).bind λx h1=>(ev T b S h1).bind λy h2=>f x y h2).bind λx h1=>R.ofO (ZfK T.GD x h1) h1) Z H Q):
 Zah T Y E a Z H λx H1=>Zah T Y E b Z H1 λy H2=>rB Y E f x y H2 λv H3=>∃c,v=.bl c/\Q c H3:=by
 cases s with
 |mk S h B rh rs q=>refine Zqq ⟨S,h,B,rh,rs,ZxI (λd h' er=>?_) q⟩;obtain⟨_,_,_,er⟩:=R.bind_eq er;obtain⟨_,_,_,er⟩:=R.bind_eq er;exact hf _ _ _ _ _ er
def ZrQ(G:Gd T Γ X Y E k)(ha:PE X l (Zah T Y E a))(hb:PE X r (Zah T Y E b))(hm:Zcv r=Wv):PT X (.Compare l [op] [r] pos) (ZkQ T Y E (.ex (.cmp op a b))):=(ZqD (ZfS (E:=E) G.room G.h60 G.gk op) ha hb (ZgO hm)).imp λ_ _ _ s=>ZxJ (f:=opC T.GD op) (λ_ _ _ _ _=>Zo3) s
noncomputable def Zwv(r:D)(k:Hd->R D)(h:Hd):R D:=match r with
 |.bl Wv=>k h
 |.bl Ww=>.ok (.bl Ww) h
 |_=>.bad
def Zux{r:R α}:r.bind R.ok=r:=by cases r<;>rfl
def Zws(s:Sm Y E rel (λS h=>(ev T (.cmp2 o1 o2 a b c) S h).bind k) Z H Q)
 (hq:∀d h1 v H1 μ1,RH Y H1 μ1 h1->RD Y H1 μ1 d v->(∃c,d=.bl c)->Fin Y rel H1 μ1 (k d h1) Q E->Q' v H1) :
 Zah T Y E a Z H λx H1=>Zah T Y E b Z H1 λy H2=>rB Y E (opC T.GD o1) x y H2 λv H3=>∃q,v=.bl q/\if q=Wv then Zah T Y E c Z H3 λz H4=>rB Y E (opC T.GD o2) y z H4 Q' else Q' (.bl Ww) H3:=by
 cases s with
 |mk S h B rh rs f=>
  have f:Fin Y rel H B ((ev T a S h).bind λx h1=>(ev T b S h1).bind λy h2=>(opC T.GD o1 x y h2).bind λr h3=>(Zwv r (λh3=>(ev T c S h3).bind λz h4=>opC T.GD o2 y z h4) h3).bind k) Q E:=by have q:=f;rw[show ev T (.cmp2 o1 o2 a b c) S h=(ev T a S h).bind λx h1=>(ev T b S h1).bind λy h2=>(opC T.GD o1 x y h2).bind λr h3=>Zwv r (λh3=>(ev T c S h3).bind λz h4=>opC T.GD o2 y z h4) h3 from rfl,R.bind_assoc]at q;simpa only[R.bind_assoc]using q
  refine⟨S,h,B,rh,rs,f.bind λd h1 x H1 μ1 _ g rh1 rd f1=>⟨S,h1,μ1,rh1,rs.mono rh g,f1.bind λe h2 y H2 μ2 _ g2 rh2 re f2=>⟨d,e,h2,μ2,rh2,rd.mono rh1 g2,re,f2.bind λr h3 z H3 μ3 _ g3 rh3 rz f3=>?_⟩⟩⟩;cases rz with
  |bl q=>
   refine⟨q,rfl,?_⟩;cases q with
   |true=>refine Zj5 ⟨S,h3,μ3,rh3,((rs.mono rh g).mono rh1 g2).mono rh2 g3,?_⟩;have f3:Fin Y rel H3 μ3 (((ev T c S h3).bind λz h4=>opC T.GD o2 e z h4).bind k) Q E:=f3;rw[R.bind_assoc]at f3;exact f3.bind λd4 h4 w H4 μ4 _ g4 rh4 rw' f4=>⟨e,d4,h4,μ4,rh4,(re.mono rh2 g3).mono rh3 g4,rw',f4.bind λd5 h5 w5 H5 μ5 er g5 rh5 rd5 f5=>hq d5 h5 w5 H5 μ5 rh5 rd5 (Zo3 er) f5⟩
   |false=>exact Zj6 (hq (.bl Ww) h3 _ H3 μ3 rh3 (.bl _) ⟨_,rfl⟩ f3)
  |_=>exact f3.elim
def ZpV(G:Gd T Γ X Y E k)(ha:PE X l (Zah T Y E a))(hb:PE X m (Zah T Y E b))(hc:PE X r (Zah T Y E c))(hm:Zcv r=Wv):PT X (.Compare l [o1,o2] [m,r] pos) (ZkQ T Y E (.ex (.cmp2 o1 o2 a b c))):=
 (ZoI (ZfS (E:=E) G.room G.h60 G.gk o1) (ZfS (E:=E) G.room G.h60 G.gk o2) ha hb hc (ZgO hm)).imp λZ H Q s=>Zws (Q':=λv H'=>∃c,v=.bl c/\Q c H') s λd h1 v H1 μ1 rh1 rd ⟨q,e⟩ f1=>by subst e;cases rd;exact⟨q,rfl,Fin.ok (show Fin Y eqR H1 μ1 (.ok q h1) Q E from f1) rh1 rfl⟩
def Znd(G:Gd T Γ X Y E k)(he:PE X x (Zah T Y E e))(h1:Zk4 x=Wv):PT X x (ZkQ T Y E (.ex e)):=
 (ZoH he ((kdE x).tr h1 _)).imp λZ H Q s=>Sm.bind s λS d h1 x H1 μ1 rh1 rs1 rd f1=>by obtain⟨b,eb,f1⟩:=f1.ofO;exact⟨b,Zqi G.gk.K rh1 rd eb,f1.ok rh1 rfl⟩
noncomputable def ZlM(T:Tb)(Y:Yx)(E:XK):Exs->List (TE×TE)
 |.nil=>[]
 |.cons k r=>match r with
  |.nil=>[]
  |.cons v r'=>(Zah T Y E k,Zah T Y E v)::ZlM T Y E r'
section
variable {Y:Yx}{H:Hp}{B:List Yi}{h:Hd}{Dd:Yi}{ys zs:List (Key×V)}
def ZmU{K:Yk}(hD:H Dd=Ws (.dK ys))(t:SqT K H a vs):SqT K (upd H Dd (.dK zs)) a vs:=by
 rcases t with t|t
 . rcases t with t|⟨o,t⟩
   . exact .inl (.inl (by rw[Zo (λz=>by rw[z,hD]at t;cases t)];exact t))
   . exact .inl (.inr ⟨o,by rw[Zo (λz=>by rw[z,hD]at t;cases t)];exact t⟩)
 . exact .inr t
def ZnC{K:Yk}(hD:H Dd=Ws (.dK ys))(t:FzL K H a vs):FzL K (upd H Dd (.dK zs)) a vs:=by
 rcases t with ⟨o,t⟩|t
 . exact .inl ⟨o,by rw[Zo (λz=>by rw[z,hD]at t;cases t)];exact t⟩
 . exact .inr t
def Tr.swapD(hD:H Dd=Ws (.dK ys)):Tr Y H B (upd H Dd (.dK zs)) B:=⟨ZmU hD,ZnC hD,id⟩
end
inductive RPs(Y:Yx)(H:Hp)(B:List Yi):List D->List (V×V)->Prop
 |nil:RPs Y H B [] []
 |cons {k v:D}{r:List D}{x y:V}{ps:List (V×V)}:RD Y H B k x->RD Y H B v y->RPs Y H B r ps->RPs Y H B (k::v::r) ((x,y)::ps)
theorem RPs.pairs:∀{ds:List D}{ps:List (V×V)}{kvs:List (Key×D)},RPs Y H B ds ps->ZdJ ds=Ws kvs->∃kvs':List (Key×V),ps=kvs'.map (λkv=>(kV kv.1,kv.2))/\RKs Y H B kvs kvs'
 |_,_,_,.nil,e=>by cases e;exact⟨[],rfl,.nil⟩
 |_,_,_,.cons a b s,e=>by
  rw[ZdJ]at e;split at e
  . rename_i k r e1 e2;cases e;obtain⟨kvs',rfl,rk⟩:=s.pairs e2;have:=Zem a e1;subst this;exact⟨(k,_)::kvs',rfl,.cons b rk⟩
  . cases e
theorem RPs.keysOk:∀{ds:List D}{ps:List (V×V)}{kvs:List (Key×D)},RPs Y H B ds ps->ZdJ ds=Ws kvs->Zdm kvs
 |_,_,_,.nil,e=>by cases e;intro p hp;cases hp
 |_,_,_,.cons a b s,e=>by
  rw[ZdJ]at e;split at e
  . rename_i k r e1 e2;cases e;intro p hp x z;rcases O3.mp hp with rfl|hp
    . exact Zpq a e1 x z
    . exact s.keysOk e2 p hp x z
  . cases e
theorem Zfg:∀{more kvs:List (Key×D)},Zdm more->Zdm kvs->Zdm (ZeO kvs more)
 |[],kvs,_,h=>h
 |(k,d)::r,kvs,hm,h=>Zfg (more:=r) (kvs:=putD kvs k d) (λp hp=>hm p (Oh _ hp)) (Zg9 h (λx e=>hm (k,d) Oi x e))
theorem RKs.merge:∀{more:List (Key×D)}{more':List (Key×V)}{kvs:List (Key×D)}{kvs':List (Key×V)},RKs Y H B more more'->RKs Y H B kvs kvs'->RKs Y H B (ZeO kvs more) (ZfU kvs' more')
 |_,_,_,_,.nil,s=>s
 |_,_,_,_,.cons (k:=k) a r,s=>by have z:=RKs.merge r (s.put k a);exact z
def ZoZ:∀(n:Nat) (ps:Exs) {K:List D->Hd->R D}{H:Hp}{B:List Yi}{h:Hd}{Q1:List (V×V)->Hp->Prop}{Γ:Gm}{ks:List (Option Expr)}{vs:List Expr},ks.length<=n->chkp Γ ps ks vs=Wv ->
 Gr H0 μ0 H B->RH Y H B h->RS Y H B S Z->Fin Y (RD Y) H0 μ0 ((evs T ps S h).bind K) Q E ->
 (∀ds h1 qs H1 μ1,Gr H B H1 μ1->RH Y H1 μ1 h1->RPs Y H1 μ1 ds qs->Fin Y (RD Y) H0 μ0 (K ds h1) Q E->Q1 qs H1)->ZiE (ZlM T Y E ps) Z H Q1:=by
 intro n;induction n with
 |zero=>
  intro ps K H B h Q1 Γ ks vs hl hc g0 rh rs f hq;cases ps with
  |nil=>exact hq [] h [] H B Gr.refl rh .nil f
  |cons k r=>
   cases r with
   |nil=>unfold chkp at hc;cases hc
   |cons v r'=>
    unfold chkp at hc;simp only at hc;split at hc
    . simp at hl
    . cases hc
 |succ n ih=>
  intro ps K H B h Q1 Γ ks vs hl hc g0 rh rs f hq;cases ps with
  |nil=>exact hq [] h [] H B Gr.refl rh .nil f
  |cons k r=>
   cases r with
   |nil=>unfold chkp at hc;cases hc
   |cons v r'=>
    unfold chkp at hc;simp only at hc;split at hc
    . rw[Oa]at hc;have f1:Fin Y (RD Y) H0 μ0 ((ev T k S h).bind λx h1=>(ev T v S h1).bind λy h2=>(evs T r' S h2).bind λxs h3=>K (x::y::xs) h3) Q E:=by
       have e:(evs T (.cons k (.cons v r')) S h).bind K=(ev T k S h).bind λx h1=>(ev T v S h1).bind λy h2=>(evs T r' S h2).bind λxs h3=>K (x::y::xs) h3:=by show((ev T k S h).bind λx h1=>((ev T v S h1).bind λy h2=>(evs T r' S h2).bind λxs h3=>R.ok (y::xs) h3).bind λxs h2=>R.ok (x::xs) h2).bind K=_;simp only[R.bind_assoc,R.bind_ok]
       rw[<- e];exact f
      refine⟨S,h,B,rh,rs,Fin.bindB g0 f1 λd h1 x H1 μ1 _ g1 rh1 rd f2=>?_⟩;refine⟨S,h1,μ1,rh1,rs.mono rh g1,Fin.bindB (g0.trans g1) f2 λe h2 y H2 μ2 _ g2 rh2 re f3=>?_⟩;refine ih r' (by simpa using hl) (bR hc.2) ((g0.trans g1).trans g2) rh2 ((rs.mono rh g1).mono rh1 g2) f3 λds h3 qs H3 μ3 g3 rh3 rp f4=>?_;exact hq (d::e::ds) h3 ((x,y)::qs) H3 μ3 ((g1.trans g2).trans g3) rh3 (.cons ((rd.mono rh1 g2).mono rh2 g3) (re.mono rh2 g3) rp) f4
    . cases hc
def ZrM(ps:Exs)(G:Gd T Γ X Y E k)(h15:ks.length<=15)(hc:chkp Γ ps ks vs=Wv)(hp:PPs X pos ks vs (ZlM T Y E ps))(hall:ks.all (·.isSome)=Wv)(hl:ks.length=vs.length):PE X (.Dict ks vs pos) (Zah T Y E (.dictl ps)):=by
 by_cases h0:ks=[]
 . subst h0;cases vs with
   |cons a b=>cases hl
   |nil=>
    cases ps with
    |cons k r=>
     cases r with
     |nil=>unfold chkp at hc;cases hc
     |cons v r'=>unfold chkp at hc;cases hc
    |nil=>refine ZoX.imp λZ H Q ⟨S,h,B,rh,rs,f⟩ p hp=>?_;have f:Fin Y (RD Y) H B (Zc7 (.dic []) h) Q E:=f;exact f.new rh hp ⟨[],Zq,.nil⟩ (λp hp=>by cases hp)
 . refine(ZqT hp hall hl h0 h15).imp λZ H Q ⟨S,h,B,rh,rs,f⟩ p hp=>?_;have np:=rh.fr hp;refine ZoZ ks.length ps (Oq _) hc (Gr.lay0 hp) (rh.lay0 hp) (rs.mono rh (Gr.lay0 hp)) f λds h1 qs H1 μ1 g1 rh1 rp f1=>?_;obtain⟨hl1,nD⟩:=g1.out (Zq (H:=H)) np;have g01:Gr H B H1 μ1:=(Gr.lay0 hp).trans g1;split at f1
   . rename_i kvs ek;obtain⟨hz,f1⟩:=f1.iff;obtain⟨kvs',rfl,rk⟩:=rp.pairs ek;refine⟨hl1,kvs',rfl,by rw[<- rk.length];exact hz,?_⟩;have f2:Fin Y (RD Y) H B (.ok (.ref h1.length) (h1++[.dic (ZeO [] kvs)])) Q E:=f1;exact f2.at ((g01.put hp).add hp) ((rh1.tr (.swapD hl1) λ_ ha=>Zo λz=>nD (z ▸ ha)).add nD ⟨_,Zq,((rk.merge .nil).tr (.swapD hl1)).tr .more⟩ (show Zdm (ZeO [] kvs)from Zfg (rp.keysOk ek) (λp hp=>by cases hp))) (.ref (by rw[rh1.len];simp))
   . exact f1.elim
mutual
theorem Zm(e:Ex){Γ:Gm}{X:Cx}{E:XK}{k:Nat}{x:Expr}(G:Gd T Γ X Y E k)(h:chk Γ e x=Wv):PE X x (Zah T Y E e):=match e,h with
 | .var i,h=>ZvS h fun x q h=>(Ztt (by rw [G.N];exact of_decide_eq_true (bL h)) (G.vis _ (bL (bR h))) (by simpa using bL (bR (bR h))) (by simpa using bR (bR (bR h)))).imp fun Z H Q s=>by
   cases s with
   | mk S h B rh rs f =>
     obtain ⟨d,e,f⟩:=Fin.ofO (show Fin Y (RD Y) H B (R.ofO (S[i]?).join h) Q E from f);obtain ⟨v,e1,rd⟩:=rs.var e;exact ⟨v,e1,f.ok rh rd⟩
 | .cst d,h=>ZpS G h
 | .glo y,h=>ZnR h fun q h pins s Z H Q I sm=>by
   cases sm with
   | mk S h' B rh rs f =>
     obtain ⟨d,e,f⟩:=Fin.ofO (show Fin Y (RD Y) H B (R.ofO (T.G y) h') Q E from f);obtain ⟨v,u,hm,rv,rd⟩:=G.gk.g y d e;exact ZqS (G.gl h).1 hm rv (G.gl h).2 pins s Z H Q I (f.ok rh (rd H B))
 | .bin op a b,h=>ZwA h fun l r q h=>(ZvB (ZtM G.gk.K op) (Zm a G (bL h)) (Zm b G (bR h))).imp fun _ _ _ s=>Zqq s
 | .cmp op a b,h=>ZsB h fun l r q h=>(ZqV (ZfS G.room G.h60 G.gk op) (Zm a G (bL h)) (Zm b G (bL (bR h))) (ZgO (bR (bR h)))).imp fun _ _ _ s=>Zqq s
 | .cmp2 o1 o2 a b c,h=>ZsA h fun l m r q h=>(ZoY (ZfS (E:=E) G.room G.h60 G.gk o1) (ZfS (E:=E) G.room G.h60 G.gk o2) (Zm a G (bL h)) (Zm b G (bL (bR h))) (Zm c G (bL (bR (bR h)))) (ZgO (bR (bR (bR h))))).imp fun Z H Q s =>
   Zws (k:=R.ok) (rel:=RD Y) (Q:=Q) (by simp only [Zux];exact s) fun d h1 v H1 μ1 rh1 rd _ f1=>f1.ok rh1 rd
 | .neg a,h=>ZsL h fun x q h=>(Zvz ZsK (Zm a G h)).imp fun Z H Q s=>Sm.bind s fun S d h1 x H1 μ1 rh1 rs1 rd f1=>by
   cases rd with
   | int i=>exact ⟨i,rfl,Fin.ok f1 rh1 (.int _)⟩
   | _=>exact f1.elim
 | .nt a,h=>ZsL h fun x q h=>(Ztx (Zm a G h)).imp fun Z H Q s=>Sm.bind s fun S d h1 x H1 μ1 rh1 rs1 rd f1=>by
   cases rd with
   | bl i=>exact ⟨i,rfl,Fin.ok f1 rh1 (.bl _)⟩
   | _=>exact f1.elim
 | .ands es,h=>Zrf h fun xs q h=>and_ok es G h
 | .ors es,h=>Zrf h fun xs q h=>or_ok es G h
 | .ite c a b,h=>Zxt h fun t x y q h=>(ZoW (tst_ok c G (bL h)) (Zm a G (bL (bR h))) (Zm b G (bR (bR h)))).imp fun Z H Q s=>Sm.bind s fun S d h1 v H1 μ1 rh1 rs1 rd f1=>by
   cases rd;cases d with
   | true=>exact Zj5 ⟨S,h1,μ1,rh1,rs1,f1⟩
   | false=>exact Zj6 ⟨S,h1,μ1,rh1,rs1,f1⟩
 | .tupl es,h=>Zjw h fun xs j q h=>(Ztu (evs_ok es G h)).imp fun Z H Q s=>Sm.bind s fun S d h1 x H1 μ1 rh1 rs1 rd f1=>⟨by rw [<- rd.length];exact f1.iff.1,fun p hp=>f1.iff.2.tup rh1 hp rd⟩
 | .lstl es,h=>ZvZ h fun xs q h=>(Zty (evs_ok es G h)).imp fun Z H Q s=>Sm.bind s fun S d h1 x H1 μ1 rh1 rs1 rd f1=>⟨by rw [<- rd.length];exact f1.iff.1,fun p hp=>f1.iff.2.new rh1 hp ⟨_,Zq,rd.mono rh1 (Gr.lay hp)⟩⟩
 | .ix a i,h=>Zs1 h fun x y q h=>(ZvC (Zq7 G.gk) (Zm a G (bL h)) (Zm i G (bL (bR h))) (Zoj (bR (bR h)))).imp fun _ _ _ s=>Zqq s
 | .sl a lo hi,h=>Zve h fun x l u q r h=>(ZoR (Zq5 (E:=E) G.gk.K) (Zm a G (bL h)) (evo_ok lo G (bL (bR h))) (evo_ok hi G (bR (bR h)))).imp fun Z H Q s=>Sm.bind s fun S d h1 x H1 μ1 rh1 rs1 rd f1 =>
   ⟨S,h1,μ1,rh1,rs1,Fin.bind f1 fun l h2 l' H2 μ2 _ g2 rh2 rl f2=>⟨S,h2,μ2,rh2,rs1.mono rh1 g2,Fin.bind f2 fun u h3 u' H3 μ3 _ g3 rh3 ru f3=>by
     cases rl;cases ru;exact ⟨d,h3,μ3,rh3,(rd.mono rh1 g2).mono rh2 g3,f3⟩⟩⟩
 | .blt f es,h=>ZeK h fun p ys q h=>ZpR (bL (bR h)) (bR (bR h)) fun y r hs=>(Zuw G f (bL (bL h)) (G.gl (bR (bL h))).1 (evs_ok es G hs) (Zdr X.env hs).1 ((Zdr X.env hs).2 _)).imp fun Z H Q s=>Sm.bind s fun S d h1 x H1 μ1 rh1 rs1 rd f1=>⟨d,h1,μ1,rh1,rd,f1⟩
 | .call f es,h=>ZeK h fun p ys q h=>ZpR (bL (bR (bR h))) (bR (bR (bR h))) fun y r hs=>by
   obtain ⟨ps,hd⟩:=G.defs _ (of_decide_eq_true (bL h));exact (ZtB hd G.room (G.gl (bL (bR h))).1 G.pass (evs_ok es G hs) (G.gl (bL (bR h))).2 (Zdr X.env hs).1 ((Zdr X.env hs).2 _)).imp fun Z H Q s=>Sm.bind s fun S d h1 x H1 μ1 rh1 rs1 rd f1=>⟨d,h1,μ1,rh1,rd,f1⟩
 | .meth m o es,h=>ZpY h fun xo ap ys cp h=>Zrh G (Zm o G (bL h)) (bL (bR h)) (bL (bR (bR h))) (of_decide_eq_true (bL (bR (bR (bR h))))) (bR (bR (bR (bR h)))) (evs_ok es G (bL (bR (bR h))))
 | .comp NC js it g c e,h=>Zsp h fun elt tg iter ifs scope q h=>by
   have S_:=Zkl (bL (bR h));rw [<- G.N,<- G.sc (bL h)] at S_;have h:=bR (bR h);have Gc:=fun (pins:List (Yi×Obj)) (Z:L2.St) (C:Yi) (s3:Yb) (H3:Hp) (fp:List Yi) (i3:Inv X pins Z H3 s3) (j3:∀ b∈fp,Zb5 X pins H3 b) (k3:C=s3.heap.objs.size)=>G.comp NC scope C s3 H3 fp S_.nd (G.passC (bL ‹_›) pins Z NC scope C s3 H3 fp i3 j3 k3);refine (ZqU (g:=tgR X.K g) (tc:=Sm Y E eqR (tsto T c)) (te:=Zah T Y E e) S_ rfl G.calm (evi_ok it G (bL h)) (fun pins Z C s3 H3 fp i3 j3 k3=>⟨Zl6 rfl S_.nd rfl (fun x hx=>Zl9 (scope:=scope) X hx) (bL (bR (bR h))),ifs_ok c (Gc pins Z C s3 H3 fp i3 j3 k3) (bL (bR (bR (bR (bR h))))),Zm e (Gc pins Z C s3 H3 fp i3 j3 k3) (bR (bR (bR (bR (bR h)))))⟩) (Zu1 X.K g) (fun j hj=>of_decide_eq_true (OC.mp (bL (bR (bR (bR h)))) j (List.mem_range.mpr hj))) (ZkO X.env (bL (bR h)))).imp
     fun Z H Q s=>Sm.bind s fun S w h1 J H1 μ1 rh1 rs1 wj f1 D hD=>ZmC G.gk.K (fun _ _ _ z=>z) rh1 rs1 wj f1 hD
 | .sorts e,h=>ff h
 | .trev e,h=>ZeK h fun p ys q h=>ZbE h fun z h=>ZeK h fun p' ys q' h=>ZbE h fun y h =>
   (Zng G.calm (G.gl (bL h)).1 (G.blt _ (by decide)) (G.gl (bL (bR h))).1 (G.blt _ (by decide)) (Zc5 (Zm e G (bL (bR (bR h)))) ZeN (ZA X.env (bR (bR (bR h))))) (ZA X.env (bR (bR (bR h))))).imp fun Z H Q s=>Sm.bind s fun S d h1 x H1 μ1 rh1 rs1 rd f1=>by
     cases d with
     | tup xs =>
       cases xs with
       | nil=>exact f1.elim
       | cons y ys =>
         obtain ⟨a,vs,rfl,t,s⟩:=rd.tup_inv;exact ⟨a,vs,rfl,G.gk.K ▸ t,(fun z=>by have:=s.length;rw [z] at this;cases this),fun p hp=>f1.tup rh1 hp s.reverse⟩
     | _=>exact f1.elim
 | .lrv e,h=>ff h
 | .tix o e,h=>ZpY h fun xo ap ys cp h=>ZbE h fun y h=>by
   have st:=bL (bR (bR (bR h)));refine (Ztv G.gk.bare (Zm o G (bL h)) (Zc5 (Zm e G (bL (bR (bR h)))) ZeN (ZA X.env st)) (Zfy (bL (bR h))) ?_ (bR (bR (bR (bR h)))) (ZA X.env st)).imp fun Z H Q s=>Sm.bind s fun S d h1 x H1 μ1 rh1 rs1 rd f1=>?_
   . rw [ZA X.env st];rfl
   . obtain ⟨il,f1⟩:=f1.iff;cases d with
     | tup xs =>
       obtain ⟨a,vs,rfl,t,s⟩:=rd.tup_inv;refine ⟨⟨a,vs,rfl,G.gk.K ▸ t⟩,S,h1,μ1,rh1,rs1,f1.bind fun y h2 v H2 μ2 _ g2 rh2 ry f2=>?_⟩;obtain ⟨a2,vs2,ea,t2,s2⟩:=(rd.mono rh1 g2).tup_inv;exact ZsS G.gk.K ea t2 s2 rh2 ry f2
     | _=>cases il
 | .lix o e,h=>ff h
 | .lin a b,h=>ff h
 | .any,h=>fun pins s Z H Q I sm=>by
   cases sm with
   | mk S h B rh rs f=>exact f.elim
 | .att Cs o f,h=>Zr5 h fun x q h=>(ZtA (Zm o G (bL h)) (Zfy (bL (bR h)))).imp fun Z H Q s=>Sm.bind s fun S d h1 x H1 μ1 rh1 rs1 rd f1=>ZuB G (bL (bR (bR h))) (of_decide_eq_true (bR (bR (bR h)))) rh1 rd f1
 | .mk C es,h=>ZeK h fun p ys q h=>ZvV G (of_decide_eq_true (bL h)) (bL (bR h)) (bR (bR h)) (evs_ok es G (bR (bR h)))
 | .mcl C m o es,h=>ZpY h fun xo ap ys cp h=>ZtS G (of_decide_eq_true (bL (bR (bR (bR h))))) (bL (bR h)) (bL (bR (bR h))) (of_decide_eq_true (bL (bR (bR (bR (bR h)))))) (bR (bR (bR (bR (bR h))))) (Zm o G (bL h)) (evs_ok es G (bL (bR (bR h))))
 | .maxd a d,h=>Zwr h fun p ys z r q h=>ZbE h fun y h=>(ZqQ (G.gl (bL h)).1 (G.blt _ (by decide)) G.calm (Zm a G (bL (bR h))) (Zm d G (bR (bR (bR h)))) (ZA X.env (bL (bR (bR h))))).imp fun Z H Q s=>Sm.bind s fun S x h1 v H1 μ1 rh1 rs1 rx f1 =>
   ⟨S,h1,μ1,rh1,rs1,Fin.bind f1 fun y h2 u H2 μ2 _ g2 rh2 ry f2=>by
     cases ry with
     | int d =>
       obtain ⟨r,er,f2⟩:=Fin.ofO (show Fin Y (RD Y) H2 μ2 (R.ofO (((lstOf x h2).bind intsOf).map fun ns=>.int (ZdM ns d)) h2) Q E from f2);obtain ⟨ns,e2,rfl⟩:=Oo.mp er;obtain ⟨zs,e3,e4⟩:=Option.bind_eq_some_iff.mp e2;obtain ⟨a,vs,rfl,hl,rv⟩:=(rx.mono rh1 g2).lstOf rh2 e3;rw [Zhb rv e4] at hl;exact ⟨a,ns,d,rfl,rfl,G.gk.K ▸ hl,f2.ok rh2 (.int _)⟩
     | _=>exact f2.elim⟩
 | .dictl ps,h=>ZxB h fun ks vs q h=>ZrM ps G (of_decide_eq_true (bL h)) (bR h) (pairs_ok ps G (bR h)).1 (pairs_ok (pos:=q) ps G (bR h)).2.1 (pairs_ok (pos:=q) ps G (bR h)).2.2
theorem evs_ok(e:Exs){Γ:Gm}{X:Cx}{E:XK}{k:Nat}{x:List Expr}(G:Gd T Γ X Y E k)(h:chks Γ e x=Wv):PA X x (ZkR T Y E e):=match e,x,h with
 |.nil,[],h=>ZeN.imp λZ H Q s=>by
  cases s with
  |mk S h B rh rs f=>exact Fin.ok (show Fin Y (RDs Y) H B (.ok [] h) Q E from f) rh .nil
 |.nil,_::_,h=>ff h
 |.cons e r,[],h=>ff h
 |.cons e r,y::ys,h=>(Zc5 (Zm e G (bL h)) (evs_ok r G (bR (bR h))) (ZA X.env (bL (bR h)))).imp λZ H Q s=>Sm.bind s λS d h1 x H1 μ1 rh1 rs1 rd f1=>⟨S,h1,μ1,rh1,rs1,f1.bind λds h2 xs H2 μ2 _ g2 rh2 rds f2=>f2.ok rh2 (.cons (rd.mono rh1 g2) rds)⟩
theorem and_ok(e:Exs){Γ:Gm}{X:Cx}{E:XK}{k:Nat}{x:List Expr}{pos:Pos}(G:Gd T Γ X Y E k)(h:chks Γ e x=Wv):PE X (.BoolOp .And x pos) (Zah T Y E (.ands e)):=match e,x,h with
 |.nil,x,h=>λpins s Z H Q I sm=>by
  cases sm with
  |mk S h B rh rs f=>exact f.elim
 |.cons e r,[],h=>ff h
 |.cons e .nil,[y],h=>(ZoS (Zm e G (bL h))).imp λZ H Q q=>q
 |.cons e .nil,y::z::zs,h=>ff (bR (bR h))
 |.cons e (.cons e' r'),[y],h=>ff (bR (bR h))
 |.cons e (.cons e' r'),y::z::zs,h=>(ZtD (Zm e G (bL h)) (and_ok (.cons e' r') G (bR (bR h)))).imp λZ H Q s=>Sm.bind s λS d h1 x H1 μ1 rh1 rs1 rd f1=>by
  cases rd with
  |bl c=>
   refine⟨c,rfl,?_⟩;cases c with
   |true=>exact Zj5 ⟨S,h1,μ1,rh1,rs1,f1⟩
   |false=>exact Zj6 (Fin.ok f1 rh1 (.bl _))
  |_=>exact f1.elim
theorem or_ok(e:Exs){Γ:Gm}{X:Cx}{E:XK}{k:Nat}{x:List Expr}{pos:Pos}(G:Gd T Γ X Y E k)(h:chks Γ e x=Wv):PE X (.BoolOp .Or x pos) (Zah T Y E (.ors e)):=match e,x,h with
 |.nil,x,h=>λpins s Z H Q I sm=>by
  cases sm with
  |mk S h B rh rs f=>exact f.elim
 |.cons e r,[],h=>ff h
 |.cons e .nil,[y],h=>(ZoS (Zm e G (bL h))).imp λZ H Q q=>q
 |.cons e .nil,y::z::zs,h=>ff (bR (bR h))
 |.cons e (.cons e' r'),[y],h=>ff (bR (bR h))
 |.cons e (.cons e' r'),y::z::zs,h=>(ZvA (Zm e G (bL h)) (or_ok (.cons e' r') G (bR (bR h)))).imp λZ H Q s=>Sm.bind s λS d h1 x H1 μ1 rh1 rs1 rd f1=>by
  cases rd with
  |bl c=>
   refine⟨c,rfl,?_⟩;cases c with
   |true=>exact Zj5 (Fin.ok f1 rh1 (.bl _))
   |false=>exact Zj6 ⟨S,h1,μ1,rh1,rs1,f1⟩
  |_=>exact f1.elim
theorem evo_ok(e:Option Ex){Γ:Gm}{X:Cx}{E:XK}{k:Nat}{x:Option Expr}(G:Gd T Γ X Y E k)(h:chko Γ e x=Wv):PO X x (Zw9 T Y E e):=match e,x,h with
 |none,Wu,h=>ZqK.imp λZ H Q s=>by
  cases s with
  |mk S h B rh rs f=>exact Fin.ok (show Fin Y _ H B (.ok Wu h) Q E from f) rh rfl
 |none,Ws _,h=>ff h
 |some e,Wu,h=>ff h
 |some e,Ws a,h=>(ZqJ (Zm e G h)).imp λZ H Q s=>Sm.bind s λS d h1 x H1 μ1 rh1 rs1 rd f1=>by
  cases rd with
  |int i=>exact⟨i,rfl,Fin.ok f1 rh1 rfl⟩
  |_=>exact f1.elim
theorem tst_ok(e:Tx){Γ:Gm}{X:Cx}{E:XK}{k:Nat}{x:Expr}(G:Gd T Γ X Y E k)(h:chkt Γ e x=Wv):PT X x (ZkQ T Y E e):=match e,h with
 |.ex e,h=>bO h (λh=>Znd G (Zm e G (bR h)) (bL h)) λh=>by
  cases e with
  |cmp op a b=>exact ZsB h λl r q h=>ZrQ G (Zm a G (bL h)) (Zm b G (bL (bR h))) (bR (bR h))
  |cmp2 o1 o2 a b c=>exact ZsA h λl m r q h=>ZpV G (Zm a G (bL h)) (Zm b G (bL (bR h))) (Zm c G (bL (bR (bR h)))) (bR (bR (bR h)))
  |_=>exact ff h
 |.ands ts,h=>Zrf h λxs q h=>(tand_ok ts G h).pt
 |.ors ts,h=>Zrf h λxs q h=>(tor_ok ts G h).pt
 |.nt t,h=>ZsL h λy q h=>(Ztk (tst_ok t G h)).imp λZ H Q s=>Sm.bind s λS d h1 x H1 μ1 rh1 rs1 rd f1=>by cases rd;exact Fin.ok f1 rh1 rfl
theorem tand_ok(e:Txs){Γ:Gm}{X:Cx}{E:XK}{k:Nat}{x:List Expr}{pos:Pos}(G:Gd T Γ X Y E k)(h:chkts Γ e x=Wv):PW X (.BoolOp .And x pos) (ZkQ T Y E (.ands e)):=match e,x,h with
 |.one t,x,h=>ZbE h λy h=>(ZqB (tst_ok t G h)).imp λZ H Q q=>q
 |.cons t ts,[],h=>ff h
 |.cons t ts,[_],h=>ff (bL (bR h))
 |.cons t ts,x::y::r,h=>(Zti (tst_ok t G (bL h)) (tand_ok ts G (bR (bR h)))).imp λZ H Q s=>Sm.bind s λS d h1 x H1 μ1 rh1 rs1 rd f1=>by
  cases rd;cases d with
  |true=>exact Zj5 ⟨S,h1,μ1,rh1,rs1,f1⟩
  |false=>exact Zj6 (Fin.ok f1 rh1 rfl)
theorem tor_ok(e:Txs){Γ:Gm}{X:Cx}{E:XK}{k:Nat}{x:List Expr}{pos:Pos}(G:Gd T Γ X Y E k)(h:chkts Γ e x=Wv):PW X (.BoolOp .Or x pos) (ZkQ T Y E (.ors e)):=match e,x,h with
 |.one t,x,h=>ZbE h λy h=>(Zth (tst_ok t G h)).imp λZ H Q q=>q
 |.cons t ts,[],h=>ff h
 |.cons t ts,[_],h=>ff (bL (bR h))
 |.cons t ts,x::y::r,h=>(Zvv (tst_ok t G (bL h)) (tor_ok ts G (bR (bR h)))).imp λZ H Q s=>Sm.bind s λS d h1 x H1 μ1 rh1 rs1 rd f1=>by
  cases rd;cases d with
  |true=>exact Zj5 (Fin.ok f1 rh1 rfl)
  |false=>exact Zj6 ⟨S,h1,μ1,rh1,rs1,f1⟩
theorem ifs_ok(c:Option Tx){Γ:Gm}{X:Cx}{E:XK}{k:Nat}{x:List Expr}(G:Gd T Γ X Y E k)(h:chkf Γ c x=Wv):PIf X x (Sm Y E eqR (tsto T c)):=match c,x,h with
 |none,[],h=>λpins s Z H Q I sm=>by
  cases sm with
  |mk S h B rh rs f=>exact ZqM pins s Z H Q I (Fin.ok (show Fin Y eqR H B (.ok Wv h) Q E from f) rh rfl)
 |none,_::_,h=>ff h
 |some t,x,h=>ZbE h λy h=>ZqL (tst_ok t G h)
theorem evi_ok(e:Ix){Γ:Gm}{X:Cx}{E:XK}{k:Nat}{x tg:Expr}(G:Gd T Γ X Y E k)(h:chki Γ e tg x=Wv):PI X tg x (Zxa T Y E e):=match e,h with
 |.pl e,h=>(Ztr (Zm e G h)).imp λZ H Q s=>Sm.bind s λS d h1 x H1 μ1 rh1 rs1 rd f1=>by obtain⟨w,ew,f1⟩:=f1.ofO;exact Zqc G.gk.K rh1 rd ew λJ wj=>f1.ok rh1 wj
 |.rng e,h=>ZeK h λp ys q h=>ZbE h λy h=>(Znf (G.gl (bL h)).1 (G.blt _ (by decide)) (Zc5 (Zm e G (bL (bR h))) ZeN (ZA X.env (bR (bR h)))) (ZA X.env (bR (bR h)))).imp λZ H Q s=>Sm.bind s λS d h1 x H1 μ1 rh1 rs1 rd f1=>by
  cases rd with
  |int j=>obtain⟨hz,f1⟩:=Fin.iff (show Fin Y (WJ Y) H1 μ1 (if ZbT j=Wv then .ok ⟨Wu,ZaE 0 j.toNat⟩ h1 else .bad) Q E from f1);exact⟨j,rfl,of_decide_eq_true (bL hz),of_decide_eq_true (bR hz),f1.ok rh1 ZsH⟩
  |_=>exact f1.elim
 |.rng2 a b,h=>ff h
 |.enu e,h=>ZeK h λp ys q h=>ZbE h λy h=>Zss (bR (bR (bR h))) λts j r=>(ZqO (G.gl (bL h)).1 (G.blt _ (by decide)) (Zc5 (Zm e G (bL (bR h))) ZeN (ZA X.env (bL (bR (bR h))))) (ZA X.env (bL (bR (bR h))))).imp λZ H Q s=>Sm.bind s λS d h1 x H1 μ1 rh1 rs1 rd f1=>by
  obtain⟨w,ew,f1⟩:=f1.ofO;obtain⟨w0,ew0,rfl⟩:=Oo.mp ew;cases d with
  |ro xs=>
   cases ew0;cases rd with
   |ro t s=>exact⟨_,rfl,⟨_,G.gk.K ▸ t.sq⟩,f1.ok rh1 (ZlH (Zr9 G.gk.K rh1 t s) λH2 μ2 h2 g2 rh2 st=>⟨_,G.gk.K ▸ (g2.rdF rh1 t).sq,s.mono rh1 g2⟩)⟩
  |ref i=>obtain⟨xs,hi,rfl⟩:=ZnU ew0;obtain⟨a,vs,rfl,hm,hl,s⟩:=rd.lst rh1 hi;refine⟨a,rfl,⟨vs,.of hl⟩,f1.ok rh1 (ZlH (ZnV hm) λH2 μ2 h2 g2 rh2 st=>?_)⟩;obtain⟨vs2,hl2,s2⟩:=rh2.ob i _ a (ZgU st) (g2.pre i a hm);exact⟨vs2,.of hl2,s2⟩
  |_=>cases ew0
 |.rev e,h=>ZeK h λp ys q h=>ZbE h λy h=>(ZqN (G.gl (bL h)).1 (G.blt _ (by decide)) (Zc5 (Zm e G (bL (bR h))) ZeN (ZA X.env (bR (bR h)))) (ZA X.env (bR (bR h)))).imp λZ H Q s=>Sm.bind s λS d h1 x H1 μ1 rh1 rs1 rd f1=>by
  obtain⟨w,ew,f1⟩:=f1.ofO;obtain⟨w0,ew0,rfl⟩:=Oo.mp ew;cases d with
  |tup xs=>cases ew0;obtain⟨a,vs,rfl,t,s⟩:=rd.tup_inv;exact⟨a,vs,rfl,.inl ⟨G.gk.K ▸ t,f1.ok rh1 (ZsI G.gk.K rh1 t s)⟩⟩
  |ref i=>obtain⟨xs,hi,rfl⟩:=ZnU (show ZhZ (.ref i) h1=Ws w0 from ew0);obtain⟨a,vs,rfl,hm,hl,s⟩:=rd.lst rh1 hi;exact⟨a,vs,rfl,.inr ⟨.of hl,by rw[<- s.length];exact f1.ok rh1 (Zqa hm)⟩⟩
  |_=>cases ew0
 |.en1 e,h=>ff h
 |.en0 e,h=>ff h
 |.dk e,h=>ff h
theorem pairs_ok(ps:Exs){Γ:Gm}{X:Cx}{E:XK}{k:Nat}{ks:List (Option Expr)}{vs:List Expr}{pos:Pos}(G:Gd T Γ X Y E k)(h:chkp Γ ps ks vs=Wv):PPs X pos ks vs (ZlM T Y E ps)/\ks.all (·.isSome)=Wv/\ks.length=vs.length:=match ps,ks,vs,h with
 |.nil,[],[],h=>⟨ZqI,rfl,rfl⟩
 |.nil,[],_::_,h=>ff h
 |.nil,_::_,_,h=>ff h
 |.cons e .nil,ks,vs,h=>ff h
 |.cons e (.cons v r'),[],vs,h=>ff h
 |.cons e (.cons v r'),Wu::_,vs,h=>ff h
 |.cons e (.cons v r'),Ws _::_,[],h=>ff h
 |.cons e (.cons v r'),Ws kx::ks,vx::vs,h=>
  let z:=pairs_ok r' (pos:=pos) G (bR (bR h))
  ⟨ZoO (Zm e G (bL h)) (Zm v G (bL (bR h))) z.1,z.2.1,congrArg (·+1) z.2.2⟩
end
noncomputable def Zek(e:Expr):Bool:=Wx (tgE e≠13)&&Wx (tgE e≠19)
noncomputable def Zk9(e:Expr):Bool:=Wx (tgE e≠8)
structure PsS where
 a:Expr:=default
 b:Expr:=default
 o:Option Expr:=Wu
 c:Option Expr:=Wu
 ts:List Expr:=[]
 xs:List Stmt:=[]
 ys:List Stmt:=[]
 zs:List Stmt:=[]
 hs:List ExceptHandler:=[]
 op:Operator:=.Add
 p:Pos:=default
 s:Stmt:=default
noncomputable def tgS:Stmt->Nat
 |.Return _ _=>1|.Assign _ _ _=>2|.AugAssign _ _ _ _=>3|.Expr _ _=>4|.If _ _ _ _=>5|.While _ _ _ _=>6|.For _ _ _ _ _=>7|.Pass _=>8|.Break _=>9|.Continue _=>10|.Raise _ _ _=>11|.Try _ _ _ _ _=>12|_=>0
noncomputable def prS(s:Stmt):PsS:=match s with
 |.Return o p=>{o:=o,p:=p}
 |.Assign ts a p=>{ts:=ts,a:=a,p:=p}
 |.AugAssign a op b p=>{a:=a,op:=op,b:=b,p:=p}
 |.Expr a p=>{a:=a,p:=p}
 |.If a xs ys p=>{a:=a,xs:=xs,ys:=ys,p:=p}
 |.While a xs ys p=>{a:=a,xs:=xs,ys:=ys,p:=p}
 |.For a b xs ys p=>{a:=a,b:=b,xs:=xs,ys:=ys,p:=p}
 |.Pass p=>{p:=p}
 |.Break p=>{p:=p}
 |.Continue p=>{p:=p}
 |.Raise o c p=>{o:=o,c:=c,p:=p}
 |.Try xs hs ys zs p=>{xs:=xs,hs:=hs,ys:=ys,zs:=zs,p:=p}
 |_=>{s:=s}
noncomputable def mkS(n:Nat)(p:PsS):Stmt:=match n with
 |1=>.Return p.o p.p|2=>.Assign p.ts p.a p.p|3=>.AugAssign p.a p.op p.b p.p|4=>.Expr p.a p.p|5=>.If p.a p.xs p.ys p.p|6=>.While p.a p.xs p.ys p.p|7=>.For p.a p.b p.xs p.ys p.p
 |8=>.Pass p.p|9=>.Break p.p|10=>.Continue p.p|11=>.Raise p.o p.c p.p|12=>.Try p.xs p.hs p.ys p.zs p.p|_=>p.s
def rbS(s:Stmt):mkS (tgS s) (prS s)=s:=by cases s<;>rfl
@[irreducible] def anS(n:Nat)(s:Stmt)(f:PsS->Bool):Bool:=Wx (tgS s=n)&&f (prS s)
section
variable {P:Stmt->Prop}{s:Stmt}
def Zbu(h:anS n s f=Wv)(k:∀p,f p=Wv->P (mkS n p)):P s:=by unfold anS at h;exact rbS s ▸ dS (P:=λm=>P (mkS m (prS s))) (bL h) (k _ (bR h))
noncomputable def oSm{α:Type}(o:Option α)(f:α->Bool):Bool:=match o with
 |some x=>f x
 |none=>Ww
def Zk8{α:Type}{P:Option α->Prop}{o:Option α}{f:α->Bool}(h:oSm o f=Wv)(k:∀x,f x=Wv->P (Ws x)):P o:=by
 cases o with
 |none=>exact ff h
 |some x=>exact k x h
noncomputable def oNo{α:Type}(o:Option α)(b:Bool):Bool:=o.isNone&&b
def Zo7{α:Type}{P:Option α->Prop}{o:Option α}(h:oNo o b=Wv)(k:b=Wv->P Wu):P o:=by
 cases o with
 |none=>exact k h
 |some x=>exact ff h
@[irreducible] def aAs(s:Stmt)(f:Expr->Expr->Bool):Bool:=anS 2 s λp=>l1 p.ts λg=>f g p.a
def ZmL(h:aAs s f=Wv)(k:∀g x q,f g x=Wv->P (.Assign [g] x q)):P s:=by unfold aAs at h;exact Zbu h λp h=>ZbE (P:=λts=>P (.Assign ts p.a p.p)) h λ_ h=>k _ _ _ h
end
noncomputable def ZxD(Γ:Gm)(C:Str)(e:Expr):Bool:=aX C e (Wx (C∈Γ.kl.xs)&&glb Γ C)
@[irreducible] def Zsz(Γ:Gm)(C:Str)(x:Expr)(f:Expr->Bool):Bool:=aCN C x λys=>l1 ys λy=>Wx (C∈Γ.kl.xs)&&(glb Γ C&&(ZbW y&&f y))
noncomputable def aTb(N:List Str)(own:Str->Bool)(i:Nat)(b:List Stmt)(f:Expr->Bool):Bool:=l1 b λs=>aAs s λg x=>Zla N own i g&&f x
def Zsb{P:List Stmt->Prop}(h:aTb N own i b f=Wv)(k:∀n p x q,N[i]? = Ws n->own n=Wv->f x=Wv->P [.Assign [.Name n p] x q]):P b:=ZbE h λ_ h=>ZmL (P:=λs=>P [s]) h λ_ x q h=>ZbX (P:=λg=>P [.Assign [g] x q]) (bL h) λ_ _ e1 e2=>k _ _ _ _ e1 e2 (bR h)
noncomputable def Zsy(Γ:Gm)(i:Nat)(C:Str)(hs:List ExceptHandler):Bool:=l1 hs λh=>match h with
 |.ExceptHandler t n b _=>oNo n (oSm t λt=>ZxD Γ C t&&aTb Γ.N (ownD Γ.sc) i b λx=>aK x λc=>Wx (c=.none))
def Zu0{P:List ExceptHandler->Prop}(h:Zsy Γ i C hs=Wv)(k:∀np n p j r q z,C∈Γ.kl.xs->glb Γ C=Wv->Γ.N[i]? = Ws n->ownD Γ.sc n=Wv->P [.ExceptHandler (Ws (.Name C np)) Wu [.Assign [.Name n p] (.Constant .none j r) q] z]):P hs:=
 ZbE h λy h=>match y,h with
  |.ExceptHandler t n b z,h=>Zo7 (P:=λn=>P [.ExceptHandler t n b z]) h λh=>Zk8 (P:=λt=>P [.ExceptHandler t Wu b z]) h λt h=>ZnR (P:=λt=>P [.ExceptHandler (Ws t) Wu b z]) (bL h) λnp hx=>Zsb (P:=λb=>P [.ExceptHandler (Ws _) Wu b z]) (bR h) λn p x q e1 e2 h=>Zv5 (P:=λx=>P [.ExceptHandler (Ws _) Wu [.Assign _ x q] z]) h λc j r h=>dS (P:=λc=>P [.ExceptHandler (Ws _) Wu [.Assign _ (.Constant c j r) q] z]) h (k np n p j r q z (of_decide_eq_true (bL hx)) (bR hx) e1 e2)
noncomputable def Zv7:Ex->Bool
 |.comp _ _ _ _ _ _|.any=>Wv
 |_=>Ww
mutual
noncomputable def Zwt(Γ:Gm):Sx->Stmt->Bool
 |.ret e,s=>anS 1 s λp=>oSm p.o λx=>chk Γ e x
 |.set g e,s=>aAs s λtg x=>ZrR Γ.N (ownD Γ.sc) g tg&&(chk Γ e x&&((Zek x&&(!isTup tg || Zk9 x)) || (Wx (tgE tg=6)&&Zv7 e)))
 |.put o i e,s=>aAs s λtg x=>aS tg λxo xi=>chk Γ o xo&&(chk Γ i xi&&(chk Γ e x&&(Zg5 xi&&Zek x)))
 |.aug i op e,s=>anS 3 s λp=>Zla Γ.N (ownD Γ.sc) i p.a&&(Wx (p.op=.Add)&&(Wx (op=.Add)&&chk Γ e p.b))
 |.drp e,s=>anS 4 s λp=>chk Γ e p.a&&Zek p.a
 |.iff c a b,s=>anS 5 s λp=>chkt Γ c p.a&&(chkSs Γ a p.xs&&chkSs Γ b p.ys)
 |.whl c b,s=>anS 6 s λp=>l0 p.ys (chkt Γ c p.a&&chkSs Γ b p.xs)
 |.forr g it b,s=>anS 7 s λp=>l0 p.ys (chki Γ it p.a p.b&&(Zcv p.b&&(ZrR Γ.N (ownD Γ.sc) g p.a&&chkSs Γ b p.xs)))
 |.pas,s=>anS 8 s λ_=>Wv
 |.brk,s=>anS 9 s λ_=>Wv
 |.cnt,s=>anS 10 s λ_=>Wv
 |.seta Cs o f e,s=>aAs s λtg x=>aA f tg λxo _=>chk Γ o xo&&(chk Γ e x&&(Zek x&&((Cs.all λC=>Wx (C∈Γ.kl.cs))&&Wx (f∈Γ.kl.ats))))
 |.auga Cs o f e,s=>anS 3 s λp=>Wx (p.op=.Add)&&aA f p.a λxo _=>chk Γ o xo&&(chk Γ e p.b&&((Cs.all λC=>Wx (C∈Γ.kl.cs))&&Wx (f∈Γ.kl.ats)))
 |.any,_=>Wv
 |.rai C e,s=>anS 11 s λp=>oNo p.c (oSm p.o λx=>Zsz Γ C x λy=>chk Γ e y)
 |.trs i f es C,s=>anS 12 s λp=>l0 p.ys (l0 p.zs (Zsy Γ i C p.hs&&aTb Γ.N (ownD Γ.sc) i p.xs λx=>aCN f x λys=>Wx (f∈Γ.fs)&&(glb Γ f&&(chks Γ es ys&&!ys.isEmpty))))
noncomputable def chkSs(Γ:Gm):Sxs->List Stmt->Bool
 |.nil,ss=>ss.isEmpty
 |.cons s r,ss=>match ss with
  |x::xs=>Zwt Γ s x&&chkSs Γ r xs
  |[]=>Ww
end
def ZT(Y:Yx)(H:Hp)(B:List Yi)(r:R (Fl×Ev))(D:Ends)(E:XK):Prop:=match r with
 |.bad=>False
 |.ok p h'=>∀H' μ',Gr H B H' μ'->RH Y H' μ' h'->match p.1 with
  |.nx=>∀σ',RS Y H' μ' p.2 σ'->D.nx σ' H'
  |.bk=>∀σ',RS Y H' μ' p.2 σ'->D.bk σ' H'
  |.ct=>∀σ',RS Y H' μ' p.2 σ'->D.ct σ' H'
  |.rt d=>∀v,RD Y H' μ' d v->D.rt v H'
 |.exc c h'=>∀H' μ' C,Gr H B H' μ'->RH Y H' μ' h'->Y.mg c=Ws (.ref C)->E (.ref C) Wu H'
section
variable {Y:Yx}{α β:Type}{rel:Hp->List Yi->α->β->Prop}{H H1:Hp}{B μ1:List Yi}{E:XK}{D:Ends}
def ZT.mono(g:Gr H B H1 μ1)(f:ZT Y H B r D E):ZT Y H1 μ1 r D E:=by
 cases r with
 |bad=>exact f
 |ok a h=>exact λH' μ' g'=>f H' μ' (g.trans g')
 |exc c h=>exact λH' μ' C g'=>f H' μ' C (g.trans g')
theorem ZT.bind(f:ZT Y H B (r.bind k) D E)
 (hk:∀a h1 b H1 μ1,r=.ok a h1->Gr H B H1 μ1->RH Y H1 μ1 h1->rel H1 μ1 a b->ZT Y H1 μ1 (k a h1) D E->Q1 b H1):Fin Y rel H B r Q1 E:=by
 cases r with
 |bad=>exact f
 |ok a h=>exact λb H' μ' g' rh rl=>hk a h b H' μ' rfl g' rh rl (ZT.mono g' f)
 |exc c h=>exact f
theorem ZT.ofO(f:ZT Y H B ((R.ofO o h).bind k) D E):∃a,o=Ws a/\ZT Y H B (k a h) D E:=by
 cases o with
 |none=>exact f.elim
 |some a=>exact⟨a,rfl,f⟩
theorem ZT.nx(f:ZT Y H B (.ok (.nx,S) h) D E)(rh:RH Y H B h)(rs:RS Y H B S Z):D.nx Z H:=f H B Gr.refl rh Z rs
def ZT.part(f:ZT Y H B (r.bind k) D E)
 (hk:∀p h1 H1 μ1,r=.ok p h1->Gr H B H1 μ1->RH Y H1 μ1 h1->ZT Y H1 μ1 (k p h1) D E->match p.1 with
  |.nx=>∀σ',RS Y H1 μ1 p.2 σ'->D1.nx σ' H1
  |.bk=>∀σ',RS Y H1 μ1 p.2 σ'->D1.bk σ' H1
  |.ct=>∀σ',RS Y H1 μ1 p.2 σ'->D1.ct σ' H1
  |.rt d=>∀v,RD Y H1 μ1 d v->D1.rt v H1):ZT Y H B r D1 E:=by
 cases r with
 |bad=>exact f
 |ok p h=>exact λH' μ' g' rh=>hk p h H' μ' rfl g' rh (ZT.mono g' f)
 |exc c h=>exact f
end
inductive SmS(Y:Yx)(E:XK)(m:Ev->Hd->R (Fl×Ev))(D:Ends)(Z:L2.St)(H:Hp):Prop
 |mk (S:Ev) (h:Hd) (B:List Yi) (rh:RH Y H B h) (rs:RS Y H B S Z) (f:ZT Y H B (m S h) D E):SmS Y E m D Z H
noncomputable def ZmX(T:Tb)(Y:Yx)(E:XK)(s:Sx):TS:=SmS Y E (xs1 T s)
noncomputable def ZlU(T:Tb)(Y:Yx)(E:XK)(s:Sxs):TS:=SmS Y E (xs2 T s)
theorem SmS.bind{D:Ends}{γ δ:Type}{rel:Hp->List Yi->γ->δ->Prop}{m:Ev->Hd->R γ}{k:Ev->γ->Hd->R (Fl×Ev)}{Q1:δ->Hp->Prop}(s:SmS Y E (λS h=>(m S h).bind (k S)) D Z H)
 (hk:∀S d h1 v H1 μ1,RH Y H1 μ1 h1->RS Y H1 μ1 S Z->rel H1 μ1 d v->ZT Y H1 μ1 (k S d h1) D E->Q1 v H1):Sm Y E rel m Z H Q1:=by
 cases s with
 |mk S h B rh rs f=>exact⟨S,h,B,rh,rs,f.bind λd h1 x H1 μ1 _ g rh1 rd f1=>hk S d h1 x H1 μ1 rh1 (rs.mono rh g) rd f1⟩
def Sm.at{α β:Type}{rel:Hp->List Yi->α->β->Prop}{m:Ev->Hd->R α}{Q1:β->Hp->Prop}{Q:Prop}(s:Sm Y E rel m Z H Q1)(hk:∀S h B,RH Y H B h->RS Y H B S Z->Fin Y rel H B (m S h) Q1 E->Q):Q:=by
 cases s with
 |mk S h B rh rs f=>exact hk S h B rh rs f
def SmS.at{D:Ends}{Q:Prop}(s:SmS Y E m D Z H)(hk:∀S h B,RH Y H B h->RS Y H B S Z->ZT Y H B (m S h) D E->Q):Q:=by
 cases s with
 |mk S h B rh rs f=>exact hk S h B rh rs f
def _root_.L2.PS.imp(h:PS X s t)(i:∀D Z H,t' D Z H->t D Z H):PS X s t':=λpins s Z H D I q=>h pins s Z H D I (i D Z H q)
def _root_.L2.PSs.imp(h:PSs X s t)(i:∀D Z H,t' D Z H->t D Z H):PSs X s t':=λpins s Z H D I q=>h pins s Z H D I (i D Z H q)
structure XOk(K:Yk)(a:Yi):Prop extends ExcN K a where
 own:PySem.W.excIn K a [.type "ValueError",.type "Exception",.type "BaseException",.type "object"] "ValueError.__new__" = Wv
 sub:YV K (.ref a) (.ref a)=Ws Wv
structure GdS(T:Tb)(Γ:Gm)(X:Cx)(Y:Yx)(E:XK)(k:Nat):Prop extends Gd T Γ X Y E k where
 top:Γ.top=Wv
 fnt:∀x,X.fn x=Wv
 own:PassesOwn (model X.prog X.w) X.A X.env X.xe
 bk:X.env.blockKind=.function
 rz:Zjr X E
 stk:X.stack=X.env::X.outer
 frm:X.env.frame=Ws X.env.locals
 xcs:∀C∈Γ.kl.xs,∃a,X.mg C=Ws (.ref a)/\XOk X.K a
theorem GdS.ownD(G:GdS T Γ X Y E k):∀x,ownD Γ.sc x=Wv->Loc X.env.scope x/\(X.fn x=Wv\/X.env.scope.names.lookup x=Ws .local):=by intro x h;refine⟨?_,.inl (G.fnt x)⟩;unfold IV.ownD at h;rw[G.sc G.top];rw[Wr]at h;exact h.imp of_decide_eq_true of_decide_eq_true
def Ze4(h:Zek x=Wv):swapsWith x t n env=pure Ww:=(kdE x).sw (of_decide_eq_true (bL h)) (of_decide_eq_true (bR h)) _ _ _
def Zoo(G:GdS T Γ X Y E k)(hi:Γ.N[i]? = Ws y)(ho:ownD Γ.sc y=Wv)(hx:Zv7 e=Wv)(h:chk Γ e x=Wv):PS X (.Assign [.Name y py] x spos) (ZkL (Zah T Y E e) (Zdn i)):=by
 obtain⟨o1,o2⟩:=G.ownD y ho;have hy:X.N[i]? = Ws y:=by rw[G.N];exact hi
 cases e with
 |comp NC js it g c e=>
  refine Zsp h (λelt tg iter ifs scope q h pe=>?_) (Zm _ G.toGd h);cases sw:(X.env.blockKind==.function&&X.env.kindOf y==Ws .local&&py.line==q.line&&!(scope.names.any λ(n,k)=>n==y&&(k==.local || k==.cell)))with
  |true=>
   have S_:=Zkl (bL (bR h));rw[<- G.N,<- G.sc (bL h)]at S_;have Gc:=λ(pins:List (Yi×Obj)) (Z:L2.St) (C:Yi) (s3:Yb) (H3:Hp) (fp:List Yi) (i3:Inv X pins Z H3 s3) (j3:∀b∈fp,Zb5 X pins H3 b) (k3:C=s3.heap.objs.size)=>G.toGd.comp NC scope C s3 H3 fp S_.nd (G.passC (bL h) pins Z NC scope C s3 H3 fp i3 j3 k3);have h':=bR (bR h);exact(Zk2 (g:=tgR X.K g) (tc:=Sm Y E eqR (tsto T c)) (te:=Zah T Y E e) G.nd hy o1 o2 S_ rfl G.calm (evi_ok it G.toGd (bL h')) (λpins Z C s3 H3 fp i3 j3 k3=>⟨Zl6 rfl S_.nd rfl (λx hx=>Zl9 (scope:=scope) X hx) (bL (bR (bR h'))),ifs_ok c (Gc pins Z C s3 H3 fp i3 j3 k3) (bL (bR (bR (bR (bR h'))))),Zm e (Gc pins Z C s3 H3 fp i3 j3 k3) (bR (bR (bR (bR (bR h')))))⟩) (Zu1 X.K g) (λj hj=>of_decide_eq_true (OC.mp (bL (bR (bR (bR h')))) j (List.mem_range.mpr hj))) (ZkO X.env (bL (bR h'))) (congrArg pure sw)).imp
    λD Z H s=>Sm.bind s λS w h1 J H1 μ1 rh1 rs1 wj f1 D hD=>ZmC G.gk.K (λ_ _ _ z=>z) rh1 rs1 wj f1 hD
  |false=>exact Zk3 G.nd hy o1 pe (congrArg pure sw) o2
 |any=>exact λpins s Z H D I s=>Sm.at s λ_ _ _ _ _ f=>f.elim
 |_=>exact ff hx
def ZlT(ht:isTup tg=Wv)(pg:PG X tg g)(he:PE X x te)(h3:(Zek x&&(!isTup tg || Zk9 x))=Wv):PS X (.Assign [tg] x pos) (ZkL te g):=Zss (P:=λtg=>PG X tg g->(!isTup tg || Zk9 x)=Wv->PS X (.Assign [tg] x pos) (ZkL te g)) ht (λ_ _ _ pg h3=>ZoN he pg (by unfold swapsWithSole;exact Ze4 (bL ‹_›)) ((kdE x).st (of_decide_eq_true h3) _ _ _ _) rfl) pg (bR h3)
def ZuA{T:Tb}(G:Gd T Γ X Y E k)(hc:(Cs.all λC=>Wx (C∈Γ.kl.cs))=Wv)(hf:f∈Γ.kl.ats){D:Ends}(rh1:RH Y H1 μ1 h1)(rs1:RS Y H1 μ1 S Z)(rd:RD Y H1 μ1 d x)
 (f1:ZT Y H1 μ1 ((ZfY Cs f d h1).bind λv h2=>(ev T e S h2).bind λy h3=>match v,y with
  |.int a,.int b=>if (Zaf d h1).map (·.1)=(Zaf d h3).map (·.1)then(ZfN Cs f d (.int (a+b)) h3).bind λ_ h4=>.ok (.nx,S) h4 else .bad
  |_,_=>.bad) D E) :
 ∃a C dx fs v,x=.ref a/\H1 a=Ws (.ins C dx fs)/\Cls X.K C/\Zbv X.K C f/\fs.lookup f=Ws v /\
  Zah T Y E e Z H1 λy H2=>Zvu v y H2 λz H3=>∃dx' fs',H3 a=Ws (.ins C dx' fs')/\fs'.length<1000/\D.nx Z (upd H3 a (.ins C dx' (Zcu f z fs'))):=by
 unfold ZfY at f1;cases ei:Zaf d h1 with
 |none=>rw[ei]at f1;exact f1.elim
 |some p=>
  obtain⟨C,fs⟩:=p;rw[ei]at f1;simp only at f1;by_cases hC:C∈Cs
  . rw[if_pos hC]at f1;obtain⟨w,e1,f1⟩:=f1.ofO;obtain⟨i,a,Ca,dx,gs,rfl,rfl,q,hi,z,m,s⟩:=Zhc rh1 rd ei;obtain⟨v,l,rv⟩:=(s.look (f:=f)).1 w e1;have hc':=hc;rw[OC]at hc';obtain⟨Ca',m',cl,na⟩:=G.cls C (of_decide_eq_true (hc' C hC));have m0:=m;rw[G.gk.mg,m']at m;cases m;refine⟨a,Ca,dx,gs,v,rfl,z,cl,na f hf,l,S,h1,μ1,rh1,rs1,ZT.bind f1 λy h3 u H3 μ3 _ g3 rh3 ry f3=>?_⟩;cases w with
    |int p=>
     cases y with
     |int r=>
      cases rv;cases ry;refine⟨p,r,rfl,rfl,?_⟩;simp only at f3;by_cases hk:Option.map (·.1) (Ws (C,fs))=(Zaf (.ref i) h3).map (·.1)
      . rw[if_pos hk]at f3;obtain⟨a',C',dx',fs',e4,z',_,_,l',nx⟩:=Zon (Q:=λ_ H'=>D.nx Z H') G hc hf rh3 (rd.mono rh1 g3) (.int _) (ZT.bind f3 λ_ h4 _ H4 μ4 _ g4 rh4 _ f4=>f4.nx rh4 ((rs1.mono rh1 g3).mono rh3 g4));cases e4;cases e5:Zaf (.ref i) h3 with
        |none=>rw[e5]at hk;cases hk
        |some p3=>obtain⟨C3,fs3⟩:=p3;rw[e5]at hk;cases hk;obtain⟨i3,a3,Ca3,dx3,gs3,e6,e7,_,_,z3,m3,_⟩:=Zhc rh3 (rd.mono rh1 g3) e5;cases e7;rw[m0]at m3;cases m3;rw[z']at z3;cases z3;exact⟨dx',fs',z',l',nx⟩
      . rw[if_neg hk]at f3;exact f3.elim
     |_=>exact f3.elim
    |_=>exact f3.elim
  . rw[if_neg hC]at f1;exact f1.elim
theorem _root_.IV.Gd.nox(G:Gd T Γ X Y E k):Gd T Γ X.nox Y E0 k:=⟨⟨G.gk.K,G.gk.mg,G.gk.gd,G.gk.g,G.gk.bare⟩,G.N,G.sc,G.vis,G.glo,G.nd,G.calm,G.room,G.h60,Zia,G.defs,G.blt,G.room1,λ_ _ _ _ _ _ _ _ _ _ _ _=>Zia,G.cls,G.mts,G.mks⟩
def ZnN(f:Fin Y rel H B r.plain Q E):Fin Y rel H B r Q E0:=by
 cases r with
 |bad=>exact f.elim
 |ok a h=>exact f
 |exc c h=>exact f.elim
def Zl8{D D1:Ends}{k:Ev->Hd->R (Fl×Ev)}(f:ZT Y H B (r.bind λp h2=>match p with
 |(.nx,ρ2)=>k ρ2 h2
 |(.ct,ρ2)=>k ρ2 h2
 |(.bk,ρ2)=>.ok (.nx,ρ2) h2
 |(.rt d,ρ2)=>.ok (.rt d,ρ2) h2) D E) (hn:∀ρ2 h2 H2 μ2 σ',Gr H B H2 μ2->RH Y H2 μ2 h2->RS Y H2 μ2 ρ2 σ'->ZT Y H2 μ2 (k ρ2 h2) D E->D1.nx σ' H2) (hc:D1.ct=D1.nx) (hb:D1.bk=D.nx) (hr:D1.rt=D.rt):ZT Y H B r D1 E:=
 ZT.part f λp h2 H2 μ2 _ g2 rh2 f2=>by
  obtain⟨fl,ρ2⟩:=p;cases fl with
  |nx=>exact λσ' rs'=>hn ρ2 h2 H2 μ2 σ' g2 rh2 rs' f2
  |ct=>rw[hc];exact λσ' rs'=>hn ρ2 h2 H2 μ2 σ' g2 rh2 rs' f2
  |bk=>rw[hb];exact λσ' rs'=>ZT.nx f2 rh2 rs'
  |rt d=>rw[hr];exact λv rv=>f2 H2 μ2 Gr.refl rh2 v rv
def ZsJ{D:Ends}(s:ZmX T Y E (.whl c b) D Z H):Zod (ZkQ T Y E c) (ZlU T Y E b) D Z H:=by
 refine⟨λm=>SmS Y E (Zag (tst T c) (xs2 T b) m) D,⟨T.L,s⟩,λm Z H s=>?_⟩;cases m with
 |zero=>exact SmS.at s λ_ _ _ _ _ f=>f.elim
 |succ m=>
  refine SmS.bind s λS t h1 v H1 μ1 rh1 rs1 rd f1=>?_;cases rd;cases t with
  |false=>exact Zj6 (ZT.nx f1 rh1 rs1)
  |true=>exact Zj5 ⟨SmS Y E (Zag (tst T c) (xs2 T b) m) D,λσ' H' q=>⟨m,OH m,q⟩,S,h1,μ1,rh1,rs1,Zl8 f1 (λρ2 h2 H2 μ2 σ' _ rh2 rs2 f2=>⟨ρ2,h2,μ2,rh2,rs2,f2⟩) rfl rfl rfl⟩
inductive FwS(Y:Yx)(E:XK)(H1:Hp)(μ1:List Yi)(n i:Nat)(F:Ev->Hd->R (Fl×Ev))(D:Ends)(m:Nat)(Z:L2.St)(H:Hp):Prop
 |mk (S:Ev) (h:Hd) (B:List Yi) (hi:i<=n) (hm:m=n - i) (g:Gr H1 μ1 H B) (rh:RH Y H B h) (rs:RS Y H B S Z) (f:ZT Y H B (F S h) D E):FwS Y E H1 μ1 n i F D m Z H
def Zuj{K:Yk}{g:Tg}{D:Ends}(hY:Y.K=K)(rh1:RH Y H1 μ1 h1)(rs1:RS Y H1 μ1 S Z)(wj:WJ Y H1 μ1 w J)(f1:ZT Y H1 μ1 (ZK w.src g (xs2 T b) w.xs S h1) D E):∃W:Nat->Nat->L2.St->Hp->Prop,(∃m,W 0 m Z H1)/\∀i m Z H,W i m Z H ->
 (J.stop i H/\D.nx Z H)\/(J.go i H/\∃B_:L2.St->Hp->Prop,(∀σ' H',B_ σ' H'->∃m',m'<m/\W (i+1) m' σ' H')/\∀x H',J.yld i H x H'->tgR K g x Z H' λσ' H''=>ZlU T Y E b {D with nx:=B_,ct:=B_,bk:=D.nx} σ' H''):=by
 refine⟨λi=>FwS Y E H1 μ1 w.xs.length i (λS=>ZK w.src g (xs2 T b) (w.xs.drop i) S) D,⟨w.xs.length,S,h1,μ1,Yw _,(Nat.sub_zero _).symm,Gr.refl,rh1,rs1,f1⟩,λi m Z H s=>?_⟩;cases s with
 |mk S h B hi hm g0 rh rs f=>
  subst hm;by_cases hs:Wk.stays w.src h=Wv
  . by_cases hlt:i<w.xs.length
    . have hd:=Og hlt;rw[List.drop_eq_getElem_cons hlt,ZK,if_pos hs]at f;obtain⟨go,yl⟩:=(wj H B h g0 rh hs).1 i _ hd;refine .inr ⟨go,FwS Y E H1 μ1 w.xs.length (i+1) (λS=>ZK w.src g (xs2 T b) (w.xs.drop (i+1)) S) D (w.xs.length - (i+1)),λσ' H' q=>⟨_,Nat.sub_lt_sub_left hlt (OH i),q⟩,λx H' hy=>?_⟩;obtain⟨g2,rh2,rx⟩:=yl x H' hy;split at f
      . exact f.elim
      . rename_i ρ1 hb;exact Zjc hY rx (rs.mono rh g2) hb λσ1 rs1=>⟨ρ1,h,B,rh2,rs1,Zl8 (ZT.mono g2 f) (λρ2 h3 H3 μ3 σ' g3 rh3 rs3 f3=>⟨ρ2,h3,μ3,hlt,rfl,(g0.trans g2).trans g3,rh3,rs3,f3⟩) rfl rfl rfl⟩
    . have he:i=w.xs.length:=Nat.le_antisymm hi (Nat.le_of_not_lt hlt);subst he;rw[List.drop_eq_nil_of_le (Oq _),ZK,if_pos hs]at f;exact .inl ⟨(wj H B h g0 rh hs).2,ZT.nx f rh rs⟩
  . cases e:w.xs.drop i with
    |nil=>rw[e,ZK,if_neg hs]at f;exact f.elim
    |cons _ _=>rw[e,ZK,if_neg hs]at f;exact f.elim
def ZsO{X:Cx}{D:Ends}(m:Y.mg C=Ws (.ref ca))(xo:XOk X.K ca)(s:ZmX T Y E (.trs i f es C) D Z H):Zsd X.K (ZfM T Y f) ca i (λ_ _ D Z H=>D.nx (Z.set i (Ws .non)) H) (ZkR T Y E0 es) D Z H:=by
 cases s with
 |mk S h B rh rs ff=>
  refine⟨S,h,B,rh,rs,ZnN (ZT.bind ff λds h1 vs H1 μ1 _ g1 rh1 rds f1=>⟨ds,h1,μ1,rh1,rds,?_⟩)⟩;have rs1:=rs.mono rh g1;cases q:T.C f ds h1 with
  |bad=>rw[q]at f1;exact f1.elim
  |ok w h2=>rw[q]at f1;exact λb H' μ' g2 rh2 rb=>f1 H' μ' g2 rh2 _ ((rs1.mono rh1 g2).set rb)
  |exc w h2=>
   rw[q]at f1;unfold ZhA at f1;by_cases e:w=C
   . subst e;simp only[if_true]at f1;intro H' μ' C' g2 rh2 mc;rw[m]at mc;cases mc;exact⟨ca,rfl,xo.sub,λa oe=>f1 H' μ' g2 rh2 _ ((rs1.mono rh1 g2).set .non)⟩
   . simp only[if_neg e]at f1;exact f1.elim
def ZsR(G:GdS T Γ X Y E k)(hf:f∈Γ.fs)(hgf:glb Γ f=Wv)(hxs:C∈Γ.kl.xs)(hg:glb Γ C=Wv)(hn:Γ.N[i]? = Ws n)(hn':Γ.N[i]? = Ws n')(hown:ownD Γ.sc n=Wv)(h4:chks Γ es (y::ys)=Wv)(ha:PA X.nox (y::ys) (ZkR T Y E0 es)):
 PS X (.Try [.Assign [.Name n px] (.Call (.Name f fp) (y::ys) [] cp) ap] [.ExceptHandler (Ws (.Name C np)) Wu [.Assign [.Name n' px'] (.Constant .none j r) pos'] z] [] [] pos) (ZmX T Y E (.trs i f es C)):=by
 obtain rfl:n=n':=YF (hn.symm.trans hn');obtain⟨ps,hd⟩:=G.defs _ hf;obtain⟨g1,g2⟩:=G.gl hgf;obtain⟨c1,c2⟩:=G.gl hg;obtain⟨ca,m,xo⟩:=G.xcs _ hxs;obtain⟨o1,o2⟩:=G.ownD _ hown;have hi:X.N[i]? = Ws n:=by rw[G.N];exact hn
 exact(Zna hd G.room g1 ha c1 m xo.toExcN G.nd hi o1 o2 G.stk G.frm (λa oe=>(ZqE (Zk3 (X:=cxH X a oe) G.nd hi o1 ZoT rfl o2)).imp λD Z H q=>q) g2 c2 (Zdr X.env h4).1 ((Zdr X.env h4).2 _) rfl).imp λD Z H s=>ZsO (by rw[G.gk.mg];exact m) xo s
mutual
theorem Zvc(s:Sx){Γ:Gm}{X:Cx}{E:XK}{k:Nat}{x:Stmt}(G:GdS T Γ X Y E k)(h:Zwt Γ s x=Wv):PS X x (ZmX T Y E s):=match s,h with
 |.ret e,h=>Zbu (P:=λx=>PS X x _) h λp h=>Zk8 (P:=λo=>PS X (.Return o p.p) _) h λy h=>(Ztl (Zm e G.toGd h)).imp λD Z H s=>SmS.bind s λS d h1 v H1 μ1 rh1 rs1 rd f1=>f1 H1 μ1 Gr.refl rh1 v rd
 |.set g e,h=>ZmL (P:=λx=>PS X x _) h λtg xe pos h=>by
  have fin:∀{D:Ends}{Z:L2.St}{H:Hp},ZmX T Y E (.set g e) D Z H->ZkL (Zah T Y E e) (tgR X.K g) D Z H:=λ{D Z H} s=>SmS.bind s λS d h1 v H1 μ1 rh1 rs1 rd f1=>by obtain⟨ρ1,eb,f1⟩:=f1.ofO;exact Zjc G.gk.K rd rs1 eb λσ1 rs2=>f1.nx rh1 rs2
  have pg:=Zl6 (X:=X) G.N G.nd G.calm G.ownD (bL h);refine bO (bR (bR h)) (λh3=>?_) λh3=>?_
  . cases g with
    |nm i=>exact ZbX (P:=λt=>PS X (.Assign [t] _ _) _) (bL h) λy py e1 e2=>(Zk3 G.nd (by rw[G.N];exact e1) (G.ownD y e2).1 (Zm e G.toGd (bL (bR h))) (Ze4 (bL h3)) (G.ownD y e2).2).imp λD Z H q=>fin q
    |two i j=>exact(ZlT (Zjw (P:=λt=>isTup t=Wv) (show ZmG Γ.N (ownD Γ.sc) i j tg=Wv from bL h) λ_ _ _ _=>rfl) pg (Zm e G.toGd (bL (bR h))) h3).imp λD Z H q=>fin q
    |many is=>exact(ZlT (Zjw (P:=λt=>isTup t=Wv) (show ZmF Γ.N (ownD Γ.sc) is tg=Wv from bL h) λ_ _ _ _=>rfl) pg (Zm e G.toGd (bL (bR h))) h3).imp λD Z H q=>fin q
  . cases g with
    |nm i=>exact ZbX (P:=λt=>PS X (.Assign [t] _ _) _) (bL h) λy py e1 e2=>(Zoo G e1 e2 (bR h3) (bL (bR h))).imp λD Z H q=>fin q
    |two i j=>exact ff (Zjw (P:=λt=>Wx (tgE t=6)=Wv->Ww=Wv) (show ZmG Γ.N (ownD Γ.sc) i j tg=Wv from bL h) (λ_ _ _ _ z=>z) (bL h3))
    |many is=>exact ff (Zjw (P:=λt=>Wx (tgE t=6)=Wv->Ww=Wv) (show ZmF Γ.N (ownD Γ.sc) is tg=Wv from bL h) (λ_ _ _ _ z=>z) (bL h3))
 |.put o i e,h=>ZmL (P:=λx=>PS X x _) h λtg xe p2 h=>Zs1 (P:=λt=>PS X (.Assign [t] _ _) _) h λxo xi p1 h=>
  (ZoN (pos:=p2) (Zm e G.toGd (bL (bR (bR h)))) (Zts (pos:=p1) (Zm o G.toGd (bL h)) (Zm i G.toGd (bL (bR h))) (Ztj (Y:=Y) (E:=E)) ((kdE xi).put (of_decide_eq_true (bL (bR (bR (bR h))))) _ _ _)) (by unfold swapsWithSole;exact Ze4 (bR (bR (bR (bR h))))) rfl rfl).imp λD Z H s=>SmS.bind s λS d h1 v H1 μ1 rh1 rs1 rd f1=>
   ⟨S,h1,μ1,rh1,rs1,f1.bind λd2 h2 v2 H2 μ2 _ g2 rh2 rd2 f2=>⟨S,h2,μ2,rh2,rs1.mono rh1 g2,f2.bind λd3 h3 v3 H3 μ3 _ g3 rh3 rd3 f3=>⟨d2,d3,d,h3,μ3,rh3,rd2.mono rh2 g3,rd3,(rd.mono rh1 g2).mono rh2 g3,f3.bind λ_ h4 _ H4 μ4 _ g4 rh4 _ f4=>f4.nx rh4 (((rs1.mono rh1 g2).mono rh2 g3).mono rh3 g4)⟩⟩⟩
 |.aug i op e,h=>Zbu (P:=λx=>PS X x _) h λp h=>ZbX (P:=λa=>PS X (.AugAssign a _ _ _) _) (bL h) λy py e1 e2=>dS (P:=λo=>PS X (.AugAssign _ o _ _) _) (bL (bR h)) <| dS (P:=λo=>PS X _ (ZmX T Y E (.aug i o e))) (bL (bR (bR h))) <|
  (Zto G.nd (by rw[G.N];exact e1) (G.ownD _ e2).1 (Zm e G.toGd (bR (bR (bR h)))) Zud (G.ownD _ e2).2).imp λD Z H s=>SmS.at s λS h B rh rs f=>by
   obtain⟨d,ed,f⟩:=ZT.ofO f;obtain⟨v,ev,rd⟩:=rs.var ed;refine⟨v,ev,S,h,B,rh,rs,ZT.bind f λd2 h2 v2 H2 μ2 _ g2 rh2 rd2 f2=>?_⟩;cases rd with
   |int a=>
    cases rd2 with
    |int b=>exact⟨a,b,rfl,rfl,ZT.nx f2 rh2 ((rs.mono rh g2).set (.int _))⟩
    |_=>exact f2.elim
   |_=>exact f2.elim
 |.drp e,h=>Zbu (P:=λx=>PS X x _) h λp h=>(ZqH (Zm e G.toGd (bL h)) (Ze4 (bR h))).imp λD Z H s=>SmS.bind s λS d h1 v H1 μ1 rh1 rs1 rd f1=>f1.nx rh1 rs1
 |.iff c a b,h=>Zbu (P:=λx=>PS X x _) h λp h=>(Zvx (tst_ok c G.toGd (bL h)) (sts_ok a G (bL (bR h))) (sts_ok b G (bR (bR h)))).imp λD Z H s=>SmS.bind s λS t h1 v H1 μ1 rh1 rs1 rd f1=>by
  cases rd;cases t with
  |true=>exact Zj5 ⟨S,h1,μ1,rh1,rs1,f1⟩
  |false=>exact Zj6 ⟨S,h1,μ1,rh1,rs1,f1⟩
 |.whl c b,h=>Zbu (P:=λx=>PS X x _) h λp h=>Zif (P:=λys=>PS X (.While _ _ ys _) _) h λh=>(ZoK G.own (tst_ok c G.toGd (bL h)) (sts_ok b G (bR h))).imp λD Z H s=>ZsJ s
 |.forr g it b,h=>Zbu (P:=λx=>PS X x _) h λp h=>Zif (P:=λys=>PS X (.For _ _ _ ys _) _) h λh=>(Ztm G.own G.calm (evi_ok it G.toGd (bL h)) (Zl6 (X:=X) G.N G.nd G.calm G.ownD (bL (bR (bR h)))) (sts_ok b G (bR (bR (bR h)))) (ZkO X.env (bL (bR h)))).imp λD Z H s=>SmS.bind s λS w h1 J H1 μ1 rh1 rs1 wj f1=>Zuj G.gk.K rh1 rs1 wj f1
 |.pas,h=>Zbu (P:=λx=>PS X x _) h λp h=>ZqG.imp λD Z H s=>SmS.at s λS h B rh rs f=>ZT.nx f rh rs
 |.brk,h=>Zbu (P:=λx=>PS X x _) h λp h=>ZoM.imp λD Z H s=>SmS.at s λS h B rh rs f=>f H B Gr.refl rh Z rs
 |.cnt,h=>Zbu (P:=λx=>PS X x _) h λp h=>ZjO.imp λD Z H s=>SmS.at s λS h B rh rs f=>f H B Gr.refl rh Z rs
 |.any,h=>λpins s Z H D I s=>SmS.at s λS h B rh rs f=>f.elim
 |.rai C e,h=>Zbu (P:=λx=>PS X x _) h λp h=>Zo7 (P:=λc=>PS X (.Raise _ c _) _) h λh=>Zk8 (P:=λo=>PS X (.Raise o _ _) _) h λx h=>by
  unfold Zsz at h;exact ZeK (P:=λx=>PS X (.Raise (Ws x) _ _) _) h λnp ys q h=>ZbE (P:=λys=>PS X (.Raise (Ws (.Call _ ys _ _)) _ _) _) h λy h=>by obtain⟨ca,m,xo⟩:=G.xcs _ (of_decide_eq_true (bL h));have st:=ZA (xs:=[]) X.env (bL (bR (bR h)));exact(ZoL G.rz G.calm PySem.F.excBase_ValueError (G.gl (bL (bR h))).1 m xo.own (Zc5 (Zm e G.toGd (bR (bR (bR h)))) ZeN st) (G.gl (bL (bR h))).2 st rfl).imp λD Z H s=>SmS.bind s λS d h1 v H1 μ1 rh1 rs1 rd f1=>⟨by show 1<=sizeLine;decide,f1 H1 μ1 ca Gr.refl rh1 (by rw[G.gk.mg];exact m)⟩
 |.trs i f es C,h=>Zbu (P:=λx=>PS X x _) h λp h=>Zif (P:=λys=>PS X (.Try p.xs p.hs ys p.zs p.p) _) h λh=>Zif (P:=λzs=>PS X (.Try p.xs p.hs [] zs p.p) _) h λh=>Zu0 (P:=λhs=>PS X (.Try p.xs hs [] [] p.p) _) (bL h) λnp n' px' j r pos' z hxs hg hn' _=>
  Zsb (P:=λxs=>PS X (.Try xs _ [] [] p.p) _) (bR h) λn px xe ap hn hown h5=>ZeK (P:=λx=>PS X (.Try [.Assign [.Name n px] x ap] _ [] [] p.p) _) h5 λfp ys cp h5=>ZpR (P:=λys=>PS X (.Try [.Assign [.Name n px] (.Call (.Name f fp) ys [] cp) ap] _ [] [] p.p) _) (bL (bR (bR h5))) (bR (bR (bR h5))) λy ys h4=>ZsR G (of_decide_eq_true (bL h5)) (bL (bR h5)) hxs hg hn hn' hown h4 (evs_ok es G.toGd.nox h4)
 |.seta Cs o f e,h=>ZmL (P:=λx=>PS X x _) h λtg xe pos h=>Zr5 (P:=λt=>PS X (.Assign [t] _ _) _) h λxo q h=>(Ztn (Zm o G.toGd (bL h)) (Zm e G.toGd (bL (bR h))) (Ze4 (bL (bR (bR h))))).imp λD Z H s=>SmS.bind s λS d h1 v H1 μ1 rh1 rs1 rd f1=>⟨S,h1,μ1,rh1,rs1,ZT.bind f1 λd2 h2 v2 H2 μ2 _ g2 rh2 rd2 f2=>Zon (Q:=λ_ H'=>D.nx Z H') G.toGd (bL (bR (bR (bR h)))) (of_decide_eq_true (bR (bR (bR (bR h))))) rh2 rd2 (rd.mono rh1 g2) (ZT.bind f2 λ_ h3 _ H3 μ3 _ g3 rh3 _ f3=>f3.nx rh3 ((rs1.mono rh1 g2).mono rh2 g3))⟩
 |.auga Cs o f e,h=>Zbu (P:=λx=>PS X x _) h λp h=>dS (P:=λo=>PS X (.AugAssign _ o _ _) _) (bL h) <| Zr5 (P:=λt=>PS X (.AugAssign t _ _ _) _) (bR h) λxo q h=>(Znb (Zm o G.toGd (bL h)) (Zm e G.toGd (bL (bR h))) Zue).imp λD Z H s=>SmS.bind s λS d h1 x H1 μ1 rh1 rs1 rd f1=>ZuA G.toGd (bL (bR (bR h))) (of_decide_eq_true (bR (bR (bR h)))) rh1 rs1 rd f1
theorem sts_ok(s:Sxs){Γ:Gm}{X:Cx}{E:XK}{k:Nat}{x:List Stmt}(G:GdS T Γ X Y E k)(h:chkSs Γ s x=Wv):PSs X x (ZlU T Y E s):=match s,x,h with
 | .nil,[],h=>ZqF.imp fun D Z H s=>SmS.at s fun S h B rh rs f=>ZT.nx f rh rs
 | .nil,_::_,h=>ff h
 | .cons s r,[],h=>ff h
 | .cons s r,x::xs,h=>(ZoJ (Zvc s G (bL h)) (sts_ok r G (bR h))).imp fun D Z H s=>SmS.at s fun S h B rh rs f=>⟨S,h,B,rh,rs,ZT.part f fun p h1 H1 μ1 _ g1 rh1 f1=>by
     obtain ⟨fl,ρ1⟩:=p;cases fl with
     | nx=>exact fun σ' rs'=>⟨ρ1,h1,μ1,rh1,rs',f1⟩
     | bk=>exact fun σ' rs'=>f1 H1 μ1 Gr.refl rh1 σ' rs'
     | ct=>exact fun σ' rs'=>f1 H1 μ1 Gr.refl rh1 σ' rs'
     | rt d=>exact fun v rv=>f1 H1 μ1 Gr.refl rh1 v rv⟩
end
set_option tactic.hygienic false
structure BodyOk(K:Yk)(kl:Kl)(fs:List Str)(x q:Str)(fd:Fd)(st:Stmt)(f:Yi)(fdd:FuncData):Prop where
 fn:Fun K x q st f fdd
 sc:FnScope fd.N fd.ps (ZZ st)
 hb:∀(kV doc pm:Yj) (an:Option Yi) (cdv ct:Yj) (us:List Yj),us.length=fd.ps.length->bindArgs (PySem.W.fnOf x q (Zeq st) (Zco st) (ZZ st) .none kV doc pm an cdv ct) ⟨us,[]⟩=pure (fd.ps.zip us)
 ck:chkSs ⟨fd.N,ZZ st,fs,Wv,kl⟩ fd.body (Zco st)=Wv
structure DefOk(K:Yk)(mg:Str->Option Yj)(kl:Kl)(fs:List Str)(x:Str)(fd:Fd)(st:Stmt)(f:Yi)(fdd:FuncData):Prop where
 bd:BodyOk K kl fs x x fd st f fdd
 mg:mg x=Ws (.ref f)
structure Md(Pr:Yh)(w:Yg)(K:Yk)(mg:Str->Option Yj)(P:Pg)(kl:Kl):Prop where
 bare:ZcQ K=Wv
 gd:∀x kvs,P.GD x=Ws kvs->∃a kvs',mg x=Ws (.ref a)/\DkK Pr w K a kvs'/\∀H B,RKs ⟨K,mg⟩ H B kvs kvs'
 g:∀x d,P.G x=Ws d->∃v u,mg x=Ws u/\RelV v u/\∀H B,RD ⟨K,mg⟩ H B d v
 blt:∀x∈(["len", "isinstance", "int", "tuple", "list", "sum", "all", "sorted", "range", "enumerate", "reversed", "str", "bool", "max"]:List Str),mg x=Wu
 defs:∀x fd,P.tb.lookup x=Ws fd->∃st f fdd,DefOk K mg kl (P.tb.map (·.1)) x fd st f fdd
 cls:∀C∈kl.cs,∃a,mg C=Ws (.ref a)/\Cls K a/\∀f∈kl.ats,Zbv K a f
 mts:∀p∈kl.ms,∃a f fdd fd st q,mg p.1=Ws (.ref a)/\Cls K a/\Meth K a p.2 f/\P.look (mnm p.1 p.2)=Ws fd/\BodyOk K kl (P.tb.map (·.1)) p.2 q fd st f fdd
 mks:∀C∈kl.is,∃a f fdd fd st q,mg C=Ws (.ref a)/\Mk K a f/\P.look (mnm C (O "__init__"))=Ws fd/\BodyOk K kl (P.tb.map (·.1)) (O "__init__") q fd st f fdd
 xcs:∀C∈kl.xs,∃a,mg C=Ws (.ref a)/\XOk K a
def Zog(r:RDs Y H B ds vs):RS Y H B (ZF N ds) (L2.start N vs):=by
 refine⟨by simp[ZF,L2.start,r.length],λi d e=>?_⟩;unfold ZF at e;unfold L2.start;by_cases hi:i<ds.length
 . rw[Oe (by simpa using hi),O2]at e;rw[Oe (by simpa[<- r.length]using hi),O2];obtain⟨d',e1,e2⟩:=Oo.mp e;cases e2;obtain⟨v,h1,h2⟩:=r.get e1;exact⟨v,by rw[h1];rfl,h2⟩
 . rw[Om (by simpa using hi)]at e;have:=O1 e;rw[List.mem_replicate]at this;cases this.2
def Zqs(f:Fin Y (RD Y) H B (Ze r) Q E):ZT Y H B r {nx:=λ_ H'=>Q .non H',rt:=Q} E:=by
 cases r with
 |bad=>exact f.elim
 |exc c h=>exact f
 |ok p h=>
  obtain⟨fl,S⟩:=p;cases fl with
  |nx=>exact λH' μ' g rh σ' _=>f .non H' μ' g rh .non
  |bk=>exact f.elim
  |ct=>exact f.elim
  |rt d=>exact λH' μ' g rh v rv=>f v H' μ' g rh rv
section
variable {Pr:Yh}{w:Yg}{K:Yk}{mg:Str->Option Yj}{base:YG}{P:Pg}{kl:Kl}
def ZiU(h:P.tb.lookup x=Ws fd):P.look x=Ws fd:=by unfold Pg.look;rw[h]
def Zoi(hl:P.look x=Ws fd)(h:ZfM (P.tbl n) ⟨K,mg⟩ x vs H Q E):vs.length=fd.ps.length:=by
 obtain⟨ds,h,B,rh,rs,f⟩:=h;cases n with
 |zero=>exact f.elim
 |succ n=>have f:Fin ⟨K,mg⟩ (RD ⟨K,mg⟩) H B (run P (n+1) x ds h) Q E:=f;rw[run,hl]at f;obtain⟨hz,_⟩:=f.iff;rw[<- rs.length];exact hz
structure Lev(Pr:Yh)(w:Yg)(K:Yk)(mg:Str->Option Yj)(base:YG)(P:Pg)(kl:Kl)(n:Nat):Prop where
 defs:∀y∈P.tb.map (·.1),∃ps,Def Pr w K mg base (2 * n+61) y ps (ZfM (P.tbl n) ⟨K,mg⟩ y)
 mts:∀p∈kl.ms,∃a f fd ps,mg p.1=Ws (.ref a)/\Cls K a/\Meth K a p.2 f/\FnOk Pr w K mg base (CXF Pr w) (2 * n+61) f fd ps (ZfM (P.tbl n) ⟨K,mg⟩ (mnm p.1 p.2))/\Binds K fd ps []
 mks:∀C∈kl.is,∃a f fd ps,mg C=Ws (.ref a)/\Mk K a f/\FnOk Pr w K mg base (CXF Pr w) (2 * n+61) f fd ps (ZfM (P.tbl n) ⟨K,mg⟩ (mnm C (O "__init__")))/\Binds K fd ps []
def Zi5(M:Md Pr w K mg P kl){x nm q:Str}{fd:Fd}{st:Stmt}{f:Yi}{fdd:FuncData}(hl:P.look x=Ws fd)(o:BodyOk K kl (P.tb.map (·.1)) nm q fd st f fdd):
 ∀n,Lev Pr w K mg base P kl n->FnOk Pr w K mg base (CXF Pr w) (2 * (n+1)+61) f fdd fd.ps (ZfM (P.tbl (n+1)) ⟨K,mg⟩ x):=by
 intro n ih;obtain⟨oc,od,kV,doc,pm,an,cdv,ct,osl,rfl,lk,hcd⟩:=o.fn.ex;have S_:=o.sc;rw[show 2 * (n+1)+61=(2 * n+61+1)+1 by lia];refine Zwg lk hcd S_ (λvs H Q E h=>Zoi hl h) λA outer s H vs Q E hr hsp=>?_;refine ZrU (t:=ZlU (P.tbl n) ⟨K,mg⟩ E fd.body) (sts_ok fd.body (k:=2 * n+61) (Γ:=⟨fd.N,ZZ st,P.tb.map (·.1),Wv,kl⟩) ⟨⟨⟨rfl,rfl,M.gd,M.g,M.bare⟩,rfl,λ_=>rfl,λy hy=>?_,λy hy=>hy,S_.nd,rfl,hr.mono (by lia),by lia,ZqY λ_ _ z=>z,ih.defs,M.blt,hr,λ_ _ _ _ _ _ _ _ _ i3 j3 k3=>Znj i3 j3 k3 λ_ _ z=>z,M.cls,ih.mts,ih.mks⟩,rfl,λ_=>rfl,PassesOwn.leaving,?_,Zor,rfl,rfl,M.xcs⟩ o.ck) ?_
 . unfold Zqe at hy;rw[Wr,Wr]at hy;rcases hy with (hy|hy)|hy
   . exact .inl (of_decide_eq_true hy)
   . exact .inr (.inl (of_decide_eq_true hy))
   . exact .inr (.inr (of_decide_eq_true hy))
 . show(if (ZZ st).kind.isAnnotationScope then ScopeKind.function else(ZZ st).kind)=.function;rw[S_.kind];rfl
 . obtain⟨ds,h,B,rh,rs,f⟩:=hsp;have f:Fin ⟨K,mg⟩ (RD ⟨K,mg⟩) H B (run P (n+1) x ds h) Q E:=f;rw[run,hl]at f;obtain⟨hz,f⟩:=f.iff;exact⟨ZF fd.N ds,h,B,rh,Zog rs,Zqs f⟩
def mem_lookup{α:Type}{l:List (Str×α)}{x:Str}(h:x∈l.map (·.1)):∃a,l.lookup x=Ws a:=by
 induction l with
 |nil=>simp at h
 |cons p r ih=>
  rw[OF];by_cases e:x=p.1
  . have:(x==p.1)=Wv:=by simpa using e
    rw[this];exact⟨_,rfl⟩
  . have:(x==p.1)=Ww:=by simpa using e
    rw[this];exact ih (by simpa[e]using h)
def Zi2{x:Str}{fd:Fd}{f:Yi}{fdd:FuncData}(hl:P.look x=Ws fd):FnOk Pr w K mg base (CXF Pr w) (2 * 0+61) f fdd fd.ps (ZfM (P.tbl 0) ⟨K,mg⟩ x):=⟨λvs H Q E h=>Zoi hl h,λA outer s H args us vs Q E _ _ _ _ h=>by obtain⟨ds,h,B,rh,rs,f⟩:=h;exact f.elim⟩
def Zp9(M:Md Pr w K mg P kl):∀n,Lev Pr w K mg base P kl n:=by
 intro n;induction n with
 |zero=>
  refine⟨λy hy=>?_,λp hp=>?_,λC hC=>?_⟩
  . obtain⟨fd,hl⟩:=mem_lookup hy;obtain⟨st,f,fdd,o⟩:=M.defs y fd hl;exact⟨fd.ps,f,fdd,o.mg,o.bd.fn.kp,o.bd.fn.binds o.bd.hb,Zi2 (ZiU hl)⟩
  . obtain⟨a,f,fdd,fd,st,q,m,c,me,hl,o⟩:=M.mts p hp;exact⟨a,f,fdd,fd.ps,m,c,me,Zi2 hl,o.fn.binds o.hb⟩
  . obtain⟨a,f,fdd,fd,st,q,m,me,hl,o⟩:=M.mks C hC;exact⟨a,f,fdd,fd.ps,m,me,Zi2 hl,o.fn.binds o.hb⟩
 |succ n ih=>
  refine⟨λy hy=>?_,λp hp=>?_,λC hC=>?_⟩
  . obtain⟨fd,hl⟩:=mem_lookup hy;obtain⟨st,f,fdd,o⟩:=M.defs y fd hl;exact⟨fd.ps,f,fdd,o.mg,o.bd.fn.kp,o.bd.fn.binds o.bd.hb,Zi5 M (ZiU hl) o.bd n ih⟩
  . obtain⟨a,f,fdd,fd,st,q,m,c,me,hl,o⟩:=M.mts p hp;exact⟨a,f,fdd,fd.ps,m,c,me,Zi5 M hl o n ih,o.fn.binds o.hb⟩
  . obtain⟨a,f,fdd,fd,st,q,m,me,hl,o⟩:=M.mks C hC;exact⟨a,f,fdd,fd.ps,m,me,Zi5 M hl o n ih,o.fn.binds o.hb⟩
def Zt2(M:Md Pr w K mg P kl){x:Str}{a:Str}{fd:Fd}{fa:Yi}(n:Nat)(hl:P.tb.lookup x=Ws fd)(hps:fd.ps=[a])(hm:mg x=Ws (.ref fa)):
 ∃fdd:FuncData,(∀(s:Yb) (v:Yj),BindsTo s fdd ⟨[v],[]⟩ [(a,v)])/\∀base:YG,FnOk Pr w K mg base (CXF Pr w) (2 * (n+1)+61) fa fdd [a] (ZfM (P.tbl (n+1)) ⟨K,mg⟩ x):=by
 obtain⟨st,f,fdd,o⟩:=M.defs x fd hl;have e:=hm.symm.trans o.mg;cases e;refine⟨fdd,λs v=>?_,λbase=>hps ▸ Zi5 M (ZiU hl) o.bd n (Zp9 M n)⟩;obtain⟨oc,od,kV,doc,pm,an,cdv,ct,osl,rfl,lk,hcd⟩:=o.bd.fn.ex;have:=o.bd.hb kV doc pm an cdv ct [v] (by rw[hps];rfl);rw[hps]at this;exact BindsTo.of_eq this
end
def ZuS{α:Type}{us:List α}(h:us.length=0):us=[]:=List.length_eq_zero_iff.mp h
def ZmN{α:Type}{us:List α}{n:Nat}(h:us.length=n+1):∃a r,us=a::r/\r.length=n:=by
 cases us with
 |nil=>cases h
 |cons a r=>exact⟨a,r,rfl,Nat.succ.inj h⟩
def ZuR{α:Type}{us:List α}(h:us.length=1):∃a0,us=[a0]:=by obtain⟨a0,r,rfl,h2⟩:=ZmN h;exact⟨a0,by rw[ZuS h2]⟩
def ZuQ{α:Type}{us:List α}(h:us.length=2):∃a0 a1,us=[a0,a1]:=by obtain⟨a0,r,rfl,h2⟩:=ZmN h;obtain⟨a1,rfl⟩:=ZuR h2;exact⟨a0,a1,rfl⟩
def ZuP{α:Type}{us:List α}(h:us.length=3):∃a0 a1 a2,us=[a0,a1,a2]:=by obtain⟨a0,r,rfl,h2⟩:=ZmN h;obtain⟨a1,a2,rfl⟩:=ZuQ h2;exact⟨a0,a1,a2,rfl⟩
def ZuO{α:Type}{us:List α}(h:us.length=4):∃a0 a1 a2 a3,us=[a0,a1,a2,a3]:=by obtain⟨a0,r,rfl,h2⟩:=ZmN h;obtain⟨a1,a2,a3,rfl⟩:=ZuP h2;exact⟨a0,a1,a2,a3,rfl⟩
def ZuN{α:Type}{us:List α}(h:us.length=5):∃a0 a1 a2 a3 a4,us=[a0,a1,a2,a3,a4]:=by obtain⟨a0,r,rfl,h2⟩:=ZmN h;obtain⟨a1,a2,a3,a4,rfl⟩:=ZuO h2;exact⟨a0,a1,a2,a3,a4,rfl⟩
def ZwS{α:Type}{us:List α}(h:us.length=6):∃a0 a1 a2 a3 a4 a5,us=[a0,a1,a2,a3,a4,a5]:=by obtain⟨a0,r,rfl,h2⟩:=ZmN h;obtain⟨a1,a2,a3,a4,a5,rfl⟩:=ZuN h2;exact⟨a0,a1,a2,a3,a4,a5,rfl⟩
set_option tactic.hygienic true
def All(p:α->Prop):List α->Prop
 |[]=>True
 |a::l=>p a/\All p l
theorem All.mem:∀{l:List α},All p l->∀a∈l,p a
 |[],_,a,h=>by simp at h
 |b::l,⟨h1,h2⟩,a,h=>by
  rcases O3.mp h with rfl|h
  . exact h1
  . exact All.mem h2 a h
def lookup_mem{α:Type}{l:List (Str×α)}{a:α}(h:l.lookup x=Ws a):(x,a)∈l:=by
 induction l with
 |nil=>cases h
 |cons p r ih=>
  rw[OF]at h;by_cases e:x=p.1
  . have:(x==p.1)=Wv:=by simpa using e
    rw[this]at h;cases h;subst e;exact Oi
  . have:(x==p.1)=Ww:=by simpa using e
    rw[this]at h;exact Oh _ (ih h)
noncomputable def spL(K:Yk):Sp:=λvs H Q _=>∃(a:Yi) (ns:List Int),vs=[.ref a]/\SqL K H a (ns.map V.int)/\ns.length<=63/\Zr8 H/\∀H',Q (.bl Wv) H'
theorem Zmo:∀ns:List Int,RDs Y H B (ns.map D.int) (ns.map V.int)
 |[]=>.nil
 |n::r=>.cons (.int n) (Zmo r)
def ZuM{l:PySem.W.OpenLaw}{q:Yh}{loose:List Str}{XP:(Str->Option Yj)->YG->Prop}{YP:Yg->YG->Prop}{d:DefRec}{K:Params->Yk}{P:Pg}{kl:Kl}{fd:Fd}(n:Nat)(hn:l.most=Ws 63)(hdf:d.params.defaults=[])(hd:d.name=O "law")(hr:Room (2 * (n+1)+61) callerA)
 (hY:∀(w:Yg) (h:YG),YP w h->(K w.params).In h) (hl:P.tb.lookup (O "law")=Ws fd) (hps:fd.ps=[O "_law_script"])
 (hrun:∀ns:List Int,ns.length<=63->∃h',run P (n+1) (O "law") [.ro (ns.map .int)] []=.ok (.bl Wv) h')
 (M:∀(w:Yg) (mg:Str->Option Yj) (h:YG),(K w.params).In h->h.Ns Yd mg->Md l.prog w (K w.params) mg P kl) :
 PySem.W.WalkO q loose XP YP l.row.toRowW d [] (λf vs=>PySem.call f vs):=by
 refine L2.Zqd (n:=63) (k:=2 * (n+1)+61) (x := "_law_script") (CX:=λw=>CXF l.prog w) (sp:=λw=>spL (K w.params)) hn (by decide) hdf hr hY (λw mg fa h KX G hmg=>?_) (λ_ _ a ns hl hO hS=>⟨a,ns,rfl,hS,hl,hO,λ_=>rfl⟩) λ_ _ _ _ _ z=>by obtain⟨_,_,_,_,_,_,_,_,_,_,_,_,_,z⟩:=z;exact z
 rw[hd]at hmg;obtain⟨fdd,hb,F⟩:=Zt2 (M w mg h KX G) n hl hps hmg;refine⟨fdd,hb,λbase _ _=>(F base).imp λvs H Q E hsp=>?_⟩;obtain⟨a,ns,rfl,hS,hz,hO,hq⟩:=hsp;obtain⟨h',e⟩:=hrun ns hz;refine⟨[.ro (ns.map .int)],[],[],⟨rfl,.nil,λi o a e=>by simp at e,λi o e=>by simp at e⟩,.cons (.ro ?_ (Zmo ns)) .nil,?_⟩
 . rcases hS with hS|hS
   . rcases hS with hS|hS
     . rcases hO a with z|⟨o,xs,z⟩<;>(rw[z]at hS;cases hS)
     . exact .inl hS
   . exact .inr hS
 . show Fin _ _ H [] (run P (n+1) (O "law") [.ro (ns.map .int)] []) Q E;rw[e];exact λb H' μ' _ _ r=>by cases r;exact hq H'
def ZdI{K:Yk}(h:K.lookup a=Ws ⟨.type "tuple",od,.seq its n,sl⟩)(hz:its.size<=sizeLine)(r:Zp vs its.toList):SqT K H a vs:=
 .inr ⟨_,its,n,h,rfl,rfl,hz,r⟩
end IV
namespace IV
open PySem L2 PyProof.Rows
section
structure Chk(kl:Kl)(fs:List Str)(x q:Str)(fd:Fd)(st:Stmt):Prop where
 sc:FnScope fd.N fd.ps (ZZ st)
 hb:∀(kV doc pm:Yj) (an:Option Yi) (cdv ct:Yj) (us:List Yj),us.length=fd.ps.length->bindArgs (PySem.W.fnOf x q (Zeq st) (Zco st) (ZZ st) .none kV doc pm an cdv ct) ⟨us,[]⟩=pure (fd.ps.zip us)
 ck:chkSs ⟨fd.N,ZZ st,fs,Wv,kl⟩ fd.body (Zco st)=Wv
variable {K:Yk}{h:YG}{mg:Str->Option Yj}{kl:Kl}{fs:List Str}{x q C:Str}{fd:Fd}{st:Stmt}{ca:Yi}{P:Pg}
def Chk.bd(c:Chk kl fs x q fd st)(F:Fun K x q st f fdd):BodyOk K kl fs x q fd st f fdd:=⟨F,c.sc,c.hb,c.ck⟩
def ZuE(K:Yk)(x:Str)(st:Stmt):Prop:=∃f fdd,Yl K Yd x=Ws (Ws (.ref f))/\Fun K x x st f fdd
def ZhL(K:Yk)(ca:Yi)(x q:Str)(st:Stmt):Prop:=∃f fdd,YJ K (.ref ca) x=Ws (Ws (.ref f))/\PySem.W.isFn K (.ref f)=Wv/\We K (.ref f)=Wv/\Fun K x q st f fdd
def ZrN(X:K.In h)(G:h.Ns Yd mg)(d:ZuE K x st)(c:Chk kl fs x x fd st):∃st f fdd,DefOk K mg kl fs x fd st f fdd:=by obtain⟨f,fdd,a,F⟩:=d;exact⟨st,f,fdd,c.bd F,YO X G a⟩
def Zri(X:K.In h)(G:h.Ns Yd mg)(y:Yl K Yd C=Ws (Ws (.ref ca)))(cl:Cls K ca)(d:ZhL K ca x q st)(c:Chk kl (P.tb.map (·.1)) x q fd st)(e:P.look (mnm C x)=Ws fd):∃a f fdd fd st q,mg C=Ws (.ref a)/\Cls K a/\Meth K a x f/\P.look (mnm C x)=Ws fd/\BodyOk K kl (P.tb.map (·.1)) x q fd st f fdd:=by obtain⟨f,fdd,u1,u2,u3,F⟩:=d;exact⟨ca,f,fdd,fd,st,q,YO X G y,cl,⟨u1,u2,u3⟩,e,c.bd F⟩
def ZiT(X:K.In h)(G:h.Ns Yd mg)(y:Yl K Yd C=Ws (Ws (.ref ca)))(m:PySem.W.makesIn K ca=Wv)(k:We K (.ref ca)=Wv)(d:ZhL K ca (O "__init__") q st)(c:Chk kl (P.tb.map (·.1)) (O "__init__") q fd st)(e:P.look (mnm C (O "__init__"))=Ws fd):∃a f fdd fd st q,mg C=Ws (.ref a)/\Mk K a f/\P.look (mnm C (O "__init__"))=Ws fd/\BodyOk K kl (P.tb.map (·.1)) (O "__init__") q fd st f fdd:=by obtain⟨f,fdd,u1,u2,u3,F⟩:=d;exact⟨ca,f,fdd,fd,st,q,YO X G y,⟨m,u1,u2,k⟩,e,c.bd F⟩
end
section
noncomputable abbrev Ml:=Str×Str×Fd×Nat×Nat
variable {K:Yk}{h:YG}{mg:Str->Option Yj}{kl:Kl}{fs:List Str}{C:Str}{ca:Yi}{P:Pg}
theorem All.app{α:Type}{p:α->Prop}{b:List α}:∀{a:List α},All p a->All p b->All p (a++b)
 |[],_,hb=>hb
 |_::_,ha,hb=>⟨ha.1,ha.2.app hb⟩
theorem ZmA(X:K.In h)(G:h.Ns Yd mg){top:Nat->Stmt}:∀{l:List (Str×Fd×Nat)},All (λp=>ZuE K p.1 (top p.2.2)) l->All (λp=>Chk kl fs p.1 p.1 p.2.1 (top p.2.2)) l->All (λp:Str×Fd=>∃st f fdd,DefOk K mg kl fs p.1 p.2 st f fdd) (l.map λp=>(p.1,p.2.1))
 |[],_,_=>trivial
 |_::_,d,c=>⟨ZrN X G d.1 c.1,ZmA X G d.2 c.2⟩
theorem Zfe(X:K.In h)(G:h.Ns Yd mg)(y:Yl K Yd C=Ws (Ws (.ref ca)))(cl:Cls K ca){mt:Nat->Nat->Stmt}:∀{l:List Ml},All (λp=>ZhL K ca p.1 p.2.1 (mt p.2.2.2.1 p.2.2.2.2)) l->All (λp=>Chk kl (P.tb.map (·.1)) p.1 p.2.1 p.2.2.1 (mt p.2.2.2.1 p.2.2.2.2)) l->All (λp=>P.look (mnm C p.1)=Ws p.2.2.1) l->All (λp:Str×Str=>∃a f fdd fd st q,mg p.1=Ws (.ref a)/\Cls K a/\Meth K a p.2 f/\P.look (mnm p.1 p.2)=Ws fd/\BodyOk K kl (P.tb.map (·.1)) p.2 q fd st f fdd) (l.map λp=>(C,p.1))
 |[],_,_,_=>trivial
 |_::_,d,c,e=>⟨Zri X G y cl d.1 c.1 e.1,Zfe X G y cl d.2 c.2 e.2⟩
theorem ZjU(X:K.In h)(G:h.Ns Yd mg):∀{l:List Str},All (λx=>Yl K Yd x=Ws Wu) l->All (λx=>mg x=Wu) l
 |[],_=>trivial
 |_::_,d=>⟨PySem.W.mg_none_of X G d.1,ZjU X G d.2⟩
end
end IV
namespace IV
open PySem L2
set_option tactic.hygienic false
def ZiR(h:Str.ofString a=Str.ofString b):a=b:=by
 have e:∀s:String,(Str.ofString s).cps.toList=s.toList.map Char.toNat:=λs=>by show(cpsOfBytes 0 0 s.toByteArray.data.toList).toArray.toList=_;rw[cpsOfBytes_string]
 have h1:=congrArg (λs:Str=>s.cps.toList) h;simp only[e]at h1;have h2:a.toList=b.toList:=by
  have inj:∀{x y:Char},x.toNat=y.toNat->x=y:=λ{x y} q=>by have:x.val=y.val:=UInt32.toNat_inj.mp q;exact Char.ext this
  exact(List.map_inj_right λx y q=>inj q).mp h1
 exact String.toList_inj.mp h2
@[simp] theorem ofString_eq(a b:String):(Str.ofString a=Str.ofString b)↔a=b:=⟨ZiR,λh=>h ▸ rfl⟩
@[simp] theorem Zre(a b:String):(Str.ofString a==Str.ofString b)=(a==b):=by rw[Bool.eq_iff_iff];simp
def Un(k:γ):Type:=Unit
noncomputable def un:Un k:=()
noncomputable def R.bnd(r:R α)(k:α->Hd->R β)(u:Un k:=un):R β:=r.bind k
@[simp] theorem Zt:R.bnd (.ok a h) k u=k a h:=rfl
@[simp] theorem ZwP:R.bnd (R.bad:R α) k u=.bad:=rfl
section
variable {T:Tb}{S:Ev}{h:Hd}
@[simp] theorem bind_ok:(R.ok a h).bind k=k a h:=rfl
@[simp] theorem bind_bad:(R.bad:R α).bind k=.bad:=rfl
@[simp] theorem ofO_some:R.ofO (Ws a) h=.ok a h:=rfl
@[simp] theorem Zne:(R.ok a h).plain=.ok a h:=rfl
@[simp] theorem Zi3{i}:ev T (.var i) S h=R.ofO (S[i]?).join h:=rfl
@[simp] theorem Zuo{d}:ev T (.cst d) S h=.ok d h:=rfl
@[simp] theorem Zhr{x}:ev T (.glo x) S h=R.ofO (T.G x) h:=rfl
@[simp] theorem ZpF{op a b}:ev T (.bin op a b) S h=(ev T a S h).bnd λx h1=>(ev T b S h1).bnd λy h2=>opB op x y h2:=rfl
@[simp] theorem Zup{op a b}:ev T (.cmp op a b) S h=(ev T a S h).bnd λx h1=>(ev T b S h1).bnd λy h2=>opC T.GD op x y h2:=rfl
@[simp] theorem Zxx{a}:ev T (.neg a) S h=(ev T a S h).bnd λx h1=>match x with
 |.int i=>.ok (.int (-i)) h1
 |_=>.bad:=rfl
@[simp] theorem ZxS{a}:ev T (.nt a) S h=(ev T a S h).bnd λx h1=>match x with
 |.bl b=>.ok (.bl (!b)) h1
 |_=>.bad:=rfl
@[simp] theorem Zmz{es}:ev T (.ands es) S h=evAnd T es S h:=rfl
@[simp] theorem Zum{es}:ev T (.ors es) S h=evOr T es S h:=rfl
@[simp] theorem ZuJ{e}:evAnd T (.cons e .nil) S h=ev T e S h:=rfl
@[simp] theorem Zim{e e' r}:evAnd T (.cons e (.cons e' r)) S h=(ev T e S h).bnd λx h1=>match x with
 |.bl Wv=>evAnd T (.cons e' r) S h1
 |.bl Ww=>.ok (.bl Ww) h1
 |_=>.bad:=rfl
@[simp] theorem Zwl{e}:evOr T (.cons e .nil) S h=ev T e S h:=rfl
@[simp] theorem ZpH{e e' r}:evOr T (.cons e (.cons e' r)) S h=(ev T e S h).bnd λx h1=>match x with
 |.bl Wv=>.ok (.bl Wv) h1
 |.bl Ww=>evOr T (.cons e' r) S h1
 |_=>.bad:=rfl
@[simp] theorem ZpE{c a b}:ev T (.ite c a b) S h=(tst T c S h).bnd λc h1=>if c then ev T a S h1 else ev T b S h1:=rfl
@[simp] theorem ZrJ{es}:ev T (.tupl es) S h=(evs T es S h).bnd λxs h1=>if xs.length<=sizeLine then .ok (.tup xs) h1 else .bad:=rfl
@[simp] theorem Zmw{es}:ev T (.lstl es) S h=(evs T es S h).bnd λxs h1=>if xs.length<=sizeLine then Zc7 (.lst xs) h1 else .bad:=rfl
@[simp] theorem Zmx{a i}:ev T (.ix a i) S h=(ev T a S h).bnd λx h1=>(ev T i S h1).bnd λy h2=>ZbD T.GD x y h2:=rfl
@[simp] theorem Zmu{a lo hi}:ev T (.sl a lo hi) S h=(ev T a S h).bnd λx h1=>(evo T lo S h1).bnd λl h2=>(evo T hi S h2).bnd λu h3=>Zgu x l u h3:=rfl
@[simp] theorem Zur{f es}:ev T (.blt f es) S h=(evs T es S h).bnd λxs h1=>ZcE T.GD f xs h1:=rfl
@[simp] theorem Zi4{f es}:ev T (.call f es) S h=(evs T es S h).bnd λxs h1=>T.C f xs h1:=rfl
@[simp] theorem Zmv{m o es}:ev T (.meth m o es) S h=(ev T o S h).bnd λx h1=>if Zgj x h1 then(evs T es S h1).bnd λxs h2=>Zck m x xs h2 else .bad:=rfl
@[simp] theorem ZrL{NC js it g c e}:ev T (.comp NC js it g c e) S h=(evi T it S h).bnd λw h1=>(Z0 w.src g (tsto T c) (ev T e) w.xs (Zc0 js S) [] h1).bnd λxs h2=>Zc7 (.lst xs) h2:=rfl
@[simp] theorem ZwO{e d}:ev T (.maxd e d) S h=(ev T e S h).bnd λx h1=>(ev T d S h1).bnd λy h2=>ZmJ x y h2:=rfl
@[simp] theorem Zwk{ps}:ev T (.dictl ps) S h=(evs T ps S h).bnd λxs h1=>match ZdJ xs with
 |some kvs=>if kvs.length<=15 then Zc7 (.dic (ZeO [] kvs)) h1 else .bad
 |none=>.bad:=rfl
@[simp] theorem ZpG{Cs o f}:ev T (.att Cs o f) S h=(ev T o S h).bnd λx h1=>ZfY Cs f x h1:=rfl
@[simp] theorem Zsu{C es}:ev T (.mk C es) S h=(evs T es S h).bnd λxs h1=>Zgv T.C C xs h1:=rfl
@[simp] theorem Zun{C m o es}:ev T (.mcl C m o es) S h=(ev T o S h).bnd λx h1=>match Zaf x h1 with
 |some (C',fs)=>if C'=C/\fs.lookup m=Wu then(evs T es S h1).bnd λxs h2=>T.C (mnm C m) (x::xs) h2 else .bad
 |none=>.bad:=rfl
@[simp] theorem ZrK{e}:ev T (.trev e) S h=(ev T e S h).bnd λx h1=>Zp3 x h1:=rfl
@[simp] theorem Zxy{e}:ev T (.lrv e) S h=(ev T e S h).bnd λx h1=>Zwx x h1:=rfl
@[simp] theorem Zul{o e}:ev T (.tix o e) S h=(ev T o S h).bnd λx h1=>if Zv6 x then(ev T e S h1).bnd λy h2=>ZnK x y h2 else .bad:=rfl
@[simp] theorem Zxz{o e}:ev T (.lix o e) S h=(ev T o S h).bnd λx h1=>if Zgj x h1 then(ev T e S h1).bnd λy h2=>Zwy x y h2 else .bad:=rfl
@[simp] theorem ZxA{a b}:ev T (.lin a b) S h=(ev T a S h).bnd λx h1=>(ev T b S h1).bnd λy h2=>Zwz x y h2:=rfl
@[simp] theorem ZnO{Cs o f e}:xs1 T (.seta Cs o f e) S h=(ev T e S h).bnd λd h1=>(ev T o S h1).bnd λx h2=>(ZfN Cs f x d h2).bnd λ_ h3=>.ok (.nx,S) h3:=rfl
@[simp] theorem ZnQ{Cs o f e}:xs1 T (.auga Cs o f e) S h=(ev T o S h).bnd λx h1=>(ZfY Cs f x h1).bnd λv h2=>(ev T e S h2).bnd λy h3=>match v,y with
 |.int a,.int b=>if (Zaf x h1).map (·.1)=(Zaf x h3).map (·.1)then(ZfN Cs f x (.int (a+b)) h3).bnd λ_ h4=>.ok (.nx,S) h4 else .bad
 |_,_=>.bad:=rfl
@[simp] theorem ZI:evs T .nil S h=.ok [] h:=rfl
@[simp] theorem Zfr{e es}:evs T (.cons e es) S h=(ev T e S h).bnd λx h1=>(evs T es S h1).bnd λxs h2=>.ok (x::xs) h2:=rfl
@[simp] theorem Zwj:evo T Wu S h=.ok Wu h:=rfl
@[simp] theorem ZpC{e}:evo T (Ws e) S h=(ev T e S h).bnd λx h1=>match x with
 |.int i=>.ok (Ws i) h1
 |_=>.bad:=rfl
@[simp] theorem Zn7{e}:tst T (.ex e) S h=(ev T e S h).bnd λx h1=>R.ofO (ZfK T.GD x h1) h1:=rfl
@[simp] theorem Zju{ts}:tst T (.ands ts) S h=tstAnd T ts S h:=rfl
@[simp] theorem ZgH{ts}:tst T (.ors ts) S h=tstOr T ts S h:=rfl
@[simp] theorem ZiD{a}:tst T (.nt a) S h=(tst T a S h).bnd λc h1=>.ok (!c) h1:=rfl
@[simp] theorem ZsN{t}:tstAnd T (.one t) S h=tst T t S h:=rfl
@[simp] theorem Zgc{t ts}:tstAnd T (.cons t ts) S h=(tst T t S h).bnd λc h1=>if c then tstAnd T ts S h1 else .ok Ww h1:=rfl
@[simp] theorem ZmS{t}:tstOr T (.one t) S h=tst T t S h:=rfl
@[simp] theorem Zbi{t ts}:tstOr T (.cons t ts) S h=(tst T t S h).bnd λc h1=>if c then .ok Wv h1 else tstOr T ts S h1:=rfl
@[simp] theorem ZmR:tsto T Wu S h=.ok Wv h:=rfl
@[simp] theorem ZuG{t}:tsto T (Ws t) S h=tst T t S h:=rfl
@[simp] theorem ZpD{e}:evi T (.pl e) S h=(ev T e S h).bnd λx h1=>R.ofO (Zbg x h1) h1:=rfl
@[simp] theorem ZrG{e}:evi T (.rng e) S h=(ev T e S h).bnd λx h1=>match x with
 |.int j=>if ZbT j then .ok ⟨Wu,ZaE 0 j.toNat⟩ h1 else .bad
 |_=>.bad:=rfl
@[simp] theorem ZrI{e}:evi T (.enu e) S h=(ev T e S h).bnd λx h1=>R.ofO ((ZhZ x h1).map λw=>⟨w.src,Zdq w.xs⟩) h1:=rfl
@[simp] theorem ZrH{e}:evi T (.rev e) S h=(ev T e S h).bnd λx h1=>R.ofO ((ZnY x h1).map λw=>⟨w.src,w.xs.reverse⟩) h1:=rfl
@[simp] theorem ZwM{e}:evi T (.en1 e) S h=(ev T e S h).bnd λx h1=>match x with
 |.tup xs=>.ok ⟨Wu,ZpK xs⟩ h1
 |_=>.bad:=rfl
@[simp] theorem ZwN{e}:evi T (.en0 e) S h=(ev T e S h).bnd λx h1=>match x with
 |.tup xs=>.ok ⟨Wu,Zdq xs⟩ h1
 |_=>.bad:=rfl
@[simp] theorem Zxw{e}:evi T (.dk e) S h=(ev T e S h).bnd λx h1=>Zwd x h1:=rfl
@[simp] theorem ZiC{e}:xs1 T (.ret e) S h=(ev T e S h).bnd λx h1=>.ok (.rt x,S) h1:=rfl
@[simp] theorem ZlD{g e}:xs1 T (.set g e) S h=(ev T e S h).bnd λx h1=>(R.ofO (ZbS g x S) h1).bnd λρ1 h2=>.ok (.nx,ρ1) h2:=rfl
@[simp] theorem ZlE{o i e}:xs1 T (.put o i e) S h=(ev T e S h).bnd λx h1=>(ev T o S h1).bnd λy h2=>(ev T i S h2).bnd λz h3=>(ZbQ y z x h3).bnd λ_ h4=>.ok (.nx,S) h4:=rfl
@[simp] theorem ZlG{e}:xs1 T (.drp e) S h=(ev T e S h).bnd λ_ h1=>.ok (.nx,S) h1:=rfl
@[simp] theorem ZlF{c a b}:xs1 T (.iff c a b) S h=(tst T c S h).bnd λt h1=>if t then xs2 T a S h1 else xs2 T b S h1:=rfl
@[simp] theorem ZwJ{c b}:xs1 T (.whl c b) S h=Zag (tst T c) (xs2 T b) T.L S h:=rfl
@[simp] theorem ZnP{g it b}:xs1 T (.forr g it b) S h=(evi T it S h).bnd λw h1=>ZK w.src g (xs2 T b) w.xs S h1:=rfl
@[simp] theorem ZwI:xs2 T .nil S h=.ok (.nx,S) h:=rfl
@[simp] theorem ZgP{s r}:xs2 T (.cons s r) S h=(xs1 T s S h).bnd λp h1=>match p with
 |(.nx,ρ1)=>xs2 T r ρ1 h1
 |p=>.ok p h1:=rfl
def Za(e:xs1 T s S h=.ok (.nx,ρ1) h1):xs2 T (.cons s r) S h=xs2 T r ρ1 h1:=by rw[ZgP,e];rfl
def Zd(e:xs1 T s S h=.ok (.rt d,ρ1) h1):xs2 T (.cons s r) S h=.ok (.rt d,ρ1) h1:=by rw[ZgP,e];rfl
@[simp] theorem ZwQ{i d}:ZbS (.nm i) d S=Ws (S.set i (Ws d)):=rfl
@[simp] theorem ZpZ{i j a b}:ZbS (.two i j) (.tup [a,b]) S=Ws ((S.set i (Ws a)).set j (Ws b)):=rfl
@[simp] theorem Zxc:Ze (.ok (.rt d,S) h)=.ok d h:=rfl
@[simp] theorem Zxd:Ze (.ok (.nx,S) h)=.ok .non h:=rfl
end
@[simp] theorem ZmW:seqOf (.tup xs) h=Ws xs:=rfl
@[simp] theorem ZvL:ZiO f (.int i) (.int j) h=.ok (.bl (f i j)) h:=rfl
section
variable {GD:Str->Option (List (Key×D))}{h:Hd}
@[simp] theorem Zg4{x y}:opC GD .Eq x y h=ZcU Ww x y h:=rfl
@[simp] theorem Zo1{x y}:opC GD .NotEq x y h=ZcU Wv x y h:=rfl
@[simp] theorem Zxp{i j}:opC GD .Lt (.int i) (.int j) h=.ok (.bl (Wx (i<j))) h:=rfl
@[simp] theorem Zxq{i j}:opC GD .LtE (.int i) (.int j) h=.ok (.bl (Wx (i<=j))) h:=rfl
@[simp] theorem ZtL{i j}:opC GD .Gt (.int i) (.int j) h=.ok (.bl (Wx (j<i))) h:=rfl
@[simp] theorem Zxr{i j}:opC GD .GtE (.int i) (.int j) h=.ok (.bl (Wx (j<=i))) h:=rfl
@[simp] theorem Zo2{x}:opC GD .Is x .non h=.ok (.bl (Wx (x=.non))) h:=rfl
@[simp] theorem ZvN{x}:opC GD .IsNot x .non h=.ok (.bl (!Wx (x=.non))) h:=rfl
@[simp] theorem ZuI{s n}:opC GD .In (.str s) (.kd n) h=match GD n with
 |some kvs=>.ok (.bl (Zbh kvs (.inr s)).isSome) h
 |none=>.bad:=by
 show Zcj GD Ww (.str s) (.kd n) h=_;unfold Zcj;simp only[seqOf,lstOf,dicOf,keyOf];cases GD n<;>rfl
@[simp] theorem ZiP{s n}:opC GD .NotIn (.str s) (.kd n) h=match GD n with
 |some kvs=>.ok (.bl (!(Zbh kvs (.inr s)).isSome)) h
 |none=>.bad:=by
 show Zcj GD Wv (.str s) (.kd n) h=_;unfold Zcj;simp only[seqOf,lstOf,dicOf,keyOf];cases GD n<;>rfl
def ZkG(ss:List Str):(ss.map D.str).all D.flat=Wv:=by rw[OC];intro x hx;obtain⟨s,_,rfl⟩:=List.mem_map.mp hx;rfl
def any_words(ss:List Str)(x:Str):((ss.map D.str).any λz=>eqF z (.str x))=Wx (x∈ss):=by
 induction ss with
 |nil=>rfl
 |cons s r ih=>
  rw[Op,Wc,ih];show((s==x) || Wx (x∈r))=_;by_cases e:s=x
  . subst e;simp
  . have:(s==x)=Ww:=by simpa using e
    rw[this];have e':¬ x=s:=λq=>e q.symm;simp[e']
def ZbU{ss:List Str}{x:Str}:opC GD .In (.str x) (.tup (ss.map .str)) h=.ok (.bl (Wx (x∈ss))) h:=by show Zcj GD Ww (.str x) (.tup (ss.map .str)) h=_;unfold Zcj;rw[ZmW];simp only[ZkG,any_words];rfl
@[simp] theorem Zfb{xs i}:ZbD GD (.tup xs) (.int i) h=R.ofO (atI xs i) h:=rfl
@[simp] theorem ZwL{xs i}:ZbD GD (.ro xs) (.int i) h=R.ofO (atI xs i) h:=rfl
@[simp] theorem Zq8{n s}:ZbD GD (.kd n) (.str s) h=match GD n with
 |some kvs=>R.ofO (Zbh kvs (.inr s)) h
 |none=>.bad:=rfl
def ZY{i k xs}(e:h[i]? = Ws (.lst xs)):ZbD GD (.ref i) (.int k) h=R.ofO (atI xs k) h:=by unfold ZbD;simp only[seqOf,lstOf,e]
@[simp] theorem ZiA{α:Type}{x:α}{l:List α}:atI (x::l) 0=Ws x:=by simp[atI,ixN]
def ZbA{α:Type}{l:List α}{k:Nat}:atI l (k:Int)=l[k]? := by
 unfold atI ixN;by_cases hk:k<l.length
 . simp[hk]
 . simp[hk]
@[simp] theorem ZwC{α:Type}{x y:α}{l:List α}:atI (x::y::l) 1=Ws y:=ZbA (k:=1)
@[simp] theorem ZxU{α:Type}{x y z:α}{l:List α}:atI (x::y::z::l) 2=Ws z:=ZbA (k:=2)
@[simp] theorem ZxT{α:Type}{x y z w:α}{l:List α}:atI (x::y::z::w::l) 3=Ws w:=ZbA (k:=3)
def Zef{α:Type}{l:List α}{x:α}:atI (l++[x]) (-1)=Ws x:=by
 unfold atI ixN;rw[if_neg (by decide),if_pos (by simp;lia)];have:(-1+((l++[x]).length:Int)).toNat=l.length:=by simp;lia
 simp only[Yz,this];simp
@[simp] theorem ZvK{xs l u}:Zgu (.tup xs) l u h=.ok (.tup (cutD xs l u)) h:=rfl
@[simp] theorem ZnE{x:D}{l:List D}:cutD (x::l) (Ws 1) Wu=l:=by simp[cutD,HT.sIx]
@[simp] theorem ZwK{b}:ZfK GD (.bl b) h=Ws b:=rfl
@[simp] theorem ZuZ{i}:ZfK GD (.int i) h=Ws (i != 0):=rfl
@[simp] theorem ZuX{xs}:ZfK GD (.tup xs) h=Ws (!xs.isEmpty):=rfl
@[simp] theorem ZuY:ZfK GD .non h=Ws Ww:=rfl
@[simp] theorem Zma{i j}:opB .Add (.int i) (.int j) h=.ok (.int (i+j)) h:=rfl
@[simp] theorem ZiQ{i j}:opB .Sub (.int i) (.int j) h=.ok (.int (i - j)) h:=rfl
def ZW(hj:0<j):opB .Mod (.int i) (.int j) h=.ok (.int (i % j)) h:=if_pos hj
def Zc6(hj:0<j/\j<1073741824):opB .FloorDiv (.int i) (.int j) h=.ok (.int (i / j)) h:=if_pos hj
def Zfc(hj:i.natAbs<2 ^ 2000/\j.natAbs<2 ^ 2000):opB .Mult (.int i) (.int j) h=.ok (.int (i * j)) h:=if_pos hj
def ZbV(hl:xs.length+ys.length<=sizeLine):opB .Add (.tup xs) (.tup ys) h=.ok (.tup (xs++ys)) h:=if_pos hl
@[simp] theorem ZdK:ZcU n (.str x) (.str y) h=.ok (.bl (if n then !Wx (x=y)else Wx (x=y))) h:=by
 have e:YQ (.str x) (.str y)=Wx (x=y):=by show(x==y)=_;rw[Bool.beq_eq_decide_eq]
 have q:ZcU n (.str x) (.str y) h=if min (PyData.str x).depth (PyData.str y).depth<=1100 then .ok (.bl (if n then !YQ (.str x) (.str y)else YQ (.str x) (.str y))) h else .bad:=rfl;rw[q,if_pos (by simp[PyData.depth]),e]
@[simp] theorem ZjS:ZcU n (.int x) (.int y) h=.ok (.bl (if n then !Wx (x=y)else Wx (x=y))) h:=by
 have e:YQ (.int x) (.int y)=Wx (x=y):=by show(x==y)=_;rw[Bool.beq_eq_decide_eq]
 have q:ZcU n (.int x) (.int y) h=if min (PyData.int x).depth (PyData.int y).depth<=1100 then .ok (.bl (if n then !YQ (.int x) (.int y)else YQ (.int x) (.int y))) h else .bad:=rfl;rw[q,if_pos (by simp[PyData.depth]),e]
end
@[simp] theorem ZuH{xs:List D}(h:xs.length<=1000):xs.length<=sizeLine:=OE h (by decide)
def Zg(e:P.tb.lookup f=Ws fd)(hl:ds.length=fd.ps.length):run P (n+1) f ds h=Ze (xs2 ⟨P.G,P.GD,run P n,P.L⟩ fd.body (ZF fd.N ds) h):=by rw[run,show P.look f=Ws fd by unfold Pg.look;rw[e]];simp only;rw[if_pos hl]
def Zy(hn:P.tb.lookup f=Wu)(e:P.ms.lookup f=Ws fd)(hl:ds.length=fd.ps.length):run P (n+1) f ds h=Ze (xs2 ⟨P.G,P.GD,run P n,P.L⟩ fd.body (ZF fd.N ds) h):=by rw[run,show P.look f=Ws fd by unfold Pg.look;rw[hn];exact e];simp only;rw[if_pos hl]
section
variable {h:Hd}{x y z w:DO}{r:List DO}
@[simp] theorem ZbL:(h++x::r)[h.length]? = Ws x:=by simp
@[simp] theorem ZxX:(h++x::y::r)[h.length+1]? = Ws y:=by simp
@[simp] theorem ZxW:(h++x::y::z::r)[h.length+2]? = Ws z:=by simp
@[simp] theorem ZxV:(h++x::y::z::w::r)[h.length+3]? = Ws w:=by simp
@[simp] theorem ZjL:(h++x::r).set h.length o=h++o::r:=by simp
@[simp] theorem ZxR:(h++x::y::r).set (h.length+1) o=h++x::o::r:=by simp
@[simp] theorem ZxQ:(h++x::y::z::r).set (h.length+2) o=h++x::y::o::r:=by simp
end
@[simp] theorem Zrg:Zc7 o h=.ok (.ref h.length) (h++[o]):=rfl
section
variable {h:Hd}
def ZaT(e:h[i]? = Ws (.lst ys))(hz:ys.length<sizeLine):Zck .app (.ref i) [d] h=.ok .non (h.set i (.lst (ys++[d]))):=by simp only[Zck,e,ZhO,ZtU];rw[if_pos hz]
def ZcV(e:h[i]? = Ws (.lst (ys++[d]))):Zck .pop (.ref i) [] h=.ok d (h.set i (.lst ys)):=by simp only[Zck,e,ZhO,ZtT];simp
def Zih(e:h[i]? = Ws (.lst ys)):Zgj (.ref i) h=Wv:=by simp[Zgj,e]
def Zqh(e:h[i]? = Ws (.lst ys)):ZfK GD (.ref i) h=Ws (!ys.isEmpty):=by simp[ZfK,e]
@[simp] theorem Zwf:ZK Wu g body [] S h=.ok (.nx,S) h:=rfl
def Zen:ZK Wu g body (d::ds) S h=match ZbS g d S with
 |none=>.bad
 |some ρ1=>(body ρ1 h).bnd λp h2=>match p with
  |(.nx,ρ2)=>ZK Wu g body ds ρ2 h2
  |(.ct,ρ2)=>ZK Wu g body ds ρ2 h2
  |(.bk,ρ2)=>.ok (.nx,ρ2) h2
  |(.rt d,ρ2)=>.ok (.rt d,ρ2) h2:=rfl
def Zaj:Z0 src g test elt (d::ds) S acc h=if Wk.stays src h/\acc.length<sizeLine then match ZbS g d S with
 |none=>.bad
 |some ρ1=>(test ρ1 h).bnd λb h1=>if b then(elt ρ1 h1).bnd λx h2=>Z0 src g test elt ds S (acc++[x]) h2 else Z0 src g test elt ds S acc h1
 else .bad:=rfl
def ZdH:Zag test body (n+1) S h=(test S h).bnd λb h1=>if b then(body S h1).bnd λp h2=>match p with
 |(.nx,ρ2)=>Zag test body n ρ2 h2
 |(.ct,ρ2)=>Zag test body n ρ2 h2
 |(.bk,ρ2)=>.ok (.nx,ρ2) h2
 |(.rt d,ρ2)=>.ok (.rt d,ρ2) h2
 else .ok (.nx,S) h1:=rfl
end
inductive Wd where
 |add|sub|mul|lt
 deriving DecidableEq
noncomputable def Wd.s:Wd->Str
 |.add=>O "+"
 |.sub=>O "-"
 |.mul=>O "*"
 |.lt=>O "<"
inductive T where
 |num (n:Int)|name (x:Str)|fn (x:Str) (e:T)|rcc (f x:Str) (e:T)|call (f a:T)|iff (c t e:T)|op (w:Wd) (a b:T)
noncomputable def T.d:T->D
 |.num n=>.tup [.str (O "num"),.int n]
 |.name x=>.tup [.str (O "name"),.str x]
 |.fn x e=>.tup [.str (O "fn"),.str x,e.d]
 |.rcc f x e=>.tup [.str (O "rec"),.str f,.str x,e.d]
 |.call f a=>.tup [.str (O "call"),f.d,a.d]
 |.iff c t e=>.tup [.str (O "if"),c.d,t.d,e.d]
 |.op w a b=>.tup [.str w.s,a.d,b.d]
noncomputable def T.parts:T->List T
 |.num _|.name _=>[]
 |.fn _ e|.rcc _ _ e=>[e]
 |.call f a=>[f,a]
 |.iff c t e=>[c,t,e]
 |.op _ a b=>[a,b]
noncomputable def T.places:T->List T
 |.num n=>[.num n]
 |.name x=>[.name x]
 |.fn x e=>.fn x e::e.places
 |.rcc f x e=>.rcc f x e::e.places
 |.call f a=>.call f a::(f.places++a.places)
 |.iff c t e=>.iff c t e::(c.places++(t.places++e.places))
 |.op w a b=>.op w a b::(a.places++b.places)
noncomputable def T.size(t:T):Nat:=t.places.length
def T.places_parts(t:T):t.places=t::t.parts.flatMap T.places:=by cases t<;>simp[T.places,T.parts]
set_option tactic.hygienic true
section
variable {U:Tb}{S:Ev}{h h1:Hd}{f:Str}{as:List D}{r:R D}
noncomputable abbrev Tb.say(U:Tb)(r:R D):Tb:=⟨U.G,U.GD,λ_ _ _=>r,U.L⟩
def Za0(e:U.C f as h1=r)(q:xs1 U s S h=xs1 (U.say (U.C f as h1)) s S h)(z:xs1 (U.say r) s S h=y):xs1 U s S h=y:=by rw[q,e,z]
def Zfx(e:U.C f as h1=r)(q:tst U s S h=tst (U.say (U.C f as h1)) s S h)(z:tst (U.say r) s S h=y):tst U s S h=y:=by rw[q,e,z]
def Zj(e:tst U c S h=.ok Wv h1):xs1 U (.iff c a b) S h=xs2 U a S h1:=by rw[ZlF,e];rfl
def Zf(e:tst U c S h=.ok Ww h1):xs1 U (.iff c a b) S h=xs2 U b S h1:=by rw[ZlF,e];rfl
def Zr(q:ev U e S h=.ok d h1):xs1 U (.ret e) S h=.ok (.rt d,S) h1:=by rw[ZiC,q];rfl
def Zs(q:ev U e S h=.ok d h1):xs1 U (.set (.nm i) e) S h=.ok (.nx,S.set i (Ws d)) h1:=by rw[ZlD,q];rfl
def ZfZ(q:evi U it S h=.ok w h1):xs1 U (.forr g it b) S h=ZK w.src g (xs2 U b) w.xs S h1:=by rw[ZnP,q];rfl
def Zi(p:ev U a S h=.ok x h1)(q:ev U b S h1=.ok y h2):ev U (.bin op a b) S h=opB op x y h2:=by rw[ZpF,p];simp only[Zt,q]
def Zw(p:ev U a S h=.ok x h1)(q:ev U b S h1=.ok y h2):ev U (.cmp op a b) S h=opC U.GD op x y h2:=by rw[Zup,p];simp only[Zt,q]
def Zcy(q:ev U e S h=.ok (.bl b) h1):tst U (.ex e) S h=.ok b h1:=by rw[Zn7,q];rfl
def Zh{b c:Bool}{y:R Bool}(q:y=.ok b h1)(e:b=c):y=.ok c h1:=e ▸ q
noncomputable def hdS:Sxs->Sx
 |.cons s _=>s
 |.nil=>.pas
noncomputable def tlS:Sxs->Sxs
 |.cons _ r=>r
 |.nil=>.nil
def rt1(e:xs1 U (hdS ss) S h=.ok (.rt d,ρ1) h2)(hs:ss=.cons (hdS ss) (tlS ss)):Ze (xs2 U ss S h)=.ok d h2:=by rw[hs,Zd e];rfl
def nx1(e:xs1 U (hdS ss) S h=.ok (.nx,ρ1) h2)(hs:ss=.cons (hdS ss) (tlS ss)):xs2 U ss S h=xs2 U (tlS ss) ρ1 h2:=by rw[hs,Za e];rfl
def Zc(p:ev U a S h=.ok x h1)(q:evs U es S h1=.ok xs h2):evs U (.cons a es) S h=.ok (x::xs) h2:=by rw[Zfr,p,Zt,q];rfl
def Zuq(p:evs U es S h=.ok xs h1):ev U (.call g es) S h=U.C g xs h1:=by rw[Zi4,p];rfl
def Zks(a:atI xs z=Ws d)(p:evs U es S h=.ok xs h)(q:ev U e S (h++[.lst xs])=.ok (.int z) (h++[.lst xs]))(hz:xs.length<=1000):ev U (.ix (.lstl es) e) S h=.ok d (h++[.lst xs]):=by rw[Zmx,Zmw,p,Zt,if_pos (OE hz (by decide)),Zrg,Zt,q,Zt,ZY (xs:=xs) (by simp),a];rfl
def Zu(e:U.C g xs h1=y)(p:evs U es S h=.ok xs h1):ev U (.call g es) S h=y:=(Zuq p).trans e
def Zaw(p:evs U es S h=.ok xs h1)(hz:xs.length<=1000):ev U (.tupl es) S h=.ok (.tup xs) h1:=by rw[ZrJ,p,Zt,if_pos (OE hz (by decide))]
def Zru(p:ev U e S h=.ok x h1)(n:x≠.non):tst U (.ex (.cmp .Is e (.cst .non))) S h=.ok Ww h1:=Zcy ((Zw p rfl).trans (by rw[Zo2,decide_eq_false n]))
def Zuc(p:ev U e S h=.ok .non h1):tst U (.ex (.cmp .Is e (.cst .non))) S h=.ok Wv h1:=Zcy ((Zw p rfl).trans (by rw[Zo2,decide_eq_true rfl]))
def ZaM(p:ev U a S h=.ok (.str x) h1)(q:ev U b S h1=.ok (.str y) h2):tst U (.ex (.cmp .Eq a b)) S h=.ok (Wx (x=y)) h2:=Zcy ((Zw p q).trans (by rw[Zg4,ZdK];rfl))
def Zev(p:ev U a S h=.ok (.int x) h1)(q:ev U b S h1=.ok (.int y) h2):tst U (.ex (.cmp .Eq a b)) S h=.ok (Wx (x=y)) h2:=Zcy ((Zw p q).trans (by rw[Zg4,ZjS];rfl))
def Zl(p:ev U a S h=.ok x h1)(q:ev U b S h1=.ok y h2):ev U (.ix a b) S h=ZbD U.GD x y h2:=by rw[Zmx,p,Zt,q,Zt]
def ZsE(p:tst U a S h=.ok Wv h1)(q:tst U b S h1=.ok c h2):tst U (.ands (.cons a (.one b))) S h=.ok c h2:=by rw[Zju,Zgc,p];exact q
def ZwE(p:tst U a S h=.ok Ww h1):tst U (.ands (.cons a (.one b))) S h=.ok Ww h1:=by rw[Zju,Zgc,p];rfl
def Zo0(p:tst U a S h=.ok Wv h1):tst U (.ors (.cons a (.one b))) S h=.ok Wv h1:=by rw[ZgH,Zbi,p];rfl
def ZiM(p:tst U a S h=.ok Ww h1)(q:tst U b S h1=.ok c h2):tst U (.ors (.cons a (.one b))) S h=.ok c h2:=by rw[ZgH,Zbi,p];exact q
end
end IV
namespace Gn
open PySem L2 IV
set_option tactic.hygienic false
def ZaH:Sxs:=(.c (.iff (.ex (.cmp .NotIn (.ix (.v 0) (.ci 0)) (.glo (O "FORMS")))) (.c (.ret (.tupl .n)) .n) .n) (.c (.ret (.sl (.v 0) (Ws (.bin .Add (.ci 1) (.ix (.ix (.glo (O "FORMS")) (.ix (.v 0) (.ci 0))) (.ci 0)))) Wu)) .n))
def Zdc:Fd:=⟨[(O "E")],[(O "E")],ZaH⟩
def ZcF:Sxs:=(.c (.iff (.ex (.cmp .Lt (.v 1) (.blt .len (.c (.v 0) .n)))) (.c (.ret (.ix (.v 0) (.v 1))) .n) .n) (.c (.ret (.ci 0)) .n))
def Zav:Fd:=⟨[(O "_law_script"),(O "_law_k")],[(O "_law_script"),(O "_law_k")],ZcF⟩
def Zgr:Sxs:=(.c (.set (.nm 2) (.bin .Add (.bin .Pow (.ci 10) (.ci 30)) (.ci 57))) (.c (.set (.nm 3) (.bin .Mult (.bin .Mod (.v 0) (.v 2)) (.ci 271828182845904523536028747135))) (.c (.set (.nm 3) (.bin .Add (.v 3) (.bin .Mult (.bin .Mult (.v 1) (.v 1)) (.ci 314159265358979323846264338327)))) (.c (.ret (.bin .Mod (.bin .Add (.v 3) (.ci 577215664901532860606512090082)) (.v 2))) .n))))
def ZdR:Fd:=⟨[(O "_law_cell"),(O "_law_k")],[(O "_law_cell"),(O "_law_k"),(O "_law_big"),(O "_law_number_here")],Zgr⟩
def ZeU:Sxs:=(.c (.set (.nm 1) (.ix (.v 0) (.ci 1))) (.c (.put (.v 0) (.ci 1) (.bin .Add (.v 1) (.ci 1))) (.c (.iff (.ex (.cmp .Lt (.v 1) (.blt .len (.c (.ix (.v 0) (.ci 0)) .n)))) (.c (.ret (.ix (.ix (.v 0) (.ci 0)) (.v 1))) .n) .n) (.c (.ret (.call (O "_law_mixed") (.c (.v 1) (.c (.ci 7) .n)))) .n))))
def Zhm:Fd:=⟨[(O "_law_state")],[(O "_law_state"),(O "_law_at")],ZeU⟩
def Zgq:Sxs:=(.c (.set (.nm 1) (.Ci_ "abcdefghijklmnopqrstuvwxyz")) (.c (.set (.nm 2) (.bin .Add (.ci 1) (.bin .Mod (.v 0) (.ci 8)))) (.c (.set (.nm 3) (.bin .Mod (.bin .FloorDiv (.v 0) (.ci 8)) (.v 2))) (.c (.set (.nm 4) (.bin .FloorDiv (.v 0) (.ci 64))) (.c (.set (.nm 5) (.Ci_ "")) (.c (.forr (.nm 6) (.rng (.ci 8)) (.c (.set (.nm 5) (.bin .Add (.v 5) (.ix (.v 1) (.bin .Mod (.v 4) (.ci 26))))) (.c (.set (.nm 4) (.bin .FloorDiv (.v 4) (.ci 26))) .n))) (.c (.set (.nm 7) (.lstl .n)) (.c (.forr (.nm 6) (.rng (.ci 5)) (.c (.set (.nm 8) (.ix (.v 1) (.bin .Mod (.bin .Add (.v 4) (.bin .Mult (.ci 5) (.v 6))) (.ci 26)))) (.c (.set (.nm 9) (.bin .Add (.bin .Add (.sl (.v 5) Wu (Ws (.v 3))) (.v 8)) (.sl (.v 5) (Ws (.bin .Add (.v 3) (.ci 1))) (Ws (.v 2))))) (.c (.iff (.ex (.cmp .Eq (.bin .Mod (.bin .FloorDiv (.v 4) (.ci 26)) (.ci 4)) (.ci 1))) (.c (.set (.nm 9) (.sl (.v 5) Wu (Ws (.bin .Sub (.ci 8) (.v 6))))) .n) .n) (.c (.iff (.ex (.cmp .In (.v 9) (.tupl (.c (.Ci_ "fn") (.c (.Ci_ "rec") (.c (.Ci_ "call") (.c (.Ci_ "if") .n))))))) (.c (.set (.nm 9) (.bin .Mult (.Ci_ "q") (.blt .len (.c (.v 9) .n)))) .n) .n) (.c (.drp (.meth .app (.v 7) (.c (.v 9) .n))) .n)))))) (.c (.ret (.v 7)) .n)))))))))
def ZdQ:Fd:=⟨[(O "_law_number_here")],[(O "_law_number_here"),(O "_law_letters"),(O "_law_long"),(O "_law_place"),(O "_law_rest"),(O "_law_base"),(O "_law_k"),(O "_law_found"),(O "_law_sign"),(O "_law_word")],Zgq⟩
def Zgp:Sxs:=(.c (.set (.nm 2) (.dictl .n)) (.c (.forr (.two 3 4) (.pl (.v 0)) (.c (.put (.v 2) (.v 3) (.v 4)) .n)) (.c (.ret (.comp [(O "_law_name"),(O "_law_wish"),(O "_law_known")] [Wu,Ws 1,Ws 2] (.pl (.blt .srt (.c (.v 2) .n))) (.nm 0) (Ws (.ex (.cmp .Eq (.ix (.v 2) (.v 0)) (.v 1)))) (.v 0))) .n)))
def ZdP:Fd:=⟨[(O "_law_scope"),(O "_law_wish")],[(O "_law_scope"),(O "_law_wish"),(O "_law_known"),(O "_law_name"),(O "_law_held")],Zgp⟩
def ZaK:Sxs:=(.c (.iff (.ex (.cmp .Eq (.v 0) (.Ci_ "n"))) (.c (.ret (.tupl (.c (.Ci_ "num") (.c (.ix (.lstl (.c (.ci 0) (.c (.ci 1) (.c (.ci 2) (.c (.bin .Mod (.bin .FloorDiv (.v 1) (.ci 7)) (.ci 1000000)) .n))))) (.bin .Mod (.v 1) (.ci 4))) .n)))) .n) .n) (.c (.iff (.ex (.cmp .Eq (.v 0) (.Ci_ "f"))) (.c (.ret (.tupl (.c (.Ci_ "fn") (.c (.Ci_ "w") (.c (.tupl (.c (.Ci_ "-") (.c (.tupl (.c (.Ci_ "name") (.c (.Ci_ "w") .n))) (.c (.tupl (.c (.Ci_ "num") (.c (.bin .Mod (.v 1) (.ci 3)) .n))) .n)))) .n))))) .n) .n) (.c (.ret (.tupl (.c (.Ci_ "fn") (.c (.Ci_ "w") (.c (.tupl (.c (.Ci_ "call") (.c (.tupl (.c (.Ci_ "name") (.c (.Ci_ "w") .n))) (.c (.tupl (.c (.Ci_ "num") (.c (.bin .Mod (.v 1) (.ci 5)) .n))) .n)))) .n))))) .n)))
def Zgl:Fd:=⟨[(O "_law_wish"),(O "_law_number_here")],[(O "_law_wish"),(O "_law_number_here")],ZaK⟩
def Zbq:Sx:=(.set (.nm 6) (.ix (.v 4) (.bin .Mod (.v 1) (.ci 5))))
def Zap:Sx:=(.iff (.ex (.cmp .Eq (.v 0) (.Ci_ "g"))) (.c (.ret (.tupl (.c (.Ci_ "fn") (.c (.v 6) (.c (.call (O "_law_any") (.c (.Ci_ "n") (.c (.bin .Add (.v 2) (.lstl (.c (.tupl (.c (.v 6) (.c (.Ci_ "f") .n))) .n))) (.c (.v 3) (.c (.v 4) (.c (.v 5) .n)))))) .n))))) .n) .n)
def Zao:Sx:=(.iff (.ex (.cmp .Eq (.bin .Mod (.bin .FloorDiv (.v 1) (.ci 5)) (.ci 3)) (.ci 0))) (.c (.ret (.tupl (.c (.Ci_ "fn") (.c (.v 6) (.c (.call (O "_law_any") (.c (.Ci_ "n") (.c (.bin .Add (.v 2) (.lstl (.c (.tupl (.c (.v 6) (.c (.Ci_ "n") .n))) .n))) (.c (.v 3) (.c (.v 4) (.c (.v 5) .n)))))) .n))))) .n) .n)
def Zbp:Sx:=(.set (.nm 7) (.ix (.v 4) (.bin .Mod (.bin .Add (.bin .Add (.bin .Mod (.v 1) (.ci 5)) (.ci 1)) (.bin .Mod (.bin .FloorDiv (.v 1) (.ci 15)) (.ci 4))) (.ci 5))))
def Zbo:Sx:=(.set (.nm 8) (.bin .Add (.v 2) (.lstl (.c (.tupl (.c (.v 7) (.c (.Ci_ "f") .n))) (.c (.tupl (.c (.v 6) (.c (.Ci_ "n") .n))) .n)))))
def Zbn:Sx:=(.set (.nm 9) (.tupl (.c (.Ci_ "call") (.c (.tupl (.c (.Ci_ "name") (.c (.v 7) .n))) (.c (.tupl (.c (.Ci_ "-") (.c (.tupl (.c (.Ci_ "name") (.c (.v 6) .n))) (.c (.tupl (.c (.Ci_ "num") (.c (.ci 1) .n))) .n)))) .n)))))
def Zan:Sx:=(.iff (.ex (.cmp .Eq (.bin .Mod (.bin .FloorDiv (.v 1) (.ci 60)) (.ci 3)) (.ci 0))) (.c (.set (.nm 9) (.call (O "_law_any") (.c (.Ci_ "n") (.c (.v 8) (.c (.v 3) (.c (.v 4) (.c (.v 5) .n))))))) .n) (.c (.iff (.ex (.cmp .Eq (.bin .Mod (.bin .FloorDiv (.v 1) (.ci 60)) (.ci 3)) (.ci 1))) (.c (.set (.nm 9) (.tupl (.c (.ix (.lstl (.c (.Ci_ "+") (.c (.Ci_ "*") .n))) (.bin .Mod (.bin .FloorDiv (.v 1) (.ci 180)) (.ci 2))) (.c (.call (O "_law_any") (.c (.Ci_ "n") (.c (.v 8) (.c (.v 3) (.c (.v 4) (.c (.bin .Sub (.v 5) (.ci 1)) .n)))))) (.c (.v 9) .n))))) .n) .n) .n))
def Zam:Sx:=(.ret (.tupl (.c (.Ci_ "rec") (.c (.v 7) (.c (.v 6) (.c (.tupl (.c (.Ci_ "if") (.c (.tupl (.c (.Ci_ "name") (.c (.v 6) .n))) (.c (.v 9) (.c (.call (O "_law_any") (.c (.Ci_ "n") (.c (.v 8) (.c (.v 3) (.c (.v 4) (.c (.bin .Sub (.v 5) (.ci 1)) .n)))))) .n))))) .n))))))
def ZhH:Sxs:=(.c Zbq (.c Zap (.c Zao (.c Zbp (.c Zbo (.c Zbn (.c Zan (.c Zam .n))))))))
def ZdS:Fd:=⟨[(O "_law_wish"),(O "_law_rest"),(O "_law_scope"),(O "_law_state"),(O "_law_names_here"),(O "_law_room")],[(O "_law_wish"),(O "_law_rest"),(O "_law_scope"),(O "_law_state"),(O "_law_names_here"),(O "_law_room"),(O "_law_x"),(O "_law_f"),(O "_law_inner"),(O "_law_again")],ZhH⟩
def Zd2:Sx:=(.set (.nm 5) (.bin .Mod (.v 0) (.ci 6)))
def Zcg:Sx:=(.iff (.ex (.cmp .Eq (.v 5) (.ci 0))) (.c (.ret (.call (O "_law_plain") (.c (.Ci_ "n") (.c (.bin .FloorDiv (.v 0) (.ci 6)) .n)))) .n) .n)
def Zcf:Sx:=(.iff (.ex (.cmp .Lt (.v 5) (.ci 3))) (.c (.set (.nm 6) (.call (O "_law_any") (.c (.Ci_ "n") (.c (.v 1) (.c (.v 2) (.c (.v 3) (.c (.v 4) .n))))))) (.c (.ret (.tupl (.c (.ix (.lstl (.c (.Ci_ "+") (.c (.Ci_ "-") (.c (.Ci_ "*") (.c (.Ci_ "<") .n))))) (.bin .Mod (.bin .FloorDiv (.v 0) (.ci 6)) (.ci 4))) (.c (.v 6) (.c (.call (O "_law_any") (.c (.Ci_ "n") (.c (.v 1) (.c (.v 2) (.c (.v 3) (.c (.v 4) .n)))))) .n))))) .n)) .n)
def Zd1:Sx:=(.set (.nm 7) (.ix (.lstl (.c (.Ci_ "f") (.c (.Ci_ "f") (.c (.Ci_ "g") .n)))) (.bin .Sub (.v 5) (.ci 3))))
def Zd0:Sx:=(.set (.nm 8) (.call (O "_law_any") (.c (.v 7) (.c (.v 1) (.c (.v 2) (.c (.v 3) (.c (.v 4) .n)))))))
def ZdZ:Sx:=(.ret (.tupl (.c (.Ci_ "call") (.c (.v 8) (.c (.call (O "_law_any") (.c (.ix (.dictl (.c (.Ci_ "f") (.c (.Ci_ "n") (.c (.Ci_ "g") (.c (.Ci_ "f") .n))))) (.v 7)) (.c (.v 1) (.c (.v 2) (.c (.v 3) (.c (.v 4) .n)))))) .n)))))
def Zdg:Sxs:=(.c Zd2 (.c Zcg (.c Zcf (.c Zd1 (.c Zd0 (.c ZdZ .n))))))
def Zfl:Fd:=⟨[(O "_law_rest"),(O "_law_scope"),(O "_law_state"),(O "_law_names_here"),(O "_law_room")],[(O "_law_rest"),(O "_law_scope"),(O "_law_state"),(O "_law_names_here"),(O "_law_room"),(O "_law_way"),(O "_law_one"),(O "_law_wish"),(O "_law_fun")],Zdg⟩
def ZbK:Sx:=(.put (.v 2) (.ci 2) (.bin .Sub (.ix (.v 2) (.ci 2)) (.ci 1)))
def Zcr:Sx:=(.set (.nm 5) (.call (O "_law_next") (.c (.v 2) .n)))
def ZbJ:Sx:=(.iff (.ex (.cmp .Eq (.bin .Mod (.v 5) (.ci 29)) (.ci 0))) (.c (.set (.nm 0) (.ix (.lstl (.c (.Ci_ "n") (.c (.Ci_ "f") (.c (.Ci_ "g") .n)))) (.bin .Mod (.bin .FloorDiv (.v 5) (.ci 29)) (.ci 3)))) .n) .n)
def Zcq:Sx:=(.set (.nm 6) (.bin .FloorDiv (.v 5) (.ci 87)))
def ZbI:Sx:=(.set (.nm 7) (.call (O "_law_there") (.c (.v 1) (.c (.v 0) .n))))
def ZbH:Sx:=(.iff (.ands (.c (.ex (.cmp .NotEq (.v 7) (.lstl .n))) (.one (.ex (.cmp .Eq (.bin .Mod (.v 6) (.ci 3)) (.ci 0)))))) (.c (.ret (.tupl (.c (.Ci_ "name") (.c (.ix (.v 7) (.bin .Mod (.bin .FloorDiv (.v 6) (.ci 3)) (.blt .len (.c (.v 7) .n)))) .n)))) .n) .n)
def ZaL:Sx:=(.iff (.ors (.c (.ex (.cmp .Lt (.v 4) (.ci 1))) (.one (.ex (.cmp .Lt (.ix (.v 2) (.ci 2)) (.ci 0)))))) (.c (.ret (.call (O "_law_plain") (.c (.v 0) (.c (.bin .FloorDiv (.v 6) (.ci 3)) .n)))) .n) .n)
def Zcp:Sx:=(.set (.nm 6) (.bin .FloorDiv (.v 6) (.ci 30)))
def ZbG:Sx:=(.iff (.ex (.cmp .Eq (.bin .Mod (.v 6) (.ci 8)) (.ci 0))) (.c (.set (.nm 8) (.call (O "_law_any") (.c (.Ci_ "n") (.c (.v 1) (.c (.v 2) (.c (.v 3) (.c (.bin .Sub (.v 4) (.ci 1)) .n))))))) (.c (.set (.nm 9) (.call (O "_law_any") (.c (.v 0) (.c (.v 1) (.c (.v 2) (.c (.v 3) (.c (.bin .Sub (.v 4) (.ci 1)) .n))))))) (.c (.ret (.tupl (.c (.Ci_ "if") (.c (.v 8) (.c (.v 9) (.c (.call (O "_law_any") (.c (.v 0) (.c (.v 1) (.c (.v 2) (.c (.v 3) (.c (.bin .Sub (.v 4) (.ci 1)) .n)))))) .n)))))) .n))) .n)
def Za1:Sx:=(.iff (.ex (.cmp .Eq (.v 0) (.Ci_ "n"))) (.c (.ret (.call (O "_law_number") (.c (.bin .FloorDiv (.v 6) (.ci 8)) (.c (.v 1) (.c (.v 2) (.c (.v 3) (.c (.bin .Sub (.v 4) (.ci 1)) .n))))))) .n) .n)
def Zb1:Sx:=(.ret (.call (O "_law_function") (.c (.v 0) (.c (.bin .FloorDiv (.v 6) (.ci 8)) (.c (.v 1) (.c (.v 2) (.c (.v 3) (.c (.bin .Sub (.v 4) (.ci 1)) .n))))))))
def ZnH:Sxs:=(.c ZbK (.c Zcr (.c ZbJ (.c Zcq (.c ZbI (.c ZbH (.c ZaL (.c Zcp (.c ZbG (.c Za1 (.c Zb1 .n)))))))))))
def Zeo:Fd:=⟨[(O "_law_wish"),(O "_law_scope"),(O "_law_state"),(O "_law_names_here"),(O "_law_room")],[(O "_law_wish"),(O "_law_scope"),(O "_law_state"),(O "_law_names_here"),(O "_law_room"),(O "_law_number_here"),(O "_law_rest"),(O "_law_there_here"),(O "_law_asked_of"),(O "_law_first")],ZnH⟩
def ZdX:Sxs:=(.c (.ret (.bin .Add (.ci 1) (.blt .sum (.c (.comp [(O "_law_part")] [Wu] (.pl (.v 0)) (.nm 0) (Ws (.ex (.blt .isi (.c (.v 0) (.c (.cst (.ty "tuple")) .n))))) (.call (O "_law_width") (.c (.v 0) .n))) .n)))) .n)
def Zcl:Fd:=⟨[(O "_law_told")],[(O "_law_told")],ZdX⟩
def ZeV:Sxs:=(.c (.ret (.maxd (.comp [(O "_law_part")] [Wu] (.pl (.v 0)) (.nm 0) (Ws (.ex (.blt .isi (.c (.v 0) (.c (.cst (.ty "tuple")) .n))))) (.bin .Add (.ci 1) (.call (O "_law_deep") (.c (.v 0) .n)))) (.ci 0))) .n)
def Zdd:Fd:=⟨[(O "_law_told")],[(O "_law_told")],ZeV⟩
def ZaD:Sx:=(.set (.nm 2) (.comp [(O "_law_k"),(O "_law_cell")] [Wu,Wu] (.enu (.sl (.v 0) (Ws (.v 1)) Wu)) (.two 0 1) Wu (.call (O "_law_mixed") (.c (.v 1) (.c (.bin .Add (.v 0) (.ci 2)) .n)))))
def Zdv:Sx:=(.set (.nm 3) (.lstl (.c (.v 2) (.c (.ci 0) (.c (.ci 26) .n)))))
def Zdu:Sx:=(.set (.nm 4) (.call (O "_law_names") (.c (.call (O "_law_next") (.c (.v 3) .n)) .n)))
def Zdt:Sx:=(.set (.nm 5) (.call (O "_law_any") (.c (.Ci_ "n") (.c (.lstl .n) (.c (.v 3) (.c (.v 4) (.c (.ci 7) .n)))))))
def ZbN:Sx:=(.forr (.nm 6) (.rng (.ci 2)) (.c (.iff (.ex (.cmp .Lt (.call (O "_law_width") (.c (.v 5) .n)) (.ci 50))) (.c (.put (.v 3) (.ci 2) (.ci 12)) (.c (.set (.nm 5) (.tupl (.c (.Ci_ "+") (.c (.v 5) (.c (.call (O "_law_any") (.c (.Ci_ "n") (.c (.lstl .n) (.c (.v 3) (.c (.v 4) (.c (.ci 6) .n)))))) .n))))) .n)) .n) .n))
def ZbM:Sx:=(.iff (.ors (.c (.ex (.cmp .Gt (.call (O "_law_width") (.c (.v 5) .n)) (.ci 100))) (.one (.ex (.cmp .Gt (.call (O "_law_deep") (.c (.v 5) .n)) (.ci 20)))))) (.c (.set (.nm 5) (.call (O "_law_plain") (.c (.Ci_ "n") (.c (.call (O "_law_next") (.c (.v 3) .n)) .n)))) .n) .n)
def Zds:Sx:=(.ret (.v 5))
def ZhV:Sxs:=(.c ZaD (.c Zdv (.c Zdu (.c Zdt (.c ZbN (.c ZbM (.c Zds .n)))))))
def ZeH:Fd:=⟨[(O "_law_script"),(O "_law_start")],[(O "_law_script"),(O "_law_start"),(O "_law_cells"),(O "_law_state"),(O "_law_names_here"),(O "_law_told"),(O "_law_k")],ZhV⟩
noncomputable def ZdO:List (Key×D):=[(.inr (O "fn"),.tup [.int 1,.int 1]),(.inr (O "rec"),.tup [.int 2,.int 1]),(.inr (O "call"),.tup [.int 0,.int 2]),(.inr (O "if"),.tup [.int 0,.int 3]),(.inr (O "+"),.tup [.int 0,.int 2]),(.inr (O "-"),.tup [.int 0,.int 2]),(.inr (O "*"),.tup [.int 0,.int 2]),(.inr (O "<"),.tup [.int 0,.int 2])]
structure Tre(P:Pg):Prop where
 parts:P.tb.lookup (O "parts_of")=Ws Zdc
 g:P.G (O "FORMS")=Ws (.kd (O "FORMS"))
 gd:P.GD (O "FORMS")=Ws ZdO
 big:1000000<=P.L
def ZgN(H:Tre P)(hU:U.G=P.G/\U.GD=P.GD)(q:ev U e S h=.ok (.str w) h)(f:Zbh ZdO (.inr w)=x):tst U (.ex (.cmp .NotIn e (.glo (O "FORMS")))) S h=.ok (!x.isSome) h:=by
 have g:ev U (.glo (O "FORMS")) S h=.ok (.kd (O "FORMS")) h:=by rw[Zhr,hU.1,H.g];rfl
 refine Zcy ((Zw q g).trans ?_);rw[ZiP,hU.2,H.gd];simp only[f]
def ZrE(H:Tre P)(hU:U.G=P.G/\U.GD=P.GD)(q:ev U e S h=.ok (.str w) h)(f:Zbh ZdO (.inr w)=Ws x):ev U (.ix (.glo (O "FORMS")) e) S h=.ok x h:=by
 have g:ev U (.glo (O "FORMS")) S h=.ok (.kd (O "FORMS")) h:=by rw[Zhr,hU.1,H.g];rfl
 rw[Zmx,g,Zt,q,Zt,Zq8,hU.2,H.gd];simp only[f];rfl
def Zj4:ev U (.ix (.var 0) (.ci 0)) (Ws (.tup (.str w::ds))::S) h=.ok (.str w) h:=by show R.ofO (atI (D.str w::ds) 0) h=_;rw[ZiA];rfl
def Zpx(H:Tre P)(hU:U.G=P.G/\U.GD=P.GD)(e:Zbh ZdO (.inr w)=Ws (.tup [.int a,.int b])):ev U (.bin .Add (.ci 1) (.ix (.ix (.glo (O "FORMS")) (.ix (.var 0) (.ci 0))) (.ci 0))) [Ws (.tup (.str w::ds))] h=.ok (.int (1+a)) h:=by refine(Zi (x:=.int 1) (y:=.int a) rfl ?_).trans rfl;rw[Zmx,ZrE H hU Zj4 e];rfl
def Zmt(q:ev U e S h=.ok (.int l) h):evo U (Ws e) S h=.ok (Ws l) h:=by rw[ZpC,q];rfl
def Zh3(p:ev U a S h=.ok x h)(q:evo U lo S h=.ok l h)(r:evo U hi S h=.ok u h):ev U (.sl a lo hi) S h=Zgu x l u h:=by simp only[Zmu,p,Zt,q,r]
def ZjR(H:Tre P)(n:Nat)(h:Hd)(w:Str)(ds:List D)(e:Zbh ZdO (.inr w)=Wu):run P (n+1) (O "parts_of") [.tup (.str w::ds)] h=.ok (.tup []) h:=by rw[Zg H.parts rfl];show Ze (xs2 (P.tbl n) ZaH [Ws (.tup (.str w::ds))] h)=_;rw[ZaH,Zd ((Zj (ZgN H ⟨rfl,rfl⟩ Zj4 e)).trans (Zd (Zr (d:=.tup []) rfl)))];rfl
def ZcT(H:Tre P)(n:Nat)(h:Hd)(w:Str)(ds:List D)(a b:Int)(e:Zbh ZdO (.inr w)=Ws (.tup [.int a,.int b])):run P (n+1) (O "parts_of") [.tup (.str w::ds)] h=.ok (.tup (cutD (.str w::ds) (Ws (1+a)) Wu)) h:=by
 rw[Zg H.parts rfl];show Ze (xs2 (P.tbl n) ZaH [Ws (.tup (.str w::ds))] h)=_;have q:=Zpx H (U:=P.tbl n) ⟨rfl,rfl⟩ (ds:=ds) (h:=h) e;have r:ev (P.tbl n) (.sl (.var 0) (Ws (.bin .Add (.ci 1) (.ix (.ix (.glo (O "FORMS")) (.ix (.var 0) (.ci 0))) (.ci 0)))) Wu) [Ws (.tup (.str w::ds))] h=.ok (.tup (cutD (.str w::ds) (Ws (1+a)) Wu)) h:=by exact(Zh3 (a:=.var 0) (x:=.tup (.str w::ds)) rfl (Zmt q) rfl).trans rfl
 rw[ZaH,Za ((Zf (ZgN H ⟨rfl,rfl⟩ Zj4 e)).trans rfl),Zd (Zr r)];rfl
def ZgJ(H:Tre P)(n:Nat)(t:T)(h:Hd):run P (n+1) (O "parts_of") [t.d] h=.ok (.tup (t.parts.map T.d)) h:=by
 cases t with
 |num z=>exact ZjR H n h (O "num") _ rfl
 |name x=>exact ZjR H n h (O "name") _ rfl
 |fn x e=>exact ZcT H n h (O "fn") _ 1 1 rfl
 |rcc f x e=>exact ZcT H n h (O "rec") _ 2 1 rfl
 |call f a=>exact ZcT H n h (O "call") _ 0 2 rfl
 |iff c a b=>exact ZcT H n h (O "if") _ 0 3 rfl
 |op w a b=>exact ZcT H n h w.s _ 0 2 (by cases w<;>rfl)
end Gn
namespace IV
open PySem L2
section
variable {U:Tb}{S:Ev}{h h1 h2 h3:Hd}
def Zdz(p:ev U o S h=.ok (.ref i) h1)(l:h1[i]? = Ws (.lst ys))(q:evs U es S h1=.ok xs h2)(e:Zck m (.ref i) xs h2=r):ev U (.meth m o es) S h=r:=by rw[Zmv,p,Zt,Zih l,if_pos rfl,q];exact e
def ZU(q:ev U e S h=.ok d h1):xs1 U (.drp e) S h=.ok (.nx,S) h1:=by rw[ZlG,q];rfl
def ZB(p:ev U o S h=.ok (.ref i) h1)(l:h1[i]? = Ws (.ins C fs))(f:fs.lookup m=Wu)(q:evs U es S h1=.ok xs h2)(e:U.C (mnm C m) (.ref i::xs) h2=r):ev U (.mcl C m o es) S h=r:=by rw[Zun,p,Zt,show Zaf (.ref i) h1=Ws (C,fs) by simp[Zaf,l]];simp only[f,and_self,if_true,q];exact e
def Zmy(p:evi U it S h=.ok w h1)(q:Z0 w.src g (tsto U c) (ev U e) w.xs (Zc0 js S) [] h1=.ok xs h2):ev U (.comp NC js it g c e) S h=.ok (.ref h2.length) (h2++[.lst xs]):=by rw[ZrL,p,Zt,q];rfl
def Zlp(p:ev U e S h=.ok (.tup xs) h1):evi U (.pl e) S h=.ok ⟨Wu,xs⟩ h1:=by rw[ZpD,p];rfl
def ZhQ(p:evs U es S h=.ok xs h1)(hz:xs.length<=1000):ev U (.lstl es) S h=.ok (.ref h1.length) (h1++[.lst xs]):=by rw[Zmw,p,Zt,if_pos (OE hz (by decide))];rfl
def Zhs(p:evs U es S h=.ok xs h1)(q:ZcE U.GD f xs h1=r):ev U (.blt f es) S h=r:=by rw[Zur,p];exact q
def Zgh(e:h[i]? = Ws (.lst ys)):ZcE GD .len [.ref i] h=.ok (.int ys.length) h:=by simp only[ZcE,ZlB,seqOf,lstOf,e];rfl
def Zsa(e:h[i]? = Ws (.lst ys)):ZcE GD .tup [.ref i] h=.ok (.tup ys) h:=by simp only[ZcE,Zr2,lstOf,e];rfl
def Zgd(p:ev U e S h=.ok (.ref i) h1)(l:h1[i]? = Ws (.lst ys)):tst U (.ex e) S h=.ok (!ys.isEmpty) h1:=by rw[Zn7,p,Zt,Zqh l];rfl
def Ze1(e:test S h=.ok Wv h1)(q:body S h1=.ok (.nx,ρ1) h2):Zag test body (n+1) S h=Zag test body n ρ1 h2:=by rw[ZdH,e,Zt,if_pos rfl,q];rfl
def ZgG(e:test S h=.ok Ww h1):Zag test body (n+1) S h=.ok (.nx,S) h1:=by rw[ZdH,e];rfl
def Zrz(p:ev U a S h=.ok (.int x) h1)(q:ev U b S h1=.ok (.int y) h2):tst U (.ex (.cmp .Gt a b)) S h=.ok (Wx (y<x)) h2:=Zcy (Zw p q)
def ZvY(p:ev U a S h=.ok (.int x) h1)(q:ev U b S h1=.ok (.int y) h2):tst U (.ex (.cmp .Lt a b)) S h=.ok (Wx (x<y)) h2:=Zcy (Zw p q)
def Zf0(b:ZbS g d S=Ws ρ1)(q:body ρ1 h=.ok (.nx,ρ2) h2):ZK Wu g body (d::ds) S h=ZK Wu g body ds ρ2 h2:=by rw[Zen,b];simp only;rw[q];rfl
def Zui(b:ZbS g d S=Ws ρ1)(q:body ρ1 h=.ok (.rt x,ρ2) h2):ZK Wu g body (d::ds) S h=.ok (.rt x,ρ2) h2:=by rw[Zen,b];simp only;rw[q];rfl
variable {c:Str}
def ZcP(q:xs1 U s S h=.exc c h1):xs2 U (.cons s r) S h=.exc c h1:=by rw[xs2,q];rfl
def Zht(q:ev U e S h=.exc c h1):xs1 U (.drp e) S h=.exc c h1:=by rw[ZlG,q];rfl
def Zvg(q:ev U e S h=.exc c h1):xs1 U (.ret e) S h=.exc c h1:=by rw[ZiC,q];rfl
def Zvj(q:ev U e S h=.ok d h1):xs1 U (.rai c e) S h=.exc c h1:=by rw[xs1,q];rfl
def ZlI(e:test S h=.ok Wv h1)(q:body S h1=.exc c h2):Zag test body (n+1) S h=.exc c h2:=by rw[ZdH,e,Zt,if_pos rfl,q];rfl
def Zwe(b:ZbS g d S=Ws ρ1)(q:body ρ1 h=.exc c h2):ZK Wu g body (d::ds) S h=.exc c h2:=by rw[Zen,b];simp only;rw[q];rfl
def Zwi(p:ev U a S h=.exc c h1):evs U (.cons a es) S h=.exc c h1:=by rw[Zfr,p];rfl
def ZsP(p:evs U es S h=.ok xs h1)(q:U.C f xs h1=.ok d h2):xs1 U (.trs i f es c) S h=.ok (.nx,S.set i (Ws d)) h2:=by rw[xs1,p];show ZhA c i S (U.C f xs h1)=_;rw[q];rfl
def ZuW(p:evs U es S h=.ok xs h1)(q:U.C f xs h1=.exc c h2):xs1 U (.trs i f es c) S h=.ok (.nx,S.set i (Ws .non)) h2:=by rw[xs1,p];show ZhA c i S (U.C f xs h1)=_;rw[q];simp[ZhA]
end
end IV
section
set_option tactic.hygienic false
set_option exponentiation.threshold 3000
namespace Gn
open PySem L2 IV
def Up(i:Nat)(h h':Hd):Prop:=h.length<=h'.length/\∀m,m<h.length->m≠i->h'[m]? = h[m]?
def Up.refl:Up i h h:=⟨Oq _,λ_ _ _=>rfl⟩
theorem Up.trans(x:Up i a b)(y:Up i b c):Up i a c:=⟨OE x.1 y.1,λm h1 h2=>(y.2 m (Ot h1 x.1) h2).trans (x.2 m h1 h2)⟩
theorem Up.set:Up i h (h.set i o):=⟨by simp,λm _ h2=>by rw[Oc (YL h2)]⟩
def Up.app:Up i h (h++g):=⟨by simp,λm h1 _=>Oe h1⟩
def ZM{h:Hd}(e:h[i]? = Ws o):i<h.length:=(Ob.mp e).1
def Up.at{i m:Nat}(u:Up i h h')(e:h[m]? = Ws o)(ne:m≠i):h'[m]? = Ws o:=(u.2 m (ZM e) ne).trans e
def Alk(P:Pg)(f:Str)(fd:Fd):Prop:=∃ps N,ps.length=fd.ps.length/\N.length=fd.N.length/\P.tb.lookup f=Ws ⟨ps,N,fd.body⟩
def Alk.same(e:P.tb.lookup f=Ws fd):Alk P f fd:=⟨fd.ps,fd.N,rfl,rfl,e⟩
def ZgI(e:Alk P f fd)(hl:ds.length=fd.ps.length):run P (n+1) f ds h=Ze (xs2 ⟨P.G,P.GD,run P n,P.L⟩ fd.body (ZF fd.N ds) h):=by obtain⟨ps,N,h1,h2,e⟩:=e;rw[Zg e (hl.trans h1.symm)];unfold ZF;rw[h2]
structure Mkr(P:Pg):Prop where
 mixed:P.tb.lookup (O "_law_mixed")=Ws ZdR
 next:P.tb.lookup (O "_law_next")=Ws Zhm
 names:P.tb.lookup (O "_law_names")=Ws ZdQ
 there:P.tb.lookup (O "_law_there")=Ws ZdP
 plain:P.tb.lookup (O "_law_plain")=Ws Zgl
 function:Alk P (O "_law_function") ZdS
 number:Alk P (O "_law_number") Zfl
 any:Alk P (O "_law_any") Zeo
 width:P.tb.lookup (O "_law_width")=Ws Zcl
 deep:P.tb.lookup (O "_law_deep")=Ws Zdd
 program:Alk P (O "_law_program") ZeH
noncomputable def big:Int:=1000000000000000000000000000057
noncomputable def mixed(c k:Int):Int:=(c % big * 271828182845904523536028747135+k * k * 314159265358979323846264338327+577215664901532860606512090082) % big
def Zaa(h:-(2 ^ 128)<i)(h2:i<2 ^ 128):i.natAbs<2 ^ 2000:=by
 have:i.natAbs<2 ^ 128:=by lia
 exact Ot this (Nat.pow_le_pow_right (by decide) (by decide))
def ZmT(hk:-(2 ^ 60)<k/\k<2 ^ 60):0<=k * k/\k * k<2 ^ 120:=by
 have a:k.natAbs<2 ^ 60:=by lia
 have b:k.natAbs * k.natAbs<2 ^ 60 * 2 ^ 60:=Nat.mul_lt_mul'' a a;have c2:((k.natAbs * k.natAbs:Nat):Int)=k * k:=Int.natAbs_mul_self;rw[<- c2];constructor
 . lia
 . have:((k.natAbs * k.natAbs:Nat):Int)<((2 ^ 60 * 2 ^ 60:Nat):Int):=Int.ofNat_lt.mpr b;exact this
def ZiJ(H:Mkr P)(n:Nat)(c k:Int)(h:Hd)(hk:-(2 ^ 60)<k/\k<2 ^ 60):run P (n+1) (O "_law_mixed") [.int c,.int k] h=.ok (.int (mixed c k)) h:=by
 rw[Zg H.mixed rfl];have hp:opB .Pow (.int 10) (.int 30) h=.ok (.int 1000000000000000000000000000000) h:=by show(if (0:Int)<=30/\(30:Int)<=1000000/\(10:Int).natAbs<2 ^ 64 then R.ok (D.int (10 ^ (30:Int).toNat)) h else R.bad)=_;rw[if_pos (by decide)];rfl
 have h1:0<=c % 1000000000000000000000000000057/\c % 1000000000000000000000000000057<1000000000000000000000000000057:=⟨Int.emod_nonneg _ (by decide),Int.emod_lt_of_pos _ (by decide)⟩
 have hkk:=ZmT hk;have e1:opB .Mod (.int c) (.int 1000000000000000000000000000057) h=.ok (.int (c % 1000000000000000000000000000057)) h:=ZW (by decide);have e2:opB .Mult (.int (c % 1000000000000000000000000000057)) (.int 271828182845904523536028747135) h=.ok (.int (c % 1000000000000000000000000000057 * 271828182845904523536028747135)) h:=Zfc ⟨Zaa (by lia) (by lia),Zaa (by decide) (by decide)⟩;have e3:opB .Mult (.int k) (.int k) h=.ok (.int (k * k)) h:=Zfc ⟨Zaa (by lia) (by lia),Zaa (by lia) (by lia)⟩;have e4:opB .Mult (.int (k * k)) (.int 314159265358979323846264338327) h=.ok (.int (k * k * 314159265358979323846264338327)) h:=Zfc ⟨Zaa (by lia) (by lia),Zaa (by decide) (by decide)⟩;have e5:opB .Mod (.int (c % 1000000000000000000000000000057 * 271828182845904523536028747135+k * k * 314159265358979323846264338327+577215664901532860606512090082)) (.int 1000000000000000000000000000057) h=.ok (.int (mixed c k)) h:=ZW (by decide);simp[ZdR,Zgr,ZF,hp,e1,e2,e3,e4,e5]
def St3(h:Hd)(i j:Nat)(cs:List Int)(at' b:Int):Prop:=h[i]? = Ws (.lst [.ref j,.int at',.int b])/\h[j]? = Ws (.lst (cs.map .int))/\i≠j
def ZkV{P:Pg}(H:Mkr P)(n:Nat)(st:St3 h i j cs a b)(ha:0<=a/\a<2 ^ 50):∃v,run P (n+2) (O "_law_next") [.ref i] h=.ok (.int v) (h.set i (.lst [.ref j,.int (a+1),.int b]))/\(v∈cs\/v=mixed a 7):=by
 obtain⟨h1,h2,ne⟩:=st;rw[Zg H.next (by rfl)];have i1:=ZM h1;have i2:(h.set i (.lst [.ref j,.int (a+1),.int b]))[i]? = Ws (.lst [.ref j,.int (a+1),.int b]):=by rw[Ol i1]
 have i3:(h.set i (.lst [.ref j,.int (a+1),.int b]))[j]? = Ws (.lst (cs.map .int)):=by rw[Oc ne];exact h2
 have hput:ZbQ (.ref i) (.int 1) (.int (a+1)) h=.ok () (h.set i (.lst [.ref j,.int (a+1),.int b])):=by simp only[ZbQ,h1];rfl
 have x1:xs1 (P.tbl (n+1)) (.set (.nm 1) (.ix (.var 0) (.ci 1))) [Ws (.ref i),Wu] h=.ok (.nx,[Ws (.ref i),Ws (.int a)]) h:=Zs ((Zl rfl rfl).trans ((ZY h1).trans rfl));have x2:xs1 (P.tbl (n+1)) (.put (.var 0) (.ci 1) (.bin .Add (.var 1) (.ci 1))) [Ws (.ref i),Ws (.int a)] h=.ok (.nx,[Ws (.ref i),Ws (.int a)]) (h.set i (.lst [.ref j,.int (a+1),.int b])):=by rw[ZlE];show(ZbQ (.ref i) (.int 1) (.int (a+1)) h).bnd _=_;rw[hput];rfl
 generalize h.set i (.lst [.ref j,.int (a+1),.int b])=h' at *;have e0:ev (P.tbl (n+1)) (.ix (.var 0) (.ci 0)) [Ws (.ref i),Ws (.int a)] h'=.ok (.ref j) h':=(Zl rfl rfl).trans ((ZY i2).trans rfl);have tt:tst (P.tbl (n+1)) (.ex (.cmp .Lt (.var 1) (.blt .len (.cons (.ix (.var 0) (.ci 0)) .nil)))) [Ws (.ref i),Ws (.int a)] h'=.ok (Wx (a<(cs.map D.int).length)) h':=ZvY rfl (Zhs (Zc e0 rfl) (Zgh i3));rw[Yt]at tt;have x3:xs2 (P.tbl (n+1)) ZeU [Ws (.ref i),Wu] h=xs2 (P.tbl (n+1)) (tlS (tlS ZeU)) [Ws (.ref i),Ws (.int a)] h':=(nx1 x1 rfl).trans (nx1 x2 rfl);by_cases hc:a<cs.length
 . obtain⟨k,rfl⟩:∃k:Nat,a=k:=⟨a.toNat,by lia⟩
   have hk:k<cs.length:=by lia
   have hat:atI (cs.map D.int) (k:Int)=Ws (.int cs[k]):=by rw[IV.ZbA,O2,Og hk];rfl
   exact⟨cs[k],(congrArg Ze x3).trans (rt1 ((Zj (Zh tt (decide_eq_true hc))).trans (Zd (Zr ((Zl e0 rfl).trans ((ZY i3).trans (by rw[hat];rfl)))))) rfl),.inl (List.getElem_mem hk)⟩
 . exact⟨mixed a 7,(congrArg Ze (x3.trans (nx1 ((Zf (Zh tt (decide_eq_false hc))).trans rfl) rfl))).trans (rt1 (Zr (Zu (ZiJ H n a 7 _ (by decide)) rfl)) rfl),.inr rfl⟩
def Cl:List Str->T->Prop
 |_,.num n=>0<=n/\n<1000000
 |sc,.name x=>x∈sc
 |sc,.fn x e=>Cl (x::sc) e
 |sc,.rcc f x e=>Cl (x::f::sc) e/\f≠x
 |sc,.call f a=>Cl sc f/\Cl sc a
 |sc,.iff c t e=>Cl sc c/\Cl sc t/\Cl sc e
 |sc,.op _ a b=>Cl sc a/\Cl sc b
noncomputable def dep:T->Nat
 |.num _|.name _=>0
 |.fn _ e|.rcc _ _ e=>dep e+1
 |.call f a=>max (dep f) (dep a)+1
 |.iff c t e=>max (dep c) (max (dep t) (dep e))+1
 |.op _ a b=>max (dep a) (dep b)+1
def at4(k:Int)(h0:0<=k)(h4:k<4):∃v,atI [D.int a,.int b,.int c,.int d] k=Ws (.int v)/\(v=a\/v=b\/v=c\/v=d):=by
 have:k=0\/k=1\/k=2\/k=3:=by lia
 rcases this with rfl|rfl|rfl|rfl
 . exact⟨a,by simp,.inl rfl⟩
 . exact⟨b,by simp,.inr (.inl rfl)⟩
 . exact⟨c,by simp,.inr (.inr (.inl rfl))⟩
 . exact⟨d,by simp,.inr (.inr (.inr rfl))⟩
def ZiI(H:Mkr P)(n:Nat)(w:Str)(v:Int)(h:Hd)(sc:List Str):∃t g,run P (n+1) (O "_law_plain") [.str w,.int v] h=.ok (T.d t) (h++g)/\Cl sc t/\dep t<=2/\t.size<=4:=by
 rw[Zg H.plain (by rfl)];by_cases w1:w=O "n"
 . obtain⟨u,e,hu⟩:=at4 (a:=0) (b:=1) (c:=2) (d:=v / 7 % 1000000) (v % 4) (by lia) (by lia);refine⟨.num u,[.lst [.int 0,.int 1,.int 2,.int (v / 7 % 1000000)]],?_,by show 0<=u/\u<1000000;lia,by show 0<=2;lia,by show 1<=4;lia⟩;exact rt1 (U:=P.tbl n) (ss:=ZaK) ((Zj (Zh (ZaM rfl rfl) (decide_eq_true w1))).trans (Zd (Zr (Zaw (Zc rfl (Zc (Zks e (Zc rfl (Zc rfl (Zc rfl (Zc ((Zi (x:=.int (v / 7)) ((Zi rfl rfl).trans (Zc6 (by decide))) rfl).trans (ZW (by decide))) rfl)))) ((Zi rfl rfl).trans (ZW (by decide))) (Nat.le_of_ble_eq_true rfl)) rfl)) (Nat.le_of_ble_eq_true rfl))))) rfl
 . have x1:xs2 (P.tbl n) ZaK [Ws (.str w),Ws (.int v)] h=xs2 (P.tbl n) (tlS ZaK) [Ws (.str w),Ws (.int v)] h:=nx1 ((Zf (Zh (ZaM rfl rfl) (decide_eq_false w1))).trans rfl) rfl;by_cases w2:w=O "f"
   . refine⟨.fn (O "w") (.op .sub (.name (O "w")) (.num (v % 3))),[],?_,?_,by simp only[dep];lia,by show 4<=4;lia⟩
     . rw[Ys];exact(congrArg Ze x1).trans (rt1 (U:=P.tbl n) (ss:=tlS ZaK) ((Zj (Zh (ZaM rfl rfl) (decide_eq_true w2))).trans (Zd (Zr (Zaw (Zc rfl (Zc rfl (Zc (Zaw (Zc rfl (Zc rfl (Zc (Zaw (Zc rfl (Zc ((Zi rfl rfl).trans (ZW (by decide))) rfl)) (Nat.le_of_ble_eq_true rfl)) rfl))) (Nat.le_of_ble_eq_true rfl)) rfl))) (Nat.le_of_ble_eq_true rfl))))) rfl)
     . exact⟨Oi,by show 0<=v % 3/\v % 3<1000000;lia⟩
   . refine⟨.fn (O "w") (.call (.name (O "w")) (.num (v % 5))),[],?_,?_,by simp only[dep];lia,by show 4<=4;lia⟩
     . rw[Ys];exact(congrArg Ze (x1.trans (nx1 ((Zf (Zh (ZaM rfl rfl) (decide_eq_false w2))).trans rfl) rfl))).trans (rt1 (U:=P.tbl n) (ss:=tlS (tlS ZaK)) (Zr (Zaw (Zc rfl (Zc rfl (Zc (Zaw (Zc rfl (Zc rfl (Zc (Zaw (Zc rfl (Zc ((Zi rfl rfl).trans (ZW (by decide))) rfl)) (Nat.le_of_ble_eq_true rfl)) rfl))) (Nat.le_of_ble_eq_true rfl)) rfl))) (Nat.le_of_ble_eq_true rfl))) rfl)
     . exact⟨Oi,by show 0<=v % 5/\v % 5<1000000;lia⟩
noncomputable def ZE:Str:=O "abcdefghijklmnopqrstuvwxyz"
def ZjZ:ZE.length=26:=by decide +kernel
def Zlg:Yo ZE=Wv:=by decide +kernel
def Wl(n:Nat)(x:Str):Prop:=Yo x=Wv/\x.length<=n
noncomputable def ltr(k:Int):Nat:=ZE.cps.toList.getD k.toNat 0
noncomputable def lt1(k:Int):Str:=⟨#[ltr k]⟩
def Zlh(k:Int)(h0:0<=k)(h1:k<26):ZbD GD (.str ZE) (.int k) h=.ok (.str (lt1 k)) h/\Wl 1 (lt1 k):=by
 obtain⟨m,rfl⟩:∃m:Nat,k=m:=⟨k.toNat,by lia⟩
 have hl:ZE.cps.toList.length=26:=by decide +kernel
 have hm:m<ZE.cps.toList.length:=by lia
 have el:ltr m=ZE.cps.toList[m]:=by show ZE.cps.toList.getD (m:Int).toNat 0=_;rw[Int.toNat_natCast,List.getD_eq_getElem?_getD,Og hm];rfl
 have e:atI ZE.cps.toList (m:Int)=Ws ZE.cps.toList[m]:=by rw[IV.ZbA,Og hm]
 unfold lt1;rw[el];refine⟨?_,Zo6 Zlg (List.getElem_mem hm),by show(#[ZE.cps.toList[m]]:Array Nat).size<=1;simp⟩;have q:ZbD GD (.str ZE) (.int (m:Int)) h=if ZE.length<=sizeLine then R.ofO ((atI ZE.cps.toList (m:Int)).map λc=>.str ⟨#[c]⟩) h else .bad:=rfl;rw[q,if_pos (by rw[ZjZ,YC];decide),e];rfl
def len_cat{x y:Str}:(x++y).length=x.length+y.length:=by show(x.cps++y.cps).size=_;rw[Array.size_append];rfl
def Zfv{x y:Str}(hx:Wl a x)(hy:Wl b y)(hz:a+b<=1000):opB .Add (.str x) (.str y) h=.ok (.str (x++y)) h/\Wl (a+b) (x++y):=by have hl:(x++y).length=x.length+y.length:=len_cat;refine⟨if_pos (by rw[YC];have:=hx.2;have:=hy.2;lia),Zib hx.1 hy.1,by rw[hl];have:=hx.2;have:=hy.2;lia⟩
theorem Zpo{U:Tb}:∀(ks:List Int) (r:Int) (x:Str) (m:Nat) (k:Option D),Wl m x->x.length=m->m+ks.length<=100->∃r' x' k',Wl (m+ks.length) x'/\x'.length=m+ks.length /\
 ZK Wu (.nm 6) (xs2 U (.cons (.set (.nm 5) (.bin .Add (.var 5) (.ix (.var 1) (.bin .Mod (.var 4) (.ci 26))))) (.cons (.set (.nm 4) (.bin .FloorDiv (.var 4) (.ci 26))) .nil))) (ks.map D.int) [a,Ws (.str ZE),l,p,Ws (.int r),Ws (.str x),k,f,sg,wd] h
  = .ok (.nx,[a,Ws (.str ZE),l,p,Ws (.int r'),Ws (.str x'),k',f,sg,wd]) h
 |[],r,x,m,k,hx,hn,hm=>⟨r,x,k,hx,hn,rfl⟩
 |c::cs,r,x,m,k,hx,hn,hm=>by
  obtain⟨e1,hy⟩:=Zlh (GD:=U.GD) (h:=h) (r % 26) (by lia) (by lia);obtain⟨e2,hxy⟩:=Zfv (h:=h) hx hy (by simp at hm;lia);obtain⟨r',x',k',h1,h2,e3⟩:=Zpo (U:=U) (h:=h) (a:=a) (l:=l) (p:=p) (f:=f) (sg:=sg) (wd:=wd) cs (r / 26) (x++lt1 (r % 26)) (m+1) (Ws (.int c)) hxy (by rw[len_cat,hn];rfl) (by simp at hm ⊢;lia);have hcl:m+(c::cs).length=m+1+cs.length:=by rw[Os];lia
  refine⟨r',x',k',by rw[hcl];exact h1,by rw[hcl];exact h2,?_⟩;have e4:opB .Mod (.int r) (.int 26) h=.ok (.int (r % 26)) h:=ZW (by decide);have e5:opB .FloorDiv (.int r) (.int 26) h=.ok (.int (r / 26)) h:=Zc6 (by decide);rw[Op,Zen];simp[e4,e1,e2,e5,e3]
def Zs0(x:Str)(l u:Option Int):(Yp x l u).length<=x.length:=by
 unfold Yp;split
 . exact Oq _
 . show((Builtin.Str.strSliceIndices l u 1 x.length).filterMap (x.cps[·]?)).toArray.size<=_;rw[Of];refine OE (List.length_filterMap_le _ _) ?_;unfold Builtin.Str.strSliceIndices;refine PySem.sliceRange_length_le _ _ _ _ (λ_=>?_) (λz=>absurd (by decide) z);cases l<;>cases u<;>simp<;>lia
def Zej(hx:Wl m x)(hm:m<=1000)(l u:Option Int):Zgu (.str x) l u h=.ok (.str (Yp x l u)) h/\Wl m (Yp x l u):=by
 refine⟨if_pos (by rw[YC];have:=hx.2;lia),Zo4 hx.1 (ZgW _ _ _),?_⟩;have:=hx.2;have q:(Yp x l u).length<=x.length:=Zs0 x l u
 lia
def in4:opC GD .In (.str x) (.tup [.str (O "fn"),.str (O "rec"),.str (O "call"),.str (O "if")]) h=.ok (.bl (Wx (x∈[O "fn",O "rec",O "call",O "if"]))) h:=ZbU (ss:=[O "fn",O "rec",O "call",O "if"])
def len_str(hx:Wl m x)(hm:m<=1000):ZcE GD .len [.str x] h=.ok (.int x.length) h:=by show(if x.length<=sizeLine then _ else _)=_;exact if_pos (by rw[YC];have:=hx.2;lia)
def Zsk(hx:Wl m x)(hm:m<=1000):opB .Mult (.str (O "q")) (.int x.length) h=.ok (.str (ZfO (O "q") x.length)) h/\Wl m (ZfO (O "q") x.length):=by
 have hq:(O "q").length=1:=by decide +kernel
 have:=hx.2;refine⟨if_pos ⟨by lia,by lia,by rw[hq];decide⟩,Zo5 (by decide +kernel) _,?_⟩;rw[Ze9,hq]
 lia
noncomputable def nmW(b:Str)(l p r c:Int):Str:=if r / 26 % 4=1 then Yp b Wu (Ws (8 - c))else Yp b Wu (Ws p)++lt1 ((r+5 * c) % 26)++Yp b (Ws (p+1)) (Ws l)
noncomputable def nmQ(w:Str):Str:=if w∈[O "fn",O "rec",O "call",O "if"]then ZfO (O "q") w.length else w
noncomputable def nm(b:Str)(l p r c:Int):Str:=nmQ (nmW b l p r c)
def Zo9(hb:Wl 8 b)(l p r c:Int):Wl 20 (nmW b l p r c):=by
 unfold nmW;split
 . have q:=(Zej (h:=[]) hb (by decide) Wu (Ws (8 - c))).2;exact⟨q.1,by have:=q.2;lia⟩
 . have q1:=(Zej (h:=[]) hb (by decide) Wu (Ws p)).2;have q2:=(Zlh (GD:=λ_=>Wu) (h:=[]) ((r+5 * c) % 26) (by lia) (by lia)).2;have q3:=(Zej (h:=[]) hb (by decide) (Ws (p+1)) (Ws l)).2;have q:=(Zfv (h:=[]) (Zfv (h:=[]) q1 q2 (by decide)).2 q3 (by decide)).2;exact⟨q.1,by have:=q.2;lia⟩
def ZvQ(hb:Wl 8 b)(l p r c:Int):Wl 20 (nm b l p r c):=by
 unfold nm nmQ;split
 . exact(Zsk (h:=[]) (Zo9 hb l p r c) (by decide)).2
 . exact Zo9 hb l p r c
def Zt1:Sx:=.set (.nm 8) (.ix (.v 1) (.bin .Mod (.bin .Add (.v 4) (.bin .Mult (.ci 5) (.v 6))) (.ci 26)))
def Zt0:Sx:=.set (.nm 9) (.bin .Add (.bin .Add (.sl (.v 5) Wu (Ws (.v 3))) (.v 8)) (.sl (.v 5) (Ws (.bin .Add (.v 3) (.ci 1))) (Ws (.v 2))))
def ZtW:Tx:=.ex (.cmp .Eq (.bin .Mod (.bin .FloorDiv (.v 4) (.ci 26)) (.ci 4)) (.ci 1))
def Zv0:Sx:=.set (.nm 9) (.sl (.v 5) Wu (Ws (.bin .Sub (.ci 8) (.v 6))))
def ZtV:Exs:=(.c (.Ci_ "fn") (.c (.Ci_ "rec") (.c (.Ci_ "call") (.c (.Ci_ "if") .n))))
def Zv1:Sx:=.set (.nm 9) (.bin .Mult (.Ci_ "q") (.blt .len (.c (.v 9) .n)))
def ZtY:Sx:=.drp (.meth .app (.v 7) (.c (.v 9) .n))
def ZtX:Sxs:=.c (.iff (.ex (.cmp .In (.v 9) (.tupl ZtV))) (.c Zv1 .n) .n) (.c ZtY .n)
def ZtZ:Sxs:=.c Zt1 (.c Zt0 (.c (.iff ZtW (.c Zv0 .n) .n) ZtX))
noncomputable def vn(a:Option D)(l p r:Int)(b:Str)(q:Nat)(k sg wd:Option D):Ev:=[a,Ws (.str ZE),Ws (.int l),Ws (.int p),Ws (.int r),Ws (.str b),k,Ws (.ref q),sg,wd]
def Zph(hw:Wl 20 wd)(hz:ds.length<16777216):xs2 U ZtX (vn a l p r b h.length k sg (Ws (.str wd))) (h++[.lst ds])=.ok (.nx,vn a l p r b h.length k sg (Ws (.str (nmQ wd)))) (h++[.lst (ds++[.str (nmQ wd)])]):=by
 have ap:∀w:Str,xs1 U ZtY (vn a l p r b h.length k sg (Ws (.str w))) (h++[.lst ds])=.ok (.nx,vn a l p r b h.length k sg (Ws (.str w))) (h++[.lst (ds++[.str w])]):=λw=>by have e:=ZU (Zdz (U:=U) (S:=vn a l p r b h.length k sg (Ws (.str w))) (o:=.var 7) (es:=.cons (.var 9) .nil) rfl ZbL rfl (ZaT (d:=.str w) (ZbL (h:=h) (x:=.lst ds) (r:=[])) (by rw[YC];exact hz)));rw[show(h++[DO.lst ds]).set h.length (.lst (ds++[.str w]))=h++[.lst (ds++[.str w])] by simp]at e;exact e
 have i4:tst U (.ex (.cmp .In (.var 9) (.tupl ZtV))) (vn a l p r b h.length k sg (Ws (.str wd))) (h++[.lst ds])=.ok (Wx (wd∈[O "fn",O "rec",O "call",O "if"])) (h++[.lst ds]):=Zcy ((Zw (x:=.str wd) rfl (Zaw (xs:=[.str (O "fn"),.str (O "rec"),.str (O "call"),.str (O "if")]) rfl (by decide))).trans in4);unfold nmQ;by_cases hin:wd∈[O "fn",O "rec",O "call",O "if"]
 . rw[if_pos hin];exact(Za ((Zj (Zh i4 (decide_eq_true hin))).trans ((Za (Zs ((Zi rfl (Zhs rfl (len_str hw (by decide)))).trans (Zsk hw (by decide)).1))).trans rfl))).trans ((Za (ap _)).trans rfl)
 . rw[if_neg hin];exact(Za ((Zf (Zh i4 (decide_eq_false hin))).trans rfl)).trans ((Za (ap _)).trans rfl)
def Zv2(hb:Wl 8 b)(hc:0<=c/\c<100)(hz:ds.length<16777216):xs2 U ZtZ (vn a l p r b h.length (Ws (.int c)) sg wd) (h++[.lst ds])=.ok (.nx,vn a l p r b h.length (Ws (.int c)) (Ws (.str (lt1 ((r+5 * c) % 26)))) (Ws (.str (nm b l p r c)))) (h++[.lst (ds++[.str (nm b l p r c)])]):=by
 obtain⟨e1,hy⟩:=Zlh (GD:=U.GD) (h:=h++[.lst ds]) ((r+5 * c) % 26) (by lia) (by lia);obtain⟨f1,w1⟩:=Zej (h:=h++[.lst ds]) hb (by decide) Wu (Ws p);obtain⟨f2,w2⟩:=Zej (h:=h++[.lst ds]) hb (by decide) (Ws (p+1)) (Ws l);obtain⟨f3,w3⟩:=Zej (h:=h++[.lst ds]) hb (by decide) Wu (Ws (8 - c));obtain⟨c1,v1⟩:=Zfv (h:=h++[.lst ds]) w1 hy (by decide);obtain⟨c2,v2⟩:=Zfv (h:=h++[.lst ds]) v1 w2 (by decide);have m5:opB .Mult (.int 5) (.int c) (h++[.lst ds])=.ok (.int (5 * c)) (h++[.lst ds]):=Zfc ⟨Zaa (by decide) (by decide),Zaa (by lia) (by lia)⟩;unfold nm nmW;generalize lt1 ((r+5 * c) % 26)=y at *;have x8:xs1 U Zt1 (vn a l p r b h.length (Ws (.int c)) sg wd) (h++[.lst ds])=.ok (.nx,vn a l p r b h.length (Ws (.int c)) (Ws (.str y)) wd) (h++[.lst ds]):=Zs ((Zl (x:=.str ZE) rfl ((Zi (x:=.int (r+5 * c)) ((Zi rfl ((Zi rfl rfl).trans m5)).trans rfl) rfl).trans (ZW (by decide)))).trans e1);have g1:ev U (.sl (.var 5) Wu (Ws (.var 3))) (vn a l p r b h.length (Ws (.int c)) (Ws (.str y)) wd) (h++[.lst ds])=.ok (.str (Yp b Wu (Ws p))) (h++[.lst ds]):=f1;have g2:ev U (.sl (.var 5) (Ws (.bin .Add (.var 3) (.ci 1))) (Ws (.var 2))) (vn a l p r b h.length (Ws (.int c)) (Ws (.str y)) wd) (h++[.lst ds])=.ok (.str (Yp b (Ws (p+1)) (Ws l))) (h++[.lst ds]):=f2;have g3:∀w,ev U (.sl (.var 5) Wu (Ws (.bin .Sub (.ci 8) (.var 6)))) (vn a l p r b h.length (Ws (.int c)) (Ws (.str y)) w) (h++[.lst ds])=.ok (.str (Yp b Wu (Ws (8 - c)))) (h++[.lst ds]):=λ_=>f3;have x9:xs1 U Zt0 (vn a l p r b h.length (Ws (.int c)) (Ws (.str y)) wd) (h++[.lst ds])=.ok (.nx,vn a l p r b h.length (Ws (.int c)) (Ws (.str y)) (Ws (.str (Yp b Wu (Ws p)++y++Yp b (Ws (p+1)) (Ws l))))) (h++[.lst ds]):=Zs ((Zi ((Zi g1 rfl).trans c1) g2).trans c2);have tt:tst U ZtW (vn a l p r b h.length (Ws (.int c)) (Ws (.str y)) (Ws (.str (Yp b Wu (Ws p)++y++Yp b (Ws (p+1)) (Ws l))))) (h++[.lst ds])=.ok (Wx (r / 26 % 4=1)) (h++[.lst ds]):=Zev ((Zi (x:=.int (r / 26)) ((Zi rfl rfl).trans (Zc6 (by decide))) rfl).trans (ZW (by decide))) rfl;refine(Za x8).trans ((Za x9).trans ?_);by_cases hr:r / 26 % 4=1
 . rw[if_pos hr];exact(Za ((Zj (Zh tt (decide_eq_true hr))).trans ((Za (Zs (g3 _))).trans rfl))).trans (Zph ⟨w3.1,by have:=w3.2;lia⟩ hz)
 . rw[if_neg hr];exact(Za ((Zf (Zh tt (decide_eq_false hr))).trans rfl)).trans (Zph ⟨v2.1,by have:=v2.2;lia⟩ hz)
theorem Zmi(hb:Wl 8 b):∀(ks:List Int) (fo:List Str) (k sg wd:Option D),fo.length+ks.length<=100->(∀c∈ks,0<=c/\c<100)->∃k' sg' wd',
 ZK Wu (.nm 6) (xs2 U ZtZ) (ks.map D.int) (vn a l p r b h.length k sg wd) (h++[.lst (fo.map .str)])
  = .ok (.nx,vn a l p r b h.length k' sg' wd') (h++[.lst ((fo++ks.map (nm b l p r)).map .str)])
 |[],fo,k,sg,wd,h2,h3=>⟨k,sg,wd,by rw[Oy,Oy,Ys];rfl⟩
 |c::cs,fo,k,sg,wd,h2,h3=>by rw[Os]at h2;obtain⟨k',sg',wd',e3⟩:=Zmi (U:=U) (h:=h) (a:=a) (l:=l) (p:=p) (r:=r) hb cs (fo++[nm b l p r c]) (Ws (.int c)) (Ws (.str (lt1 ((r+5 * c) % 26)))) (Ws (.str (nm b l p r c))) (by rw[OA,List.length_singleton];lia) (λz hz=>h3 z (.tail _ hz));refine⟨k',sg',wd',(Zf0 rfl (Zv2 hb (h3 c (.head _)) (by rw[Yt];lia))).trans ?_⟩;rw[List.map_append,Oz]at e3;exact e3
def Zt4:∀k∈[[102,110],[114,101,99],[99,97,108,108],[105,102]],∀l∈[[102,110],[114,101,99],[99,97,108,108],[105,102],YK k.length 113],k=l\/k.length≠l.length\/∀i,i<4->∃j,j<4/\j≠i/\k[j]?≠l[j]? := by decide +kernel
def Zmk(ne:x≠y)(a:List Nat)(h:a++x::b∈[[102,110],[114,101,99],[99,97,108,108],[105,102]]):a++y::b ∉ [[102,110],[114,101,99],[99,97,108,108],[105,102]]/\a++y::b≠YK (a++x::b).length 113:=by
 have l4:(a++x::b).length<=4:=by
  have:∀k∈[[102,110],[114,101,99],[99,97,108,108],[105,102]],k.length<=4:=by decide
  exact this _ h
 have sl:(a++x::b).length=(a++y::b).length:=by simp
 have no:∀l∈[[102,110],[114,101,99],[99,97,108,108],[105,102],YK (a++x::b).length 113],a++y::b≠l:=λl hl e=>by
  rcases Zt4 _ h l hl with q|q|q
  . rw[<- e]at q;exact ne (List.cons.inj (List.append_cancel_left q)).1
  . exact q (by rw[<- e];exact sl)
  . obtain⟨j,_,nj,d⟩:=q a.length (by simp at l4;lia);rw[<- e]at d;rcases Nat.lt_or_ge j a.length with z|z
    . exact d (by rw[Oe z,Oe z])
    . rw[Om z,Om z]at d;obtain⟨m,hm⟩:∃m,j - a.length=m+1:=⟨j - a.length - 1,by lia⟩
      rw[hm]at d;exact d rfl
 refine⟨λm=>no _ (Yr [YK (a++x::b).length 113] m) rfl,no _ (Ov [[102,110],[114,101,99],[99,97,108,108],[105,102]] (Ox.mpr rfl))⟩
def Zpp:w∈[O "fn",O "rec",O "call",O "if"]↔w.cps.toList∈[[102,110],[114,101,99],[99,97,108,108],[105,102]]:=by
 have e:[[102,110],[114,101,99],[99,97,108,108],[105,102]]=[O "fn",O "rec",O "call",O "if"].map (·.cps.toList):=by decide +kernel
 rw[e];refine⟨λh=>List.mem_map_of_mem h,λh=>?_⟩;obtain⟨v,hv,q⟩:=List.mem_map.mp h;have:v=w:=by obtain⟨⟨v⟩⟩:=v;obtain⟨⟨w⟩⟩:=w;cases q;rfl
 exact this ▸ hv
def ZjA:∀n,(ZfO (O "q") n).cps.toList=YK n 113
 |n=>by
  have:∀(n:Nat) (a:Array Nat),((YK n (O "q").cps).foldl (·++·) a).toList=a.toList++YK n 113:=by
   intro n;induction n with
   |zero=>intro a;simp
   |succ n ih=>intro a;rw[List.replicate_succ,Wp,ih,Array.toList_append,Oz,List.replicate_succ];rfl
  have q:=this n #[];simpa[ZfO]using q
def nq(hv:v.cps.toList=a++x::b)(hw:w.cps.toList=a++y::b)(ne:x≠y):nmQ v≠nmQ w:=by
 have hl:v.length=(a++x::b).length/\w.length=(a++y::b).length:=by rw[<- hv,<- hw];exact⟨by simp[Str.length],by simp[Str.length]⟩
 unfold nmQ;intro e;have e':=congrArg (·.cps.toList) e;simp only[Zpp]at e';split at e'
 . rename_i kv;rw[hv]at kv;obtain⟨k1,k2⟩:=Zmk ne a kv;rw[if_neg (by rw[hw];exact k1),ZjA,hw,hl.1]at e';exact k2 e'.symm
 . split at e'
   . rename_i kw;rw[hw]at kw;obtain⟨k1,k2⟩:=Zmk (YL ne) a kw;rw[ZjA,hv,hl.2]at e';exact k2 e'
   . rw[hv,hw]at e';have:=List.append_cancel_left e';exact ne (List.cons.inj this).1
def Zmc(w:Str):(nmQ w).length=w.length:=by
 unfold nmQ;split
 . rw[Ze9,show(O "q").length=1 by decide +kernel,Nat.mul_one]
 . rfl
def Zrm:∀i j:Fin 26,ltr (i.val:Int)=ltr (j.val:Int)->i=j:=by decide +kernel
theorem ZvR(hb:b.length=8)(hc:0<=c/\c<5)(hd:0<=d/\d<5)(ne:c≠d):nm b l p r c≠nm b l p r d:=by
 unfold nm nmW;split
 . intro e;have e':=congrArg Str.length e;have len:∀ z:Int,0<=z/\z<5->(Yp b Wu (Ws (8 - z))).length=(8 - z).toNat:=fun z hz=>by
     have h8:b.cps.toList.length=8:=by simpa [Str.length] using hb
     rw [StrLaws.sliceText_to ⟨by lia,by lia⟩];show (List.take (8 - z - 0).toNat (List.drop 0 b.cps.toList)).toArray.size=_;rw [Of,List.length_take,List.drop_zero,h8]
     lia
   rw [Zmc,Zmc,len c hc,len d hd] at e'
   lia
 . refine nq (a:=(Yp b Wu (Ws p)).cps.toList) (b:=(Yp b (Ws (p+1)) (Ws l)).cps.toList) (x:=ltr ((r+5 * c) % 26)) (y:=ltr ((r+5 * d) % 26)) ?_ ?_ ?_
   . show (_++#[ltr ((r+5 * c) % 26)]++_:Array Nat).toList=_;simp
   . show (_++#[ltr ((r+5 * d) % 26)]++_:Array Nat).toList=_;simp
   . intro e;have q:=Zrm ⟨((r+5 * c) % 26).toNat,by lia⟩ ⟨((r+5 * d) % 26).toNat,by lia⟩ (by
       show ltr (((r+5 * c) % 26).toNat:Int)=ltr (((r+5 * d) % 26).toNat:Int);rw [Int.toNat_of_nonneg (by lia),Int.toNat_of_nonneg (by lia)];exact e)
     have q:=Fin.mk.inj q
     lia
def Zo8(hb:b.length=8):(([0,1,2,3,4]:List Int).map (nm b l p r)).Nodup:=by
 refine List.pairwise_map.mpr (List.Pairwise.imp_of_mem (R:=λx y=>x≠y) (λ{x y} hx hy ne=>ZvR hb ?_ ?_ ne) (by decide))
 . simp at hx;lia
 . simp at hy;lia
def Zqx(H:Mkr P)(n:Nat)(v:Int)(h:Hd):∃ns:List Str,ns.length=5/\(∀x∈ns,Wl 20 x)/\ns.Nodup/\run P (n+1) (O "_law_names") [.int v] h=.ok (.ref h.length) (h++[.lst (ns.map .str)]):=by
 rw[Zg H.names rfl];have u8:ZaE 0 8=[0,1,2,3,4,5,6,7].map D.int:=by rfl
 have u5:ZaE 0 5=[0,1,2,3,4].map D.int:=by rfl
 have m8:opB .Mod (.int v) (.int 8) h=.ok (.int (v % 8)) h:=ZW (by decide);have d8:opB .FloorDiv (.int v) (.int 8) h=.ok (.int (v / 8)) h:=Zc6 (by decide);have mp:opB .Mod (.int (v / 8)) (.int (1+v % 8)) h=.ok (.int (v / 8 % (1+v % 8))) h:=ZW (by lia);have d64:opB .FloorDiv (.int v) (.int 64) h=.ok (.int (v / 64)) h:=Zc6 (by decide);obtain⟨r',b,k',hb,hb8,e1⟩:=Zpo (U:=⟨P.G,P.GD,run P n,P.L⟩) (h:=h) (a:=Ws (.int v)) (l:=Ws (.int (1+v % 8))) (p:=Ws (.int (v / 8 % (1+v % 8)))) (f:=Wu) (sg:=Wu) (wd:=Wu) [0,1,2,3,4,5,6,7] (v / 64) (O "") 0 Wu ⟨by decide +kernel,by decide +kernel⟩ (by decide +kernel) (by decide);obtain⟨k2,sg',wd',e2⟩:=Zmi (U:=⟨P.G,P.GD,run P n,P.L⟩) (h:=h) (a:=Ws (.int v)) (l:=1+v % 8) (p:=v / 8 % (1+v % 8)) (r:=r') hb [0,1,2,3,4] [] k' Wu Wu (by decide) (by decide);refine⟨[0,1,2,3,4].map (nm b (1+v % 8) (v / 8 % (1+v % 8)) r'),rfl,λx hx=>?_,Zo8 hb8,?_⟩
 . obtain⟨c,_,rfl⟩:=List.mem_map.mp hx;exact ZvQ hb _ _ _ _
 generalize nm b (1+v % 8) (v / 8 % (1+v % 8)) r'=F at e2 ⊢;simp only[Oy,OB]at e2;have s8:ZbT 8=Wv:=by decide
 have s5:ZbT 5=Wv:=by decide
 unfold ZE at e1;unfold vn ZtZ ZtX Zt1 Zt0 ZtW Zv0 ZtV Zv1 ZtY ZE at e2;rw[<- u8]at e1;rw[<- u5]at e2
 try simp at e1
 try simp at e2
 simp[ZdQ,Zgq,ZF,m8,d8,mp,d64,s8,s5,e1,e2,YC]
end Gn
end
namespace Gn
open PySem L2 IV
set_option tactic.hygienic false
noncomputable abbrev Scp:=List (Str×Str)
noncomputable def pairOf(p:Str×Str):D:=.tup [.str p.1,.str p.2]
def ZnM(h:Hd)(k:Nat)(sc:Scp):Prop:=h[k]? = Ws (.lst (sc.map pairOf))
structure KnOk(sc:Scp)(kn:List (Key×D)):Prop where
 key:∀p∈kn,∃x,p.1=YE x/\x∈sc.map (·.1)
 val:∀p∈kn,∃s,p.2=D.str s
def ZjM(h:p∈putD kn k v):p∈kn\/p=(k,v):=by
 unfold putD at h;split at h
 . obtain⟨q,hq,e⟩:=List.mem_map.mp h;split at e
   . rename_i ek;right;rw[<- e,ek]
   . left;rw[<- e];exact hq
 . rcases OD.mp h with z|z
   . exact .inl z
   . exact .inr (Ox.mp z)
def ZoG:(putD kn k v).length<=kn.length+1:=by unfold putD;split<;>simp
def ZqC(hz:kn.length<1000):ZbQ (.ref h.length) (.str x) v (h++[.dic kn])=.ok () (h++[.dic (putD kn (.inr x) v)]):=by simp only[ZbQ,ZbL,keyOf];rw[if_pos (by rw[YC];lia)];simp
theorem Zmg(hs:ZnM h k sc0):∀(sc:Scp) (kn:List (Key×D)) (a b:Option D),(∀p∈sc,p∈sc0)->KnOk sc0 kn->kn.length+sc.length<=500->∃kn' a' b',KnOk sc0 kn'/\kn'.length<=kn.length+sc.length /\
 ZK (Ws (k,sc0.map pairOf)) (.two 3 4) (xs2 U (.cons (.put (.var 2) (.var 3) (.var 4)) .nil)) (sc.map pairOf) [Ws (.ref k),w,Ws (.ref h.length),a,b] (h++[.dic kn])
  = .ok (.nx,[Ws (.ref k),w,Ws (.ref h.length),a',b']) (h++[.dic kn'])
 |[],kn,a,b,h1,h2,h3=>by
  refine⟨kn,a,b,h2,by simp,?_⟩;have:(h++[DO.dic kn])[k]? = Ws (.lst (sc0.map pairOf)):=by rw[Oe (ZM hs)];exact hs
  simp[ZK,Wk.stays,this]
 |(x,s)::sc,kn,a,b,h1,h2,h3=>by
  simp only[Os]at h3;have st:(h++[DO.dic kn])[k]? = Ws (.lst (sc0.map pairOf)):=by rw[Oe (ZM hs)];exact hs
  have hk:KnOk sc0 (putD kn (.inr x) (.str s)):=by
   refine⟨λp hp=>?_,λp hp=>?_⟩
   . rcases ZjM hp with z|rfl
     . exact h2.key p z
     . exact⟨x,rfl,List.mem_map.mpr ⟨(x,s),h1 _ (by simp),rfl⟩⟩
   . rcases ZjM hp with z|rfl
     . exact h2.val p z
     . exact⟨s,rfl⟩
  have pl:=ZoG (kn:=kn) (k:=.inr x) (v:=.str s);obtain⟨kn',a',b',q1,q2,e⟩:=Zmg (U:=U) (w:=w) hs sc (putD kn (.inr x) (.str s)) (Ws (.str x)) (Ws (.str s)) (λp hp=>h1 p (by simp[hp])) hk (by lia);refine⟨kn',a',b',q1,by simp only[Os];lia,?_⟩;rw[Op,ZK];simp only[Wk.stays,st,decide_true,if_true];have e2:=ZqC (h:=h) (kn:=kn) (x:=x) (v:=.str s) (by lia);simp[pairOf,e2];simpa[pairOf]using e
def find_key(hx:YE x∈kn.map (·.1)):∃v,Zbh kn (.inr x)=Ws v/\(YE x,v)∈kn:=by
 induction kn with
 |nil=>simp at hx
 |cons p r ih=>
  unfold Zbh;by_cases e:p.1=YE x
  . refine⟨p.2,?_,?_⟩
    . simp[Wq,e]
    . rw[<- e];exact Oi
  . obtain⟨v,h1,h2⟩:=ih (by simpa[YL e]using hx);refine⟨v,?_,Oh _ h2⟩;simpa[Wq,e,Zbh]using h1
theorem Zml{sc:Scp}:∀{kn:List (Key×D)},(∀p∈kn,∃x,p.1=YE x/\x∈sc.map (·.1))->∃ss,Zel kn=Ws ss/\ss.length=kn.length/\(∀x∈ss,x∈sc.map (·.1)/\YE x∈kn.map (·.1))
 |[],_=>⟨[],rfl,rfl,by simp⟩
 |(k,v)::r,h=>by
  obtain⟨x,e,hx⟩:=h (k,v) (by simp);cases e;obtain⟨ss,e1,e2,e3⟩:=Zml (kn:=r) λp hp=>h p (by simp[hp]);refine⟨x::ss,by rw[Zel,e1];rfl,by simp[e2],λy hy=>?_⟩;rcases O3.mp hy with rfl|hy
  . exact⟨hx,by simp⟩
  . exact⟨(e3 y hy).1,by simp[(e3 y hy).2]⟩
theorem Zlj{U:Tb}{so:List Str}(hv:∀p∈kn,∃s,p.2=D.str s):∀(xs:List Str) (acc:List Str),(∀x∈xs,YE x∈kn.map (·.1))->acc.length+xs.length<=1000->∃ys,(∀y∈ys,y∈xs) /\
 Z0 (Ws (h.length+1,so.map D.str)) (.nm 0) (tsto U (Ws (.ex (.cmp .Eq (.ix (.var 2) (.var 0)) (.var 1))))) (ev U (.var 0)) (xs.map D.str) [Wu,Ws (.str w),Ws (.ref h.length)] (acc.map .str) (h++[.dic kn,.lst (so.map .str)])
  = .ok ((acc++ys).map .str) (h++[.dic kn,.lst (so.map .str)])
 |[],acc,h1,h2=>⟨[],by simp,by simp[Z0,Wk.stays]⟩
 |x::xs,acc,h1,h2=>by
  simp only[Os]at h2;obtain⟨v,e1,hm⟩:=find_key (h1 x (by simp));obtain⟨s,rfl⟩:∃s,v=D.str s:=hv _ hm;have ix:ZbD U.GD (.ref h.length) (.str x) (h++[.dic kn,.lst (so.map .str)])=.ok (.str s) (h++[.dic kn,.lst (so.map .str)]):=by simp[ZbD,dicOf,e1]
  have hz:acc.length<sizeLine:=by rw[YC];lia
  by_cases hw:s=w
  . obtain⟨ys,q1,q2⟩:=Zlj (U:=U) (h:=h) (w:=w) (so:=so) hv xs (acc++[x]) (λy hy=>h1 y (by simp[hy])) (by simp;lia);refine⟨x::ys,λy hy=>?_,?_⟩
    . rcases O3.mp hy with rfl|hy
      . simp
      . simp[q1 y hy]
    . rw[Op,Zaj];simp at q2;simp[Wk.stays,hz,ix,hw,q2]
  . obtain⟨ys,q1,q2⟩:=Zlj (U:=U) (h:=h) (w:=w) (so:=so) hv xs acc (λy hy=>h1 y (by simp[hy])) (by lia);refine⟨ys,λy hy=>by simp[q1 y hy],?_⟩;rw[Op,Zaj];simp at q2;simp[Wk.stays,hz,ix,hw,q2]
def Zqv{P:Pg}(H:Mkr P)(n:Nat){sc:Scp}(w:Str)(hs:ZnM h k sc)(hl:sc.length<=60)(hok:∀p∈sc,Yo p.1=Wv):∃(ys:List Str) (g:Hd),(∀y∈ys,y∈sc.map (·.1))/\g.length=2 /\
 run P (n+1) (O "_law_there") [.ref k,.str w] h=.ok (.ref (h.length+2)) (h++g++[.lst (ys.map .str)]):=by
 rw[Zg H.there rfl];obtain⟨kn,a',b',hk,hkl,e1⟩:=Zmg (U:=⟨P.G,P.GD,run P n,P.L⟩) (w:=Ws (.str w)) hs sc [] Wu Wu (λ_ hp=>hp) ⟨by simp,by simp⟩ (by simp;lia);obtain⟨ss,e2,e3,e4⟩:=Zml hk.key;have all:ss.all Yo=Wv:=by rw[OC];intro x hx;obtain⟨p,hp,rfl⟩:=List.mem_map.mp (e4 x hx).1;exact hok p hp
 have perm:=Zei ss;obtain⟨ys,q1,q2⟩:=Zlj (U:=⟨P.G,P.GD,run P n,P.L⟩) (h:=h) (kn:=kn) (w:=w) (so:=ZcR ss) hk.val (ZcR ss) [] (λx hx=>(e4 x (perm.mem_iff.mp hx)).2) (by rw[perm.length_eq];simp at hkl ⊢;lia);refine⟨ys,[.dic kn,.lst ((ZcR ss).map .str)],λy hy=>(e4 y (perm.mem_iff.mp (q1 y hy))).1,rfl,?_⟩;have hsrt:ZcE P.GD .srt [.ref h.length] (h++[.dic kn])=.ok (.ref (h.length+1)) (h++[.dic kn,.lst ((ZcR ss).map .str)]):=by show ZfH P.GD [.ref h.length] (h++[.dic kn])=_;simp only[ZfH,dicOf,ZbL,Yz,e2];rw[if_pos ⟨by simp at hkl;lia,all⟩];simp
 have hw1:Zbg (.ref k) (h++[DO.dic []])=Ws ⟨Ws (k,sc.map pairOf),sc.map pairOf⟩:=by
  have:(h++[DO.dic []])[k]? = Ws (.lst (sc.map pairOf)):=by rw[Oe (ZM hs)];exact hs
  simp[Zbg,this]
 have hw2:Zbg (.ref (h.length+1)) (h++[DO.dic kn,.lst ((ZcR ss).map .str)])=Ws ⟨Ws (h.length+1,(ZcR ss).map .str),(ZcR ss).map .str⟩:=by simp[Zbg]
 simp at q2 e1;simp[ZdP,Zgp,ZF,ZdJ,ZeO,hw1,e1,hsrt,hw2,Zc0,q2]
set_option tactic.hygienic true
section
structure Ctx(cs:List Int)(ns:List Str)(h:Hd)(i j m k:Nat)(sc:Scp)(a b:Int):Prop where
 st:St3 h i j cs a b
 nm:h[m]? = Ws (.lst (ns.map .str))
 n5:ns.length=5
 nok:∀x∈ns,Wl 20 x
 nd:ns.Nodup
 sca:ZnM h k sc
 sco:∀p∈sc,Wl 20 p.1
 im:i≠m
 ik:i≠k
 ab:0<=a
variable {P:Pg}{cs:List Int}{ns:List Str}{h h':Hd}{i j m k:Nat}{sc:Scp}{a b a' b':Int}
def Ctx.up(c:Ctx cs ns h i j m k sc a b)(u:Up i h h')(st:St3 h' i j cs a' b')(ab:0<=a'):Ctx cs ns h' i j m k sc a' b':=⟨st,u.at c.nm (YL c.im),c.n5,c.nok,c.nd,u.at c.sca (YL c.ik),c.sco,c.im,c.ik,ab⟩
def St3.app(s:St3 h i j cs a b):St3 (h++g) i j cs a b:=⟨by rw[Oe (ZM s.1)];exact s.1,by rw[Oe (ZM s.2.1)];exact s.2.1,s.2.2⟩
theorem Ctx.app(c:Ctx cs ns h i j m k sc a b):Ctx cs ns (h++g) i j m k sc a b:=c.up Up.app c.st.app c.ab
def Ctx.name(c:Ctx cs ns h i j m k sc a b)(v:Int)(h0:0<=v)(h5:v<5):∃x,ZbD GD (.ref m) (.int v) h=.ok (.str x) h/\Wl 20 x/\ns[v.toNat]? = Ws x:=by
 obtain⟨q,rfl⟩:∃q:Nat,v=q:=⟨v.toNat,by lia⟩
 have hq:q<ns.length:=by have:=c.n5;lia
 refine⟨ns[q],?_,c.nok _ (List.getElem_mem hq),Og hq⟩;rw[ZY c.nm,IV.ZbA,O2,Og hq];rfl
noncomputable def A(r:Nat):Int:=4 ^ (r+1)
def ZkF(r:Nat):0<A r:=Int.pow_pos (by decide)
def ZuF(r:Nat):A (r+1)=4 * A r:=by unfold A;rw[Int.pow_succ];lia
inductive Made(cs:List Int)(h:Hd)(i j:Nat)(sc:Scp)(a mx:Int)(dm:Nat)(r:R D):Prop
 |mk (t:T) (h':Hd) (a' b':Int) (e:r=.ok (T.d t) h') (u:Up i h h') (s:St3 h' i j cs a' b') (l1:a<=a') (l2:a'<=a+mx) (c:Cl (sc.map (·.1)) t) (p:dep t<=dm)
def ZmM(P:Pg)(r n0:Nat):Prop:=∀(n:Nat) (cs:List Int) (ns:List Str) (h:Hd) (i j m k:Nat) (sc:Scp) (a b:Int) (w:Str) (room:Int),room<=r->Ctx cs ns h i j m k sc a b->sc.length+2 * r<=50->a+A r<2 ^ 50 ->
 Made cs h i j sc a (A r) (3 * r+3) (run P (n+n0) (O "_law_any") [.str w,.ref k,.ref i,.ref m,.int room] h)
def Zp7(H:Mkr P)(n:Nat)(c:Ctx cs ns h i j m k sc a b)(w:Str)(room:Int)(hl:sc.length<=50)(ha:a<2 ^ 50)(T1 T2 T3:Option D):∃(v:Int) (w':Str) (ys:List Str) (h':Hd) (l:Nat),
 xs2 ⟨P.G,P.GD,run P (n+2),P.L⟩ (.cons ZbK (.cons Zcr (.cons ZbJ (.cons Zcq (.cons ZbI .nil))))) [Ws (.str w),Ws (.ref k),Ws (.ref i),Ws (.ref m),Ws (.int room),T1,T2,T3,Wu,Wu] h
  = .ok (.nx,[Ws (.str w'),Ws (.ref k),Ws (.ref i),Ws (.ref m),Ws (.int room),Ws (.int v),Ws (.int (v / 87)),Ws (.ref l),Wu,Wu]) h'/\Up i h h'/\Ctx cs ns h' i j m k sc (a+1) (b - 1)/\h'[l]? = Ws (.lst (ys.map .str))/\(∀y∈ys,y∈sc.map (·.1)):=by
 have i1:=c.st.1;have lt:=ZM i1;have p1:ZbQ (.ref i) (.int 2) (.int (b - 1)) h=.ok () (h.set i (.lst [.ref j,.int a,.int (b - 1)])):=by simp only[ZbQ,i1];rfl
 have s1:St3 (h.set i (.lst [.ref j,.int a,.int (b - 1)])) i j cs a (b - 1):=⟨by rw[Ol lt],by rw[Oc c.st.2.2];exact c.st.2.1,c.st.2.2⟩
 have c1:=c.up Up.set s1 c.ab;obtain⟨v,e2,_⟩:=ZkV H n s1 ⟨c.ab,ha⟩;have lt1:i<(h.set i (.lst [.ref j,.int a,.int (b - 1)])).length:=by simpa using lt
 have s2:St3 ((h.set i (.lst [.ref j,.int a,.int (b - 1)])).set i (.lst [.ref j,.int (a+1),.int (b - 1)])) i j cs (a+1) (b - 1):=⟨by rw[Ol lt1],by rw[Oc c.st.2.2];exact s1.2.1,c.st.2.2⟩
 have c2:=c1.up Up.set s2 (by have:=c.ab;lia);generalize hh2:(h.set i (.lst [.ref j,.int a,.int (b - 1)])).set i (.lst [.ref j,.int (a+1),.int (b - 1)])=h2 at e2 s2 c2;have u2:Up i h h2:=hh2 ▸ Up.set.trans Up.set;have m29:∀h,opB .Mod (.int v) (.int 29) h=.ok (.int (v % 29)) h:=λh=>ZW (by decide);have d29:∀h,opB .FloorDiv (.int v) (.int 29) h=.ok (.int (v / 29)) h:=λh=>Zc6 (by decide);have m3:∀h,opB .Mod (.int (v / 29)) (.int 3) h=.ok (.int (v / 29 % 3)) h:=λh=>ZW (by decide);have d87:∀h,opB .FloorDiv (.int v) (.int 87) h=.ok (.int (v / 87)) h:=λh=>Zc6 (by decide);have hix:ZbD P.GD (.ref i) (.int 2) h=.ok (.int b) h:=by rw[ZY i1];simp
 have step3:∃(w':Str) (h3:Hd),xs1 ⟨P.G,P.GD,run P (n+2),P.L⟩ ZbJ [Ws (.str w),Ws (.ref k),Ws (.ref i),Ws (.ref m),Ws (.int room),Ws (.int v),T2,T3,Wu,Wu] h2
  = .ok (.nx,[Ws (.str w'),Ws (.ref k),Ws (.ref i),Ws (.ref m),Ws (.int room),Ws (.int v),T2,T3,Wu,Wu]) h3/\Up i h2 h3/\Ctx cs ns h3 i j m k sc (a+1) (b - 1):=by
  have tt:tst (P.tbl (n+2)) (.ex (.cmp .Eq (.bin .Mod (.var 5) (.ci 29)) (.ci 0))) [Ws (.str w),Ws (.ref k),Ws (.ref i),Ws (.ref m),Ws (.int room),Ws (.int v),T2,T3,Wu,Wu] h2=.ok (Wx (v % 29=0)) h2:=Zev ((Zi rfl rfl).trans (m29 h2)) rfl;by_cases hv:v % 29=0
  . have go:∀w':Str,atI [D.str (O "n"),.str (O "f"),.str (O "g")] (v / 29 % 3)=Ws (D.str w')->xs1 (P.tbl (n+2)) ZbJ [Ws (.str w),Ws (.ref k),Ws (.ref i),Ws (.ref m),Ws (.int room),Ws (.int v),T2,T3,Wu,Wu] h2
     = .ok (.nx,[Ws (.str w'),Ws (.ref k),Ws (.ref i),Ws (.ref m),Ws (.int room),Ws (.int v),T2,T3,Wu,Wu]) (h2++[.lst [.str (O "n"),.str (O "f"),.str (O "g")]]):=λw' e=>
     (Zj (Zh tt (decide_eq_true hv))).trans ((Za (Zs (Zks e rfl ((Zi (x:=.int (v / 29)) ((Zi rfl rfl).trans (d29 _)) rfl).trans (m3 _)) (by decide)))).trans rfl)
    have q:v / 29 % 3=0\/v / 29 % 3=1\/v / 29 % 3=2:=by lia
    rcases q with q|q|q
    . exact⟨O "n",_,go _ (by rw[q];rfl),Up.app,c2.app⟩
    . exact⟨O "f",_,go _ (by rw[q];rfl),Up.app,c2.app⟩
    . exact⟨O "g",_,go _ (by rw[q];rfl),Up.app,c2.app⟩
  . exact⟨w,h2,(Zf (Zh tt (decide_eq_false hv))).trans rfl,Up.refl,c2⟩
 obtain⟨w',h3,e3,u3,c3⟩:=step3;obtain⟨ys,g,hy,hg,e5⟩:=Zqv H (n+1) w' c3.sca (by lia) (λp hp=>(c3.sco p hp).1);refine⟨v,w',ys,h3++g++[.lst (ys.map .str)],h3.length+2,?_,(u2.trans u3).trans (Up.app.trans Up.app),c3.app.app,?_,hy⟩
 . have x1:xs1 ⟨P.G,P.GD,run P (n+2),P.L⟩ ZbK [Ws (.str w),Ws (.ref k),Ws (.ref i),Ws (.ref m),Ws (.int room),T1,T2,T3,Wu,Wu] h=.ok (.nx,[Ws (.str w),Ws (.ref k),Ws (.ref i),Ws (.ref m),Ws (.int room),T1,T2,T3,Wu,Wu]) (h.set i (.lst [.ref j,.int a,.int (b - 1)])):=by have q:ev (P.tbl (n+2)) (.bin .Sub (.ix (.var 2) (.ci 2)) (.ci 1)) [Ws (.str w),Ws (.ref k),Ws (.ref i),Ws (.ref m),Ws (.int room),T1,T2,T3,Wu,Wu] h=.ok (.int (b - 1)) h:=(Zi (x:=.int b) ((Zl rfl rfl).trans hix) rfl).trans rfl;rw[ZbK,ZlE];show(ev (P.tbl (n+2)) (.bin .Sub (.ix (.var 2) (.ci 2)) (.ci 1)) _ h).bnd _=_;rw[q];show(ZbQ (.ref i) (.int 2) (.int (b - 1)) h).bnd _=_;rw[p1];rfl
   have x2:xs1 ⟨P.G,P.GD,run P (n+2),P.L⟩ Zcr [Ws (.str w),Ws (.ref k),Ws (.ref i),Ws (.ref m),Ws (.int room),T1,T2,T3,Wu,Wu] (h.set i (.lst [.ref j,.int a,.int (b - 1)]))=.ok (.nx,[Ws (.str w),Ws (.ref k),Ws (.ref i),Ws (.ref m),Ws (.int room),Ws (.int v),T2,T3,Wu,Wu]) h2:=by exact Zs (Zu e2 rfl)
   have x4:∀q,xs1 ⟨P.G,P.GD,run P (n+2),P.L⟩ Zcq [Ws (.str w'),Ws (.ref k),Ws (.ref i),Ws (.ref m),Ws (.int room),Ws (.int v),q,T3,Wu,Wu] h3=.ok (.nx,[Ws (.str w'),Ws (.ref k),Ws (.ref i),Ws (.ref m),Ws (.int room),Ws (.int v),Ws (.int (v / 87)),T3,Wu,Wu]) h3:=by exact λq=>Zs ((Zi rfl rfl).trans (d87 _))
   have x5:xs1 ⟨P.G,P.GD,run P (n+2),P.L⟩ ZbI [Ws (.str w'),Ws (.ref k),Ws (.ref i),Ws (.ref m),Ws (.int room),Ws (.int v),Ws (.int (v / 87)),T3,Wu,Wu] h3=.ok (.nx,[Ws (.str w'),Ws (.ref k),Ws (.ref i),Ws (.ref m),Ws (.int room),Ws (.int v),Ws (.int (v / 87)),Ws (.ref (h3.length+2)),Wu,Wu]) (h3++g++[.lst (ys.map .str)]):=by simp only[ZbI,ZlD,Zi4,Zfr,ZI,Zi3,O0,OJ,Option.join_some,ofO_some,Zt,bind_ok,e5];rfl
   exact(Za x1).trans ((Za x2).trans ((Za e3).trans ((Za (x4 _)).trans ((Za x5).trans rfl))))
 . have:h3.length+2=(h3++g).length:=by simp[hg]
   rw[this];simp
end
set_option tactic.hygienic false
section
variable {P:Pg}{cs:List Int}{ns:List Str}{h h':Hd}{i j m k:Nat}{sc:Scp}{a b a' b':Int}
theorem Cl.mono{sc sc':List Str}:∀ {t:T},(∀ x∈sc,x∈sc')->Cl sc t->Cl sc' t
 | .num n,_,c=>c
 | .name x,s,c=>s x c
 | .fn x e,s,c=>Cl.mono (t:=e) (fun y hy=>by
     rcases O3.mp hy with z|z
     . rw [z];exact Oi
     . exact Oh _ (s y z)) c
 | .rcc f x e,s,c=>⟨Cl.mono (t:=e) (fun y hy=>by
     rcases O3.mp hy with z|z
     . rw [z];exact Oi
     . rcases O3.mp z with q|q
       . rw [q];exact Oh _ Oi
       . exact Oh _ (Oh _ (s y q))) c.1,c.2⟩
 | .call f e,s,c=>⟨Cl.mono s c.1,Cl.mono s c.2⟩
 | .iff p q r,s,c=>⟨Cl.mono s c.1,Cl.mono s c.2.1,Cl.mono s c.2.2⟩
 | .op w p q,s,c=>⟨Cl.mono s c.1,Cl.mono s c.2⟩
noncomputable def Zqb(z:Int):Wd:=if z=0 then .add else if z=1 then .sub else if z=2 then .mul else .lt
def wd4(z:Int)(h0:0<=z)(h4:z<4):atI [D.str (O "+"),.str (O "-"),.str (O "*"),.str (O "<")] z=Ws (.str (Zqb z).s):=by
 have:z=0\/z=1\/z=2\/z=3:=by lia
 rcases this with rfl|rfl|rfl|rfl<;>simp[Zqb,Wd.s]
noncomputable def me(rest:Int)(k i m:Nat)(room:Int)(a b c d:Option D):Ev:=[Ws (.int rest),Ws (.ref k),Ws (.ref i),Ws (.ref m),Ws (.int room),a,b,c,d]
def ZtN(H:Mkr P)(ih:ZmM P r n0)(hn:1<=n0)(n:Nat)(c:Ctx cs ns h i j m k sc a b)(rest:Int)(room:Int)(hr:room<=r)(hl:sc.length+2 * r<=50)(ha:a+2 * A r<2 ^ 50):
 Made cs h i j sc a (2 * A r) (3 * r+4) (run P (n+n0+1) (O "_law_number") [.int rest,.ref k,.ref i,.ref m,.int room] h):=by
 have Ap:=ZkF r;rw[ZgI H.number rfl];show Made cs h i j sc a (2 * A r) (3 * r+4) (Ze (xs2 (P.tbl (n+n0)) Zdg (me rest k i m room Wu Wu Wu Wu) h));have x1:∀h,xs1 (P.tbl (n+n0)) Zd2 (me rest k i m room Wu Wu Wu Wu) h=.ok (.nx,me rest k i m room (Ws (.int (rest % 6))) Wu Wu Wu) h:=λh=>rfl;rw[Zdg,Za (x1 h)];obtain⟨n1,e1⟩:∃n1,n+n0=n1+1:=⟨n+n0 - 1,by lia⟩
 by_cases h0:rest % 6=0
 . obtain⟨t,g,e2,ct,pt⟩:=ZiI H n1 (O "n") (rest / 6) h (sc.map (·.1));refine⟨t,h++g,a,b,?_,Up.app,c.st.app,by lia,by lia,ct,by lia⟩;rw[<- e1]at e2;have x2:xs1 (P.tbl (n+n0)) Zcg (me rest k i m room (Ws (.int (rest % 6))) Wu Wu Wu) h=.ok (.rt t.d,me rest k i m room (Ws (.int (rest % 6))) Wu Wu Wu) (h++g):=(Zj (Zh (Zev rfl rfl) (decide_eq_true h0))).trans (Zd (Za0 e2 rfl rfl));rw[Zd x2];rfl
 . have x2:xs1 (P.tbl (n+n0)) Zcg (me rest k i m room (Ws (.int (rest % 6))) Wu Wu Wu) h=.ok (.nx,me rest k i m room (Ws (.int (rest % 6))) Wu Wu Wu) h:=(Zf (Zh (Zev rfl rfl) (decide_eq_false h0))).trans rfl;rw[Za x2];have lt:tst (P.tbl (n+n0)) (.ex (.cmp .Lt (.var 5) (.ci 3))) (me rest k i m room (Ws (.int (rest % 6))) Wu Wu Wu) h=.ok (Wx (rest % 6<3)) h:=rfl;by_cases h3:rest % 6<3
   . obtain⟨t1,g1,a1,b1,e2,u1,s1,l1,l2,c1,p1⟩:=ih n cs ns h i j m k sc a b (O "n") room hr c hl (by lia);have cc:=c.up u1 s1 (by have:=c.ab;lia);obtain⟨t2,g2,a2,b2,e3,u2,s2,l3,l4,c2,p2⟩:=ih n cs ns (g1++[.lst [.str (O "+"),.str (O "-"),.str (O "*"),.str (O "<")]]) i j m k sc a1 b1 (O "n") room hr cc.app hl (by lia);refine⟨.op (Zqb (rest / 6 % 4)) t1 t2,g2,a2,b2,?_,u1.trans (Up.app.trans u2),s2,by lia,by lia,⟨c1,c2⟩,by simp only[dep];lia⟩;have w4:=wd4 (rest / 6 % 4) (by lia) (by lia);have x3:xs1 (P.tbl (n+n0)) Zcf (me rest k i m room (Ws (.int (rest % 6))) Wu Wu Wu) h=.ok (.rt (T.op (Zqb (rest / 6 % 4)) t1 t2).d,me rest k i m room (Ws (.int (rest % 6))) (Ws t1.d) Wu Wu) g2:=by refine(Zj (Zh lt (decide_eq_true h3))).trans ?_;refine(Za (ρ1:=me rest k i m room (Ws (.int (rest % 6))) (Ws t1.d) Wu Wu) (h1:=g1) (Za0 e2 rfl rfl)).trans ?_;exact Zd (Zr (Zaw (Zc (Zks w4 rfl rfl (by simp)) (Zc rfl (Zc (Zu e3 rfl) rfl))) (by simp)))
     rw[Zd x3];rfl
   . have w3:∃ws,(ws=O "f" \/ ws=O "g")/\atI [D.str (O "f"),.str (O "f"),.str (O "g")] (rest % 6 - 3)=Ws (.str ws):=by
      have:rest % 6 - 3=0\/rest % 6 - 3=1\/rest % 6 - 3=2:=by lia
      rcases this with q|q|q<;>rw[q]<;>simp
     obtain⟨ws,hws,w3⟩:=w3;obtain⟨t1,g1,a1,b1,e2,u1,s1,l1,l2,c1,p1⟩:=ih n cs ns (h++[.lst [.str (O "f"),.str (O "f"),.str (O "g")]]) i j m k sc a b ws room hr c.app hl (by lia);have cc:=c.app.up u1 s1 (by have:=c.ab;lia);have dd:∃ws',ZbD P.GD (.ref g1.length) (.str ws) (g1++[.dic [(.inr (O "f"),.str (O "n")),(.inr (O "g"),.str (O "f"))]])=.ok (.str ws') (g1++[.dic [(.inr (O "f"),.str (O "n")),(.inr (O "g"),.str (O "f"))]]):=by
      rcases hws with rfl|rfl
      . exact⟨O "n",by simp[ZbD,dicOf,Zbh]⟩
      . exact⟨O "f",by simp[ZbD,dicOf,Zbh]⟩
     obtain⟨ws',dd⟩:=dd;obtain⟨t2,g2,a2,b2,e3,u2,s2,l3,l4,c2,p2⟩:=ih n cs ns (g1++[.dic [(.inr (O "f"),.str (O "n")),(.inr (O "g"),.str (O "f"))]]) i j m k sc a1 b1 ws' room hr cc.app hl (by lia);refine⟨.call t1 t2,g2,a2,b2,?_,Up.app.trans (u1.trans (Up.app.trans u2)),s2,by lia,by lia,⟨c1,c2⟩,by simp only[dep];lia⟩;have x3:xs1 (P.tbl (n+n0)) Zcf (me rest k i m room (Ws (.int (rest % 6))) Wu Wu Wu) h=.ok (.nx,me rest k i m room (Ws (.int (rest % 6))) Wu Wu Wu) h:=(Zf (Zh lt (decide_eq_false h3))).trans rfl;have x4:xs1 (P.tbl (n+n0)) Zd1 (me rest k i m room (Ws (.int (rest % 6))) Wu Wu Wu) h=.ok (.nx,me rest k i m room (Ws (.int (rest % 6))) Wu (Ws (.str ws)) Wu) (h++[.lst [.str (O "f"),.str (O "f"),.str (O "g")]]):=Zs (i:=7) (Zks w3 rfl rfl (by simp));have x5:xs1 (P.tbl (n+n0)) Zd0 (me rest k i m room (Ws (.int (rest % 6))) Wu (Ws (.str ws)) Wu) (h++[.lst [.str (O "f"),.str (O "f"),.str (O "g")]])=.ok (.nx,me rest k i m room (Ws (.int (rest % 6))) Wu (Ws (.str ws)) (Ws t1.d)) g1:=Za0 e2 rfl rfl;have p6:ev (P.tbl (n+n0)) (.ix (.dictl (.cons (.Ci_ "f") (.cons (.Ci_ "n") (.cons (.Ci_ "g") (.cons (.Ci_ "f") .nil))))) (.var 7)) (me rest k i m room (Ws (.int (rest % 6))) Wu (Ws (.str ws)) (Ws t1.d)) g1=.ok (.str ws') (g1++[.dic [(.inr (O "f"),.str (O "n")),(.inr (O "g"),.str (O "f"))]]):=dd;have x6:xs1 (P.tbl (n+n0)) ZdZ (me rest k i m room (Ws (.int (rest % 6))) Wu (Ws (.str ws)) (Ws t1.d)) g1=.ok (.rt (T.call t1 t2).d,me rest k i m room (Ws (.int (rest % 6))) Wu (Ws (.str ws)) (Ws t1.d)) g2:=Zr (Zaw (Zc rfl (Zc rfl (Zc ((Zuq (Zc p6 rfl)).trans e3) rfl))) (by simp));rw[Za x3,Za x4,Za x5,Zd x6];rfl
def Ctx.wider(c:Ctx cs ns h i j m k sc a b)(more:Scp)(hm:∀p∈more,Wl 20 p.1):Ctx cs ns (h++[.lst (more.map pairOf),.lst ((sc++more).map pairOf)]) i j m (h.length+1) (sc++more) a b:=by
 have c1:=c.app (g:=[.lst (more.map pairOf),.lst ((sc++more).map pairOf)]);refine⟨c1.st,c1.nm,c1.n5,c1.nok,c1.nd,by unfold ZnM;simp,λp hp=>?_,c1.im,?_,c1.ab⟩
 . rcases OD.mp hp with z|z
   . exact c.sco p z
   . exact hm p z
 . have:=ZM c.st.1
   lia
def Zi8(c:Ctx cs ns h i j m k sc a b)(more:Scp)(hz:sc.length+more.length<=100):opB .Add (.ref k) (.ref h.length) (h++[.lst (more.map pairOf)])=.ok (.ref (h.length+1)) (h++[.lst (more.map pairOf),.lst ((sc++more).map pairOf)]):=by
 have hk:(h++[DO.lst (more.map pairOf)])[k]? = Ws (.lst (sc.map pairOf)):=by rw[Oe (ZM c.sca)];exact c.sca
 simp only[opB,Zr4,hk,ZbL];rw[if_pos (by simp;rw[YC];lia)];simp
def Zvb{sc:Scp}{x s:Str}:∀y∈(sc++[(x,s)]).map (·.1),y∈x::sc.map (·.1):=λy hy=>by
 rw[List.map_append]at hy;rcases OD.mp hy with z|z
 . exact Oh _ z
 . have:y=x:=by simpa using z
   rw[this];exact Oi
def unlike{ns:List Str}(n5:ns.length=5)(nd:ns.Nodup){x f:Str}{rest:Int}(ax:ns[(rest % 5).toNat]? = Ws x)(af:ns[((rest % 5+1+rest / 15 % 4) % 5).toNat]? = Ws f):f≠x:=λe=>by
 have q:=(List.getElem?_inj (i:=(rest % 5).toNat) (j:=((rest % 5+1+rest / 15 % 4) % 5).toNat) (by rw[n5];lia) nd).mp (by rw[ax,af,e])
 lia
noncomputable def fe(w:Str)(rest:Int)(k i m:Nat)(room:Int)(a b c d:Option D):Ev:=[Ws (.str w),Ws (.int rest),Ws (.ref k),Ws (.ref i),Ws (.ref m),Ws (.int room),a,b,c,d]
def Zwh{N:Nat}{s:Str}{w:Str}{rest:Int}{room:Int}{x:Str}{t1:T}{g1 h1:Hd}(hc:opB .Add (.ref k) (.ref h.length) (h++[.lst ([(x,s)].map pairOf)])=.ok (.ref (h.length+1)) h1)(e1:run P N (O "_law_any") [.str (O "n"),.ref (h.length+1),.ref i,.ref m,.int room] h1=.ok t1.d g1):ev (P.tbl N) (.tupl (.cons (.Ci_ "fn") (.cons (.var 6) (.cons (.call (O "_law_any") (.cons (.Ci_ "n") (.cons (.bin .Add (.var 2) (.lstl (.cons (.tupl (.cons (.var 6) (.cons (.cst (.str s)) .nil))) .nil))) (.cons (.var 3) (.cons (.var 4) (.cons (.var 5) .nil)))))) .nil)))) (fe w rest k i m room (Ws (.str x)) Wu Wu Wu) h=.ok (T.fn x t1).d g1:=by have b:ev (P.tbl N) (.bin .Add (.var 2) (.lstl (.cons (.tupl (.cons (.var 6) (.cons (.cst (.str s)) .nil))) .nil))) (fe w rest k i m room (Ws (.str x)) Wu Wu Wu) h=.ok (.ref (h.length+1)) h1:=(Zi (x:=.ref k) (y:=.ref h.length) (h1:=h) (h2:=h++[.lst ([(x,s)].map pairOf)]) rfl rfl).trans hc;exact Zaw (Zc rfl (Zc rfl (Zc ((Zuq (Zc rfl (Zc b rfl))).trans e1) rfl))) (by simp)
def Zuh(H:Mkr P){r n0:Nat}(ih:ZmM P r n0)(n:Nat)(c:Ctx cs ns h i j m k sc a b)(w:Str)(rest:Int)(room:Int)(hr:room<=r)(hl:sc.length+2+2 * r<=50)(ha:a+2 * A r<2 ^ 50):
 Made cs h i j sc a (2 * A r) (3 * r+6) (run P (n+n0+1) (O "_law_function") [.str w,.int rest,.ref k,.ref i,.ref m,.int room] h):=by
 have Ap:=ZkF r;have hab:=c.ab;rw[ZgI H.function rfl];obtain⟨x,ex,wx,ax⟩:=c.name (GD:=P.GD) (rest % 5) (by clear ih ha hab hl hr;lia) (by clear ih ha hab hl hr;lia);show Made cs h i j sc a (2 * A r) (3 * r+6) (Ze (xs2 (P.tbl (n+n0)) (.cons Zbq (.cons Zap (.cons Zao (.cons Zbp (.cons Zbo (.cons Zbn (.cons Zan (.cons Zam .nil)))))))) (fe w rest k i m room Wu Wu Wu Wu) h));have x1:xs1 (P.tbl (n+n0)) Zbq (fe w rest k i m room Wu Wu Wu Wu) h=.ok (.nx,fe w rest k i m room (Ws (.str x)) Wu Wu Wu) h:=by exact Zs (i:=6) ex
 rw[Za x1];by_cases hg:w=O "g"
 . have hc:=Zi8 c [(x,O "f")] (by simp;lia);obtain⟨t1,g1,a1,b1,e1,u1,s1,l1,l2,c1,p1⟩:=ih n cs ns _ i j m (h.length+1) (sc++[(x,O "f")]) a b (O "n") room hr (c.wider [(x,O "f")] (by simp[wx])) (by simp;lia) (by lia);refine⟨.fn x t1,g1,a1,b1,?_,Up.app.trans u1,s1,l1,by lia,Cl.mono (t:=t1) Zvb c1,by simp only[dep];lia⟩;have e:xs1 (P.tbl (n+n0)) Zap (fe w rest k i m room (Ws (.str x)) Wu Wu Wu) h=.ok (.rt (T.fn x t1).d,fe w rest k i m room (Ws (.str x)) Wu Wu Wu) g1:=by subst hg;exact(Zj rfl).trans (Zd (Zr (Zwh hc e1)))
   rw[Zd e];rfl
 have x2:xs1 (P.tbl (n+n0)) Zap (fe w rest k i m room (Ws (.str x)) Wu Wu Wu) h=.ok (.nx,fe w rest k i m room (Ws (.str x)) Wu Wu Wu) h:=by exact(Zf (Zh (ZaM rfl rfl) (decide_eq_false hg))).trans rfl
 rw[Za x2];by_cases h3:rest / 5 % 3=0
 . have hc:=Zi8 c [(x,O "n")] (by simp;lia);obtain⟨t1,g1,a1,b1,e1,u1,s1,l1,l2,c1,p1⟩:=ih n cs ns _ i j m (h.length+1) (sc++[(x,O "n")]) a b (O "n") room hr (c.wider [(x,O "n")] (by simp[wx])) (by simp;lia) (by lia);refine⟨.fn x t1,g1,a1,b1,?_,Up.app.trans u1,s1,l1,by lia,Cl.mono (t:=t1) Zvb c1,by simp only[dep];lia⟩;have e:xs1 (P.tbl (n+n0)) Zao (fe w rest k i m room (Ws (.str x)) Wu Wu Wu) h=.ok (.rt (T.fn x t1).d,fe w rest k i m room (Ws (.str x)) Wu Wu Wu) g1:=(Zj (Zh (Zev (x:=rest / 5 % 3) rfl rfl) (decide_eq_true h3))).trans (Zd (Zr (Zwh hc e1)));rw[Zd e];rfl
 have x3:xs1 (P.tbl (n+n0)) Zao (fe w rest k i m room (Ws (.str x)) Wu Wu Wu) h=.ok (.nx,fe w rest k i m room (Ws (.str x)) Wu Wu Wu) h:=by exact(Zf (Zh (Zev (x:=rest / 5 % 3) rfl rfl) (decide_eq_false h3))).trans rfl
 obtain⟨f,ef,wf,af⟩:=c.name (GD:=P.GD) ((rest % 5+1+rest / 15 % 4) % 5) (by clear ih ha hab hl hr;lia) (by clear ih ha hab hl hr;lia);have nfx:f≠x:=unlike c.n5 c.nd ax af;have x4:xs1 (P.tbl (n+n0)) Zbp (fe w rest k i m room (Ws (.str x)) Wu Wu Wu) h=.ok (.nx,fe w rest k i m room (Ws (.str x)) (Ws (.str f)) Wu Wu) h:=by exact Zs (i:=7) ef
 have hc:=Zi8 c [(f,O "f"),(x,O "n")] (by simp;lia);have cw:=c.wider [(f,O "f"),(x,O "n")] (by simp[wx,wf]);have sub:∀y∈(sc++[(f,O "f"),(x,O "n")]).map (·.1),y∈x::f::sc.map (·.1):=λy hy=>by simp at hy ⊢;rcases hy with z|z|z<;>simp[z]
 generalize hh1:(h++[DO.lst ([(f,O "f"),(x,O "n")].map pairOf),.lst ((sc++[(f,O "f"),(x,O "n")]).map pairOf)])=h1 at hc cw;have ug:Up i h h1:=by rw[<- hh1];exact Up.app
 have hl1:h1.length=h.length+2:=by rw[<- hh1];simp
 have x5:xs1 (P.tbl (n+n0)) Zbo (fe w rest k i m room (Ws (.str x)) (Ws (.str f)) Wu Wu) h=.ok (.nx,fe w rest k i m room (Ws (.str x)) (Ws (.str f)) (Ws (.ref (h.length+1))) Wu) h1:=by exact Zs (i:=8) ((Zi (x:=.ref k) (y:=.ref h.length) (h1:=h) (h2:=h++[.lst ([(f,O "f"),(x,O "n")].map pairOf)]) rfl rfl).trans hc)
 have x6:xs1 (P.tbl (n+n0)) Zbn (fe w rest k i m room (Ws (.str x)) (Ws (.str f)) (Ws (.ref (h.length+1))) Wu) h1=.ok (.nx,fe w rest k i m room (Ws (.str x)) (Ws (.str f)) (Ws (.ref (h.length+1))) (Ws (T.call (.name f) (.op .sub (.name x) (.num 1))).d)) h1:=by exact rfl
 rw[Za x3,Za x4,Za x5,Za x6];generalize hsc:sc++[(f,O "f"),(x,O "n")]=sc1 at cw sub hh1;have hsl:sc1.length=sc.length+2:=by rw[<- hsc];simp
 clear x1 x2 x3 x4 x5 x6 hc hh1 hsc ex ef;have last:∀(t1:T) (g1:Hd) (a1 b1:Int),Up i h1 g1->St3 g1 i j cs a1 b1->a<=a1->a1<=a+A r->Cl (x::f::sc.map (·.1)) t1->dep t1<=3 * r+4 ->
  xs1 (P.tbl (n+n0)) Zan (fe w rest k i m room (Ws (.str x)) (Ws (.str f)) (Ws (.ref (h.length+1))) (Ws (T.call (.name f) (.op .sub (.name x) (.num 1))).d)) h1=.ok (.nx,fe w rest k i m room (Ws (.str x)) (Ws (.str f)) (Ws (.ref (h.length+1))) (Ws t1.d)) g1 ->
  Made cs h i j sc a (2 * A r) (3 * r+6) (Ze (xs2 (P.tbl (n+n0)) (.cons Zan (.cons Zam .nil)) (fe w rest k i m room (Ws (.str x)) (Ws (.str f)) (Ws (.ref (h.length+1))) (Ws (T.call (.name f) (.op .sub (.name x) (.num 1))).d)) h1)):=by
  intro t1 g1 a1 b1 u1 s1 l1 l2 c1 p1 x7;rw[Za x7];obtain⟨t2,g2,a2,b2,e2,u2,s2,l3,l4,c2,p2⟩:=ih n cs ns g1 i j m (h.length+1) sc1 a1 b1 (O "n") (room - 1) (by clear ha;lia) (cw.up u1 s1 (by clear hl ha hr;lia)) (by clear ha hr;lia) (by clear hl hr;lia);refine⟨.rcc f x (.iff (.name x) t1 t2),g2,a2,b2,?_,ug.trans (u1.trans u2),s2,Int.le_trans l1 l3,by clear hl hr ha;lia,⟨⟨Oi,c1,Cl.mono sub c2⟩,nfx⟩,by simp only[dep];clear hl hr ha;lia⟩;have e:xs1 (P.tbl (n+n0)) Zam (fe w rest k i m room (Ws (.str x)) (Ws (.str f)) (Ws (.ref (h.length+1))) (Ws t1.d)) g1=.ok (.rt (T.rcc f x (.iff (.name x) t1 t2)).d,fe w rest k i m room (Ws (.str x)) (Ws (.str f)) (Ws (.ref (h.length+1))) (Ws t1.d)) g2:=by exact Zr (Zaw (Zc rfl (Zc rfl (Zc rfl (Zc (Zaw (Zc rfl (Zc rfl (Zc rfl (Zc (Zu e2 rfl) rfl)))) (by simp)) rfl)))) (by simp))
  rw[Zd e];rfl
 by_cases q0:rest / 60 % 3=0
 . obtain⟨t1,g1,a1,b1,e1,u1,s1,l1,l2,c1,p1⟩:=ih n cs ns h1 i j m (h.length+1) sc1 a b (O "n") room hr cw (by clear ha hr;lia) (by clear hl hr;lia);refine last t1 g1 a1 b1 u1 s1 l1 l2 (Cl.mono sub c1) (by lia) ?_;exact(Zj (Zh (Zev (x:=rest / 60 % 3) rfl rfl) (decide_eq_true q0))).trans (Za (Za0 e1 rfl rfl))
 . by_cases q1:rest / 60 % 3=1
   . have w2:∃wd:Wd,atI [D.str (O "+"),.str (O "*")] (rest / 180 % 2)=Ws (.str wd.s):=by
      have:rest / 180 % 2=0\/rest / 180 % 2=1:=by clear ih ha hl hr q0 q1;lia
      rcases this with z|z<;>rw[z]
      . exact⟨.add,by simp[Wd.s]⟩
      . exact⟨.mul,by simp[Wd.s]⟩
     obtain⟨wd,w2⟩:=w2;obtain⟨t1,g1,a1,b1,e1,u1,s1,l1,l2,c1,p1⟩:=ih n cs ns _ i j m (h.length+1) sc1 a b (O "n") (room - 1) (by clear ha;lia) (cw.app (g:=[.lst [.str (O "+"),.str (O "*")]])) (by clear ha hr;lia) (by clear hl hr;lia);refine last (.op wd t1 (.call (.name f) (.op .sub (.name x) (.num 1)))) g1 a1 b1 (Up.app.trans u1) s1 l1 l2 ⟨Cl.mono sub c1,Oh _ Oi,Oi,by show(0:Int)<=1/\(1:Int)<1000000;decide⟩ (by simp only[dep];clear hl hr ha;lia) ?_;exact(Zf (Zh (Zev (x:=rest / 60 % 3) rfl rfl) (decide_eq_false q0))).trans (Za ((Zj (Zh (Zev (x:=rest / 60 % 3) rfl rfl) (decide_eq_true q1))).trans (Za (Zs (i:=9) (Zaw (Zc (Zks w2 rfl rfl (by simp)) (Zc (Zu e1 rfl) rfl)) (by simp))))))
   . refine last (.call (.name f) (.op .sub (.name x) (.num 1))) h1 a b Up.refl cw.st (Int.le_refl _) (by lia) ⟨Oh _ Oi,Oi,by show(0:Int)<=1/\(1:Int)<1000000;decide⟩ (by simp only[dep];lia) ?_;exact(Zf (Zh (Zev (x:=rest / 60 % 3) rfl rfl) (decide_eq_false q0))).trans (Za ((Zf (Zh (Zev (x:=rest / 60 % 3) rfl rfl) (decide_eq_false q1))).trans rfl))
theorem Zl2(rd:Nat->Option PyData):∀ys:List Str,D.pys rd (ys.map D.str)=Ws (ys.map PyData.str)
 |[]=>rfl
 |y::ys=>by rw[Op,D.pys,Zl2 rd ys];rfl
def ZtO{l:Nat}{ys:List Str}(e:h[l]? = Ws (.lst (ys.map .str))):ZcU Wv (.ref l) (.ref h.length) (h++[.lst []])=.ok (.bl (!ys.isEmpty)) (h++[.lst []]):=by
 have e1:(h++[DO.lst []])[l]? = Ws (.lst (ys.map .str)):=by rw[Oe (ZM e)];exact e
 have p1:ZjJ (h++[.lst []]) (.ref l)=Ws (.list (ys.map .str)):=by show ZiH (h++[.lst []]) 4 l=_;rw[ZiH,e1];simp[Zl2]
 have p2:ZjJ (h++[DO.lst []]) (.ref h.length)=Ws (.list []):=by show ZiH (h++[.lst []]) 4 h.length=_;rw[ZiH,ZbL];rfl
 unfold IV.ZcU;rw[p1,p2];simp only;have d0:min (PyData.list (ys.map .str)).depth (PyData.list []).depth<=1100:=by
  have:(PyData.list []).depth<=1:=by decide +kernel
  lia
 rw[if_pos d0];cases ys with
 |nil=>rfl
 |cons y r=>rfl
def Ze0{U:Tb}{R:Sxs}{ρ':Ev}{h':Hd}{s:Sx}{A B_:Sxs}{S:Ev}{h:Hd}(e:xs2 U (.cons s A) S h=.ok (.nx,ρ') h')(q:∀ρ1 h1,xs2 U A ρ1 h1=.ok (.nx,ρ') h'->xs2 U B_ ρ1 h1=xs2 U R ρ' h'):xs2 U (.cons s B_) S h=xs2 U R ρ' h':=by
 rw[ZgP]at e ⊢;cases r1:xs1 U s S h with
 |bad=>rw[r1]at e;cases e
 |exc c h1=>rw[r1]at e;cases e
 |ok p h1=>
  rw[r1]at e;obtain⟨fl,ρ1⟩:=p;cases fl with
  |nx=>exact q ρ1 h1 e
  |bk=>cases e
  |ct=>cases e
  |rt d=>cases e
def ZuK(R:Sxs)(e:xs2 U (.cons s1 (.cons s2 (.cons s3 (.cons s4 (.cons s5 .nil))))) S h=.ok (.nx,ρ') h'):xs2 U (.cons s1 (.cons s2 (.cons s3 (.cons s4 (.cons s5 R))))) S h=xs2 U R ρ' h':=Ze0 e λ_ _ e=>Ze0 e λ_ _ e=>Ze0 e λ_ _ e=>Ze0 e λ_ _ e=>Ze0 e λ_ _ e=>by cases e;rfl
noncomputable def ae(w:Str)(k i m:Nat)(room v q:Int)(l:Nat)(a b:Option D):Ev:=[Ws (.str w),Ws (.ref k),Ws (.ref i),Ws (.ref m),Ws (.int room),Ws (.int v),Ws (.int q),Ws (.ref l),a,b]
def any_gen(H:Mkr P)(n1:Nat)(c:Ctx cs ns h i j m k sc a b)(w:Str)(room:Int)(mx:Int)(dm:Nat)(hdm:2<=dm)(hl:sc.length<=50)(ha:a<2 ^ 50)(hmx:1<=mx)
 (rc:1<=room->∃r n0 n',room - 1<=(r:Nat)/\ZmM P r n0/\n1+2=n'+n0+1/\1<=n0/\sc.length+2+2 * r<=50/\1+3 * A r<=mx/\a+mx<2 ^ 50/\3 * r+6<=dm) :
 Made cs h i j sc a mx dm (run P (n1+3) (O "_law_any") [.str w,.ref k,.ref i,.ref m,.int room] h):=by
 have hab:=c.ab;rw[ZgI H.any rfl];obtain⟨v,w',ys,h5,l,e5,u5,c5,hy,hys⟩:=Zp7 H n1 c w room hl ha Wu Wu Wu;have st:ZF Zeo.N [.str w,.ref k,.ref i,.ref m,.int room]=[Ws (.str w),Ws (.ref k),Ws (.ref i),Ws (.ref m),Ws (.int room),Wu,Wu,Wu,Wu,Wu]:=rfl;rw[st,show Zeo.body=.cons ZbK (.cons Zcr (.cons ZbJ (.cons Zcq (.cons ZbI (.cons ZbH (.cons ZaL (.cons Zcp (.cons ZbG (.cons Za1 (.cons Zb1 .nil))))))))))from rfl,ZuK _ e5];show Made cs h i j sc a mx dm (Ze (xs2 (P.tbl (n1+2)) (.cons ZbH (.cons ZaL (.cons Zcp (.cons ZbG (.cons Za1 (.cons Zb1 .nil)))))) (ae w' k i m room v (v / 87) l Wu Wu) h5));have nn:=ZtO hy;have t1:tst (P.tbl (n1+2)) (.ex (.cmp .NotEq (.var 7) (.lstl .nil))) (ae w' k i m room v (v / 87) l Wu Wu) h5=.ok (!ys.isEmpty) (h5++[.lst []]):=Zcy ((Zw (x:=.ref l) (y:=.ref h5.length) (h1:=h5) (h2:=h5++[DO.lst []]) rfl rfl).trans nn);have t2:∀h,tst (P.tbl (n1+2)) (.ex (.cmp .Eq (.bin .Mod (.var 6) (.ci 3)) (.ci 0))) (ae w' k i m room v (v / 87) l Wu Wu) h=.ok (Wx (v / 87 % 3=0)) h:=λh=>Zev rfl rfl;have t8:∀h,tst (P.tbl (n1+2)) (.ex (.cmp .Eq (.bin .Mod (.var 6) (.ci 8)) (.ci 0))) (ae w' k i m room v (v / 87 / 30) l Wu Wu) h=.ok (Wx (v / 87 / 30 % 8=0)) h:=λh=>Zev rfl rfl;by_cases hn:ys.isEmpty=Ww/\v / 87 % 3=0
 ·
  have hp:0<ys.length:=by
   cases ys with
   |nil=>simp at hn
   |cons y r=>simp
  have ix:opB .Mod (.int (v / 87 / 3)) (.int ys.length) (h5++[.lst []])=.ok (.int (v / 87 / 3 % ys.length)) (h5++[.lst []]):=ZW (by lia);have hb:(0:Int)<=v / 87 / 3 % ys.length/\v / 87 / 3 % ys.length<ys.length:=⟨Int.emod_nonneg _ (by lia),Int.emod_lt_of_pos _ (by lia)⟩
  obtain⟨q,hq⟩:∃q:Nat,v / 87 / 3 % ys.length=q:=⟨(v / 87 / 3 % ys.length).toNat,by lia⟩
  have hql:q<ys.length:=by lia
  have hl5:(h5++[DO.lst []])[l]? = Ws (.lst (ys.map .str)):=by rw[Oe (ZM hy)];exact hy
  have len:ZcE P.GD .len [.ref l] (h5++[.lst []])=.ok (.int ys.length) (h5++[.lst []]):=by simp only[ZcE,ZlB,seqOf,lstOf,hl5];simp
  have at5:ZbD P.GD (.ref l) (.int (q:Int)) (h5++[.lst []])=.ok (.str ys[q]) (h5++[.lst []]):=by rw[ZY hl5,IV.ZbA,O2,Og hql];rfl
  refine⟨.name ys[q],h5++[.lst []],a+1,b - 1,?_,u5.trans Up.app,c5.st.app,by lia,by lia,hys _ (List.getElem_mem hql),Yw _⟩;have x6:xs1 (P.tbl (n1+2)) ZbH (ae w' k i m room v (v / 87) l Wu Wu) h5=.ok (.rt (T.name ys[q]).d,(ae w' k i m room v (v / 87) l Wu Wu)) (h5++[.lst []]):=by have el:ev (P.tbl (n1+2)) (.blt .len (.cons (.var 7) .nil)) (ae w' k i m room v (v / 87) l Wu Wu) (h5++[.lst []])=.ok (.int ys.length) (h5++[.lst []]):=len;have ei:ev (P.tbl (n1+2)) (.bin .Mod (.bin .FloorDiv (.var 6) (.ci 3)) (.blt .len (.cons (.var 7) .nil))) (ae w' k i m room v (v / 87) l Wu Wu) (h5++[.lst []])=.ok (.int (q:Int)) (h5++[.lst []]):=(Zi (x:=.int (v / 87 / 3)) rfl el).trans (ix.trans (by rw[hq]));rw[hn.1]at t1;exact(Zj (ZsE t1 (Zh (t2 _) (decide_eq_true hn.2)))).trans (Zd (Zr (Zaw (Zc rfl (Zc ((Zl (x:=.ref l) rfl ei).trans at5) rfl)) (by simp))))
  rw[Zd x6];rfl
 . have x6:xs1 (P.tbl (n1+2)) ZbH (ae w' k i m room v (v / 87) l Wu Wu) h5
    = .ok (.nx,(ae w' k i m room v (v / 87) l Wu Wu)) (h5++[.lst []]):=by
    cases q:ys.isEmpty with
    |true=>rw[q]at t1;exact(Zf (ZwE t1)).trans rfl
    |false=>rw[q]at t1;have h3:¬ v / 87 % 3=0:=λz=>hn ⟨q,z⟩;exact(Zf (ZsE t1 (Zh (t2 _) (decide_eq_false h3)))).trans rfl
   have c6:=c5.app (g:=[.lst []]);have u6:=u5.trans (Up.app (i:=i) (g:=[.lst []]));clear t1 nn;generalize hh6:h5++[.lst []]=h6 at x6 c6 u6;rw[Za x6];have ix2:ZbD P.GD (.ref i) (.int 2) h6=.ok (.int (b - 1)) h6:=by rw[ZY c6.st.1];simp
   have r1:tst (P.tbl (n1+2)) (.ex (.cmp .Lt (.var 4) (.ci 1))) (ae w' k i m room v (v / 87) l Wu Wu) h6=.ok (Wx (room<1)) h6:=rfl;have r2:tst (P.tbl (n1+2)) (.ex (.cmp .Lt (.ix (.var 2) (.ci 2)) (.ci 0))) (ae w' k i m room v (v / 87) l Wu Wu) h6=.ok (Wx (b - 1<0)) h6:=Zcy ((Zw (y:=.int 0) (h2:=h6) ((Zl (x:=.ref i) (y:=.int 2) rfl rfl).trans ix2) rfl).trans rfl);obtain⟨t,g,ep,ct,pt⟩:=ZiI H (n1+1) w' (v / 87 / 3) h6 (sc.map (·.1));by_cases hr:room<1
   . refine⟨t,h6++g,a+1,b - 1,?_,u6.trans Up.app,c6.st.app,by lia,by lia,ct,by lia⟩;have x7:xs1 (P.tbl (n1+2)) ZaL (ae w' k i m room v (v / 87) l Wu Wu) h6=.ok (.rt t.d,(ae w' k i m room v (v / 87) l Wu Wu)) (h6++g):=(Zj (Zo0 (Zh r1 (decide_eq_true hr)))).trans (Zd (Za0 ep rfl rfl));rw[Zd x7];rfl
   . by_cases hb:b - 1<0
     . refine⟨t,h6++g,a+1,b - 1,?_,u6.trans Up.app,c6.st.app,by lia,by lia,ct,by lia⟩;have x7:xs1 (P.tbl (n1+2)) ZaL (ae w' k i m room v (v / 87) l Wu Wu) h6=.ok (.rt t.d,(ae w' k i m room v (v / 87) l Wu Wu)) (h6++g):=(Zj (ZiM (Zh r1 (decide_eq_false hr)) (Zh r2 (decide_eq_true hb)))).trans (Zd (Za0 ep rfl rfl));rw[Zd x7];rfl
     . obtain⟨r,n0,n',q1,ih,q2,q3,q4,q5,q6,q7⟩:=rc (by lia);have Ap:=ZkF r;have x7:xs1 (P.tbl (n1+2)) ZaL (ae w' k i m room v (v / 87) l Wu Wu) h6
        = .ok (.nx,(ae w' k i m room v (v / 87) l Wu Wu)) h6:=by
        exact(Zf (ZiM (Zh r1 (decide_eq_false hr)) (Zh r2 (decide_eq_false hb)))).trans rfl
       have x8:xs1 (P.tbl (n1+2)) Zcp (ae w' k i m room v (v / 87) l Wu Wu) h6
        = .ok (.nx,(ae w' k i m room v (v / 87 / 30) l Wu Wu)) h6:=by
        exact rfl
       rw[Za x7,Za x8];by_cases h8:v / 87 / 30 % 8=0
       . obtain⟨t1,g1,a1,b1,e1,u1,s1,l1,l2,c1,p1⟩:=ih (n'+1) cs ns h6 i j m k sc (a+1) (b - 1) (O "n") (room - 1) q1 c6 (by lia) (by lia);have cc1:=c6.up u1 s1 (by lia);obtain⟨t2,g2,a2,b2,e2,u2,s2,l3,l4,c2,p2⟩:=ih (n'+1) cs ns g1 i j m k sc a1 b1 w' (room - 1) q1 cc1 (by lia) (by lia);have cc2:=cc1.up u2 s2 (by lia);obtain⟨t3,g3,a3,b3,e3,u3,s3,l5,l6,c3,p3⟩:=ih (n'+1) cs ns g2 i j m k sc a2 b2 w' (room - 1) q1 cc2 (by lia) (by lia);rw[show n'+1+n0=n1+2 by lia]at e1 e2 e3;refine⟨.iff t1 t2 t3,g3,a3,b3,?_,u6.trans (u1.trans (u2.trans u3)),s3,by lia,by lia,⟨c1,c2,c3⟩,by simp only[dep];lia⟩;have x9:xs1 (P.tbl (n1+2)) ZbG (ae w' k i m room v (v / 87 / 30) l Wu Wu) h6=.ok (.rt (T.iff t1 t2 t3).d,(ae w' k i m room v (v / 87 / 30) l (Ws t1.d) (Ws t2.d))) g3:=by refine(Zj (Zh (t8 _) (decide_eq_true h8))).trans ?_;refine(Za (ρ1:=ae w' k i m room v (v / 87 / 30) l (Ws t1.d) Wu) (h1:=g1) (Za0 e1 rfl rfl)).trans ?_;refine(Za (ρ1:=ae w' k i m room v (v / 87 / 30) l (Ws t1.d) (Ws t2.d)) (h1:=g2) (Za0 e2 rfl rfl)).trans ?_;exact Zd (Za0 e3 rfl rfl)
         rw[Zd x9];rfl
       . have x9:xs1 (P.tbl (n1+2)) ZbG (ae w' k i m room v (v / 87 / 30) l Wu Wu) h6=.ok (.nx,(ae w' k i m room v (v / 87 / 30) l Wu Wu)) h6:=(Zf (Zh (t8 _) (decide_eq_false h8))).trans rfl;rw[Za x9];by_cases hw:w'=O "n"
         . obtain⟨t1,g1,a1,b1,e1,u1,s1,l1,l2,c1,p1⟩:=ZtN H ih q3 n' c6 (v / 87 / 30 / 8) (room - 1) q1 (by lia) (by lia);rw[<- q2]at e1;refine⟨t1,g1,a1,b1,?_,u6.trans u1,s1,by lia,by lia,c1,by lia⟩;have x10:xs1 (P.tbl (n1+2)) Za1 (ae w' k i m room v (v / 87 / 30) l Wu Wu) h6=.ok (.rt t1.d,(ae w' k i m room v (v / 87 / 30) l Wu Wu)) g1:=(Zj (Zh (ZaM rfl rfl) (decide_eq_true hw))).trans (Zd (Za0 e1 rfl rfl));rw[Zd x10];rfl
         . obtain⟨t1,g1,a1,b1,e1,u1,s1,l1,l2,c1,p1⟩:=Zuh H ih n' c6 w' (v / 87 / 30 / 8) (room - 1) q1 (by lia) (by lia);rw[<- q2]at e1;refine⟨t1,g1,a1,b1,?_,u6.trans u1,s1,by lia,by lia,c1,by lia⟩;have x10:xs1 (P.tbl (n1+2)) Za1 (ae w' k i m room v (v / 87 / 30) l Wu Wu) h6=.ok (.nx,(ae w' k i m room v (v / 87 / 30) l Wu Wu)) h6:=(Zf (Zh (ZaM rfl rfl) (decide_eq_false hw))).trans rfl;have x11:xs1 (P.tbl (n1+2)) Zb1 (ae w' k i m room v (v / 87 / 30) l Wu Wu) h6=.ok (.rt t1.d,(ae w' k i m room v (v / 87 / 30) l Wu Wu)) g1:=Za0 e1 rfl rfl;rw[Za x10,Zd x11];rfl
theorem Zp6(H:Mkr P):∀r:Nat,ZmM P r (2 * r+3)
 |0=>λn cs ns h i j m k sc a b w room hr c hl ha=>by have:=any_gen H n c w room (A 0) 3 (by decide) (by lia) (by have:=ZkF 0;lia) (by decide) (λz=>by lia);exact this
 |r+1=>λn cs ns h i j m k sc a b w room hr c hl ha=>by have Ap:=ZkF r;have As:=ZuF r;have:=any_gen H (n+2 * r+2) c w room (A (r+1)) (3 * (r+1)+3) (by lia) (by lia) (by lia) (by lia) (λ_=>⟨r,2 * r+3,n,by lia,Zp6 H r,by lia,by lia,by lia,by lia,by lia,by lia⟩);rw[show n+(2 * (r+1)+3)=n+2 * r+2+3 by lia];exact this
end
set_option tactic.hygienic true
section
noncomputable def Zmp:T->List D
 |.num n=>[.str (O "num"),.int n]
 |.name x=>[.str (O "name"),.str x]
 |.fn x _=>[.str (O "fn"),.str x]
 |.rcc f x _=>[.str (O "rec"),.str f,.str x]
 |.call _ _=>[.str (O "call")]
 |.iff _ _ _=>[.str (O "if")]
 |.op w _ _=>[.str w.s]
def ZpN(t:T):t.d=.tup (Zmp t++t.parts.map T.d):=by cases t<;>rfl
noncomputable def ZiX:D->Bool
 |.str _|.int _=>Wv
 |_=>Ww
def Zlm(t:T):∀d∈Zmp t,ZiX d=Wv:=by cases t<;>simp[Zmp,ZiX]
def Zpr(hf:ZiX d=Wv):ZcE GD .isi [d,.ty "tuple"] h=.ok (.bl Ww) h:=by
 cases d with
 |str x=>rfl
 |int x=>rfl
 |_=>cases hf
def Zrt:ZcE GD .isi [.tup xs,.ty "tuple"] h=.ok (.bl Wv) h:=rfl
abbrev isT:Tx:=.ex (.blt .isi (.c (.v 0) (.c (.cst (.ty "tuple")) .n)))
theorem Zhy{U:Tb}{acc rest:List D}:∀ds:List D,(∀d∈ds,ZiX d=Wv)->acc.length<sizeLine->Z0 Wu (.nm 0) (tsto U (Ws isT)) (ev U e) (ds++rest) [Wu] acc h=Z0 Wu (.nm 0) (tsto U (Ws isT)) (ev U e) rest [Wu] acc h
 |[],_,_=>rfl
 |d::ds,hd,hz=>by have:=Zpr (GD:=U.GD) (h:=h) (hd d (by simp));rw[List.cons_append,Zaj];simp[Wk.stays,hz,this];exact Zhy ds (λx hx=>hd x (by simp[hx])) hz
theorem Zhw{U:Tb}{f:T->Int}:∀(ts:List T) (acc:List D) (h:Hd),(∀t∈ts,∀h,∃g,ev U e [Ws t.d] h=.ok (.int (f t)) (h++g))->acc.length+ts.length<=1000->∃g,Z0 Wu (.nm 0) (tsto U (Ws isT)) (ev U e) (ts.map T.d) [Wu] acc h=.ok (acc++ts.map λt=>.int (f t)) (h++g)
 |[],acc,h,_,_=>⟨[],by simp[Z0,Wk.stays]⟩
 |t::ts,acc,h,ht,hz=>by
  simp only[Os]at hz;obtain⟨g1,e1⟩:=ht t (by simp) h;obtain⟨g2,e2⟩:=Zhw (U:=U) (e:=e) (f:=f) ts (acc++[.int (f t)]) (h++g1) (λx hx=>ht x (by simp[hx])) (by simp;lia);refine⟨g1++g2,?_⟩;have hz2:acc.length<sizeLine:=by rw[YC];lia
  have it:ZcE U.GD .isi [t.d,.ty "tuple"] h=.ok (.bl Wv) h:=by rw[ZpN];exact Zrt
  rw[Op,Zaj];simp[Wk.stays,hz2,it,e1,e2]
def Zfu{U:Tb}{f:T->Int}(t:T)(h:Hd)(ht:∀s∈t.parts,∀h,∃g,ev U e [Ws s.d] h=.ok (.int (f s)) (h++g)):∃g,Z0 Wu (.nm 0) (tsto U (Ws isT)) (ev U e) (Zmp t++t.parts.map T.d) [Wu] [] h=.ok (t.parts.map λs=>.int (f s)) (h++g):=by obtain⟨g,e1⟩:=Zhw (f:=f) t.parts [] h ht (by cases t<;>simp[T.parts]);refine⟨g,?_⟩;rw[Zhy _ (Zlm t) (by rw[YC];simp),e1];simp
theorem ints_map(f:T->Int):∀ts:List T,intsOf (ts.map λs=>D.int (f s))=Ws (ts.map f)
 |[]=>rfl
 |t::ts=>by rw[Op,intsOf,ints_map f ts];rfl
variable {P:Pg}
def ZlS(t:T):(t.size:Int)=1+(t.parts.map λs=>(s.size:Int)).sum:=by
 unfold T.size;rw[T.places_parts];have:∀ts:List T,((ts.flatMap T.places).length:Int)=(ts.map λs=>(s.places.length:Int)).sum:=by
  intro ts;induction ts with
  |nil=>rfl
  |cons t ts ih=>rw[List.flatMap_cons,OA,Op,OI,<- ih];lia
 rw[Os,<- this]
 lia
def Zfs{t s:T}(hs:s∈t.parts):dep s<dep t:=by
 cases t<;>simp[T.parts]at hs<;>simp only[dep]
 . subst hs;lia
 . subst hs;lia
 . rcases hs with rfl|rfl<;>lia
 . rcases hs with rfl|rfl|rfl<;>lia
 . rcases hs with rfl|rfl<;>lia
theorem Zqt (H:Mkr P):∀ (d n:Nat) (t:T) (h:Hd),dep t<=d->∃ g,run P (n+d+1) (O "_law_width") [t.d] h=.ok (.int t.size) (h++g):=by
 intro d;induction d with
 | zero =>
   intro n t h hd;rw [Zg H.width rfl];obtain ⟨g,e⟩:=Zfu (U:=⟨P.G,P.GD,run P (n+0),P.L⟩) (e:=.call (O "_law_width") (.cons (.var 0) .nil)) (f:=fun s=>(s.size:Int)) t h (fun s hs=>by have:=Zfs hs;lia);refine ⟨g++[.lst (t.parts.map fun s=>.int s.size)],?_⟩;rw [ZlS,ZpN];have sm:ZcE P.GD .sum [.ref (h++g).length] (h++g++[.lst (t.parts.map fun s=>D.int s.size)])=.ok (.int (t.parts.map fun s=>(s.size:Int)).sum) (h++g++[.lst (t.parts.map fun s=>D.int s.size)]):=by
     simp only [ZcE,Zp4,lstOf,ZbL,Yz,ints_map];rfl
   simp at sm e;simp [Zcl,ZdX,ZF,Zbg,Zc0,e,sm]
 | succ d ih =>
   intro n t h hd;rw [Zg H.width rfl];obtain ⟨g,e⟩:=Zfu (U:=⟨P.G,P.GD,run P (n+(d+1)),P.L⟩) (e:=.call (O "_law_width") (.cons (.var 0) .nil)) (f:=fun s=>(s.size:Int)) t h (fun s hs h1=>by
     have:=Zfs hs;obtain ⟨g,e⟩:=ih n s h1 (by lia);refine ⟨g,?_⟩;have e':run P (n+(d+1)) (O "_law_width") [s.d] h1=.ok (.int s.size) (h1++g):=e;simp [e'])
   refine ⟨g++[.lst (t.parts.map fun s=>.int s.size)],?_⟩;rw [ZlS,ZpN];have sm:ZcE P.GD .sum [.ref (h++g).length] (h++g++[.lst (t.parts.map fun s=>D.int s.size)])=.ok (.int (t.parts.map fun s=>(s.size:Int)).sum) (h++g++[.lst (t.parts.map fun s=>D.int s.size)]):=by
     simp only [ZcE,Zp4,lstOf,ZbL,Yz,ints_map];rfl
   simp at sm e;simp [Zcl,ZdX,ZF,Zbg,Zc0,e,sm]
end
section
variable {P:Pg}
def max2(x y:Nat):(if (1+(y:Int)) > 1+x then 1+(y:Int)else 1+x)=((max x y+1:Nat):Int):=by split<;>lia
def Zuu(t:T):ZdM (t.parts.map λs=>1+(dep s:Int)) 0=dep t:=by
 cases t with
 |num n=>rfl
 |name x=>rfl
 |fn x e=>simp[T.parts,ZdM,dep];lia
 |rcc f x e=>simp[T.parts,ZdM,dep];lia
 |call f a=>simp only[T.parts,ZdM,dep,Op,Oy,Wp,List.foldl_nil];rw[max2]
 |op w f a=>simp only[T.parts,ZdM,dep,Op,Oy,Wp,List.foldl_nil];rw[max2]
 |iff c t e=>simp only[T.parts,ZdM,dep,Op,Oy,Wp,List.foldl_nil];rw[max2];split<;>lia
theorem Zta (H:Mkr P):∀ (d n:Nat) (t:T) (h:Hd),dep t<=d->∃ g,run P (n+d+1) (O "_law_deep") [t.d] h=.ok (.int (dep t)) (h++g):=by
 have fin:∀ (t:T) (h g:Hd),ZmJ (.ref (h++g).length) (.int 0) (h++g++[.lst (t.parts.map fun s=>D.int (1+(dep s:Int)))])=.ok (.int (dep t)) (h++g++[.lst (t.parts.map fun s=>D.int (1+(dep s:Int)))]):=by
   intro t h g;have q:intsOf (t.parts.map fun s=>D.int (1+(dep s:Int)))=Ws (t.parts.map fun s=>1+(dep s:Int)):=ints_map (fun s=>1+(dep s:Int)) t.parts;simp only [ZmJ,lstOf,ZbL,Yz,q,Yu,Zuu,ofO_some]
 intro d;induction d with
 | zero =>
   intro n t h hd;rw [Zg H.deep rfl];obtain ⟨g,e⟩:=Zfu (U:=⟨P.G,P.GD,run P (n+0),P.L⟩) (e:=.bin .Add (.ci 1) (.call (O "_law_deep") (.cons (.var 0) .nil))) (f:=fun s=>1+(dep s:Int)) t h (fun s hs=>by have:=Zfs hs;lia);refine ⟨g++[.lst (t.parts.map fun s=>.int (1+(dep s:Int)))],?_⟩;have sm:=fin t h g;rw [ZpN];simp at sm e;simp [Zdd,ZeV,ZF,Zbg,Zc0,e,sm]
 | succ d ih =>
   intro n t h hd;rw [Zg H.deep rfl];obtain ⟨g,e⟩:=Zfu (U:=⟨P.G,P.GD,run P (n+(d+1)),P.L⟩) (e:=.bin .Add (.ci 1) (.call (O "_law_deep") (.cons (.var 0) .nil))) (f:=fun s=>1+(dep s:Int)) t h (fun s hs h1=>by
     have:=Zfs hs;obtain ⟨g,e⟩:=ih n s h1 (by lia);refine ⟨g,?_⟩;have e':run P (n+(d+1)) (O "_law_deep") [s.d] h1=.ok (.int (dep s)) (h1++g):=e;simp [e'])
   refine ⟨g++[.lst (t.parts.map fun s=>.int (1+(dep s:Int)))],?_⟩;have sm:=fin t h g;rw [ZpN];simp at sm e;simp [Zdd,ZeV,ZF,Zbg,Zc0,e,sm]
theorem Zhx(H:Mkr P)(hk:h[k]? = Ws (.lst xs0)):∀(xs:List Int) (j:Nat) (acc:List Int),acc.length+xs.length<=1000->j+xs.length<=1000->∃cs:List Int,cs.length=acc.length+xs.length /\
 Z0 (Ws (k,xs0)) (.two 0 1) (tsto ⟨P.G,P.GD,run P (n+1),P.L⟩ Wu) (ev ⟨P.G,P.GD,run P (n+1),P.L⟩ (.call (O "_law_mixed") (.cons (.var 1) (.cons (.bin .Add (.var 0) (.ci 2)) .nil)))) (xs.mapIdx λq x=>D.tup [.int ((q+j:Nat):Int),.int x]) [Wu,Wu] (acc.map .int) h
  = .ok (cs.map .int) h
 |[],j,acc,_,_=>⟨acc,by simp,by simp[Z0,Wk.stays,hk]⟩
 |x::xs,j,acc,h1,h2=>by
  simp only[Os]at h1 h2;obtain⟨cs,q1,q2⟩:=Zhx H hk xs (j+1) (acc++[mixed x ((j:Int)+2)]) (by simp;lia) (by lia);refine⟨cs,by simp at q1;simp;lia,?_⟩;have e1:=ZiJ H n x ((j:Int)+2) h ⟨by lia,by lia⟩;have hz:acc.length<sizeLine:=by rw[YC];lia
  have ei:(λ(q:Nat) (x:Int)=>D.tup [.int ((q+1+j:Nat):Int),.int x])=λq x=>D.tup [.int ((q+(j+1):Nat):Int),.int x]:=by funext q x;rw[show q+1+j=q+(j+1) by lia]
  rw[List.mapIdx_cons,Zaj];simp only[Wk.stays,hk,decide_true,true_and,Yt,hz,if_true,ZpZ,List.set_cons_zero,List.set_cons_succ,ZmR,Zne,Zt,bind_ok,Zi4,Zfr,ZI,Zi3,O0,OJ,Option.join_some,ofO_some,ZpF,Zuo,Zma,Nat.zero_add,e1];rw[ei];have:=q2;rw[List.map_append]at this;exact this
end
set_option tactic.hygienic false
section
variable {P:Pg}{cs:List Int}{ns:List Str}{h h':Hd}{i j m:Nat}{a b:Int}
def Zp8(H:Mkr P)(r N:Nat)(hN:2 * r+3<=N)(c:Ctx cs ns h i j m k sc a b)(w:Str)(room:Int)(hr:room<=r)(hl:sc.length+2 * r<=50)(ha:a+A r<2 ^ 50):
 Made cs h i j sc a (A r) (3 * r+3) (run P N (O "_law_any") [.str w,.ref k,.ref i,.ref m,.int room] h):=by
 have:=Zp6 H r (N - (2 * r+3)) cs ns h i j m k sc a b w room hr c hl ha;rw[show N - (2 * r+3)+(2 * r+3)=N by lia]at this;exact this
def ZgQ(H:Mkr P)(N:Nat)(t:T)(h:Hd)(hd:dep t<N):∃g,run P N (O "_law_width") [t.d] h=.ok (.int t.size) (h++g):=by obtain⟨g,e⟩:=Zqt H (dep t) (N - dep t - 1) t h (Oq _);rw[show N - dep t - 1+dep t+1=N by lia]at e;exact⟨g,e⟩
def ZrO(H:Mkr P)(N:Nat)(t:T)(h:Hd)(hd:dep t<N):∃g,run P N (O "_law_deep") [t.d] h=.ok (.int (dep t)) (h++g):=by obtain⟨g,e⟩:=Zta H (dep t) (N - dep t - 1) t h (Oq _);rw[show N - dep t - 1+dep t+1=N by lia]at e;exact⟨g,e⟩
def Ctx.bare(c:Ctx cs ns h i j m k sc a b):Ctx cs ns (h++[.lst []]) i j m h.length [] a b:=by
 have c1:=c.app (g:=[.lst []]);refine⟨c1.st,c1.nm,c1.n5,c1.nok,c1.nd,by unfold ZnM;simp,by simp,c1.im,?_,c1.ab⟩;have:=ZM c.st.1
 lia
noncomputable def vp(ro:D)(st:Int)(o2 o3 o4 o5 o6:Option D):Ev:=[Ws ro,Ws (.int st),o2,o3,o4,o5,o6]
def Zrn:Sxs:=(.c (.iff (.ex (.cmp .Lt (.call (O "_law_width") (.c (.v 5) .n)) (.ci 50))) (.c (.put (.v 3) (.ci 2) (.ci 12)) (.c (.set (.nm 5) (.tupl (.c (.Ci_ "+") (.c (.v 5) (.c (.call (O "_law_any") (.c (.Ci_ "n") (.c (.lstl .n) (.c (.v 3) (.c (.v 4) (.c (.ci 6) .n)))))) .n))))) .n)) .n) .n)
inductive Turned(cs:List Int)(ns:List Str)(h:Hd)(i j m k:Nat)(sc:Scp)(a:Int)(dm:Nat)(S:Option D->Ev)(r:R (Fl×Ev)):Prop
 |mk (t:T) (h':Hd) (a' b':Int) (e:r=.ok (.nx,S (Ws t.d)) h') (c:Cl [] t) (d:dep t<=dm) (u:Up i h h') (x:Ctx cs ns h' i j m k sc a' b') (l:a'<=a+65536)
def turn(H:Mkr P)(hN:40<=N)(c:Ctx cs ns h i j m k sc a b)(ct:Cl [] t)(hd:dep t<=30)(ha:a<2 ^ 45)(ro:D)(st:Int)(o2 o6:Option D):Turned cs ns h i j m k sc a (max (dep t) 21+1) (λo=>vp ro st o2 (Ws (.ref i)) (Ws (.ref m)) o o6)
 (xs2 (P.tbl N) Zrn (vp ro st o2 (Ws (.ref i)) (Ws (.ref m)) (Ws t.d) o6) h):=by
 have A6:A 6=16384:=by decide
 obtain⟨g,ew⟩:=ZgQ H N t h (by lia);have c1:=c.app (g:=g);have te:tst (P.tbl N) (.ex (.cmp .Lt (.call (O "_law_width") (.cons (.var 5) .nil)) (.ci 50))) (vp ro st o2 (Ws (.ref i)) (Ws (.ref m)) (Ws t.d) o6) h=.ok (Wx ((t.size:Int)<50)) (h++g):=ZvY (Zu ew rfl) rfl;by_cases hw:(t.size:Int)<50
 . have p1:ZbQ (.ref i) (.int 2) (.int 12) (h++g)=.ok () ((h++g).set i (.lst [.ref j,.int a,.int 12])):=by simp only[ZbQ,c1.st.1];rfl
   have s1:St3 ((h++g).set i (.lst [.ref j,.int a,.int 12])) i j cs a 12:=⟨by rw[Ol (ZM c1.st.1)],by rw[Oc c1.st.2.2];exact c1.st.2.1,c1.st.2.2⟩
   obtain⟨h2,p1,u1,c2⟩:∃h2,ZbQ (.ref i) (.int 2) (.int 12) (h++g)=.ok () h2/\Up i h h2/\Ctx cs ns h2 i j m k sc a 12:=⟨_,p1,Up.app.trans Up.set,c1.up Up.set s1 c.ab⟩
   obtain⟨t1,h3,a1,b1,e1,u3,s3,l1,l2,c3,p3⟩:=Zp8 H 6 N (by lia) c2.bare (O "n") 6 (by decide) (by simp) (by rw[A6];lia);have u4:=u1.trans ((Up.app (i:=i) (g:=[.lst []])).trans u3);have x1:xs1 (P.tbl N) (.put (.var 3) (.ci 2) (.ci 12)) (vp ro st o2 (Ws (.ref i)) (Ws (.ref m)) (Ws t.d) o6) (h++g)=.ok (.nx,vp ro st o2 (Ws (.ref i)) (Ws (.ref m)) (Ws t.d) o6) h2:=by show R.bnd (ZbQ (.ref i) (.int 2) (.int 12) (h++g)) _=_;rw[p1];rfl
   refine⟨.op .add t t1,h3,a1,b1,?_,⟨ct,c3⟩,by simp only[dep];lia,u4,c.up u4 s3 (by have:=c.ab;lia),by rw[A6]at l2;lia⟩;refine(Za ((Zj (Zh te (decide_eq_true hw))).trans ((Za x1).trans ((Za (Zs (Zaw (Zc rfl (Zc rfl (Zc (Zu e1 (Zc rfl (Zc (ZhQ rfl (by simp)) rfl))) rfl))) (by simp)))).trans rfl)))).trans rfl
 . exact⟨t,h++g,a,b,(Za ((Zf (Zh te (decide_eq_false hw))).trans rfl)).trans rfl,ct,by lia,Up.app,c1,by lia⟩
def Zvo(zs:List Int)(st:Int)(hz:zs.length<=100):∃ys:List Int,ys.length<=100/\∀h:Hd,Zgu (.ro (zs.map D.int)) (Ws st) Wu h=.ok (.ref h.length) (h++[.lst (ys.map .int)]):=by
 refine⟨(zs.drop (HT.sIx zs.length 0 (Ws st))).take (HT.sIx zs.length zs.length Wu - HT.sIx zs.length 0 (Ws st)),?_,λh=>?_⟩
 . rw[List.length_take,List.length_drop]
   lia
 . show Zc7 (.lst (cutD (zs.map D.int) (Ws st) Wu)) h=_;simp[cutD,List.map_drop,List.map_take]
inductive Begun(h:Hd)(S:Option D->Option D->Option D->Ev)(r:Sxs->R (Fl×Ev))(U:Tb):Prop
 |mk (cs:List Int) (ns:List Str) (h':Hd) (i j m:Nat) (e:∀s,r s=xs2 U s (S (Ws (.ref j)) (Ws (.ref i)) (Ws (.ref m))) h') (c:Ctx cs ns (h'++[.lst []]) i j m h'.length [] 1 26) (l:h.length<=i) (u:Up i h h')
def Ztq(H:Mkr P)(hN:40<=N)(zs:List Int)(st:Int)(h:Hd)(hz:zs.length<=100):Begun h (λo2 o3 o4=>vp (.ro (zs.map .int)) st o2 o3 o4 Wu Wu) (λs=>xs2 (P.tbl N) (.cons ZaD (.cons Zdv (.cons Zdu s))) (vp (.ro (zs.map .int)) st Wu Wu Wu Wu Wu) h) (P.tbl N):=by
 obtain⟨N,rfl⟩:∃N3,N=N3+2:=⟨N - 2,by lia⟩
 obtain⟨ys,hyl,osl⟩:=Zvo zs st hz;obtain⟨cs,hcl,ec⟩:=Zhx H (n:=N+1) (h:=h++[.lst (ys.map .int)]) (k:=h.length) (xs0:=ys.map .int) (by simp) ys 0 [] (by simp;lia) (by lia);have en:Zdq (ys.map D.int)=ys.mapIdx λq x=>D.tup [.int ((q+0:Nat):Int),.int x]:=by unfold Zdq;apply List.ext_getElem?;intro q;simp[List.getElem?_mapIdx];cases ys[q]?<;>rfl
 have ei:evi (P.tbl (N+2)) (.enu (.sl (.var 0) (Ws (.var 1)) Wu)) (vp (.ro (zs.map .int)) st Wu Wu Wu Wu Wu) h=.ok ⟨Ws (h.length,ys.map .int),Zdq (ys.map D.int)⟩ (h++[.lst (ys.map .int)]):=by rw[ZrI,show ev (P.tbl (N+2)) (.sl (.var 0) (Ws (.var 1)) Wu) (vp (.ro (zs.map .int)) st Wu Wu Wu Wu Wu) h=.ok (.ref h.length) (h++[.lst (ys.map .int)])from osl h,Zt];simp[ZhZ]
 rw[<- en]at ec;have x1:xs1 (P.tbl (N+2)) ZaD (vp (.ro (zs.map .int)) st Wu Wu Wu Wu Wu) h=.ok (.nx,vp (.ro (zs.map .int)) st (Ws (.ref (h++[DO.lst (ys.map .int)]).length)) Wu Wu Wu Wu) (h++[.lst (ys.map .int)]++[.lst (cs.map .int)]):=Zs (Zmy ei ec);generalize D.ro (zs.map .int)=ro at *;obtain⟨h1,j,u1,k1,lj,x1⟩:∃(h1:Hd) (j:Nat),Up h1.length h h1/\h1[j]? = Ws (.lst (cs.map .int))/\j<h1.length/\xs1 (P.tbl (N+2)) ZaD (vp ro st Wu Wu Wu Wu Wu) h=.ok (.nx,vp ro st (Ws (.ref j)) Wu Wu Wu Wu) h1:=⟨_,_,Up.app.trans Up.app,ZbL,by simp,x1⟩
 have s2:St3 (h1++[.lst [.ref j,.int 0,.int 26]]) h1.length j cs 0 26:=⟨ZbL,by rw[Oe lj];exact k1,by lia⟩
 obtain⟨v,e3,_⟩:=ZkV H N s2 (by decide);rw[ZjL]at e3;obtain⟨ns,n5,nok,nnd,e4⟩:=Zqx H (N+1) v (h1++[.lst [.ref j,.int 1,.int 26]]);have hle:=u1.1;refine⟨cs,ns,h1++[.lst [.ref j,.int 1,.int 26]]++[.lst (ns.map .str)],h1.length,j,(h1++[DO.lst [.ref j,.int 1,.int 26]]).length,λs=>?_,⟨⟨by simp,by simp[Oe lj,k1],by lia⟩,by simp,n5,nok,nnd,by unfold ZnM;simp,by simp,by simp,by simp,by decide⟩,hle,?_⟩
 . exact(Za x1).trans ((Za (Zs (ZhQ (Zc rfl (Zc rfl (Zc rfl rfl))) (by simp)))).trans ((Za (Zs (Zu e4 (Zc (Zu e3 rfl) rfl)))).trans rfl))
 . rw[Oz];exact⟨by simp;lia,λm a n=>by rw[Oe (by lia)];exact u1.2 m a n⟩
inductive Sixth(h:Hd)(i:Nat)(S:Option D->Ev)(r:R (Fl×Ev)):Prop
 |mk (t:T) (h':Hd) (e:r=.ok (.nx,S (Ws t.d)) h') (c:Cl [] t) (s:t.size<=100) (d:dep t<=20) (u:Up i h h')
def Ztp(H:Mkr P)(hN:40<=N)(c:Ctx cs ns h i j m k sc a b)(ct:Cl [] t)(hd:dep t<=26)(ha:a<2 ^ 50)(ro:D)(st:Int)(o2 o4 o6:Option D):Sixth h i (λo=>vp ro st o2 (Ws (.ref i)) o4 o o6) (xs1 (P.tbl N) ZbM (vp ro st o2 (Ws (.ref i)) o4 (Ws t.d) o6) h):=by
 obtain⟨g1,ew⟩:=ZgQ H N t h (by lia);obtain⟨g2,ed⟩:=ZrO H N t (h++g1) (by lia);have tw:tst (P.tbl N) (.ex (.cmp .Gt (.call (O "_law_width") (.cons (.var 5) .nil)) (.ci 100))) (vp ro st o2 (Ws (.ref i)) o4 (Ws t.d) o6) h=.ok (Wx ((100:Int)<t.size)) (h++g1):=Zrz (Zu ew rfl) rfl;have td:tst (P.tbl N) (.ex (.cmp .Gt (.call (O "_law_deep") (.cons (.var 5) .nil)) (.ci 20))) (vp ro st o2 (Ws (.ref i)) o4 (Ws t.d) o6) (h++g1)=.ok (Wx ((20:Int)<dep t)) (h++g1++g2):=Zrz (Zu ed rfl) rfl;have plain:∀{q:Sxs} (g:Hd),∃t' h',xs2 (P.tbl N) (.cons (.set (.nm 5) (.call (O "_law_plain") (.cons (.Ci_ "n") (.cons (.call (O "_law_next") (.cons (.var 3) .nil)) .nil)))) .nil) (vp ro st o2 (Ws (.ref i)) o4 (Ws t.d) o6) (h++g)=.ok (.nx,vp ro st o2 (Ws (.ref i)) o4 (Ws (T.d t')) o6) h'/\Cl [] t'/\dep t'<=2/\t'.size<=4/\Up i h h':=λg=>by
  obtain⟨N,rfl⟩:∃N3,N=N3+2:=⟨N - 2,by lia⟩
  obtain⟨v,e8,_⟩:=ZkV H N (c.app (g:=g)).st ⟨c.ab,ha⟩;obtain⟨tp,gp,e9,q1,q2,q3⟩:=ZiI H (N+1) (O "n") v ((h++g).set i (.lst [.ref j,.int (a+1),.int b])) [];exact⟨tp,_,(Za (Zs (Zu e9 (Zc rfl (Zc (Zu e8 rfl) rfl))))).trans rfl,q1,q2,q3,(Up.app.trans Up.set).trans Up.app⟩
 by_cases hw:(100:Int)<t.size
 . obtain⟨t',h',e,q1,q2,q3,u⟩:=plain (q:=.nil) g1;exact⟨t',h',(Zj (Zo0 (Zh tw (decide_eq_true hw)))).trans e,q1,by lia,by lia,u⟩
 . have tw':=Zh tw (decide_eq_false hw);by_cases hq:(20:Int)<dep t
   . obtain⟨t',h',e,q1,q2,q3,u⟩:=plain (q:=.nil) (g1++g2);rw[<- Oz]at e;exact⟨t',h',(Zj (ZiM tw' (Zh td (decide_eq_true hq)))).trans e,q1,by lia,by lia,u⟩
   . exact⟨t,_,(Zf (ZiM tw' (Zh td (decide_eq_false hq)))).trans rfl,ct,by lia,by lia,Up.app.trans Up.app⟩
def Zm1(H:Mkr P)(hN:40<=N)(zs:List Int)(st:Int)(h:Hd)(hz:zs.length<=100):∃t h',run P (N+1) (O "_law_program") [.ro (zs.map .int),.int st] h=.ok (T.d t) h'/\Cl [] t/\t.size<=100/\dep t<=20/\h.length<=h'.length/\∀q,q<h.length->h'[q]? = h[q]? := by
 rw[ZgI H.program rfl];have A7:A 7=65536:=by decide
 cases Ztq H hN zs st h hz with
 |mk cs ns h3 i j m e3 c4 li u3=>
 cases Zp8 H 7 N (by lia) c4 (O "n") 7 (by decide) (by decide) (by rw[A7];decide)with
 |mk t4 h4 a4 b4 e5 u4 s4 l1 l2 ct4 d4=>
 rw[A7]at l2;cases turn H hN (c4.up u4 s4 (by lia)) ct4 (by lia) (by lia) (.ro (zs.map .int)) st (Ws (.ref j)) (Ws (.int 0))with
 |mk t5 h5 a5 b5 e6 ct5 d5 u5 c6 l4=>
 cases turn H hN c6 ct5 (by lia) (by lia) (.ro (zs.map .int)) st (Ws (.ref j)) (Ws (.int 1))with
 |mk t6 h6 a6 b6 e7 ct6 d6 u6 c7 l6=>
 cases Ztp H hN c7 ct6 (by lia) (by lia) (.ro (zs.map .int)) st (Ws (.ref j)) (Ws (.ref m)) (Ws (.int 1))with
 |mk t hh x6 ct sz dt u=>
 have u8:=(u3.trans ((Up.app (i:=i) (g:=[.lst []])).trans ((u4.trans u5).trans u6))).trans u;refine⟨t,hh,?_,ct,sz,dt,u8.1,λq hq=>u8.2 q hq (by lia)⟩;have x5:xs1 (P.tbl N) ZbN (vp (.ro (zs.map .int)) st (Ws (.ref j)) (Ws (.ref i)) (Ws (.ref m)) (Ws t4.d) Wu) h4=.ok (.nx,vp (.ro (zs.map .int)) st (Ws (.ref j)) (Ws (.ref i)) (Ws (.ref m)) (Ws t6.d) (Ws (.int 1))) h6:=(ZfZ (w:=⟨Wu,[.int 0,.int 1]⟩) rfl).trans ((Zf0 rfl e6).trans ((Zf0 rfl e7).trans rfl));exact(congrArg Ze ((e3 (.cons Zdt (.cons ZbN (.cons ZbM (.cons Zds .nil))))).trans ((Za (Zs (Zu e5 (Zc rfl (Zc (ZhQ rfl (by simp)) rfl))))).trans ((Za x5).trans ((Za x6).trans rfl))))).trans rfl
end
end Gn
namespace Rw
open PySem L2 IV Gn
section
def ZG:Sxs:=(.c (.iff (.ors (.c (.ex (.cmp .NotEq (.ix (.v 1) (.ci 0)) (.Ci_ "num"))) (.one (.ex (.cmp .NotEq (.ix (.v 2) (.ci 0)) (.Ci_ "num")))))) (.c (.ret (.cst .non)) .n) .n) (.c (.iff (.ex (.cmp .Eq (.v 0) (.Ci_ "<"))) (.c (.ret (.tupl (.c (.Ci_ "num") (.c (.ite (.ex (.cmp .Lt (.ix (.v 1) (.ci 1)) (.ix (.v 2) (.ci 1)))) (.ci 1) (.ci 0)) .n)))) .n) .n) (.c (.iff (.ex (.cmp .Eq (.v 0) (.Ci_ "+"))) (.c (.ret (.tupl (.c (.Ci_ "num") (.c (.bin .Mod (.bin .Add (.ix (.v 1) (.ci 1)) (.ix (.v 2) (.ci 1))) (.glo (O "BEYOND"))) .n)))) .n) .n) (.c (.iff (.ex (.cmp .Eq (.v 0) (.Ci_ "-"))) (.c (.ret (.tupl (.c (.Ci_ "num") (.c (.bin .Mod (.bin .Sub (.ix (.v 1) (.ci 1)) (.ix (.v 2) (.ci 1))) (.glo (O "BEYOND"))) .n)))) .n) .n) (.c (.ret (.tupl (.c (.Ci_ "num") (.c (.bin .Mod (.bin .Mult (.ix (.v 1) (.ci 1)) (.ix (.v 2) (.ci 1))) (.glo (O "BEYOND"))) .n)))) .n)))))
def Zfi:Fd:=⟨[(O "word"),(O "first"),(O "second")],[(O "word"),(O "first"),(O "second")],ZG⟩
mutual
inductive Th where
 |num (n:Int)|clo (E:T) (ar:Ar)
inductive Ar where
 |nil|cons (x:Str) (v:Th) (r:Ar)
end
inductive Wt where
 |arg (A:T) (ar:Ar)|fn (V:Th)|iff (t e:T) (ar:Ar)|right (w:Wd) (F:T) (ar:Ar)|left (w:Wd) (V:Th)
inductive Sta where
 |go (E:T) (ar:Ar) (rest:List Wt)|back (V:Th) (rest:List Wt)
inductive Ans where
 |quiet (s:Sta)|loud (s:Sta)|value|stuck
noncomputable def Ar.get(x:Str):Ar->Option Th
 |.nil=>Wu
 |.cons y v r=>if y=x then Ws v else r.get x
noncomputable def Ar.len:Ar->Nat
 |.nil=>0
 |.cons _ _ r=>r.len+1
variable {P:Pg}{h:Hd}
noncomputable def wk(w:Wd)(a b:Int):Int:=match w with
 |.lt=>if a<b then 1 else 0
 |.add=>(a+b) % 1000000
 |.sub=>(a - b) % 1000000
 |.mul=>a * b % 1000000
def worked_nn(hw:P.tb.lookup (O "worked")=Ws Zfi)(hb:P.G (O "BEYOND")=Ws (.int 1000000))(n:Nat)(w:Wd)(hx:0<=x/\x<1000000)(hy:0<=y/\y<1000000):run P (n+1) (O "worked") [.str w.s,(T.num x).d,(T.num y).d] h=.ok (T.num (wk w x y)).d h:=by
 rw[Zg hw (by rfl)];have gb:∀S,ev (P.tbl n) (.glo (O "BEYOND")) S h=.ok (.int 1000000) h:=λS=>by show R.ofO (P.G (O "BEYOND")) h=_;rw[hb];rfl
 have m2:opB .Mult (.int x) (.int y) h=.ok (.int (x * y)) h:=Zfc ⟨Zaa (by lia) (by lia),Zaa (by lia) (by lia)⟩;have fin:∀(S:Ev) (e:Ex) (z:Int),ev (P.tbl n) e S h=.ok (.int z) h->xs1 (P.tbl n) (.ret (.tupl (.cons (.Ci_ "num") (.cons (.bin .Mod e (.glo (O "BEYOND"))) .nil)))) S h=.ok (.rt (T.num (z % 1000000)).d,S) h:=λS e z q=>Zr (Zaw (Zc rfl (Zc ((Zi q (gb S)).trans (ZW (by decide))) rfl)) (by simp))
 show Ze (xs2 (P.tbl n) ZG [Ws (.str w.s),Ws (T.num x).d,Ws (T.num y).d] h)=_;rw[nx1 (U:=P.tbl n) (ss:=ZG) (ρ1:=[Ws (.str w.s),Ws (T.num x).d,Ws (T.num y).d]) (h2:=h) rfl rfl];cases w with
 |lt=>by_cases e:x<y<;>simp[ZG,tlS,T.d,Wd.s,wk,e,YC]
 |add=>rw[nx1 (U:=P.tbl n) (ss:=tlS ZG) (ρ1:=[Ws (.str Wd.add.s),Ws (T.num x).d,Ws (T.num y).d]) (h2:=h) rfl rfl];exact rt1 (U:=P.tbl n) (ss:=tlS (tlS ZG)) ((Zj rfl).trans (Zd (fin _ _ (x+y) rfl))) rfl
 |sub=>rw[nx1 (U:=P.tbl n) (ss:=tlS ZG) (ρ1:=[Ws (.str Wd.sub.s),Ws (T.num x).d,Ws (T.num y).d]) (h2:=h) rfl rfl,nx1 (U:=P.tbl n) (ss:=tlS (tlS ZG)) (ρ1:=[Ws (.str Wd.sub.s),Ws (T.num x).d,Ws (T.num y).d]) (h2:=h) rfl rfl];exact rt1 (U:=P.tbl n) (ss:=tlS (tlS (tlS ZG))) ((Zj rfl).trans (Zd (fin _ _ (x - y) rfl))) rfl
 |mul=>rw[nx1 (U:=P.tbl n) (ss:=tlS ZG) (ρ1:=[Ws (.str Wd.mul.s),Ws (T.num x).d,Ws (T.num y).d]) (h2:=h) rfl rfl,nx1 (U:=P.tbl n) (ss:=tlS (tlS ZG)) (ρ1:=[Ws (.str Wd.mul.s),Ws (T.num x).d,Ws (T.num y).d]) (h2:=h) rfl rfl,nx1 (U:=P.tbl n) (ss:=tlS (tlS (tlS ZG))) (ρ1:=[Ws (.str Wd.mul.s),Ws (T.num x).d,Ws (T.num y).d]) (h2:=h) rfl rfl];exact rt1 (U:=P.tbl n) (ss:=tlS (tlS (tlS (tlS ZG)))) (fin _ _ (x * y) m2) rfl
end
section
variable {P:Pg}{h:Hd}
noncomputable def isFn:T->Bool
 |.fn _ _|.rcc _ _ _=>Wv
 |_=>Ww
noncomputable def Ar.keys:Ar->List Str
 |.nil=>[]
 |.cons x _ r=>x::r.keys
theorem Ar.get_some:∀{ar:Ar},x∈ar.keys->∃v,ar.get x=Ws v
 |.nil,h=>by simp[Ar.keys]at h
 |.cons y v r,h=>by
  by_cases e:y=x
  . exact⟨v,by simp[Ar.get,e]⟩
  . have:x∈r.keys:=by
     simp[Ar.keys]at h;rcases h with z|z
     . exact absurd z.symm e
     . exact z
    obtain⟨u,q⟩:=Ar.get_some this;exact⟨u,by simp[Ar.get,e,q]⟩
mutual
def ZgF:Th->Prop
 |.num n=>0<=n/\n<1000000
 |.clo E ar=>isFn E=Wv/\Cl ar.keys E/\ArOk ar
def ArOk:Ar->Prop
 |.nil=>True
 |.cons _ v r=>ZgF v/\ArOk r
end
noncomputable def ZlN(E:T)(ar:Ar):Option Th:=match E with
 |.num n=>Ws (.num n)
 |.name x=>ar.get x
 |.fn x e=>Ws (.clo (.fn x e) ar)
 |.rcc f x e=>Ws (.clo (.rcc f x e) ar)
 |_=>Wu
noncomputable def step:Sta->Ans
 |.go E ar rest=>match E with
  |.call F A=>.quiet (.go F ar (.arg A ar::rest))
  |.iff C t e=>.quiet (.go C ar (.iff t e ar::rest))
  |.op w x y=>.quiet (.go x ar (.right w y ar::rest))
  |E=>match ZlN E ar with
   |some v=>.quiet (.back v rest)
   |none=>.stuck
 |.back V rest=>match rest with
  |[]=>.value
  |.arg A ar::r=>.quiet (.go A ar (.fn V::r))
  |.right w F ar::r=>.quiet (.go F ar (.left w V::r))
  |.fn W::r=>match W with
   |.clo (.fn x e) ar=>.loud (.go e (.cons x V ar) r)
   |.clo (.rcc f x e) ar=>.loud (.go e (.cons x V (.cons f (.clo (.rcc f x e) ar) ar)) r)
   |_=>.stuck
  |.iff t e ar::r=>match V with
   |.num z=>.loud (.go (if z=0 then e else t) ar r)
   |_=>.stuck
  |.left w W::r=>match W,V with
   |.num a,.num b=>.loud (.back (.num (wk w a b)) r)
   |_,_=>.stuck
end
end Rw
section
set_option maxHeartbeats 2000000
namespace Rw
open PySem L2 IV Gn
variable {P:Pg}{h:Hd}
def ZhY:Wt->Prop
 |.arg A ar=>Cl ar.keys A/\ArOk ar
 |.fn V=>ZgF V
 |.iff t e ar=>Cl ar.keys t/\Cl ar.keys e/\ArOk ar
 |.right _ F ar=>Cl ar.keys F/\ArOk ar
 |.left _ V=>ZgF V
def ZhK:Sta->Prop
 |.go E ar rest=>Cl ar.keys E/\ArOk ar/\∀w∈rest,ZhY w
 |.back V rest=>ZgF V/\∀w∈rest,ZhY w
end Rw
end
namespace IV
open PySem L2
mutual
noncomputable def D.pure:D->Bool
 |.non|.bl _|.int _|.str _=>Wv
 |.tup xs=>D.pures xs
 |_=>Ww
noncomputable def D.pures:List D->Bool
 |[]=>Wv
 |x::xs=>D.pure x&&D.pures xs
end
mutual
noncomputable def D.dp:D->Nat
 |.tup xs=>D.dps xs+1
 |_=>0
noncomputable def D.dps:List D->Nat
 |[]=>0
 |x::xs=>max (D.dp x) (D.dps xs)
end
mutual
theorem Zl3:∀d:D,d.pure=Wv->∃p,D.py rd d=Ws p/\p.depth<=d.dp/\YQ p p=Wv
 |.non,_=>⟨.none,rfl,Oq _,rfl⟩
 |.bl b,_=>⟨.bool b,rfl,Oq _,by simp[YQ]⟩
 |.int b,_=>⟨.int b,rfl,Oq _,by simp[YQ]⟩
 |.str b,_=>⟨.str b,rfl,Oq _,by simp[YQ]⟩
 |.tup xs,h=>by
  obtain⟨ps,e1,e2,e3⟩:=pys_same (rd:=rd) xs (by simpa[D.pure]using h);refine⟨.tuple ps,by simp[D.py,e1],?_,?_⟩
  . simp only[PyData.depth,D.dp];lia
  . simpa[YQ]using e3
 |.ref _,h=>by cases h
 |.ty _,h=>by cases h
 |.ro _,h=>by cases h
 |.kd _,h=>by cases h
theorem pys_same:∀ds:List D,D.pures ds=Wv->∃ps,D.pys rd ds=Ws ps/\PyData.depthAll ps<=D.dps ds/\PyData.eqvAll ps ps=Wv
 |[],_=>⟨[],rfl,Oq _,by simp[PyData.eqvAll]⟩
 |x::xs,h=>by
  rw[D.pures,Oa]at h;obtain⟨p,a1,a2,a3⟩:=Zl3 (rd:=rd) x h.1;obtain⟨ps,b1,b2,b3⟩:=pys_same (rd:=rd) xs h.2;refine⟨p::ps,by simp[D.pys,a1,b1],?_,?_⟩
  . simp only[PyData.depthAll,D.dps];lia
  . simp[PyData.eqvAll,a3,b3]
end
def Zno(hp:d.pure=Wv)(hd:d.dp<=1100):ZcU n d d h=.ok (.bl (!n)) h:=by obtain⟨p,e1,e2,e3⟩:=Zl3 (rd:=ZiH h 4) d hp;unfold ZcU;rw[show ZjJ h d=Ws p from e1];simp only;rw[if_pos (by lia),e3];cases n<;>rfl
end IV
namespace Rw
open PySem L2 IV Gn
theorem ZiB:∀{ar:Ar},ArOk ar->ar.get x=Ws v->ZgF v
 |.nil,_,h=>by simp[Ar.get]at h
 |.cons y u r,a,h=>by
  by_cases e:y=x
  . simp[Ar.get,e]at h;subst h;exact a.1
  . simp[Ar.get,e]at h;exact ZiB a.2 h
def ZuL(w:Wd)(a b:Int):0<=wk w a b/\wk w a b<1000000:=by
 cases w<;>simp only[wk]
 . lia
 . lia
 . exact⟨Int.emod_nonneg _ (by decide),Int.emod_lt_of_pos _ (by decide)⟩
 . split<;>lia
def Zax{α:Type}{p:α->Prop}{x:α}{xs:List α}(a:p x)(b:∀y∈xs,p y):∀y∈x::xs,p y:=by
 intro y hy;rcases O3.mp hy with rfl|hy
 . exact a
 . exact b y hy
end Rw
namespace Tm
open PySem L2 IV
def Zaz:Sxs:=(.c (.iff (.ex (.cmp .NotIn (.ix (.v 0) (.ci 0)) (.glo (O "FORMS")))) (.c (.ret (.tupl .n)) .n) .n) (.c (.ret (.sl (.v 0) (Ws (.ci 1)) (Ws (.bin .Add (.ci 1) (.ix (.ix (.glo (O "FORMS")) (.ix (.v 0) (.ci 0))) (.ci 0)))))) .n))
def Zbx:Fd:=⟨[(O "E")],[(O "E")],Zaz⟩
def Zly:Sxs:=(.c (.iff (.ex (.cmp .NotIn (.ix (.v 0) (.ci 0)) (.glo (O "FORMS")))) (.c (.ret (.v 0)) .n) .n) (.c (.ret (.sl (.v 0) Wu (Ws (.bin .Add (.ci 1) (.ix (.ix (.glo (O "FORMS")) (.ix (.v 0) (.ci 0))) (.ci 0)))))) .n))
def Zho:Fd:=⟨[(O "E")],[(O "E")],Zly⟩
def ZhX:Sxs:=(.c (.iff (.ex (.cmp .NotIn (.ix (.v 0) (.ci 0)) (.glo (O "FORMS")))) (.c (.ret (.ci 0)) .n) .n) (.c (.ret (.ix (.ix (.glo (O "FORMS")) (.ix (.v 0) (.ci 0))) (.ci 1))) .n))
def ZeJ:Fd:=⟨[(O "front")],[(O "front")],ZhX⟩
def Zr1:Sxs:=(.c (.set (.nm 1) (.lstl .n)) (.c (.forr (.nm 2) (.rev (.v 0)) (.c (.set (.nm 3) (.comp [(O "k"),(O "done")] [Wu,Ws 1] (.rng (.call (O "count_parts") (.c (.v 2) .n))) (.nm 0) Wu (.meth .pop (.v 1) .n))) (.c (.drp (.meth .app (.v 1) (.c (.bin .Add (.v 2) (.blt .tup (.c (.v 3) .n))) .n))) .n))) (.c (.ret (.ix (.v 1) (.ci 0))) .n)))
def Zms:Fd:=⟨[(O "fronts")],[(O "fronts"),(O "done"),(O "front"),(O "parts")],Zr1⟩
def Zlz:Sxs:=(.c (.forr (.two 2 3) (.pl (.v 1)) (.c (.iff (.ex (.cmp .Eq (.v 2) (.v 0))) (.c (.ret (.v 3)) .n) .n) .n)) (.c (.ret (.cst .non)) .n))
def Zhp:Fd:=⟨[(O "name"),(O "around")],[(O "name"),(O "around"),(O "known"),(O "thing")],Zlz⟩
def Zp1:Sxs:=(.c (.iff (.ex (.cmp .Eq (.ix (.v 0) (.ci 0)) (.Ci_ "clo"))) (.c (.ret (.sl (.v 0) (Ws (.ci 1)) Wu)) .n) .n) (.c (.ret (.tupl (.c (.v 0) (.c (.tupl .n) .n)))) .n))
def Zke:Fd:=⟨[(O "thing")],[(O "thing")],Zp1⟩
def Zlw:Sxs:=(.c (.iff (.ex (.cmp .NotEq (.ix (.v 0) (.ci 0)) (.Ci_ "name"))) (.c (.ret (.cst .non)) .n) .n) (.c (.ret (.call (O "bound_to") (.c (.ix (.v 0) (.ci 1)) (.c (.v 1) .n)))) .n))
def Zhl:Fd:=⟨[(O "place"),(O "around")],[(O "place"),(O "around")],Zlw⟩
def Zp0:Sxs:=(.c (.ret (.bin .Add (.blt .tup (.c (.comp [(O "name")] [Wu] (.pl (.call (O "bound_names") (.c (.v 0) .n))) (.nm 0) Wu (.tupl (.c (.v 0) (.c (.cst .non) .n)))) .n)) (.v 1))) .n)
def Zkd:Fd:=⟨[(O "place"),(O "around")],[(O "place"),(O "around")],Zp0⟩
def Zd3:Sxs:=(.c (.seta [(O "Pen")] (.v 0) (O "most") (.v 1)) (.c (.seta [(O "Pen")] (.v 0) (O "used") (.ci 0)) .n))
def ZaV:Fd:=⟨[(O "self"),(O "most")],[(O "self"),(O "most")],Zd3⟩
noncomputable def Zlv(x:Sx):Sxs:=(.cons (.iff (.ex (.cmp .Eq (.att [(O "Pen")] (.var 0) (O "used")) (.att [(O "Pen")] (.var 0) (O "most")))) (.cons x .nil) .nil) (.cons (.auga [(O "Pen")] (.var 0) (O "used") (.ci 1)) .nil))
noncomputable def Zln(x:Sx):Fd:=⟨[(O "self")],[(O "self")],Zlv x⟩
def Zjp:Sxs:=(.c (.set (.nm 3) (.lstl .n)) (.c (.set (.nm 4) (.lstl (.c (.tupl (.c (.v 1) (.c (.v 2) .n))) .n))) (.c (.whl (.ex (.v 4)) (.c (.set (.nm 5) (.meth .pop (.v 4) .n)) (.c (.set (.nm 6) (.call (O "meant_by") (.c (.ix (.v 5) (.ci 0)) (.c (.ix (.v 5) (.ci 1)) .n)))) (.c (.iff (.ex (.cmp .Is (.v 6) (.cst .non))) (.c (.drp (.mcl (O "Pen") (O "take_place") (.v 0) .n)) (.c (.drp (.meth .app (.v 3) (.c (.call (O "front_of") (.c (.ix (.v 5) (.ci 0)) .n)) .n))) (.c (.set (.nm 7) (.call (O "within") (.c (.ix (.v 5) (.ci 0)) (.c (.ix (.v 5) (.ci 1)) .n)))) (.c (.drp (.meth .ext (.v 4) (.c (.comp [(O "part"),(O "inner")] [Wu,Ws 7] (.rev (.call (O "parts_of") (.c (.ix (.v 5) (.ci 0)) .n))) (.nm 0) Wu (.tupl (.c (.v 0) (.c (.v 1) .n)))) .n))) .n)))) (.c (.drp (.meth .app (.v 4) (.c (.call (O "opened") (.c (.v 6) .n)) .n))) .n)) .n)))) (.c (.ret (.call (O "built") (.c (.v 3) .n))) .n))))
def Zfq:Fd:=⟨[(O "self"),(O "E"),(O "around")],[(O "self"),(O "E"),(O "around"),(O "fronts"),(O "waiting"),(O "pair"),(O "thing"),(O "inner")],Zjp⟩
structure Trb(P:Pg):Prop extends Gn.Tre P where
 bound_names:P.tb.lookup (O "bound_names")=Ws Zbx
 front_of:P.tb.lookup (O "front_of")=Ws Zho
 count_parts:P.tb.lookup (O "count_parts")=Ws ZeJ
 built:P.tb.lookup (O "built")=Ws Zms
 bound_to:P.tb.lookup (O "bound_to")=Ws Zhp
 opened:P.tb.lookup (O "opened")=Ws Zke
 meant_by:P.tb.lookup (O "meant_by")=Ws Zhl
 within:P.tb.lookup (O "within")=Ws Zkd
 n_Pen___init__:P.tb.lookup (mnm (O "Pen") (O "__init__"))=Wu
 Pen___init__:P.ms.lookup (mnm (O "Pen") (O "__init__"))=Ws ZaV
 n_Pen_take_place:P.tb.lookup (mnm (O "Pen") (O "take_place"))=Wu
 tk:∃x,P.ms.lookup (mnm (O "Pen") (O "take_place"))=Ws (Zln x)
 n_Pen_filled:P.tb.lookup (mnm (O "Pen") (O "filled"))=Wu
 Pen_filled:P.ms.lookup (mnm (O "Pen") (O "filled"))=Ws Zfq
section
variable {P:Pg}{h:Hd}
section
variable {w:Wd}
@[simp] theorem ZnW:(w.s=O "num")↔False:=by cases w<;>simp[Wd.s]
@[simp] theorem ZlJ:(w.s=O "name")↔False:=by cases w<;>simp[Wd.s]
@[simp] theorem ZlK:(w.s=O "call")↔False:=by cases w<;>simp[Wd.s]
@[simp] theorem ZnX:(w.s=O "if")↔False:=by cases w<;>simp[Wd.s]
@[simp] theorem ZxP:(w.s=O "fn")↔False:=by cases w<;>simp[Wd.s]
@[simp] theorem ZwR:(w.s=O "rec")↔False:=by cases w<;>simp[Wd.s]
@[simp] theorem Zjt:Zbh Gn.ZdO (.inr w.s)=Ws (.tup [.int 0,.int 2]):=by cases w<;>rfl
end
noncomputable abbrev Ar:=List (Str×Option T)
noncomputable def get:Ar->Str->Option T
 |[],_=>Wu
 |(y,v)::r,x=>if y=x then v else get r x
end
section
variable {P:Pg}
noncomputable def sub:Ar->T->T
 |_,.num n=>.num n
 |ar,.name x=>(get ar x).getD (.name x)
 |ar,.fn x e=>.fn x (sub ((x,Wu)::ar) e)
 |ar,.rcc f x e=>.rcc f x (sub ((f,Wu)::(x,Wu)::ar) e)
 |ar,.call f a=>.call (sub ar f) (sub ar a)
 |ar,.iff c t e=>.iff (sub ar c) (sub ar t) (sub ar e)
 |ar,.op w a b=>.op w (sub ar a) (sub ar b)
def NN(ar:Ar):Prop:=∀x,get ar x=Wu
def NN.cons(h:NN ar)(y:Str):NN ((y,Wu)::ar):=λx=>by
 unfold get;split
 . rfl
 . exact h x
theorem Zcs:∀(t:T) {ar:Ar},NN ar->sub ar t=t
 |.num _,_,_=>rfl
 |.name x,_,h=>by rw[sub,h x];rfl
 |.fn x e,_,h=>by rw[sub,Zcs e (h.cons x)]
 |.rcc f x e,_,h=>by rw[sub,Zcs e ((h.cons x).cons f)]
 |.call f a,_,h=>by rw[sub,Zcs f h,Zcs a h]
 |.iff c t e,_,h=>by rw[sub,Zcs c h,Zcs t h,Zcs e h]
 |.op w a b,_,h=>by rw[sub,Zcs a h,Zcs b h]
def Zb(t:T):t.size=1+(t.parts.map T.size).sum:=by
 unfold T.size;rw[T.places_parts];simp only[Os,List.length_flatMap]
 lia
def Zk(t:T):1<=t.size:=by rw[Zb];lia
end
end Tm
namespace Rw
open PySem L2 IV
mutual
noncomputable def rd:Th->T
 |.num n=>.num n
 |.clo E ar=>Tm.sub (ra ar) E
noncomputable def ra:Ar->List (Str×Option T)
 |.nil=>[]
 |.cons x v r=>(x,Ws (rd v))::ra r
end
end Rw
namespace Tm
open PySem L2 IV
section
variable {P:Pg}
noncomputable def Zbc(mo:D)(u:Int):DO:=.ins (O "Pen") [(O "most",mo),(O "used",.int u)]
def Lim(mo:D)(z:Int):Prop:=mo=.non\/∃m:Int,mo=.int m/\z<=m
def Zvl(H:Trb P)(n:Nat)(mo:D)(h:Hd):Zgv (run P (n+1)) (O "Pen") [mo] h=.ok (.ref h.length) (h++[Zbc mo 0]):=by unfold Zgv;rw[Zy H.n_Pen___init__ H.Pen___init__ (by rfl)];simp[ZaV,Zd3,ZF,ZfN,Zg0,YC,Zbc]
def Zrv:IV.ZcU Ww (D.int u) D.non h=.ok (D.bl Ww) h:=by
 have e:YQ (.int u) .none=Ww:=by simp[YQ]
 show(if min (PyData.int u).depth PyData.none.depth<=1100 then R.ok (D.bl (if Ww then !YQ (.int u) .none else YQ (.int u) .none)) h else .bad)=_;rw[if_pos (by simp[PyData.depth]),e];rfl
def Zov(H:Trb P)(n:Nat)(lm:Lim mo (u+1))(hp:h[pk]? = Ws (Zbc mo u)):run P (n+1) (mnm (O "Pen") (O "take_place")) [.ref pk] h=.ok .non (h.set pk (Zbc mo (u+1))):=by
 obtain⟨x,ht⟩:=H.tk;rw[Zy H.n_Pen_take_place ht (by rfl)];have ne:IV.ZcU Ww (D.int u) mo h=.ok (D.bl Ww) h:=by
  rcases lm with rfl|⟨m,rfl,q⟩
  . exact Zrv
  . have:¬ u=m:=by lia
    simp[this]
 unfold Zbc at hp ⊢;simp[Zln,Zlv,ZF,ZfY,Zaf,hp,Wi,ne,ZfN,Zg0]
def Wid(P:Pg):Prop:=∃m,P.ms.lookup (mnm (O "Pen") (O "take_place"))=Ws (Zln (.rai (O "Wide") (.cst m)))
def ZjC(H:Trb P)(w:Wid P)(n:Nat)(hp:h[pk]? = Ws (Zbc (.int u) u)):run P (n+1) (mnm (O "Pen") (O "take_place")) [.ref pk] h=.exc (O "Wide") h:=by
 obtain⟨m,ht⟩:=w;rw[Zy H.n_Pen_take_place ht (by rfl)];have t1:tst (P.tbl n) (.ex (.cmp .Eq (.att [(O "Pen")] (.var 0) (O "used")) (.att [(O "Pen")] (.var 0) (O "most")))) [Ws (.ref pk)] h=.ok Wv h:=by unfold Zbc at hp;simp[ZfY,Zaf,hp,Wi]
 exact congrArg Ze (ZcP (r:=tlS (Zlv (.rai (O "Wide") (.cst m)))) ((Zj t1).trans (ZcP (Zvj rfl))))
def ZqZ{t s:T}(hs:s∈t.parts):s.size+1<=t.size:=by
 rw[Zb t];have:∀l:List T,s∈l->s.size<=(l.map T.size).sum:=by
  intro l;induction l with
  |nil=>intro z;cases z
  |cons a r ih=>
   intro z;rw[Op,OI];rcases O3.mp z with rfl|z
   . lia
   . have:=ih z;lia
 have:=this _ hs
 lia
theorem grown{h0 h:Hd}(hl:h0.length<=h.length)(old:∀ i,i<h0.length->h[i]? = h0[i]?):∃ g,h=h0++g:=⟨h.drop h0.length,by
 apply List.ext_getElem?;intro i;rcases Nat.lt_or_ge i h0.length with q|q
 . rw [old i q,Oe q]
 . rw [Om q,List.getElem?_drop];congr 1
   lia⟩
def Aft(h0 h:Hd)(pk:Nat)(mo:D)(u:Int):Prop:=h[pk]? = Ws (Zbc mo u)/\h0.length<=h.length/\∀i,i<h0.length->i≠pk->h[i]? = h0[i]?
noncomputable abbrev Fil:=List (Str×T)
noncomputable def Fil.ar(f:Fil):Ar:=f.map λp=>(p.1,Ws p.2)
end
section
variable {P:Pg}{h:Hd}
noncomputable def isV:T->Bool
 |.num _|.fn _ _|.rcc _ _ _=>Wv
 |_=>Ww
noncomputable def pth:T->List (T×Nat)
 |.call f a=>if isV f then(if isV a then []else(.call f a,2)::pth a)else(.call f a,1)::pth f
 |.op w f a=>if isV f then(if isV a then []else(.op w f a,2)::pth a)else(.op w f a,1)::pth f
 |.iff c t e=>if isV c then []else(.iff c t e,1)::pth c
 |_=>[]
noncomputable def bot:T->T
 |.call f a=>if isV f then(if isV a then .call f a else bot a)else bot f
 |.op w f a=>if isV f then(if isV a then .op w f a else bot a)else bot f
 |.iff c t e=>if isV c then .iff c t e else bot c
 |t=>t
noncomputable def Zh9:T->Nat->T->T
 |.call _ a,1,u=>.call u a
 |.call f _,2,u=>.call f u
 |.op w _ a,1,u=>.op w u a
 |.op w f _,2,u=>.op w f u
 |.iff _ t e,1,u=>.iff u t e
 |s,_,_=>s
noncomputable def ZiL:List (T×Nat)->T->T
 |[],u=>u
 |(s,k)::r,u=>Zh9 s k (ZiL r u)
noncomputable def ZpB(f:Str)(F:T)(x:Str)(A:T):Fil:=if f=x then [(x,A)]else [(f,F),(x,A)]
noncomputable def bec:T->Option T
 |.call F A=>match F with
  |.fn x e=>Ws (sub (Fil.ar [(x,A)]) e)
  |.rcc f x e=>Ws (sub (Fil.ar (ZpB f (.rcc f x e) x A)) e)
  |_=>Wu
 |.iff c t e=>match c with
  |.num z=>Ws (if z=0 then e else t)
  |_=>Wu
 |.op w a b=>match a,b with
  |.num a,.num b=>Ws (.num (_root_.Rw.wk w a b))
  |_,_=>Wu
 |_=>Wu
noncomputable def next(t:T):Option T:=(bec (bot t)).map (ZiL (pth t))
def Kp(ar:Ar)(sc sc':List Str):Prop:=∀x∈sc,(∃V,get ar x=Ws V/\Gn.Cl [] V)\/(get ar x=Wu/\x∈sc')
def Kp.bind(k:Kp ar sc sc')(y:Str):Kp ((y,Wu)::ar) (y::sc) (y::sc'):=λx hx=>by
 unfold get;by_cases e:y=x
 . rw[if_pos e];exact .inr ⟨rfl,by rw[e];exact Oi⟩
 . rw[if_neg e];rcases O3.mp hx with z|z
   . exact absurd z.symm e
   . rcases k x z with q|q
     . exact .inl q
     . exact .inr ⟨q.1,Oh _ q.2⟩
def Kp.two(k:Kp ar sc sc')(f x:Str):Kp ((f,Wu)::(x,Wu)::ar) (x::f::sc) (x::f::sc'):=λz hz=>by
 have q:=(k.bind x).bind f z (by simp at hz ⊢;rcases hz with h|h|h<;>simp[h]);rcases q with q|q
 . exact .inl q
 . exact .inr ⟨q.1,by have:=q.2;simp at this ⊢;rcases this with h|h|h<;>simp[h]⟩
theorem ZcC:∀(t:T) {ar:Ar}{sc sc':List Str},Kp ar sc sc'->Gn.Cl sc t->Gn.Cl sc' (sub ar t)
 |.num _,_,_,_,_,c=>c
 |.name x,ar,sc,sc',k,c=>by
  rcases k x c with ⟨V,e,cv⟩|⟨e,m⟩
  . rw[sub,e];exact Gn.Cl.mono (λy hy=>by cases hy) cv
  . rw[sub,e];exact m
 |.fn x e,_,_,_,k,c=>ZcC e (k.bind x) c
 |.rcc f x e,_,_,_,k,c=>⟨ZcC e (k.two f x) c.1,c.2⟩
 |.call f a,_,_,_,k,c=>⟨ZcC f k c.1,ZcC a k c.2⟩
 |.iff f a b,_,_,_,k,c=>⟨ZcC f k c.1,ZcC a k c.2.1,ZcC b k c.2.2⟩
 |.op _ f a,_,_,_,k,c=>⟨ZcC f k c.1,ZcC a k c.2⟩
def zc(f a:T):(T.call f a).size=1+(f.size+a.size):=by rw[Zb];simp[T.parts]
def zo(w:Wd)(f a:T):(T.op w f a).size=1+(f.size+a.size):=by rw[Zb];simp[T.parts]
def zi(f a b:T):(T.iff f a b).size=1+(f.size+(a.size+b.size)):=by rw[Zb];simp[T.parts]
def zf(x:Str)(e:T):(T.fn x e).size=1+e.size:=by rw[Zb];simp[T.parts]
def zr(f x:Str)(e:T):(T.rcc f x e).size=1+e.size:=by rw[Zb];simp[T.parts]
def l_2{a b c d:Nat}(p:a<c)(q:b<d):max a b<c+d:=Nat.max_lt.mpr ⟨Ot p (Nat.le_add_right _ _),Ot q (Nat.le_add_left _ _)⟩
def l_1{a c:Nat}(p:a<c):a+1<1+c:=by lia
theorem ZcA:∀t:T,Gn.dep t<t.size
 |.num _=>by simp[Gn.dep,T.size,T.places]
 |.name _=>by simp[Gn.dep,T.size,T.places]
 |.fn x e=>by rw[zf];exact l_1 (ZcA e)
 |.rcc f x e=>by rw[zr];exact l_1 (ZcA e)
 |.call f a=>by rw[zc];exact l_1 (l_2 (ZcA f) (ZcA a))
 |.op w f a=>by rw[zo];exact l_1 (l_2 (ZcA f) (ZcA a))
 |.iff c t e=>by rw[zi];exact l_1 (l_2 (ZcA c) (l_2 (ZcA t) (ZcA e)))
end
end Tm
namespace Rw
open PySem L2 IV Gn
theorem Zpt(x:Str):∀ar:Ar,Tm.get (ra ar) x=(ar.get x).map rd
 |.nil=>rfl
 |.cons y v r=>by
  rw[ra,Tm.get,Ar.get];split
  . rfl
  . exact Zpt x r
mutual
theorem Zsl:∀v:Th,ZgF v->Cl [] (rd v)
 |.num n,h=>by rw[rd];exact h
 |.clo E ar,h=>by rw[rd];exact Tm.ZcC E (kp_ra ar h.2.2) h.2.1
theorem kp_ra:∀ar:Ar,ArOk ar->Tm.Kp (ra ar) ar.keys []
 |.nil,_=>λx hx=>by cases hx
 |.cons y v r,h=>λx hx=>by
  rw[ra,Tm.get];split
  . exact .inl ⟨rd v,rfl,Zsl v h.1⟩
  . rename_i ne;rcases O3.mp hx with e|hx
    . exact absurd e.symm ne
    . exact kp_ra r h.2 x hx
end
theorem ZkH:∀{ar:Ar}{x:Str}{V:T},ArOk ar->Tm.get (ra ar) x=Ws V->Cl [] V
 |.nil,x,V,_,e=>by cases e
 |.cons y v r,x,V,h,e=>by
  rw[ra,Tm.get]at e;split at e
  . cases e;exact Zsl v h.1
  . exact ZkH h.2 e
def ZmZ(h:ZgF v):Tm.isV (rd v)=Wv:=by
 cases v with
 |num n=>rfl
 |clo E ar=>
  cases E with
  |fn x e=>rfl
  |rcc f x e=>rfl
  |_=>cases h.1
theorem Zct:∀(t:T) {sc:List Str}{ar:List (Str×Option T)},Cl sc t->(∀y∈sc,Tm.get ar y=Wu)->Tm.sub ar t=t
 |.num _,_,_,_,_=>rfl
 |.name x,_,_,c,n=>by rw[Tm.sub,n x c];rfl
 |.fn x e,sc,ar,c,n=>by
  rw[Tm.sub,Zct e (sc:=x::sc) c λy hy=>?_];rw[Tm.get];split
  . rfl
  . rename_i ne;rcases O3.mp hy with q|q
    . exact absurd q.symm ne
    . exact n y q
 |.rcc f x e,sc,ar,c,n=>by
  rw[Tm.sub,Zct e (sc:=x::f::sc) c.1 λy hy=>?_];rw[Tm.get];split
  . rfl
  . rename_i nf;rw[Tm.get];split
    . rfl
    . rename_i nx;rcases O3.mp hy with q|q
      . exact absurd q.symm nx
      . rcases O3.mp q with q|q
        . exact absurd q.symm nf
        . exact n y q
 |.call f a,_,_,c,n=>by rw[Tm.sub,Zct f c.1 n,Zct a c.2 n]
 |.iff p q r,_,_,c,n=>by rw[Tm.sub,Zct p c.1 n,Zct q c.2.1 n,Zct r c.2.2 n]
 |.op w f a,_,_,c,n=>by rw[Tm.sub,Zct f c.1 n,Zct a c.2 n]
def Cmp(r t k:List (Str×Option T)):Prop:=∀x,(∃V,Tm.get r x=Ws V/\Tm.get k x=Ws V/\Cl [] V)\/(Tm.get r x=Wu/\Tm.get k x=Tm.get t x)
def Cmp.none(c:Cmp r t k)(y:Str):Cmp ((y,Wu)::r) ((y,Wu)::t) ((y,Wu)::k):=λx=>by
 simp only[Tm.get];split
 . exact .inr ⟨rfl,rfl⟩
 . exact c x
theorem ZaR:∀(e:T) {r t k:List (Str×Option T)},Cmp r t k->Tm.sub t (Tm.sub r e)=Tm.sub k e
 |.num _,_,_,_,_=>rfl
 |.name x,r,t,k,c=>by
  rcases c x with ⟨V,e1,e2,cl⟩|⟨e1,e2⟩
  . simp only[Tm.sub,e1,e2,Option.getD_some];exact Zct V cl (λy hy=>by cases hy)
  . simp only[Tm.sub,e1,e2,Option.getD_none]
 |.fn x e,_,_,_,c=>by rw[Tm.sub,Tm.sub,Tm.sub,ZaR e (c.none x)]
 |.rcc f x e,_,_,_,c=>by rw[Tm.sub,Tm.sub,Tm.sub,ZaR e ((c.none x).none f)]
 |.call f a,_,_,_,c=>by rw[Tm.sub,Tm.sub,Tm.sub,ZaR f c,ZaR a c]
 |.iff p q s,_,_,_,c=>by rw[Tm.sub,Tm.sub,Tm.sub,ZaR p c,ZaR q c,ZaR s c]
 |.op w f a,_,_,_,c=>by rw[Tm.sub,Tm.sub,Tm.sub,ZaR f c,ZaR a c]
def ZsX{x:Str}{A:T}(ok:ArOk ar):Tm.sub [(x,Ws A)] (Tm.sub ((x,Wu)::ra ar) e)=Tm.sub ((x,Ws A)::ra ar) e:=by
 refine ZaR e λy=>?_;simp only[Tm.get];split
 . exact .inr ⟨rfl,rfl⟩
 . cases q:Tm.get (ra ar) y with
   |none=>exact .inr ⟨rfl,rfl⟩
   |some V=>exact .inl ⟨V,rfl,rfl,ZkH ok q⟩
def Zqm{f x:Str}(ne:f≠x){F A:T}(ok:ArOk ar):Tm.sub [(f,Ws F),(x,Ws A)] (Tm.sub ((f,Wu)::(x,Wu)::ra ar) e)=Tm.sub ((x,Ws A)::(f,Ws F)::ra ar) e:=by
 refine ZaR e λy=>?_;simp only[Tm.get];by_cases q1:f=y
 . subst q1;rw[if_pos rfl,if_neg (YL ne),if_pos rfl,if_pos rfl];exact .inr ⟨rfl,rfl⟩
 . rw[if_neg q1,if_neg q1,if_neg q1];by_cases q2:x=y
   . rw[if_pos q2,if_pos q2,if_pos q2];exact .inr ⟨rfl,rfl⟩
   . rw[if_neg q2,if_neg q2,if_neg q2];cases q:Tm.get (ra ar) y with
     |none=>exact .inr ⟨rfl,rfl⟩
     |some V=>exact .inl ⟨V,rfl,rfl,ZkH ok q⟩
noncomputable def fw:Wt->T->T
 |.arg A ar,t=>.call t (Tm.sub (ra ar) A)
 |.fn V,t=>.call (rd V) t
 |.iff a b ar,t=>.iff t (Tm.sub (ra ar) a) (Tm.sub (ra ar) b)
 |.right w F ar,t=>.op w t (Tm.sub (ra ar) F)
 |.left w V,t=>.op w (rd V) t
noncomputable def rnd(ws:List Wt)(t:T):T:=ws.foldl (λt w=>fw w t) t
noncomputable def read:Sta->T
 |.go E ar ws=>rnd ws (Tm.sub (ra ar) E)
 |.back V ws=>rnd ws (rd V)
structure Wn(t t':T)(k:Nat)(f:T->T):Prop where
 v:Tm.isV t'=Ww
 l:(Tm.pth t').length=(Tm.pth t).length+k
 b:Tm.bot t'=Tm.bot t
 p:∀u,Tm.ZiL (Tm.pth t') u=f (Tm.ZiL (Tm.pth t) u)
def Zwc(ok:ZhY w)(nv:Tm.isV t=Ww):Wn t (fw w t) 1 (fw w):=by
 cases w with
 |arg A ar=>exact⟨rfl,by simp[fw,Tm.pth,nv],by simp[fw,Tm.bot,nv],λu=>by simp[fw,Tm.pth,nv,Tm.ZiL,Tm.Zh9]⟩
 |fn V=>have v:=ZmZ ok;exact⟨rfl,by simp[fw,Tm.pth,nv,v],by simp[fw,Tm.bot,nv,v],λu=>by simp[fw,Tm.pth,nv,v,Tm.ZiL,Tm.Zh9]⟩
 |iff a b ar=>exact⟨rfl,by simp[fw,Tm.pth,nv],by simp[fw,Tm.bot,nv],λu=>by simp[fw,Tm.pth,nv,Tm.ZiL,Tm.Zh9]⟩
 |right w F ar=>exact⟨rfl,by simp[fw,Tm.pth,nv],by simp[fw,Tm.bot,nv],λu=>by simp[fw,Tm.pth,nv,Tm.ZiL,Tm.Zh9]⟩
 |left w V=>have v:=ZmZ ok;exact⟨rfl,by simp[fw,Tm.pth,nv,v],by simp[fw,Tm.bot,nv,v],λu=>by simp[fw,Tm.pth,nv,v,Tm.ZiL,Tm.Zh9]⟩
theorem Zop:∀(ws:List Wt) {t:T},(∀w∈ws,ZhY w)->Tm.isV t=Ww->Wn t (rnd ws t) ws.length (rnd ws)
 |[],t,_,nv=>⟨nv,rfl,rfl,λ_=>rfl⟩
 |w::ws,t,ok,nv=>by have a:=Zwc (ok w Oi) nv;have b:=Zop ws (λx hx=>ok x (Oh _ hx)) a.v;exact⟨b.v,by rw[show rnd (w::ws) t=rnd ws (fw w t)from rfl,b.l,a.l,Os];lia,b.b.trans a.b,λu=>by rw[show rnd (w::ws) t=rnd ws (fw w t)from rfl,b.p,a.p];rfl⟩
def Zs3(ok:∀w∈ws,ZhY w)(nv:Tm.isV t=Ww)(hp:Tm.pth t=[])(hb:Tm.bot t=t):Tm.isV (rnd ws t)=Ww/\Tm.next (rnd ws t)=(Tm.bec t).map (rnd ws)/\(Tm.pth (rnd ws t)).length=ws.length:=by have a:=Zop ws ok nv;refine⟨a.v,?_,by rw[a.l,hp];exact Nat.zero_add _⟩;unfold Tm.next;rw[a.b,hb];refine congrArg (λf=>(Tm.bec t).map f) ?_;funext u;rw[a.p,hp];rfl
def At(s:Sta):Prop:=Tm.isV (read s)=Ww/\∃V ws,s=.back V ws/\(Tm.pth (read s)).length+1=ws.length
def Sim(s:Sta):Ans->Prop
 |.quiet s'=>read s'=read s
 |.loud s'=>At s/\Tm.next (read s)=Ws (read s')
 |.value=>∃V,s=.back V []/\Tm.isV (read s)=Wv
 |.stuck=>At s/\Tm.next (read s)=Wu
def Ze6(s:Sta)(ok:ZhK s):Sim s (step s):=by
 cases s with
 |go E ar ws=>
  cases E with
  |num z=>exact rfl
  |name x=>
   obtain⟨v,e⟩:=Ar.get_some (ar:=ar) ok.1;have:step (.go (.name x) ar ws)=.quiet (.back v ws):=by simp only[step,ZlN,e]
   rw[this];show rnd ws (rd v)=rnd ws (Tm.sub (ra ar) (.name x));rw[Tm.sub,Zpt,e];rfl
  |fn x e=>exact rfl
  |rcc f x e=>exact rfl
  |call F A=>exact rfl
  |iff C t e=>exact rfl
  |op w x y=>exact rfl
 |back V ws=>
  cases ws with
  |nil=>exact⟨V,rfl,ZmZ ok.1⟩
  |cons w r=>
   have okr:∀x∈r,ZhY x:=λx hx=>ok.2 x (Oh _ hx);have okw:=ok.2 w Oi;have vV:=ZmZ ok.1;have at':∀t:T,fw w (rd V)=t->Tm.isV t=Ww->Tm.pth t=[]->Tm.bot t=t->At (.back V (w::r))/\Tm.next (read (.back V (w::r)))=(Tm.bec t).map (rnd r):=λt e nv hp hb=>by
    have q:=Zs3 okr nv hp hb;have e2:read (.back V (w::r))=rnd r t:=by rw[<- e];rfl
    exact⟨⟨by rw[e2];exact q.1,V,w::r,rfl,by rw[e2,q.2.2];rfl⟩,by rw[e2];exact q.2.1⟩
   cases w with
   |arg A ar=>exact rfl
   |right w F ar=>exact rfl
   |fn W=>
    have vW:=ZmZ okw;obtain⟨a,n⟩:=at' _ rfl rfl (by simp[fw,Tm.pth,vV,vW]) (by simp[fw,Tm.bot,vV,vW]);cases W with
    |num z=>exact⟨a,n⟩
    |clo E ar=>
     cases E with
     |fn x e=>refine⟨a,n.trans ?_⟩;show Ws (rnd r (Tm.sub [(x,Ws (rd V))] (Tm.sub ((x,Wu)::ra ar) e)))=Ws (rnd r (Tm.sub ((x,Ws (rd V))::ra ar) e));rw[ZsX okw.2.2]
     |rcc f x e=>refine⟨a,n.trans ?_⟩;have ne:=okw.2.1.2;show Ws (rnd r (Tm.sub (Tm.Fil.ar (Tm.ZpB f (rd (.clo (.rcc f x e) ar)) x (rd V))) (Tm.sub ((f,Wu)::(x,Wu)::ra ar) e)))=Ws (rnd r (Tm.sub ((x,Ws (rd V))::(f,Ws (rd (.clo (.rcc f x e) ar)))::ra ar) e));rw[<- Zqm ne okw.2.2,Tm.ZpB,if_neg ne];rfl
     |_=>cases okw.1
   |iff t e ar=>
    obtain⟨a,n⟩:=at' _ rfl rfl (by simp[fw,Tm.pth,vV]) (by simp[fw,Tm.bot,vV]);cases V with
    |num z=>refine⟨a,n.trans ?_⟩;show Ws (rnd r (if z=0 then Tm.sub (ra ar) e else Tm.sub (ra ar) t))=Ws (rnd r (Tm.sub (ra ar) (if z=0 then e else t)));split<;>rfl
    |clo E ar'=>
     cases E with
     |fn x e=>exact⟨a,n⟩
     |rcc f x e=>exact⟨a,n⟩
     |_=>cases ok.1.1
   |left w W=>
    have vW:=ZmZ okw;obtain⟨a,n⟩:=at' _ rfl rfl (by simp[fw,Tm.pth,vV,vW]) (by simp[fw,Tm.bot,vV,vW]);cases W with
    |num y=>
     cases V with
     |num z=>exact⟨a,n⟩
     |clo E ar'=>
      cases E with
      |fn x e=>exact⟨a,n⟩
      |rcc f x e=>exact⟨a,n⟩
      |_=>cases ok.1.1
    |clo E ar'=>
     cases E with
     |fn x e=>exact⟨a,n⟩
     |rcc f x e=>exact⟨a,n⟩
     |_=>cases okw.1
section
variable {N:Nat}
def Bd(N:Nat)(E:T)(ar:Ar):Prop:=ar.len+2 * E.size<=2 * N
mutual
def ThN(N:Nat):Th->Prop
 |.num _=>True
 |.clo E ar=>Bd N E ar/\ArN N ar
def ArN(N:Nat):Ar->Prop
 |.nil=>True
 |.cons _ v r=>ThN N v/\ArN N r
end
def WtN(N:Nat):Wt->Prop
 |.arg A ar=>Bd N A ar/\ArN N ar
 |.fn V=>ThN N V
 |.iff t e ar=>(Bd N t ar/\Bd N e ar)/\ArN N ar
 |.right _ F ar=>Bd N F ar/\ArN N ar
 |.left _ V=>ThN N V
def StN(N:Nat):Sta->Prop
 |.go E ar ws=>Bd N E ar/\ArN N ar/\∀w∈ws,WtN N w
 |.back V ws=>ThN N V/\∀w∈ws,WtN N w
theorem ZkD:∀{ar:Ar},ArN N ar->ar.get x=Ws v->ThN N v
 |.nil,_,e=>by cases e
 |.cons y u r,h,e=>by
  rw[Ar.get]at e;split at e
  . cases e;exact h.1
  . exact ZkD h.2 e
def Zdf(h:Bd N E ar)(hf:F∈E.parts):Bd N F ar:=by
 have:=Tm.ZqZ hf;unfold Bd at *
 lia
def Zjx(ok:ZhK s)(b:StN N s)(e:step s=.quiet s'\/step s=.loud s'):ZhK s'/\StN N s':=by
 cases s with
 |go E ar ws=>
  cases E with
  |num z=>rcases e with e|e<;>cases e;exact⟨⟨ok.1,ok.2.2⟩,trivial,b.2.2⟩
  |name x=>
   obtain⟨v,q⟩:=Ar.get_some (ar:=ar) ok.1;have:step (.go (.name x) ar ws)=.quiet (.back v ws):=by simp only[step,ZlN,q]
   rw[this]at e;rcases e with e|e<;>cases e;exact⟨⟨ZiB ok.2.1 q,ok.2.2⟩,ZkD b.2.1 q,b.2.2⟩
  |fn x f=>rcases e with e|e<;>cases e;exact⟨⟨⟨rfl,ok.1,ok.2.1⟩,ok.2.2⟩,⟨b.1,b.2.1⟩,b.2.2⟩
  |rcc g x f=>rcases e with e|e<;>cases e;exact⟨⟨⟨rfl,ok.1,ok.2.1⟩,ok.2.2⟩,⟨b.1,b.2.1⟩,b.2.2⟩
  |call F A=>rcases e with e|e<;>cases e;exact⟨⟨ok.1.1,ok.2.1,Zax ⟨ok.1.2,ok.2.1⟩ ok.2.2⟩,Zdf b.1 (by simp[T.parts]),b.2.1,Zax ⟨Zdf b.1 (by simp[T.parts]),b.2.1⟩ b.2.2⟩
  |iff C t f=>rcases e with e|e<;>cases e;exact⟨⟨ok.1.1,ok.2.1,Zax ⟨ok.1.2.1,ok.1.2.2,ok.2.1⟩ ok.2.2⟩,Zdf b.1 (by simp[T.parts]),b.2.1,Zax ⟨⟨Zdf b.1 (by simp[T.parts]),Zdf b.1 (by simp[T.parts])⟩,b.2.1⟩ b.2.2⟩
  |op w x y=>rcases e with e|e<;>cases e;exact⟨⟨ok.1.1,ok.2.1,Zax ⟨ok.1.2,ok.2.1⟩ ok.2.2⟩,Zdf b.1 (by simp[T.parts]),b.2.1,Zax ⟨Zdf b.1 (by simp[T.parts]),b.2.1⟩ b.2.2⟩
 |back V ws=>
  cases ws with
  |nil=>rcases e with e|e<;>cases e
  |cons w r=>
   have okr:∀x∈r,ZhY x:=λx hx=>ok.2 x (Oh _ hx);have br:∀x∈r,WtN N x:=λx hx=>b.2 x (Oh _ hx);have okw:=ok.2 w Oi;have bw:=b.2 w Oi;cases w with
   |arg A ar=>rcases e with e|e<;>cases e;exact⟨⟨okw.1,okw.2,Zax ok.1 okr⟩,bw.1,bw.2,Zax b.1 br⟩
   |right w F ar=>rcases e with e|e<;>cases e;exact⟨⟨okw.1,okw.2,Zax ok.1 okr⟩,bw.1,bw.2,Zax b.1 br⟩
   |fn W=>
    cases W with
    |num z=>rcases e with e|e<;>cases e
    |clo E ar=>
     cases E with
     |fn x f=>
      rcases e with e|e<;>cases e;refine⟨⟨okw.2.1,⟨ok.1,okw.2.2⟩,okr⟩,?_,⟨b.1,bw.2⟩,br⟩;have h1:=bw.1;have h2:=Tm.Zb (.fn x f);simp only[T.parts,Op,Oy,OI,List.sum_nil]at h2;unfold Bd at *;rw[Ar.len]
      lia
     |rcc g x f=>
      rcases e with e|e<;>cases e;refine⟨⟨okw.2.1.1,⟨ok.1,okw,okw.2.2⟩,okr⟩,?_,⟨b.1,bw,bw.2⟩,br⟩;have h1:=bw.1;have h2:=Tm.Zb (.rcc g x f);simp only[T.parts,Op,Oy,OI,List.sum_nil]at h2;unfold Bd at *;rw[Ar.len,Ar.len]
      lia
     |_=>cases okw.1
   |iff t f ar=>
    cases V with
    |num z=>
     rcases e with e|e<;>cases e;by_cases q:z=0
     . simp only[q,if_true];exact⟨⟨okw.2.1,okw.2.2,okr⟩,bw.1.2,bw.2,br⟩
     . simp only[if_neg q];exact⟨⟨okw.1,okw.2.2,okr⟩,bw.1.1,bw.2,br⟩
    |clo E ar'=>rcases e with e|e<;>cases e
   |left w W=>
    cases W with
    |num y=>
     cases V with
     |num z=>rcases e with e|e<;>cases e;exact⟨⟨ZuL w y z,okr⟩,trivial,br⟩
     |clo E ar'=>rcases e with e|e<;>cases e
    |clo E ar'=>rcases e with e|e<;>cases e
def ZrD(w:Wt)(t:T):t.size+1<=(fw w t).size:=by
 cases w with
 |arg A ar=>rw[fw,Tm.Zb (.call _ _)];simp[T.parts];lia
 |fn V=>rw[fw,Tm.Zb (.call _ _)];simp[T.parts];lia
 |iff a b ar=>rw[fw,Tm.Zb (.iff _ _ _)];simp[T.parts];lia
 |right w F ar=>rw[fw,Tm.Zb (.op _ _ _)];simp[T.parts];lia
 |left w V=>rw[fw,Tm.Zb (.op _ _ _)];simp[T.parts];lia
theorem Ze8:∀(ws:List Wt) (t:T),t.size+ws.length<=(rnd ws t).size
 |[],_=>Oq _
 |w::ws,t=>by
  have a:=ZrD w t;have b:=Ze8 ws (fw w t);rw[Os,show rnd (w::ws) t=rnd ws (fw w t)from rfl]
  lia
noncomputable def wts:Sta->List Wt
 |.go _ _ ws=>ws
 |.back _ ws=>ws
end
end Rw
namespace Ce
open PySem L2 IV
set_option tactic.hygienic false
def Zaz:Sxs:=(.c (.iff (.ex (.cmp .NotIn (.ix (.v 0) (.ci 0)) (.glo (O "FORMS")))) (.c (.ret (.tupl .n)) .n) .n) (.c (.ret (.sl (.v 0) (Ws (.ci 1)) (Ws (.bin .Add (.ci 1) (.ix (.ix (.glo (O "FORMS")) (.ix (.v 0) (.ci 0))) (.ci 0)))))) .n))
def Zbx:Fd:=⟨[(O "E")],[(O "E")],Zaz⟩
def ZaH:Sxs:=(.c (.iff (.ex (.cmp .NotIn (.ix (.v 0) (.ci 0)) (.glo (O "FORMS")))) (.c (.ret (.tupl .n)) .n) .n) (.c (.ret (.sl (.v 0) (Ws (.bin .Add (.ci 1) (.ix (.ix (.glo (O "FORMS")) (.ix (.v 0) (.ci 0))) (.ci 0)))) Wu)) .n))
def Zdc:Fd:=⟨[(O "E")],[(O "E")],ZaH⟩
def Zgz:Sxs:=(.c (.iff (.ex (.cmp .Is (.v 0) (.cst .non))) (.c (.ret (.tupl (.c (.Ci_ "stuck") .n))) .n) .n) (.c (.ret (.tupl (.c (.Ci_ "loud") (.c (.v 0) .n)))) .n))
def Zdo:Fd:=⟨[(O "state")],[(O "state")],Zgz⟩
def Zp2:Sxs:=(.c (.iff (.ex (.cmp .NotEq (.ix (.v 0) (.ci 0)) (.Ci_ "num"))) (.c (.ret (.cst .non)) .n) .n) (.c (.ret (.ite (.ex (.cmp .Eq (.ix (.v 0) (.ci 1)) (.ci 0))) (.v 2) (.v 1))) .n))
def Zkg:Fd:=⟨[(O "C"),(O "T"),(O "E")],[(O "C"),(O "T"),(O "E")],Zp2⟩
def ZG:Sxs:=(.c (.iff (.ors (.c (.ex (.cmp .NotEq (.ix (.v 1) (.ci 0)) (.Ci_ "num"))) (.one (.ex (.cmp .NotEq (.ix (.v 2) (.ci 0)) (.Ci_ "num")))))) (.c (.ret (.cst .non)) .n) .n) (.c (.iff (.ex (.cmp .Eq (.v 0) (.Ci_ "<"))) (.c (.ret (.tupl (.c (.Ci_ "num") (.c (.ite (.ex (.cmp .Lt (.ix (.v 1) (.ci 1)) (.ix (.v 2) (.ci 1)))) (.ci 1) (.ci 0)) .n)))) .n) .n) (.c (.iff (.ex (.cmp .Eq (.v 0) (.Ci_ "+"))) (.c (.ret (.tupl (.c (.Ci_ "num") (.c (.bin .Mod (.bin .Add (.ix (.v 1) (.ci 1)) (.ix (.v 2) (.ci 1))) (.glo (O "BEYOND"))) .n)))) .n) .n) (.c (.iff (.ex (.cmp .Eq (.v 0) (.Ci_ "-"))) (.c (.ret (.tupl (.c (.Ci_ "num") (.c (.bin .Mod (.bin .Sub (.ix (.v 1) (.ci 1)) (.ix (.v 2) (.ci 1))) (.glo (O "BEYOND"))) .n)))) .n) .n) (.c (.ret (.tupl (.c (.Ci_ "num") (.c (.bin .Mod (.bin .Mult (.ix (.v 1) (.ci 1)) (.ix (.v 2) (.ci 1))) (.glo (O "BEYOND"))) .n)))) .n)))))
def Zfi:Fd:=⟨[(O "word"),(O "first"),(O "second")],[(O "word"),(O "first"),(O "second")],ZG⟩
def Zjo:Sxs:=(.c (.ret (.tupl (.c (.ci 0) (.c (.tupl .n) (.c (.tupl .n) (.c (.tupl .n) .n)))))) .n)
def Zfo:Fd:=⟨[(O "code")],[(O "code")],Zjo⟩
def Zlu:Sxs:=(.c (.iff (.ex (.cmp .Eq (.ix (.v 0) (.ci 0)) (.Ci_ "num"))) (.c (.ret (.v 0)) .n) .n) (.c (.iff (.ex (.cmp .Eq (.ix (.v 0) (.ci 0)) (.Ci_ "fetch"))) (.c (.ret (.ix (.v 1) (.ix (.v 0) (.ci 1)))) .n) .n) (.c (.ret (.tupl (.c (.Ci_ "clo") (.c (.ix (.v 0) (.ci 1)) (.c (.ix (.v 0) (.ci 2)) (.c (.v 1) .n)))))) .n)))
def Zhj:Fd:=⟨[(O "row"),(O "around")],[(O "row"),(O "around")],Zlu⟩
def ZhR:Sxs:=(.c (.iff (.ex (.cmp .Eq (.ix (.v 0) (.ci 0)) (.Ci_ "jump"))) (.c (.ret (.bin .Add (.tupl (.c (.ix (.v 0) (.ci 1)) .n)) (.sl (.v 1) (Ws (.ci 1)) Wu))) .n) .n) (.c (.iff (.ex (.cmp .Eq (.ix (.v 0) (.ci 0)) (.Ci_ "back"))) (.c (.set (.nm 2) (.ix (.ix (.v 1) (.ci 3)) (.ci 0))) (.c (.ret (.tupl (.c (.ix (.v 2) (.ci 0)) (.c (.ix (.v 1) (.ci 1)) (.c (.ix (.v 2) (.ci 1)) (.c (.sl (.ix (.v 1) (.ci 3)) (Ws (.ci 1)) Wu) .n)))))) .n)) .n) (.c (.ret (.tupl (.c (.bin .Add (.ix (.v 1) (.ci 0)) (.ci 1)) (.c (.bin .Add (.ix (.v 1) (.ci 1)) (.tupl (.c (.call (O "thing_of") (.c (.v 0) (.c (.ix (.v 1) (.ci 2)) .n))) .n))) (.c (.ix (.v 1) (.ci 2)) (.c (.ix (.v 1) (.ci 3)) .n)))))) .n)))
def ZeG:Fd:=⟨[(O "row"),(O "state")],[(O "row"),(O "state"),(O "below")],ZhR⟩
def ZnI:Sxs:=(.c (.iff (.ex (.cmp .Eq (.blt .len (.c (.ix (.v 0) (.ci 2)) .n)) (.ci 1))) (.c (.ret (.bin .Add (.tupl (.c (.v 1) .n)) (.ix (.v 0) (.ci 3)))) .n) .n) (.c (.ret (.bin .Add (.tupl (.c (.v 1) (.c (.v 0) .n))) (.ix (.v 0) (.ci 3)))) .n))
def Zij:Fd:=⟨[(O "W"),(O "V")],[(O "W"),(O "V")],ZnI⟩
def ZnJ:Sxs:=(.c (.set (.nm 2) (.ix (.v 0) (.neg (.ci 2)))) (.c (.iff (.ex (.cmp .Eq (.ix (.v 2) (.ci 0)) (.Ci_ "num"))) (.c (.ret (.cst .non)) .n) .n) (.c (.ret (.tupl (.c (.ix (.v 2) (.ci 1)) (.c (.sl (.v 0) Wu (Ws (.neg (.ci 2)))) (.c (.call (O "entered") (.c (.v 2) (.c (.ix (.v 0) (.neg (.ci 1))) .n))) (.c (.v 1) .n)))))) .n)))
def Zil:Fd:=⟨[(O "stack"),(O "pile")],[(O "stack"),(O "pile"),(O "W")],ZnJ⟩
def Ziy:Sxs:=(.c (.set (.nm 2) (.call (O "chosen") (.c (.ix (.ix (.v 1) (.ci 1)) (.neg (.ci 1))) (.c (.bin .Add (.ix (.v 1) (.ci 0)) (.ci 1)) (.c (.v 0) .n))))) (.c (.iff (.ex (.cmp .Is (.v 2) (.cst .non))) (.c (.ret (.cst .non)) .n) .n) (.c (.ret (.tupl (.c (.v 2) (.c (.sl (.ix (.v 1) (.ci 1)) Wu (Ws (.neg (.ci 1)))) (.c (.ix (.v 1) (.ci 2)) (.c (.ix (.v 1) (.ci 3)) .n)))))) .n)))
def Zii:Fd:=⟨[(O "L"),(O "state")],[(O "L"),(O "state"),(O "at")],Ziy⟩
def ZhC:Sxs:=(.c (.set (.nm 2) (.ix (.v 1) (.ci 1))) (.c (.set (.nm 3) (.call (O "worked") (.c (.v 0) (.c (.ix (.v 2) (.neg (.ci 2))) (.c (.ix (.v 2) (.neg (.ci 1))) .n))))) (.c (.iff (.ex (.cmp .Is (.v 3) (.cst .non))) (.c (.ret (.cst .non)) .n) .n) (.c (.ret (.tupl (.c (.bin .Add (.ix (.v 1) (.ci 0)) (.ci 1)) (.c (.bin .Add (.sl (.v 2) Wu (Ws (.neg (.ci 2)))) (.tupl (.c (.v 3) .n))) (.c (.ix (.v 1) (.ci 2)) (.c (.ix (.v 1) (.ci 3)) .n)))))) .n))))
def ZeS:Fd:=⟨[(O "word"),(O "state")],[(O "word"),(O "state"),(O "stack"),(O "N")],ZhC⟩
def Zjd:Sxs:=(.c (.iff (.ex (.cmp .Eq (.ix (.v 0) (.ci 0)) (.Ci_ "call"))) (.c (.ret (.call (O "applied") (.c (.ix (.v 1) (.ci 1)) (.c (.bin .Add (.tupl (.c (.tupl (.c (.bin .Add (.ix (.v 1) (.ci 0)) (.ci 1)) (.c (.ix (.v 1) (.ci 2)) .n))) .n)) (.ix (.v 1) (.ci 3))) .n)))) .n) .n) (.c (.iff (.ex (.cmp .Eq (.ix (.v 0) (.ci 0)) (.Ci_ "hop"))) (.c (.ret (.call (O "applied") (.c (.ix (.v 1) (.ci 1)) (.c (.ix (.v 1) (.ci 3)) .n)))) .n) .n) (.c (.iff (.ex (.cmp .Eq (.ix (.v 0) (.ci 0)) (.Ci_ "unless"))) (.c (.ret (.call (O "gone_on") (.c (.ix (.v 0) (.ci 1)) (.c (.v 1) .n)))) .n) .n) (.c (.ret (.call (O "reckoned") (.c (.ix (.v 0) (.ci 1)) (.c (.v 1) .n)))) .n))))
def Zfj:Fd:=⟨[(O "row"),(O "state")],[(O "row"),(O "state")],Zjd⟩
def Zku:Sxs:=(.c (.set (.nm 2) (.ix (.v 0) (.ix (.v 1) (.ci 0)))) (.c (.iff (.ex (.cmp .Eq (.ix (.v 2) (.ci 0)) (.Ci_ "end"))) (.c (.ret (.tupl (.c (.Ci_ "value") .n))) .n) .n) (.c (.iff (.ex (.cmp .In (.ix (.v 2) (.ci 0)) (.glo (O "LOUD")))) (.c (.ret (.call (O "loud_or_stuck") (.c (.call (O "loud_state") (.c (.v 2) (.c (.v 1) .n))) .n))) .n) .n) (.c (.ret (.tupl (.c (.Ci_ "quiet") (.c (.call (O "quiet_state") (.c (.v 2) (.c (.v 1) .n))) .n)))) .n))))
def Zgm:Fd:=⟨[(O "code"),(O "state")],[(O "code"),(O "state"),(O "row")],Zku⟩
def ZfG:Sxs:=(.c (.set (.nm 1) (.ci 0)) (.c (.set (.nm 2) (.lstl (.c (.v 0) .n))) (.c (.whl (.ex (.v 2)) (.c (.set (.nm 3) (.meth .pop (.v 2) .n)) (.c (.aug 1 .Add (.ite (.ex (.cmp .Eq (.ix (.v 3) (.ci 0)) (.Ci_ "if"))) (.ci 2) (.ci 1))) (.c (.iff (.nt (.ex (.call (O "bound_names") (.c (.v 3) .n)))) (.c (.drp (.meth .ext (.v 2) (.c (.call (O "parts_of") (.c (.v 3) .n)) .n))) .n) .n) .n)))) (.c (.ret (.v 1)) .n))))
def Zfn:Fd:=⟨[(O "E")],[(O "E"),(O "count"),(O "waiting"),(O "place")],ZfG⟩
def ZhU:Sx:=(.iff (.ex (.cmp .Eq (.ix (.v 0) (.ci 0)) (.Ci_ "call"))) (.c (.ret (.lstl (.c (.tupl (.c (.Ci_ "part") (.c (.ix (.v 0) (.ci 1)) (.c (.cst (.bl Ww)) .n)))) (.c (.tupl (.c (.Ci_ "part") (.c (.ix (.v 0) (.ci 2)) (.c (.cst (.bl Ww)) .n)))) (.c (.tupl (.c (.Ci_ "row") (.c (.ite (.ex (.v 1)) (.tupl (.c (.Ci_ "hop") .n)) (.tupl (.c (.Ci_ "call") .n))) .n))) .n))))) .n) .n)
def ZhT:Sx:=(.iff (.ex (.cmp .Eq (.ix (.v 0) (.ci 0)) (.Ci_ "if"))) (.c (.ret (.lstl (.c (.tupl (.c (.Ci_ "part") (.c (.ix (.v 0) (.ci 1)) (.c (.cst (.bl Ww)) .n)))) (.c (.tupl (.c (.Ci_ "row") (.c (.tupl (.c (.Ci_ "unless") (.c (.bin .Add (.call (O "count_rows") (.c (.ix (.v 0) (.ci 2)) .n)) (.ci 2)) .n))) .n))) (.c (.tupl (.c (.Ci_ "part") (.c (.ix (.v 0) (.ci 2)) (.c (.v 1) .n)))) (.c (.tupl (.c (.Ci_ "row") (.c (.tupl (.c (.Ci_ "jump") (.c (.bin .Add (.call (O "count_rows") (.c (.ix (.v 0) (.ci 3)) .n)) (.ci 1)) .n))) .n))) (.c (.tupl (.c (.Ci_ "part") (.c (.ix (.v 0) (.ci 3)) (.c (.v 1) .n)))) .n))))))) .n) .n)
def ZhS:Sx:=(.ret (.lstl (.c (.tupl (.c (.Ci_ "part") (.c (.ix (.v 0) (.ci 1)) (.c (.cst (.bl Ww)) .n)))) (.c (.tupl (.c (.Ci_ "part") (.c (.ix (.v 0) (.ci 2)) (.c (.cst (.bl Ww)) .n)))) (.c (.tupl (.c (.Ci_ "row") (.c (.tupl (.c (.Ci_ "work") (.c (.ix (.v 0) (.ci 0)) .n))) .n))) .n)))))
def Zkt:Sxs:=(.c ZhU (.c ZhT (.c ZhS .n)))
def Zgk:Fd:=⟨[(O "E"),(O "last")],[(O "E"),(O "last")],Zkt⟩
def ZfF:Sxs:=(.c (.set (.nm 1) (.lstl (.c (.ci 0) .n))) (.c (.forr (.nm 2) (.pl (.v 0)) (.c (.drp (.meth .app (.v 1) (.c (.bin .Add (.ix (.v 1) (.neg (.ci 1))) (.blt .len (.c (.att [(O "Unit")] (.v 2) (O "rows")) .n))) .n))) .n)) (.c (.ret (.v 1)) .n)))
def Zfm:Fd:=⟨[(O "units")],[(O "units"),(O "firsts"),(O "unit")],ZfF⟩
def ZhD:Sxs:=(.c (.iff (.ex (.cmp .In (.ix (.v 0) (.ci 0)) (.glo (O "LEADING")))) (.c (.ret (.tupl (.c (.ix (.v 0) (.ci 0)) (.c (.bin .Add (.v 1) (.ix (.v 0) (.ci 1))) .n)))) .n) .n) (.c (.iff (.ex (.cmp .Eq (.ix (.v 0) (.ci 0)) (.Ci_ "close"))) (.c (.ret (.tupl (.c (.Ci_ "close") (.c (.ix (.v 2) (.ix (.v 0) (.ci 1))) (.c (.ix (.v 0) (.ci 2)) .n))))) .n) .n) (.c (.ret (.v 0)) .n)))
def Zhk:Fd:=⟨[(O "row"),(O "first"),(O "firsts")],[(O "row"),(O "first"),(O "firsts")],ZhD⟩
def ZkB:Sx:=(.set (.nm 1) (.mk (O "Coder") .n))
def ZkA:Sx:=(.drp (.mcl (O "Coder") (O "begin_unit") (.v 1) (.c (.v 0) (.c (.tupl .n) (.c (.Ci_ "end") .n)))))
def Zkz:Sx:=(.drp (.mcl (O "Coder") (O "do_all") (.v 1) .n))
def Zky:Sx:=(.set (.nm 2) (.call (O "first_rows") (.c (.att [(O "Coder")] (.v 1) (O "units")) .n)))
def Zkx:Sx:=(.set (.nm 3) (.lstl .n))
def Zgs:Sx:=(.forr (.nm 4) (.pl (.att [(O "Coder")] (.v 1) (O "units"))) (.c (.set (.nm 5) (.blt .len (.c (.v 3) .n))) (.c (.drp (.meth .ext (.v 3) (.c (.comp [(O "row"),(O "first"),(O "firsts")] [Wu,Ws 5,Ws 2] (.pl (.att [(O "Unit")] (.v 4) (O "rows"))) (.nm 0) Wu (.call (O "numbered") (.c (.v 0) (.c (.v 1) (.c (.v 2) .n))))) .n))) .n)))
def Zkw:Sx:=(.ret (.v 3))
def Ziz:Sxs:=(.c ZkB (.c ZkA (.c Zkz (.c Zky (.c Zkx (.c Zgs (.c Zkw .n)))))))
def Zik:Fd:=⟨[(O "E")],[(O "E"),(O "coder"),(O "firsts"),(O "code"),(O "unit"),(O "first")],Ziz⟩
def Zdw:Sxs:=(.c (.seta [(O "Unit")] (.v 0) (O "around") (.v 1)) (.c (.seta [(O "Unit")] (.v 0) (O "rows") (.lstl .n)) .n))
def ZaB:Fd:=⟨[(O "self"),(O "around")],[(O "self"),(O "around")],Zdw⟩
def ZhI:Sxs:=(.c (.iff (.ex (.cmp .In (.ix (.v 1) (.ci 0)) (.glo (O "LEADING")))) (.c (.drp (.meth .app (.att [(O "Unit")] (.v 0) (O "rows")) (.c (.tupl (.c (.ix (.v 1) (.ci 0)) (.c (.bin .Add (.blt .len (.c (.att [(O "Unit")] (.v 0) (O "rows")) .n)) (.ix (.v 1) (.ci 1))) .n))) .n))) .n) (.c (.drp (.meth .app (.att [(O "Unit")] (.v 0) (O "rows")) (.c (.v 1) .n))) .n)) .n)
def ZaU:Fd:=⟨[(O "self"),(O "row")],[(O "self"),(O "row")],ZhI⟩
def Zc2:Sxs:=(.c (.seta [(O "Coder")] (.v 0) (O "units") (.lstl .n)) (.c (.seta [(O "Coder")] (.v 0) (O "waiting") (.lstl .n)) .n))
def Zal:Fd:=⟨[(O "self")],[(O "self")],Zc2⟩
def Zgb:Sxs:=(.c (.drp (.meth .ext (.att [(O "Coder")] (.v 0) (O "waiting")) (.c (.comp [(O "piece"),(O "unit")] [Wu,Ws 1] (.rev (.v 2)) (.nm 0) Wu (.tupl (.c (.v 1) (.c (.v 0) .n)))) .n))) .n)
def ZcZ:Fd:=⟨[(O "self"),(O "unit"),(O "pieces")],[(O "self"),(O "unit"),(O "pieces")],Zgb⟩
def Zee:Sx:=(.set (.nm 4) (.mk (O "Unit") (.c (.v 2) .n)))
def Zed:Sx:=(.drp (.meth .app (.att [(O "Coder")] (.v 0) (O "units")) (.c (.v 4) .n)))
def Zec:Sx:=(.drp (.mcl (O "Coder") (O "wait_for") (.v 0) (.c (.v 4) (.c (.lstl (.c (.tupl (.c (.Ci_ "part") (.c (.v 1) (.c (.cmp .Eq (.v 3) (.Ci_ "back")) .n)))) (.c (.tupl (.c (.Ci_ "row") (.c (.tupl (.c (.v 3) .n)) .n))) .n))) .n))))
def ZeY:Sxs:=(.c Zee (.c Zed (.c Zec .n)))
def Zca:Fd:=⟨[(O "self"),(O "E"),(O "around"),(O "ended")],[(O "self"),(O "E"),(O "around"),(O "ended"),(O "unit")],ZeY⟩
def ZcO:Sx:=(.set (.nm 3) (.trev (.call (O "bound_names") (.c (.v 2) .n))))
def ZcN:Sx:=(.drp (.mcl (O "Unit") (O "add_row") (.v 1) (.c (.tupl (.c (.Ci_ "close") (.c (.blt .len (.c (.att [(O "Coder")] (.v 0) (O "units")) .n)) (.c (.v 3) .n)))) .n)))
def ZcM:Sx:=(.drp (.mcl (O "Coder") (O "begin_unit") (.v 0) (.c (.ix (.call (O "parts_of") (.c (.v 2) .n)) (.ci 0)) (.c (.bin .Add (.v 3) (.att [(O "Unit")] (.v 1) (O "around"))) (.c (.Ci_ "back") .n)))))
def Zdk:Sxs:=(.c ZcO (.c ZcN (.c ZcM .n)))
def ZaZ:Fd:=⟨[(O "self"),(O "unit"),(O "E")],[(O "self"),(O "unit"),(O "E"),(O "names")],Zdk⟩
def ZbO:Sxs:=(.c (.iff (.ex (.cmp .Eq (.ix (.v 2) (.ci 0)) (.Ci_ "num"))) (.c (.drp (.mcl (O "Unit") (O "add_row") (.v 1) (.c (.v 2) .n))) .n) (.c (.iff (.ex (.cmp .Eq (.ix (.v 2) (.ci 0)) (.Ci_ "name"))) (.c (.drp (.mcl (O "Unit") (O "add_row") (.v 1) (.c (.tupl (.c (.Ci_ "fetch") (.c (.tix (.att [(O "Unit")] (.v 1) (O "around")) (.ix (.v 2) (.ci 1))) .n))) .n))) .n) (.c (.iff (.ex (.call (O "bound_names") (.c (.v 2) .n))) (.c (.drp (.mcl (O "Coder") (O "begin_function") (.v 0) (.c (.v 1) (.c (.v 2) .n)))) .n) (.c (.drp (.mcl (O "Coder") (O "wait_for") (.v 0) (.c (.v 1) (.c (.call (O "pieces_of") (.c (.v 2) (.c (.v 3) .n))) .n)))) .n)) .n)) .n)) .n)
def Zdp:Fd:=⟨[(O "self"),(O "unit"),(O "E"),(O "last")],[(O "self"),(O "unit"),(O "E"),(O "last")],ZbO⟩
def ZhJ:Sxs:=(.c (.whl (.ex (.att [(O "Coder")] (.v 0) (O "waiting"))) (.c (.set (.nm 1) (.meth .pop (.att [(O "Coder")] (.v 0) (O "waiting")) .n)) (.c (.set (.nm 2) (.ix (.v 1) (.ci 1))) (.c (.iff (.ex (.cmp .Eq (.ix (.v 2) (.ci 0)) (.Ci_ "row"))) (.c (.drp (.mcl (O "Unit") (O "add_row") (.ix (.v 1) (.ci 0)) (.c (.ix (.v 2) (.ci 1)) .n))) .n) (.c (.drp (.mcl (O "Coder") (O "do_part") (.v 0) (.c (.ix (.v 1) (.ci 0)) (.c (.ix (.v 2) (.ci 1)) (.c (.ix (.v 2) (.ci 2)) .n))))) .n)) .n)))) .n)
def ZdU:Fd:=⟨[(O "self")],[(O "self"),(O "pair"),(O "piece")],ZhJ⟩
structure Cod(P:Pg):Prop where
 bound_names:P.tb.lookup (O "bound_names")=Ws Zbx
 parts_of:P.tb.lookup (O "parts_of")=Ws Zdc
 loud_or_stuck:P.tb.lookup (O "loud_or_stuck")=Ws Zdo
 chosen:P.tb.lookup (O "chosen")=Ws Zkg
 worked:P.tb.lookup (O "worked")=Ws Zfi
 code_begun:P.tb.lookup (O "code_begun")=Ws Zfo
 thing_of:P.tb.lookup (O "thing_of")=Ws Zhj
 quiet_state:P.tb.lookup (O "quiet_state")=Ws ZeG
 entered:P.tb.lookup (O "entered")=Ws Zij
 applied:P.tb.lookup (O "applied")=Ws Zil
 gone_on:P.tb.lookup (O "gone_on")=Ws Zii
 reckoned:P.tb.lookup (O "reckoned")=Ws ZeS
 loud_state:P.tb.lookup (O "loud_state")=Ws Zfj
 code_step:P.tb.lookup (O "code_step")=Ws Zgm
 count_rows:P.tb.lookup (O "count_rows")=Ws Zfn
 pieces_of:P.tb.lookup (O "pieces_of")=Ws Zgk
 first_rows:P.tb.lookup (O "first_rows")=Ws Zfm
 numbered:P.tb.lookup (O "numbered")=Ws Zhk
 code_of:P.tb.lookup (O "code_of")=Ws Zik
 n_Unit___init__:P.tb.lookup (mnm (O "Unit") (O "__init__"))=Wu
 Unit___init__:P.ms.lookup (mnm (O "Unit") (O "__init__"))=Ws ZaB
 n_Unit_add_row:P.tb.lookup (mnm (O "Unit") (O "add_row"))=Wu
 Unit_add_row:P.ms.lookup (mnm (O "Unit") (O "add_row"))=Ws ZaU
 n_Coder___init__:P.tb.lookup (mnm (O "Coder") (O "__init__"))=Wu
 Coder___init__:P.ms.lookup (mnm (O "Coder") (O "__init__"))=Ws Zal
 n_Coder_wait_for:P.tb.lookup (mnm (O "Coder") (O "wait_for"))=Wu
 Coder_wait_for:P.ms.lookup (mnm (O "Coder") (O "wait_for"))=Ws ZcZ
 n_Coder_begin_unit:P.tb.lookup (mnm (O "Coder") (O "begin_unit"))=Wu
 Coder_begin_unit:P.ms.lookup (mnm (O "Coder") (O "begin_unit"))=Ws Zca
 n_Coder_begin_function:P.tb.lookup (mnm (O "Coder") (O "begin_function"))=Wu
 Coder_begin_function:P.ms.lookup (mnm (O "Coder") (O "begin_function"))=Ws ZaZ
 n_Coder_do_part:P.tb.lookup (mnm (O "Coder") (O "do_part"))=Wu
 Coder_do_part:P.ms.lookup (mnm (O "Coder") (O "do_part"))=Ws Zdp
 n_Coder_do_all:P.tb.lookup (mnm (O "Coder") (O "do_all"))=Wu
 Coder_do_all:P.ms.lookup (mnm (O "Coder") (O "do_all"))=Ws ZdU
 g:P.G (O "FORMS")=Ws (.kd (O "FORMS"))
 gl:P.G (O "LEADING")=Ws (.tup [.str (O "unless"),.str (O "jump")])
 go:P.G (O "LOUD")=Ws (.tup [.str (O "call"),.str (O "hop"),.str (O "unless"),.str (O "work")])
 gb:P.G (O "BEYOND")=Ws (.int 1000000)
 gd:P.GD (O "FORMS")=Ws Gn.ZdO
 big:1000000<=P.L
section
variable {P:Pg}
noncomputable def bnd:T->List Str
 |.fn x _=>[x]
 |.rcc f x _=>[f,x]
 |_=>[]
section
variable {w:Wd}
@[simp] theorem ZnW:(w.s=O "num")↔False:=by cases w<;>simp[Wd.s]
@[simp] theorem ZlJ:(w.s=O "name")↔False:=by cases w<;>simp[Wd.s]
@[simp] theorem ZlK:(w.s=O "call")↔False:=by cases w<;>simp[Wd.s]
@[simp] theorem ZnX:(w.s=O "if")↔False:=by cases w<;>simp[Wd.s]
@[simp] theorem Zjt:Zbh Gn.ZdO (.inr w.s)=Ws (.tup [.int 0,.int 2]):=by cases w<;>rfl
end
def Cod.tre(H:Cod P):Gn.Tre P:=⟨H.parts_of,H.g,H.gd,H.big⟩
def ZgK(H:Cod P)(n:Nat)(t:T)(h:Hd):run P (n+1) (O "bound_names") [t.d] h=.ok (.tup ((bnd t).map .str)) h:=by
 have no:∀(w:Str) (ds:List D),Zbh Gn.ZdO (.inr w)=Wu->run P (n+1) (O "bound_names") [.tup (.str w::ds)] h=.ok (.tup []) h:=λw ds e=>by have w:xs2 (P.tbl n) Zaz [Ws (.tup (.str w::ds))] h=.ok (.rt (.tup []),_) h:=Zd ((Zj (Gn.ZgN H.tre ⟨rfl,rfl⟩ Gn.Zj4 e)).trans (Zd (Zr (d:=.tup []) rfl)));exact(Zg H.bound_names rfl).trans (congrArg Ze w)
 have yes:∀(w:Str) (ds:List D) (a b:Int),Zbh Gn.ZdO (.inr w)=Ws (.tup [.int a,.int b])->run P (n+1) (O "bound_names") [.tup (.str w::ds)] h=.ok (.tup (cutD (.str w::ds) (Ws 1) (Ws (1+a)))) h:=λw ds a b e=>by have w:xs2 (P.tbl n) Zaz [Ws (.tup (.str w::ds))] h=.ok (.rt (.tup (cutD (.str w::ds) (Ws 1) (Ws (1+a)))),_) h:=(Za ((Zf (Gn.ZgN H.tre ⟨rfl,rfl⟩ Gn.Zj4 e)).trans rfl)).trans (Zd (Zr ((Gn.Zh3 (x:=.tup (.str w::ds)) rfl rfl (Gn.Zmt (Gn.Zpx H.tre ⟨rfl,rfl⟩ e))).trans rfl)));exact(Zg H.bound_names rfl).trans (congrArg Ze w)
 cases t with
 |num z=>exact no (O "num") _ rfl
 |name x=>exact no (O "name") _ rfl
 |fn x e=>exact yes (O "fn") _ 1 1 rfl
 |rcc f x e=>exact yes (O "rec") _ 2 1 rfl
 |call f a=>exact yes (O "call") _ 0 2 rfl
 |iff c a b=>exact yes (O "if") _ 0 3 rfl
 |op w a b=>exact yes w.s _ 0 2 Zjt
theorem ZgJ(H:Cod P)(n:Nat)(t:T)(h:Hd):run P (n+1) (O "parts_of") [t.d] h=.ok (.tup (t.parts.map T.d)) h:=Gn.ZgJ H.tre n t h
noncomputable def cnt:T->Nat
 |.call f a=>cnt f+cnt a+1
 |.op _ a b=>cnt a+cnt b+1
 |.iff c t e=>cnt c+cnt t+cnt e+2
 |_=>1
noncomputable def inn(t:T):List T:=if bnd t=[]then t.parts else []
noncomputable def one:T->Int
 |.iff _ _ _=>2
 |_=>1
def ZrP(t:T):(cnt t:Int)=one t+((inn t).map cnt).sum:=by cases t<;>simp[cnt,one,inn,bnd,T.parts]<;>lia
def Zb(t:T):t.size=1+(t.parts.map T.size).sum:=by
 unfold T.size;rw[T.places_parts];simp only[Os,List.length_flatMap]
 lia
def Zol(t:T):1+((inn t).map T.size).sum<=t.size:=by
 rw[Zb t];unfold inn;split
 . lia
 . simp
def Zk(t:T):1<=t.size:=by rw[Zb];lia
theorem Zj0:∀W:List T,W.length<=(W.map T.size).sum
 |[]=>by simp
 |t::W=>by
  have:=Zk t;have:=Zj0 W;simp
  lia
def lc1:Sx:=.set (.nm 3) (.meth .pop (.v 2) .n)
def lc2:Ex:=.ite (.ex (.cmp .Eq (.ix (.v 3) (.ci 0)) (.Ci_ "if"))) (.ci 2) (.ci 1)
def lc3:Sx:=.iff (.nt (.ex (.call (O "bound_names") (.c (.v 3) .n)))) (.c (.drp (.meth .ext (.v 2) (.c (.call (O "parts_of") (.c (.v 3) .n)) .n))) .n) .n
def ZjY:Sxs:=.c lc1 (.c (.aug 1 .Add lc2) (.c lc3 .n))
def ZeZ{U:Tb}(p:ev U o S h=.ok (.ref i) h1)(hc:h1[i]? = Ws (.ins C fs))(hl:fs.lookup f=Ws d):ev U (.att [C] o f) S h=.ok d h1:=by rw[ZpG,p];simp only[Zt,ZfY,Zaf,hc,if_pos (Ox.mpr rfl),hl];rfl
def ZeR{U:Tb}(p:ev U o S h=.ok (.tup (x::ds)) h1):ev U (.ix o (.ci 0)) S h=.ok x h1:=by refine(Zl p rfl).trans ?_;show R.ofO (atI (x::ds) 0) h1=_;rw[ZiA];rfl
def ZwB{U:Tb}(a:S[i]? = Ws (Ws (.int x)))(q:ev U e S h=.ok (.int y) h1):xs1 U (.aug i .Add e) S h=.ok (.nx,S.set i (Ws (.int (x+y)))) h1:=by show R.bind (R.ofO (S[i]?).join h) _=_;rw[a];show R.bind (ev U e S h) _=_;rw[q];rfl
section
variable {h:Hd}
def Zxo:Zck .pop (.ref h.length) [] (h++[.lst (l++[d])])=.ok d (h++[.lst l]):=(ZcV ZbL).trans (by rw[ZjL])
def Zxv(hz:l.length+xs.length<=sizeLine):Zck .ext (.ref h.length) [.tup xs] (h++[.lst l])=.ok .non (h++[.lst (l++xs)]):=by simp only[Zck,ZbL,ZhO,Zrl];rw[if_pos hz,ZjL]
end
def Zwm{U:Tb}(t:T)(h:Hd)(a b c):ev U lc2 [a,b,c,Ws t.d] h=.ok (.int (one t)) h:=by
 have e:∀(w:Str) (ds:List D),ev U lc2 [a,b,c,Ws (.tup (.str w::ds))] h=.ok (.int (if w=O "if" then 2 else 1)) h:=λw ds=>by
  unfold lc2;rw[ZpE,ZaM (x:=w) (ZeR rfl) rfl,Zt];split
  . rename_i z;rw[if_pos (of_decide_eq_true z)];rfl
  . rename_i z;rw[if_neg λy=>z (decide_eq_true y)];rfl
 cases t with
 |op w x y=>exact(e w.s _).trans (by rw[if_neg λz=>ZnX.mp z];rfl)
 |_=>exact e _ _
theorem Zmj(H:Cod P){h:Hd}(n:Nat):∀(fuel:Nat) (W:List T) (c:Int) (p:Option D),(W.map T.size).sum<fuel->(W.map T.size).sum<=900000->∃p',
 Zag (tst (P.tbl (n+1)) (.ex (.var 2))) (xs2 (P.tbl (n+1)) ZjY) fuel [Ws E,Ws (.int c),Ws (.ref h.length),p] (h++[.lst (W.map T.d)])
  = .ok (.nx,[Ws E,Ws (.int (c+(W.map cnt).sum)),Ws (.ref h.length),p']) (h++[.lst []])
 |0,W,c,p,h1,h2=>by lia
 |fuel+1,W,c,p,h1,h2=>by
  rcases List.eq_nil_or_concat W with rfl|⟨V,t,rfl⟩
  . exact⟨p,(ZgG (Zgd (ys:=[]) rfl ZbL)).trans (by rw[Oy,List.sum_nil,Int.natCast_zero,Int.add_zero])⟩
  . rw[List.concat_eq_append,List.map_append,List.sum_append]at h1 h2;rw[List.concat_eq_append,List.map_append];have e1:=Zol t;have e2:=ZrP t;have e3:=Zj0 V;have e4:t.parts.length<=3:=by cases t<;>simp[T.parts]
    simp only[Op,Oy,OI,List.sum_nil]at h1 h2;obtain⟨p',e⟩:=Zmj H (h:=h) (E:=E) n fuel (V++inn t) (c+one t) (Ws t.d) (by rw[List.map_append,List.sum_append];lia) (by rw[List.map_append,List.sum_append];lia);rw[List.map_append]at e;refine⟨p',(Ze1 (Zh (Zgd rfl ZbL) (by simp)) ((Za (Zs (Zdz rfl ZbL rfl Zxo))).trans ((Za (ZwB rfl (Zwm t _ _ _ _))).trans (Za (h1:=h++[.lst (V.map T.d++(inn t).map T.d)]) ?_)))).trans (e.trans ?_)⟩
    . have rb:=ZgK H n t (h++[.lst (V.map T.d)]);unfold inn;cases hb:bnd t with
      |nil=>rw[hb]at rb;rw[if_pos rfl];exact(Zj (Zfx rb rfl rfl)).trans ((Za (ZU (Zdz rfl ZbL (Zc (Zu (ZgJ H n t _) rfl) rfl) (Zxv (by rw[YC,Yt,Yt];lia))))).trans rfl)
      |cons y ys=>rw[hb]at rb;rw[if_neg (by simp),Oy,Ys];exact(Zf (Zfx rb rfl rfl)).trans rfl
    . rw[show c+one t+(((V++inn t).map cnt).sum:Int)=c+((V++[t]).map cnt).sum by simp;lia]
def ZlZ(H:Cod P)(n:Nat)(t:T)(h:Hd)(hz:t.size<=1000):run P (n+2) (O "count_rows") [t.d] h=.ok (.int (cnt t)) (h++[.lst []]):=by rw[Zg H.count_rows rfl];obtain⟨p',e⟩:=Zmj H (h:=h) (E:=t.d) n P.L [t] 0 Wu (by have:=H.big;simp;lia) (by simp;lia);rw[show(0+(([t].map cnt).sum:Nat):Int)=cnt t by simp]at e;have w:xs2 (P.tbl (n+1)) ZfG [Ws t.d,Wu,Wu,Wu] h=.ok (.rt (.int (cnt t)),_) (h++[.lst []]):=(Za (Zs rfl)).trans ((Za (Zs (ZhQ (xs:=[t.d]) rfl (by decide:1<=1000)))).trans ((Za (s:=.whl (.ex (.var 2)) ZjY) (T:=P.tbl (n+1)) e).trans (Zd (Zr rfl))));exact congrArg Ze w
end
set_option tactic.hygienic true
section
inductive Rw where
 |num (n:Int)|fetch (i:Nat)|close (k:Int) (ns:List Str)|work (w:Wd)|call|hop|unl (k:Int)|jmp (k:Int)|back|fin
noncomputable def Rw.d:Rw->D
 |.num n=>.tup [.str (O "num"),.int n]
 |.fetch i=>.tup [.str (O "fetch"),.int (i:Int)]
 |.close k ns=>.tup [.str (O "close"),.int k,.tup (ns.map .str)]
 |.work w=>.tup [.str (O "work"),.str w.s]
 |.call=>.tup [.str (O "call")]
 |.hop=>.tup [.str (O "hop")]
 |.unl k=>.tup [.str (O "unless"),.int k]
 |.jmp k=>.tup [.str (O "jump"),.int k]
 |.back=>.tup [.str (O "back")]
 |.fin=>.tup [.str (O "end")]
noncomputable def wd:Rw->String
 |.num _ => "num" |.fetch _ => "fetch" |.close _ _ => "close" |.work _ => "work" |.call => "call" |.hop => "hop" |.unl _ => "unless" |.jmp _ => "jump" |.back => "back" |.fin => "end"
def Zi6(r:Rw):∃ds,r.d=.tup (.str (Str.ofString (wd r))::ds):=by cases r<;>exact⟨_,rfl⟩
noncomputable def Rw.up(p:Int):Rw->Rw
 |.unl k=>.unl (p+k)
 |.jmp k=>.jmp (p+k)
 |r=>r
inductive It where
 |row (r:Rw)|part (t:T) (last:Bool)
noncomputable def It.d:It->D
 |.row r=>.tup [.str (O "row"),r.d]
 |.part t b=>.tup [.str (O "part"),t.d,.bl b]
noncomputable def its(last:Bool):T->List It
 |.call f a=>[.part f Ww,.part a Ww,.row (if last then .hop else .call)]
 |.op w a b=>[.part a Ww,.part b Ww,.row (.work w)]
 |.iff c t e=>[.part c Ww,.row (.unl (cnt t+2)),.part t last,.row (.jmp (cnt e+1)),.part e last]
 |_=>[]
structure Un where
 u:Nat
 r:Nat
 sc:List Str
 rows:List Rw
structure St(h0 h:Hd)(c us w:Nat)(U:List Un)(ws:List D):Prop where
 qc:h[c]? = Ws (.ins (O "Coder") [(O "units",.ref us),(O "waiting",.ref w)])
 qs:h[us]? = Ws (.lst (U.map λx=>.ref x.u))
 qw:h[w]? = Ws (.lst ws)
 qu:∀x∈U,h[x.u]? = Ws (.ins (O "Unit") [(O "around",.tup (x.sc.map .str)),(O "rows",.ref x.r)])
 qr:∀x∈U,h[x.r]? = Ws (.lst (x.rows.map Rw.d))
 nd:(U.map Un.r).Nodup
 d1:us≠w
 d2:∀x∈U,us≠x.r
 d3:∀x∈U,w≠x.r
 o1:h0.length<=us
 o2:h0.length<=w
 o3:∀x∈U,h0.length<=x.r
 ol:h0.length<=h.length
 old:∀i,i<h0.length->h[i]? = h0[i]?
variable {P:Pg}{h0 h:Hd}{c us w:Nat}{U A B_:List Un}{x:Un}{ws:List D}
def Z9(e:h[i]? = Ws o):i<h.length:=by
 rcases Nat.lt_or_ge i h.length with q|q
 . exact q
 . rw[List.getElem?_eq_none q]at e;cases e
def keep{i:Nat}{o:DO}{g:Hd}(e:h[i]? = Ws o):(h++g)[i]? = Ws o:=by rw[Oe (Z9 e)];exact e
def St.app(q:St h0 h c us w U ws){g:Hd}:St h0 (h++g) c us w U ws:=⟨keep q.qc,keep q.qs,keep q.qw,λx hx=>keep (q.qu x hx),λx hx=>keep (q.qr x hx),q.nd,q.d1,q.d2,q.d3,q.o1,q.o2,q.o3,by have:=q.ol;simp;lia,λi hi=>by rw[Oe (by have:=q.ol;lia)];exact q.old i hi⟩
def Zfd{i j:Nat}{C fs l}(e:h[i]? = Ws (.ins C fs))(e':h[j]? = Ws (.lst l)):j≠i:=by intro q;rw[q,e]at e';cases e'
def St.setW(q:St h0 h c us w U ws)(vs:List D):St h0 (h.set w (.lst vs)) c us w U vs:=by
 refine⟨?_,?_,?_,λx hx=>?_,λx hx=>?_,q.nd,q.d1,q.d2,q.d3,q.o1,q.o2,q.o3,by simpa using q.ol,λi hi=>by rw[Oc (by have:=q.o2;lia)];exact q.old i hi⟩
 . rw[Oc (Zfd q.qc q.qw)];exact q.qc
 . rw[Oc q.d1.symm];exact q.qs
 . rw[Ol (Z9 q.qw)]
 . rw[Oc (Zfd (q.qu x hx) q.qw)];exact q.qu x hx
 . rw[Oc (q.d3 x hx)];exact q.qr x hx
def St.setR(q:St h0 h c us w (A++x::B_) ws)(vs:List Rw):St h0 (h.set x.r (.lst (vs.map Rw.d))) c us w (A++{x with rows:=vs}::B_) ws:=by
 have hx:x∈A++x::B_:=by simp
 have hr:=q.qr x hx;have hn:=q.nd;rw[List.map_append,Op,List.nodup_append]at hn;obtain⟨n1,n2,n3⟩:=hn;rw[List.nodup_cons]at n2;have ne:∀y,y∈A\/y∈B_->x.r≠y.r:=by
  intro y hy e;rcases hy with hy|hy
  . exact n3 y.r (List.mem_map_of_mem hy) x.r (Oi) e.symm
  . exact n2.1 (e ▸ List.mem_map_of_mem hy)
 have mem:∀y,y∈A++{x with rows:=vs}::B_->y={x with rows:=vs}\/(y∈A\/y∈B_):=by
  intro y hy;rcases OD.mp hy with hy|hy
  . exact .inr (.inl hy)
  . rcases O3.mp hy with hy|hy
    . exact .inl hy
    . exact .inr (.inr hy)
 have old:∀y,y∈A\/y∈B_->y∈A++x::B_:=by intro y hy;rcases hy with hy|hy<;>simp[hy]
 refine⟨?_,?_,?_,λy hy=>?_,λy hy=>?_,?_,q.d1,λy hy=>?_,λy hy=>?_,q.o1,q.o2,λy hy=>?_,by simpa using q.ol,λi hi=>by rw[Oc (by have:=q.o3 x hx;lia)];exact q.old i hi⟩
 . rw[Oc (Zfd q.qc hr)];exact q.qc
 . rw[Oc (q.d2 x hx).symm];have:=q.qs;simpa using this
 . rw[Oc (q.d3 x hx).symm];exact q.qw
 . rcases mem y hy with rfl|hy
   . rw[Oc (Zfd (q.qu x hx) hr)];exact q.qu x hx
   . rw[Oc (Zfd (q.qu y (old y hy)) hr)];exact q.qu y (old y hy)
 . rcases mem y hy with rfl|hy
   . rw[Ol (Z9 hr)]
   . rw[Oc (ne y hy)];exact q.qr y (old y hy)
 . have:=q.nd;simpa using this
 . rcases mem y hy with rfl|hy
   . exact q.d2 x hx
   . exact q.d2 y (old y hy)
 . rcases mem y hy with rfl|hy
   . exact q.d3 x hx
   . exact q.d3 y (old y hy)
 . rcases mem y hy with rfl|hy
   . exact q.o3 x hx
   . exact q.o3 y (old y hy)
def St.more(q:St h0 h c us w U ws)(sc:List Str):St h0 (List.set (h++[.ins (O "Unit") [(O "around",.tup (sc.map .str)),(O "rows",.ref (h.length+1))],.lst []]) us (.lst ((U.map λx=>.ref x.u)++[.ref h.length]))) c us w (U++[⟨h.length,h.length+1,sc,[]⟩]) ws:=by
 have q1:=q.app (g:=[.ins (O "Unit") [(O "around",.tup (sc.map .str)),(O "rows",.ref (h.length+1))],.lst []]);have lu:=Z9 q.qs;have new:∀y,y∈U++[⟨h.length,h.length+1,sc,[]⟩]->y∈U\/y=⟨h.length,h.length+1,sc,[]⟩:=λy hy=>by simpa using hy
 refine⟨?_,?_,?_,λy hy=>?_,λy hy=>?_,?_,q.d1,λy hy=>?_,λy hy=>?_,q.o1,q.o2,λy hy=>?_,by have:=q.ol;simp;lia,λi hi=>by rw[Oc (by have:=q.o1;lia)];exact q1.old i hi⟩
 . rw[Oc (Zfd q1.qc q1.qs)];exact q1.qc
 . rw[Ol (by simp;lia)];simp
 . rw[Oc q.d1];exact q1.qw
 . rcases new y hy with hy|rfl
   . rw[Oc (Zfd (q1.qu y hy) q1.qs)];exact q1.qu y hy
   . rw[Oc (by simp only;lia)];simp
 . rcases new y hy with hy|rfl
   . rw[Oc (q.d2 y hy)];exact q1.qr y hy
   . rw[Oc (by simp only;lia)];simp
 . rw[List.map_append,List.nodup_append];refine⟨q.nd,by simp,λa ha b hb e=>?_⟩;obtain⟨y,hy,rfl⟩:=List.mem_map.mp ha;have:=Z9 (q.qr y hy);simp at hb
   lia
 . rcases new y hy with hy|rfl
   . exact q.d2 y hy
   . simp only;lia
 . rcases new y hy with hy|rfl
   . exact q.d3 y hy
   . have:=Z9 q.qw;simp only;lia
 . rcases new y hy with hy|rfl
   . exact q.o3 y hy
   . have:=q.ol;simp only;lia
end
set_option tactic.hygienic false
section
variable {P:Pg}{h0 h:Hd}{c us w:Nat}{U A B_:List Un}{x:Un}{ws:List D}
def Zsj{U:Tb}(q:ev U e S h=.ok (.int z) h1):ev U (.tupl (.cons (.cst (.str a)) (.cons (.tupl (.cons (.cst (.str b)) (.cons e .nil))) .nil))) S h=.ok (.tup [.str a,.tup [.str b,.int z]]) h1:=Zaw (xs:=[_,_]) (Zc rfl (Zc (Zaw (xs:=[_,_]) (Zc rfl (Zc q rfl)) (show 2<=1000 by decide)) rfl)) (show 2<=1000 by decide)
def Zow(H:Cod P)(n:Nat)(t:T)(last:Bool)(h:Hd)(hz:t.size<=1000)(ht:its last t≠[]):∃g,run P (n+3) (O "pieces_of") [t.d,.bl last] h=.ok (.ref (h++g).length) ((h++g)++[.lst ((its last t).map It.d)]):=by
 rw[Zg H.pieces_of rfl];cases t with
 |call f a=>exact⟨[],by rw[Ys];cases last<;>exact rfl⟩
 |op w a b=>refine⟨[],?_⟩;rw[Ys];exact congrArg Ze ((Za ((Zf (Zh (ZaM (x:=w.s) rfl rfl) (decide_eq_false ZlK.mp))).trans rfl)).trans ((Za ((Zf (Zh (ZaM (x:=w.s) rfl rfl) (decide_eq_false ZnX.mp))).trans rfl)).trans (Zd (Zr rfl))))
 |iff c t e=>rw[Zb]at hz;simp only[T.parts,Op,Oy,OI,List.sum_nil]at hz;refine⟨[.lst []]++[.lst []],?_⟩;rw[<- Oz];exact congrArg Ze ((Za ((Zf rfl).trans rfl)).trans (Zd ((Zj rfl).trans (Zd (Zr (ZhQ (xs:=[_,_,_,_,_]) (Zc rfl (Zc (Zsj ((Zi (Zu (ZlZ H n t h (by lia)) rfl) rfl).trans rfl)) (Zc rfl (Zc (Zsj ((Zi (Zu (ZlZ H n e _ (by lia)) rfl) rfl).trans rfl)) (Zc rfl rfl))))) (show 5<=1000 by decide)))))))
 |_=>exact absurd rfl ht
def Zrx{GD:Str->Option (List (Key×D))}{h:Hd}{x:String}:opC GD .In (.str (Str.ofString x)) (.tup [.str (O "unless"),.str (O "jump")]) h=.ok (.bl (Wx (x = "unless" \/ x = "jump"))) h:=by have:=@ZbU GD h [O "unless",O "jump"] (Str.ofString x);simpa using this
def Zoc(H:Cod P)(n:Nat)(r:Rw)(p:ev (P.tbl n) e S h=.ok r.d h):tst (P.tbl n) (.ex (.cmp .In (.ix e (.ci 0)) (.glo (O "LEADING")))) S h=.ok (Wx (wd r = "unless" \/ wd r = "jump")) h:=by obtain⟨ds,ed⟩:=Zi6 r;rw[ed]at p;exact Zcy ((Zw (ZeR p) (by rw[Zhr,show(P.tbl n).G _=_ from H.gl];rfl)).trans Zrx)
def Zl1(H:Cod P)(n:Nat)(q:St h0 h c us w U ws)(hx:x∈U)(rw':Rw)(hz:x.rows.length<=100000):
 run P (n+1) (mnm (O "Unit") (O "add_row")) [.ref x.u,rw'.d] h=.ok .non (h.set x.r (.lst ((x.rows++[rw'.up x.rows.length]).map Rw.d))):=by
 rw[Zy H.n_Unit_add_row H.Unit_add_row rfl,List.map_append];have qr:=q.qr x hx;have ea:∀d,ev (P.tbl n) (.att [O "Unit"] (.var 0) (O "rows")) [Ws (.ref x.u),d] h=.ok (.ref x.r) h:=λd=>ZeZ rfl (q.qu x hx) rfl;have app:∀{e o d},ev (P.tbl n) e [Ws (.ref x.u),o] h=.ok d h->xs2 (P.tbl n) (.cons (.drp (.meth .app (.att [O "Unit"] (.var 0) (O "rows")) (.cons e .nil))) .nil) [Ws (.ref x.u),o] h=.ok (.nx,[Ws (.ref x.u),o]) (h.set x.r (.lst (x.rows.map Rw.d++[d]))):=λp=>(Za (ZU (Zdz (ea _) qr (Zc p rfl) (ZaT qr (by rw[Yt,YC];lia))))).trans rfl;have t:=Zoc H n (e:=.var 1) (S:=[Ws (.ref x.u),Ws rw'.d]) (h:=h) rw' rfl;have two:∀{s:Str}{z:Int},ev (P.tbl n) (.tupl (.cons (.ix (.var 1) (.ci 0)) (.cons (.bin .Add (.blt .len (.cons (.att [O "Unit"] (.var 0) (O "rows")) .nil)) (.ix (.var 1) (.ci 1))) .nil))) [Ws (.ref x.u),Ws (.tup [.str s,.int z])] h=.ok (.tup [.str s,.int (x.rows.length+z)]) h:=λ{s z}=>Zaw (Zc (ZeR rfl) (Zc ((Zi (Zhs (Zc (ea _) rfl) (Zgh qr)) (y:=.int z) rfl).trans (by rw[Yt];rfl)) rfl)) (show 2<=1000 by decide)
 have go:wd rw' ≠ "unless" -> wd rw' ≠ "jump" -> rw'.up x.rows.length=rw'->Ze (xs2 (P.tbl n) ZaU.body (ZF ZaU.N [.ref x.u,rw'.d]) h)=.ok .non (h.set x.r (.lst (x.rows.map Rw.d++[rw'.up x.rows.length].map Rw.d))):=λw1 w2 e=>by rw[e];exact congrArg Ze ((Za ((Zf (Zh t (decide_eq_false λz=>z.elim w1 w2))).trans (app rfl))).trans rfl)
 cases rw' with
 |unl k=>exact congrArg Ze ((Za ((Zj (Zh t (decide_eq_true (.inl rfl)))).trans (app two))).trans rfl)
 |jmp k=>exact congrArg Ze ((Za ((Zj (Zh t (decide_eq_true (.inr rfl)))).trans (app two))).trans rfl)
 |_=>exact go (by simp[wd]) (by simp[wd]) rfl
theorem Zpk{U:Tb}{u k:Nat}{ps:List D}(e:h[k]? = Ws (.lst ps)):∀(ds acc:List D),acc.length+ds.length<=1000 ->
 Z0 (Ws (k,ps)) (.nm 0) (tsto U Wu) (ev U (.tupl (.cons (.var 1) (.cons (.var 0) .nil)))) ds [Wu,Ws (.ref u)] acc h=.ok (acc++ds.map λd=>.tup [.ref u,d]) h
 |[],acc,hz=>by simp[Z0,Wk.stays,e]
 |d::ds,acc,hz=>by
  have ih:=Zpk (U:=U) (u:=u) e ds (acc++[.tup [.ref u,d]]) (by simp at hz ⊢;lia);have hz2:acc.length<16777216:=by simp at hz;lia
  rw[Zaj];simp[Wk.stays,e,hz2,YC];simpa using ih
def Zuk{U:Tb}(p:ev U e S h=.ok (.ref i) h1)(l:h1[i]? = Ws (.lst ys)):evi U (.rev e) S h=.ok ⟨Ws (i,ys),ys.reverse⟩ h1:=by rw[ZrH,p,Zt];simp only[ZnY,l];rfl
def Zst(e:h[i]? = Ws (.lst ys))(l:h[j]? = Ws (.lst zs))(hz:ys.length+zs.length<=sizeLine):Zck .ext (.ref i) [.ref j] h=.ok .non (h.set i (.lst (ys++zs))):=by simp only[Zck,e,ZhO,Zrl,l];rw[if_pos hz]
def Zou(H:Cod P)(n:Nat)(q:St h0 h c us w U ws){u k:Nat}{ps:List D}(e:h[k]? = Ws (.lst ps))(hp:ps.length<=1000)(hz:ws.length<=100000):
 run P (n+1) (mnm (O "Coder") (O "wait_for")) [.ref c,.ref u,.ref k] h=.ok .non (List.set (h++[DO.lst (ps.reverse.map λd=>.tup [.ref u,d])]) w (.lst (ws++ps.reverse.map λd=>.tup [.ref u,d]))):=by
 rw[Zy H.n_Coder_wait_for H.Coder_wait_for rfl];have ec:=Zpk (U:=P.tbl n) (u:=u) e ps.reverse [] (by simp;lia);exact congrArg Ze ((Za (ZU (Zdz (ZeZ rfl q.qc rfl) q.qw (Zc (Zmy (Zuk rfl e) ec) rfl) (Zst (keep q.qw) ZbL (by rw[YC];simp;lia))))).trans rfl)
def Zs4(H:Cod P)(n:Nat)(sc:List Str):Zgv (run P (n+1)) (O "Unit") [.tup (sc.map .str)] h=.ok (.ref h.length) (h++[.ins (O "Unit") [(O "around",.tup (sc.map .str)),(O "rows",.ref (h.length+1))],.lst []]):=by unfold Zgv;rw[Zy H.n_Unit___init__ H.Unit___init__ (by rfl)];generalize sc.map D.str=ds;simp[ZaB,Zdw,ZF,ZfN,Zg0,YC]
def ZtR{U:Tb}(p:evs U es S h=.ok xs h1)(q:Zgv U.C C xs h1=r):ev U (.mk C es) S h=r:=by rw[Zsu,p];exact q
noncomputable def Zdx(u:Nat)(is:List It):List D:=(is.map λi=>D.tup [.ref u,i.d]).reverse
def Zl0(H:Cod P)(n:Nat)(q:St h0 h c us w U ws)(t:T)(sc:List Str)(fn:Bool)(hU:U.length<=100000)(hw:ws.length<=100000):
 ∃h' y,run P (n+2) (mnm (O "Coder") (O "begin_unit")) [.ref c,t.d,.tup (sc.map .str),.str (Str.ofString (if fn then "back" else "end"))] h=.ok .non h'
  /\ y.sc=sc/\y.rows=[]/\St h0 h' c us w (U++[y]) (ws++Zdx y.u [.part t fn,.row (if fn then .back else .fin)]):=by
 rw[Zy H.n_Coder_begin_unit H.Coder_begin_unit rfl];have qa:=q.app (g:=[.ins (O "Unit") [(O "around",.tup (sc.map .str)),(O "rows",.ref (h.length+1))],.lst []]);have x2:=ZaT (d:=.ref h.length) qa.qs (by rw[YC];simp;lia);have q1:=q.more sc;generalize hh:List.set (h++[.ins (O "Unit") [(O "around",.tup (sc.map .str)),(O "rows",.ref (h.length+1))],.lst []]) us (.lst ((U.map λx=>.ref x.u)++[.ref h.length]))=h1 at q1 x2;have q2:=q1.app (g:=[.lst ([It.part t fn,.row (if fn then .back else .fin)].map It.d)]);have ew:=Zou H n q2 (u:=h.length) (k:=h1.length) (ps:=[It.part t fn,.row (if fn then .back else .fin)].map It.d) ZbL (show 2<=1000 by decide) hw;refine⟨_,⟨h.length,h.length+1,sc,[]⟩,?_,rfl,rfl,(q2.app (g:=[.lst (([It.part t fn,.row (if fn then .back else .fin)].map It.d).reverse.map λd=>D.tup [.ref h.length,d])])).setW (ws++([It.part t fn,.row (if fn then .back else .fin)].map It.d).reverse.map λd=>D.tup [.ref h.length,d])⟩;exact congrArg Ze ((Za (Zs (ZtR rfl (Zs4 H n sc)))).trans ((Za (ZU (Zdz (ZeZ rfl qa.qc rfl) qa.qs rfl x2))).trans ((Za (ZU (ZB rfl q1.qc rfl (Zc rfl (Zc (ZhQ (xs:=[_,_]) (by cases fn<;>exact rfl) (show 2<=1000 by decide)) rfl)) ew))).trans rfl)))
end
set_option tactic.hygienic true
section
variable {P:Pg}{h0 h:Hd}{c us w:Nat}{U A B_:List Un}{x:Un}{ws:List D}
theorem ZfR:∀{sc:List Str},y∈sc->∃i,Tx.place y sc=Ws i/\i<sc.length
 |[],h=>by cases h
 |z::r,h=>by
  unfold Tx.place;by_cases e:z=y
  . exact⟨0,by rw[if_pos e],by simp⟩
  . rw[if_neg e];have:y∈r:=by
     rcases O3.mp h with q|q
     . exact absurd q.symm e
     . exact q
    obtain⟨i,e1,e2⟩:=ZfR this;exact⟨i+1,by rw[e1];rfl,by simp;lia⟩
def Zqn(ss:List Str):strsOf (ss.map D.str)=Ws ss:=by
 induction ss with
 |nil=>rfl
 |cons s r ih=>simp[strsOf,ih]
def Zte(H:Cod P)(n:Nat)(q:St h0 h c us w (A++x::B_) ws)(t e:T)(hp:t.parts=[e])(hb:bnd t≠[])(hx:x.rows.length<=100000)(hU:(A++x::B_).length<=90000)(hw:ws.length<=100000)(hs:x.sc.length<=100000):
 ∃h' y,run P (n+3) (mnm (O "Coder") (O "begin_function")) [.ref c,.ref x.u,t.d] h=.ok .non h'/\y.sc=(bnd t).reverse++x.sc/\y.rows=[]
  /\ St h0 h' c us w ((A++{x with rows:=x.rows++[.close (A++x::B_).length (bnd t).reverse]}::B_)++[y]) (ws++Zdx y.u [.part e Wv,.row .back]):=by
 rw[Zy H.n_Coder_begin_function H.Coder_begin_function rfl];have hxm:x∈A++x::B_:=by simp
 have ea:=Zl1 H (n+1) q hxm (.close (A++x::B_).length (bnd t).reverse) hx;have q1:=q.setR (x.rows++[.close (A++x::B_).length (bnd t).reverse]);simp only[Rw.up]at ea;generalize h.set x.r (.lst ((x.rows++[Rw.close (A++x::B_).length (bnd t).reverse]).map Rw.d))=h1 at ea q1;have ep:=ZgJ H (n+1) t h1;rw[hp]at ep;obtain⟨h',y,e3,y1,y2,q3⟩:=Zl0 H n q1 e ((bnd t).reverse++x.sc) Wv (by simp at hU ⊢;lia) hw;refine⟨h',y,?_,y1,y2,q3⟩;have htr:Zp3 (.tup ((bnd t).map .str)) h=.ok (.tup ((bnd t).reverse.map .str)) h:=by
  cases hbb:bnd t with
  |nil=>exact absurd hbb hb
  |cons b r=>rw[List.map_reverse];rfl
 have ht2:opB .Add (.tup ((bnd t).reverse.map .str)) (.tup (x.sc.map .str)) h1=.ok (.tup (((bnd t).reverse++x.sc).map .str)) h1:=by
  have bl:(bnd t).length<=2:=by cases t<;>simp[bnd]
  rw[ZbV (by rw[YC];simp;lia),List.map_append]
 exact congrArg Ze ((Za (Zs (by rw[ZrK,Zu (ZgK H (n+1) t h) rfl];exact htr))).trans ((Za (ZU (ZB rfl (q.qu x hxm) rfl (Zc (Zaw (xs:=[_,_,_]) (Zc rfl (Zc ((Zhs (Zc (ZeZ rfl q.qc rfl) rfl) (Zgh q.qs)).trans (by rw[Yt])) rfl)) (show 3<=1000 by decide)) rfl) ea))).trans ((Za (ZU (ZB rfl q1.qc rfl (Zc ((Zl (Zu ep rfl) rfl).trans rfl) (Zc ((Zi rfl (ZeZ rfl (q1.qu {x with rows:=x.rows++[.close (A++x::B_).length (bnd t).reverse]} (by simp)) rfl)).trans ht2) rfl)) e3))).trans rfl)))
end
set_option tactic.hygienic false
section
variable {P:Pg}{h0 h:Hd}{c us w:Nat}{U A B_:List Un}{x:Un}{ws:List D}
noncomputable def leaf(sc:List Str):T->Option Rw
 |.num n=>Ws (.num n)
 |.name y=>(Tx.place y sc).map .fetch
 |_=>Wu
def Zs8(H:Cod P)(n:Nat)(q:St h0 h c us w (A++x::B_) ws)(t:T)(last:Bool)(hr:leaf x.sc t=Ws r)(hx:x.rows.length<=100000):
 ∃h',run P (n+4) (mnm (O "Coder") (O "do_part")) [.ref c,.ref x.u,t.d,.bl last] h=.ok .non h'/\St h0 h' c us w (A++{x with rows:=x.rows++[r]}::B_) ws:=by
 rw[Zy H.n_Coder_do_part H.Coder_do_part rfl];have hxm:x∈A++x::B_:=by simp
 have hu:=q.qu x hxm;cases t with
 |num m=>cases hr;exact⟨_,congrArg Ze ((Za ((Zj rfl).trans ((Za (ZU (ZB rfl hu rfl rfl (Zl1 H (n+2) q hxm (.num m) hx)))).trans rfl))).trans rfl),q.setR _⟩
 |name y=>
  obtain⟨i,e1,rfl⟩:=Oo.mp hr;have ei:ZnK (.tup (x.sc.map .str)) (.str y) h=.ok (.int (i:Int)) h:=by unfold ZnK;simp only[Zqn,e1];rfl
  refine⟨_,congrArg Ze ((Za ((Zf rfl).trans ((Za ((Zj rfl).trans ((Za (ZU (ZB rfl hu rfl (Zc (Zaw (xs:=[_,_]) (Zc rfl (Zc (by rw[Zul,ZeZ rfl hu rfl];exact ei) rfl)) (show 2<=1000 by decide)) rfl) (Zl1 H (n+2) q hxm (.fetch i) hx)))).trans rfl))).trans rfl))).trans rfl),q.setR _⟩
 |_=>cases hr
def Zoy(H:Cod P)(n:Nat)(q:St h0 h c us w (A++x::B_) ws)(t e:T)(last:Bool)(hp:t.parts=[e])(hb:bnd t≠[])(hx:x.rows.length<=100000)(hU:(A++x::B_).length<=90000)(hw:ws.length<=100000)(hs:x.sc.length<=100000):
 ∃h' y,run P (n+4) (mnm (O "Coder") (O "do_part")) [.ref c,.ref x.u,t.d,.bl last] h=.ok .non h'/\y.sc=(bnd t).reverse++x.sc/\y.rows=[]
  /\ St h0 h' c us w ((A++{x with rows:=x.rows++[.close (A++x::B_).length (bnd t).reverse]}::B_)++[y]) (ws++Zdx y.u [.part e Wv,.row .back]):=by
 rw[Zy H.n_Coder_do_part H.Coder_do_part (by rfl)];obtain⟨h',y,e1,y1,y2,q1⟩:=Zte H n q t e hp hb hx hU hw hs;refine⟨h',y,?_,y1,y2,q1⟩;have ha:∀(w:Str) (ds:List D),t.d=.tup (.str w::ds)->w≠O "num" -> w≠O "name" -> Ze (xs2 (P.tbl (n+3)) ZbO [Ws (.ref c),Ws (.ref x.u),Ws t.d,Ws (.bl last)] h)=.ok .non h':=λw ds ed n1 n2=>by
  have eb:=ZgK H (n+2) t h;cases hb':bnd t with
  |nil=>exact absurd hb' hb
  |cons b r=>rw[hb']at eb;rw[ed]at e1 eb ⊢;exact congrArg Ze ((Za ((Zf (Zh (ZaM (ZeR rfl) rfl) (decide_eq_false n1))).trans ((Za ((Zf (Zh (ZaM (ZeR rfl) rfl) (decide_eq_false n2))).trans ((Za ((Zj (Zfx eb rfl rfl)).trans ((Za (ZU (ZB rfl q.qc rfl rfl e1))).trans rfl))).trans rfl))).trans rfl))).trans rfl)
 cases t with
 |fn a b=>exact ha _ _ rfl (by decide) (by decide)
 |rcc f a b=>exact ha _ _ rfl (by decide) (by decide)
 |_=>exact absurd rfl hb
def Zs7(H:Cod P)(n:Nat)(q:St h0 h c us w (A++x::B_) ws)(t:T)(last:Bool)(ht:its last t≠[])(hz:t.size<=1000)(hw:ws.length<=100000):
 ∃h',run P (n+4) (mnm (O "Coder") (O "do_part")) [.ref c,.ref x.u,t.d,.bl last] h=.ok .non h'/\St h0 h' c us w (A++x::B_) (ws++Zdx x.u (its last t)):=by
 rw[Zy H.n_Coder_do_part H.Coder_do_part (by rfl)];obtain⟨g,e1⟩:=Zow H n t last h hz ht;have q2:St h0 (h++g++[.lst ((its last t).map It.d)]) c us w (A++x::B_) ws:=q.app.app;have hl:(its last t).length<=5:=by cases t<;>simp[its]
 have e2:=Zou H (n+2) q2 (u:=x.u) (k:=(h++g).length) (ps:=(its last t).map It.d) ZbL (by simp;lia) hw;have q3:=(q2.app (g:=[.lst (((its last t).map It.d).reverse.map λd=>.tup [.ref x.u,d])])).setW (ws++((its last t).map It.d).reverse.map λd=>.tup [.ref x.u,d]);generalize (List.set (h++g++[.lst ((its last t).map It.d)]++[DO.lst (((its last t).map It.d).reverse.map λd=>.tup [.ref x.u,d])]) w (.lst (ws++((its last t).map It.d).reverse.map λd=>.tup [.ref x.u,d])))=h2 at e2 q3;rw[show((its last t).map It.d).reverse.map (λd=>D.tup [.ref x.u,d])=Zdx x.u (its last t) by simp[Zdx,List.map_reverse,Function.comp_def]]at q3;refine⟨h2,?_,q3⟩;have ha:∀(w:Str) (ds:List D),t.d=.tup (.str w::ds)->w≠O "num" -> w≠O "name" -> bnd t=[]->Ze (xs2 (P.tbl (n+3)) ZbO [Ws (.ref c),Ws (.ref x.u),Ws t.d,Ws (.bl last)] h)=.ok .non h2:=λw ds ed n1 n2 hb=>by have eb:=ZgK H (n+2) t h;rw[hb]at eb;rw[ed]at e1 eb ⊢;exact congrArg Ze ((Za ((Zf (Zh (ZaM (ZeR rfl) rfl) (decide_eq_false n1))).trans ((Za ((Zf (Zh (ZaM (ZeR rfl) rfl) (decide_eq_false n2))).trans ((Za ((Zf (Zfx eb rfl rfl)).trans ((Za (ZU (ZB rfl q.qc rfl (Zc rfl (Zc (Zu e1 rfl) rfl)) e2))).trans rfl))).trans rfl))).trans rfl))).trans rfl)
 cases t with
 |call f a=>exact ha _ _ rfl (by decide) (by decide) rfl
 |op wd a b=>exact ha _ _ rfl ZnW.mp ZlJ.mp rfl
 |iff a b d=>exact ha _ _ rfl (by decide) (by decide) rfl
 |_=>exact absurd rfl ht
def Zpf:Sxs:=(.c (.set (.nm 1) (.meth .pop (.att [(O "Coder")] (.v 0) (O "waiting")) .n)) (.c (.set (.nm 2) (.ix (.v 1) (.ci 1))) (.c (.iff (.ex (.cmp .Eq (.ix (.v 2) (.ci 0)) (.Ci_ "row"))) (.c (.drp (.mcl (O "Unit") (O "add_row") (.ix (.v 1) (.ci 0)) (.c (.ix (.v 2) (.ci 1)) .n))) .n) (.c (.drp (.mcl (O "Coder") (O "do_part") (.v 0) (.c (.ix (.v 1) (.ci 0)) (.c (.ix (.v 2) (.ci 1)) (.c (.ix (.v 2) (.ci 2)) .n))))) .n)) .n)))
noncomputable def loop(P:Pg)(n c fuel:Nat)(pr pc:Option D)(h:Hd):R (Fl×Ev):=Zag (tst ⟨P.G,P.GD,run P (n+4),P.L⟩ (.ex (.att [(O "Coder")] (.var 0) (O "waiting")))) (xs2 ⟨P.G,P.GD,run P (n+4),P.L⟩ Zpf) fuel [Ws (.ref c),pr,pc] h
inductive Sr(h0:Hd)(P:Pg)(n c us w:Nat)(A B_:List Un)(x:Un)(rr:Rw)(ws:List D)(h:Hd)(fuel:Nat)(pr pc:Option D):Prop
 |mk (h':Hd) (pr' pc':Option D) (e:loop P n c (fuel+1) pr pc h=loop P n c fuel pr' pc' h') (q:St h0 h' c us w (A++{x with rows:=x.rows++[rr.up x.rows.length]}::B_) ws)
def s_row(H:Cod P)(n fuel:Nat)(q:St h0 h c us w (A++x::B_) (ws++[.tup [.ref x.u,(It.row rr).d]]))(hx:x.rows.length<=100000)(pr pc:Option D):
 Sr h0 P n c us w A B_ x rr ws h fuel pr pc:=by
 have hxm:x∈A++x::B_:=by simp
 have q1:=q.setW ws;have hpop:=ZcV (h:=h) (i:=w) q.qw;generalize h.set w (.lst ws)=hp at q1 hpop;exact⟨_,Ws (.tup [.ref x.u,(It.row rr).d]),Ws (It.row rr).d,Ze1 (Zh (Zgd (ZeZ rfl q.qc rfl) q.qw) (by simp)) ((Za (Zs (Zdz (ZeZ rfl q.qc rfl) q.qw rfl hpop))).trans ((Za (Zs rfl)).trans ((Za ((Zj rfl).trans ((Za (ZU (ZB rfl (q1.qu x hxm) rfl rfl (Zl1 H (n+3) q1 hxm rr hx)))).trans rfl))).trans rfl))),q1.setR _⟩
def ZkS(H:Cod P)(n fuel:Nat)(t:T)(last:Bool)(q:St h0 h c us w (A++x::B_) (ws++[.tup [.ref x.u,(It.part t last).d]]))(pr pc:Option D):
 ∃hp,St h0 hp c us w (A++x::B_) ws/\∀h',run P (n+4) (mnm (O "Coder") (O "do_part")) [.ref c,.ref x.u,t.d,.bl last] hp=.ok .non h'->∃pr' pc',loop P n c (fuel+1) pr pc h=loop P n c fuel pr' pc' h':=by
 have q1:=q.setW ws;have hpop:=ZcV (h:=h) (i:=w) q.qw;generalize h.set w (.lst ws)=hp at q1 hpop;exact⟨hp,q1,λh' e=>⟨Ws (.tup [.ref x.u,(It.part t last).d]),Ws (It.part t last).d,Ze1 (Zh (Zgd (ZeZ rfl q.qc rfl) q.qw) (by simp)) ((Za (Zs (Zdz (ZeZ rfl q.qc rfl) q.qw rfl hpop))).trans ((Za (Zs rfl)).trans ((Za ((Zf rfl).trans ((Za (ZU (ZB rfl q1.qc rfl rfl e))).trans rfl))).trans rfl)))⟩⟩
end
section
noncomputable def comp:T->List Str->Bool->Nat->Nat->List Rw×List (List Rw)
 |.num n,_,_,_,_=>([.num n],[])
 |.name y,sc,_,_,_=>([.fetch ((Tx.place y sc).getD 0)],[])
 |.fn y e,sc,_,_,k=>([.close k [y]],((comp e (y::sc) Wv 0 (k+1)).1++[.back])::(comp e (y::sc) Wv 0 (k+1)).2)
 |.rcc f y e,sc,_,_,k=>([.close k [y,f]],((comp e (y::f::sc) Wv 0 (k+1)).1++[.back])::(comp e (y::f::sc) Wv 0 (k+1)).2)
 |.call f a,sc,l,p,k=>
  ((comp f sc Ww p k).1++((comp a sc Ww (p+cnt f) (k+(comp f sc Ww p k).2.length)).1++[if l then .hop else .call]),
   (comp f sc Ww p k).2++(comp a sc Ww (p+cnt f) (k+(comp f sc Ww p k).2.length)).2)
 |.op w f a,sc,_,p,k=>
  ((comp f sc Ww p k).1++((comp a sc Ww (p+cnt f) (k+(comp f sc Ww p k).2.length)).1++[.work w]),
   (comp f sc Ww p k).2++(comp a sc Ww (p+cnt f) (k+(comp f sc Ww p k).2.length)).2)
 |.iff c t e,sc,l,p,k=>
  ((comp c sc Ww p k).1++(.unl ((p+cnt c+1+cnt t+1:Nat):Int)::((comp t sc l (p+cnt c+1) (k+(comp c sc Ww p k).2.length)).1 ++
   (.jmp ((p+cnt c+1+cnt t+1+cnt e:Nat):Int)::(comp e sc l (p+cnt c+1+cnt t+1) (k+(comp c sc Ww p k).2.length+(comp t sc l (p+cnt c+1) (k+(comp c sc Ww p k).2.length)).2.length)).1))),
   (comp c sc Ww p k).2++((comp t sc l (p+cnt c+1) (k+(comp c sc Ww p k).2.length)).2 ++
    (comp e sc l (p+cnt c+1+cnt t+1) (k+(comp c sc Ww p k).2.length+(comp t sc l (p+cnt c+1) (k+(comp c sc Ww p k).2.length)).2.length)).2))
theorem Zz:∀(t:T) (sc:List Str) (l:Bool) (p k:Nat),(comp t sc l p k).1.length=cnt t
 |.num _,_,_,_,_=>rfl
 |.name _,_,_,_,_=>rfl
 |.fn _ _,_,_,_,_=>rfl
 |.rcc _ _ _,_,_,_,_=>rfl
 |.call f a,sc,l,p,k=>by simp[comp,Zz f,Zz a,cnt];lia
 |.op w f a,sc,l,p,k=>by simp[comp,Zz f,Zz a,cnt];lia
 |.iff c t e,sc,l,p,k=>by simp[comp,Zz c,Zz t,Zz e,cnt];lia
noncomputable def cost:T->Nat
 |.num _=>1
 |.name _=>1
 |.fn _ e=>cost e+2
 |.rcc _ _ e=>cost e+2
 |.call f a=>cost f+cost a+2
 |.op _ f a=>cost f+cost a+2
 |.iff c t e=>cost c+cost t+cost e+3
theorem ZcB:∀t:T,cnt t<=2 * t.size
 |.num _=>by simp[cnt,T.size,T.places]
 |.name _=>by simp[cnt,T.size,T.places]
 |.fn _ e=>by rw[Zb];simp[cnt,T.parts];lia
 |.rcc _ _ e=>by rw[Zb];simp[cnt,T.parts];lia
 |.call f a=>by have:=ZcB f;have:=ZcB a;rw[Zb];simp[cnt,T.parts];lia
 |.op _ f a=>by have:=ZcB f;have:=ZcB a;rw[Zb];simp[cnt,T.parts];lia
 |.iff c t e=>by have:=ZcB c;have:=ZcB t;have:=ZcB e;rw[Zb];simp[cnt,T.parts];lia
theorem units_le:∀(t:T) (sc:List Str) (l:Bool) (p k:Nat),(comp t sc l p k).2.length+1<=t.size
 |.num _,_,_,_,_=>by simp[comp,T.size,T.places]
 |.name _,_,_,_,_=>by simp[comp,T.size,T.places]
 |.fn y e,sc,l,p,k=>by have:=units_le e (y::sc) Wv 0 (k+1);rw[Zb];simp[comp,T.parts];lia
 |.rcc f y e,sc,l,p,k=>by have:=units_le e (y::f::sc) Wv 0 (k+1);rw[Zb];simp[comp,T.parts];lia
 |.call f a,sc,l,p,k=>by have:=units_le f sc Ww p k;have:=units_le a sc Ww (p+cnt f) (k+(comp f sc Ww p k).2.length);rw[Zb];simp[comp,T.parts];lia
 |.op w f a,sc,l,p,k=>by have:=units_le f sc Ww p k;have:=units_le a sc Ww (p+cnt f) (k+(comp f sc Ww p k).2.length);rw[Zb];simp[comp,T.parts];lia
 |.iff c t e,sc,l,p,k=>by
  have:=units_le c sc Ww p k;have:=units_le t sc l (p+cnt c+1) (k+(comp c sc Ww p k).2.length);have:=units_le e sc l (p+cnt c+1+cnt t+1) (k+(comp c sc Ww p k).2.length+(comp t sc l (p+cnt c+1) (k+(comp c sc Ww p k).2.length)).2.length);rw[Zb];simp[comp,T.parts]
  lia
variable {P:Pg}{h0:Hd}{c us w:Nat}
structure Ri(m:Nat)(A B_:List Un)(x:Un)(ws:List D):Prop where
 z:m<=2000
 r:x.rows.length+m<=50000
 u:2 * (A++x::B_).length+m<=100000
 w:2 * ws.length+5 * m<=100000
 s:x.sc.length+m<=50000
noncomputable abbrev Rm(t:T):=Ri (2 * t.size)
inductive Dn(h0:Hd)(P:Pg)(n c us w:Nat)(t:T)(last:Bool)(A B_:List Un)(x:Un)(ws:List D)(h:Hd)(fuel:Nat)(pr pc:Option D):Prop
 |mk (h':Hd) (pr' pc':Option D) (N:List Un) (e:loop P n c (fuel+cost t) pr pc h=loop P n c fuel pr' pc' h') (m:N.map Un.rows=(comp t x.sc last x.rows.length (A++x::B_).length).2)
  (q:St h0 h' c us w (A++{x with rows:=x.rows++(comp t x.sc last x.rows.length (A++x::B_).length).1}::(B_++N)) ws)
def Done(h0:Hd)(P:Pg)(n c us w:Nat)(t:T)(last:Bool)(A B_:List Un)(x:Un)(ws:List D)(h:Hd):Prop:=∀fuel pr pc,Dn h0 P n c us w t last A B_ x ws h fuel pr pc
def Zin(H:Cod P)(n:Nat)(t:T)(last:Bool)(rm:Rm t A B_ x ws)(hr:leaf x.sc t=Ws r)(hc:(comp t x.sc last x.rows.length (A++x::B_).length)=([r],[]))(h1:cost t=1)
 (q:St h0 h c us w (A++x::B_) (ws++[.tup [.ref x.u,(It.part t last).d]])):Done h0 P n c us w t last A B_ x ws h:=by
 intro fuel pr pc;have hr1:=rm.r;obtain⟨hp,q1,k⟩:=ZkS H n fuel t last q pr pc;obtain⟨h',e1,q2⟩:=Zs8 H n q1 t last hr (by lia);obtain⟨pr',pc',e2⟩:=k h' e1;refine⟨h',pr',pc',[],by rw[h1];exact e2,by rw[hc];rfl,?_⟩;rw[hc];simpa using q2
end
section
variable {P:Pg}{h0:Hd}{c us w:Nat}
def map_len{N:List Un}(e:N.map Un.rows=l):N.length=l.length:=by rw[<- e];simp
def Zki(H:Cod P)(n:Nat)(t e:T)(last:Bool)(rm:Rm t A B_ x ws)(hp:t.parts=[e])(hb:bnd t≠[])(hcost:cost t=cost e+2)
 (hc:comp t x.sc last x.rows.length (A++x::B_).length=([.close (A++x::B_).length (bnd t).reverse],((comp e ((bnd t).reverse++x.sc) Wv 0 ((A++x::B_).length+1)).1++[.back])::(comp e ((bnd t).reverse++x.sc) Wv 0 ((A++x::B_).length+1)).2))
 (ih:∀(A' B':List Un) (x':Un) (ws':List D) (h':Hd),x'.sc=(bnd t).reverse++x.sc->Rm e A' B' x' ws'->St h0 h' c us w (A'++x'::B') (ws'++[.tup [.ref x'.u,(It.part e Wv).d]])->Done h0 P n c us w e Wv A' B' x' ws' h')
 (q:St h0 h c us w (A++x::B_) (ws++[.tup [.ref x.u,(It.part t last).d]])):Done h0 P n c us w t last A B_ x ws h:=by
 intro fuel pr pc;obtain⟨r5,r1,r2,r3,r4⟩:=rm;have sz:t.size=1+e.size:=by rw[Zb,hp];simp
 have ep:=Zk e;have bl:(bnd t).length<=2:=by cases t<;>simp[bnd]
 obtain⟨hpp,q1,k⟩:=ZkS H n (fuel+1+cost e) t last q pr pc;obtain⟨h1,y,e1,y1,y2,q2⟩:=Zoy H n q1 t e last hp hb (by lia) (by lia) (by lia) (by lia);obtain⟨pr1,pc1,e2⟩:=k h1 e1;have pe:ws++Zdx y.u [.part e Wv,.row .back]=(ws++[.tup [.ref y.u,(It.row .back).d]])++[.tup [.ref y.u,(It.part e Wv).d]]:=by simp[Zdx]
 rw[pe]at q2;have hl2:((A++{x with rows:=x.rows++[Rw.close (A++x::B_).length (bnd t).reverse]}::B_)++[y]).length=(A++x::B_).length+1:=by simp;lia
 have rm2:Rm e (A++{x with rows:=x.rows++[Rw.close (A++x::B_).length (bnd t).reverse]}::B_) [] y (ws++[.tup [.ref y.u,(It.row .back).d]]):=⟨by lia,by rw[y2];simp;lia,by rw[hl2];lia,by simp;lia,by rw[y1];simp;lia⟩
 obtain⟨h2,pr2,pc2,N,e3,n3,q3⟩:=ih _ [] y _ h1 y1 rm2 q2 (fuel+1) pr1 pc1;rw[y1,y2,hl2]at n3 q3;simp only[List.length_nil,OB]at n3 q3;obtain⟨h3,pr3,pc3,e4,q4⟩:=s_row H n fuel q3 (by simp only[Zz];have:=ZcB e;lia) pr2 pc2;refine⟨h3,pr3,pc3,{y with rows:=(comp e ((bnd t).reverse++x.sc) Wv 0 ((A++x::B_).length+1)).1++[Rw.back]}::N,?_,?_,?_⟩
 . rw[hcost,show fuel+(cost e+2)=fuel+1+cost e+1 by lia,e2,e3,e4]
 . rw[hc,Op,n3]
 . rw[hc];simpa[Rw.up,y1]using q4
noncomputable def It.cnt:It->Nat
 |.row _=>1
 |.part t _=>Ce.cnt t
noncomputable def It.wt:It->Nat
 |.row _=>1
 |.part t _=>2 * t.size
noncomputable def It.cost:It->Nat
 |.row _=>1
 |.part t _=>Ce.cost t
noncomputable def It.comp(sc:List Str)(p k:Nat):It->List Rw×List (List Rw)
 |.row r=>([r.up p],[])
 |.part t l=>Ce.comp t sc l p k
noncomputable def Zi7(sc:List Str):List It->Nat->Nat->List Rw×List (List Rw)
 |[],_,_=>([],[])
 |i::is,p,k=>((i.comp sc p k).1++(Zi7 sc is (p+i.cnt) (k+(i.comp sc p k).2.length)).1,(i.comp sc p k).2++(Zi7 sc is (p+i.cnt) (k+(i.comp sc p k).2.length)).2)
def PI(h0:Hd)(P:Pg)(n c us w:Nat)(sc:List Str):List It->Prop
 |[]=>True
 |.row _::is=>PI h0 P n c us w sc is
 |.part t l::is=>(∀(A B_:List Un) (x:Un) (ws:List D) (h:Hd),x.sc=sc->Rm t A B_ x ws->St h0 h c us w (A++x::B_) (ws++[.tup [.ref x.u,(It.part t l).d]])->Done h0 P n c us w t l A B_ x ws h)/\PI h0 P n c us w sc is
inductive Di(h0:Hd)(P:Pg)(n c us w:Nat)(co:Nat)(cp:List Rw×List (List Rw))(A B_:List Un)(x:Un)(ws:List D)(h:Hd)(fuel:Nat)(pr pc:Option D):Prop
 |mk (h':Hd) (pr' pc':Option D) (N:List Un) (e:loop P n c (fuel+co) pr pc h=loop P n c fuel pr' pc' h') (m:N.map Un.rows=cp.2) (q:St h0 h' c us w (A++{x with rows:=x.rows++cp.1}::(B_++N)) ws)
theorem ZnT:∀is:List It,is.length<=(is.map It.wt).sum
 |[]=>Oq _
 |i::is=>by
  have:=ZnT is;have:1<=i.wt:=by
   cases i with
   |row _=>exact Oq _
   |part t _=>have:=Zk t;show 1<=2 * t.size;lia
  rw[Op,OI,Os]
  lia
def Zv8(i:It)(sc:List Str)(p k:Nat):(i.comp sc p k).1.length=i.cnt/\i.cnt<=i.wt/\2 * (i.comp sc p k).2.length<=i.wt:=by
 cases i with
 |row r=>exact⟨rfl,Oq _,Yw _⟩
 |part t l=>exact⟨Zz t sc l p k,ZcB t,by have:=units_le t sc l p k;show 2 * (Ce.comp t sc l p k).2.length<=2 * t.size;lia⟩
theorem items(H:Cod P)(n:Nat):∀(is:List It) (A B_:List Un) (x:Un) (ws:List D) (h:Hd),PI h0 P n c us w x.sc is->Ri (is.map It.wt).sum A B_ x ws->St h0 h c us w (A++x::B_) (ws++Zdx x.u is)->∀fuel pr pc,
 Di h0 P n c us w (is.map It.cost).sum (Zi7 x.sc is x.rows.length (A++x::B_).length) A B_ x ws h fuel pr pc
 |[],A,B_,x,ws,h,pi,ri,q,fuel,pr,pc=>⟨h,pr,pc,[],rfl,rfl,by simpa[Zdx,Zi7]using q⟩
 |i::is,A,B_,x,ws,h,pi,ri,q,fuel,pr,pc=>by
  rw[Op,OI]at ri;obtain⟨z,r,u,w',s⟩:=ri;have l0:=Zv8 i x.sc x.rows.length (A++x::B_).length;have lw:=ZnT is;rw[show ws++Zdx x.u (i::is)=(ws++Zdx x.u is)++[.tup [.ref x.u,i.d]] by simp[Zdx]]at q;have st:PI h0 P n c us w x.sc is/\Di h0 P n c us w i.cost (i.comp x.sc x.rows.length (A++x::B_).length) A B_ x (ws++Zdx x.u is) h (fuel+(is.map It.cost).sum) pr pc:=by
   cases i with
   |row rr=>obtain⟨h1,pr1,pc1,e1,q1⟩:=s_row H n (fuel+(is.map It.cost).sum) q (by lia) pr pc;exact⟨pi,h1,pr1,pc1,[],e1,rfl,by rw[Ys];exact q1⟩
   |part t l=>rw[show(It.part t l).wt=2 * t.size from rfl]at z r u w' s;obtain⟨h1,pr1,pc1,N,e1,m,q1⟩:=pi.1 A B_ x _ h rfl ⟨by lia,by lia,by lia,by simp only[OA,Zdx,List.length_reverse,Yt];lia,by lia⟩ q (fuel+(is.map It.cost).sum) pr pc;exact⟨pi.2,h1,pr1,pc1,N,e1,m,q1⟩
  obtain⟨pi',h1,pr1,pc1,N,e1,m,q1⟩:=st;have ml:=map_len m;have lx:(x.rows++(i.comp x.sc x.rows.length (A++x::B_).length).1).length=x.rows.length+i.cnt:=by rw[OA,l0.1]
  have lu:(A++{x with rows:=x.rows++(i.comp x.sc x.rows.length (A++x::B_).length).1}::(B_++N)).length=(A++x::B_).length+(i.comp x.sc x.rows.length (A++x::B_).length).2.length:=by rw[<- ml];simp only[OA,Os];lia
  obtain⟨h2,pr2,pc2,N2,e2,m2,q2⟩:=items H n is A (B_++N) {x with rows:=x.rows++(i.comp x.sc x.rows.length (A++x::B_).length).1} ws h1 pi' ⟨by lia,by rw[lx];lia,by rw[lu];lia,by lia,by show x.sc.length+_<=_;lia⟩ q1 fuel pr1 pc1;rw[lx,lu]at m2 q2;refine⟨h2,pr2,pc2,N++N2,?_,?_,?_⟩
  . rw[Op,OI,Nat.add_comm i.cost,<- Nat.add_assoc];exact e1.trans e2
  . rw[List.map_append,m,m2];rfl
  . rw[<- Oz,show(Zi7 x.sc (i::is) x.rows.length (A++x::B_).length).1=_++_ from rfl,<- Oz];exact q2
def Zhu(H:Cod P)(n:Nat)(t:T)(last:Bool)(rm:Rm t A B_ x ws)(ht:its last t≠[])(hw:((its last t).map It.wt).sum<=2 * t.size)(hcost:cost t=((its last t).map It.cost).sum+1)(hc:comp t x.sc last x.rows.length (A++x::B_).length=Zi7 x.sc (its last t) x.rows.length (A++x::B_).length)
 (pi:PI h0 P n c us w x.sc (its last t)) (q:St h0 h c us w (A++x::B_) (ws++[.tup [.ref x.u,(It.part t last).d]])):Done h0 P n c us w t last A B_ x ws h:=by
 intro fuel pr pc;obtain⟨z,r,u,w',s⟩:=rm;obtain⟨hpp,q1,k⟩:=ZkS H n (fuel+((its last t).map It.cost).sum) t last q pr pc;obtain⟨h1,e1,q2⟩:=Zs7 H n q1 t last ht (by lia) (by lia);obtain⟨pr1,pc1,e2⟩:=k h1 e1;obtain⟨h2,pr2,pc2,N,e3,m,q3⟩:=items H n (its last t) A B_ x ws h1 pi ⟨by lia,by lia,by lia,by lia,by lia⟩ q2 fuel pr1 pc1;rw[<- hc]at m q3;exact⟨h2,pr2,pc2,N,by rw[hcost];exact e2.trans e3,m,q3⟩
theorem ZhN(H:Cod P)(n:Nat):∀ (t:T) (last:Bool) (A B_:List Un) (x:Un) (ws:List D) (h:Hd),Gn.Cl x.sc t->Rm t A B_ x ws->St h0 h c us w (A++x::B_) (ws++[.tup [.ref x.u,(It.part t last).d]])->Done h0 P n c us w t last A B_ x ws h
 | .num m,last,A,B_,x,ws,h,hc,rm,q=>Zin H n (.num m) last rm (r:=.num m) rfl rfl rfl q
 | .name y,last,A,B_,x,ws,h,hc,rm,q=>by
   obtain ⟨i,e1,_⟩:=ZfR (show y∈x.sc from hc);exact Zin H n (.name y) last rm (r:=.fetch i) (by simp [leaf,e1]) (by simp [comp,e1]) rfl q
 | .fn y e,last,A,B_,x,ws,h,hc,rm,q=>Zki H n (.fn y e) e last rm rfl (by simp [bnd]) rfl (by simp [comp,bnd]) (fun A' B' x' ws' h' hs rm' q'=>ZhN H n e Wv A' B' x' ws' h' (by rw [hs];exact hc) rm' q') q
 | .rcc f y e,last,A,B_,x,ws,h,hc,rm,q=>Zki H n (.rcc f y e) e last rm rfl (by simp [bnd]) rfl (by simp [comp,bnd]) (fun A' B' x' ws' h' hs rm' q'=>ZhN H n e Wv A' B' x' ws' h' (by rw [hs];exact hc.1) rm' q') q
 | .call f a,last,A,B_,x,ws,h,hc,rm,q=>Zhu H n (.call f a) last rm nofun (by rw [Zb];simp [its,It.wt,T.parts];lia) (by simp [its,It.cost,cost];lia) (by cases last<;>simp [comp,Zi7,its,It.comp,It.cnt,Rw.up])
     ⟨fun A' B' x' ws' h' hs rm' q'=>ZhN H n f Ww A' B' x' ws' h' (by rw [hs];exact hc.1) rm' q',fun A' B' x' ws' h' hs rm' q'=>ZhN H n a Ww A' B' x' ws' h' (by rw [hs];exact hc.2) rm' q',trivial⟩ q
 | .op wd f a,last,A,B_,x,ws,h,hc,rm,q=>Zhu H n (.op wd f a) last rm nofun (by rw [Zb];simp [its,It.wt,T.parts];lia) (by simp [its,It.cost,cost];lia) (by simp [comp,Zi7,its,It.comp,It.cnt,Rw.up])
     ⟨fun A' B' x' ws' h' hs rm' q'=>ZhN H n f Ww A' B' x' ws' h' (by rw [hs];exact hc.1) rm' q',fun A' B' x' ws' h' hs rm' q'=>ZhN H n a Ww A' B' x' ws' h' (by rw [hs];exact hc.2) rm' q',trivial⟩ q
 | .iff f a b,last,A,B_,x,ws,h,hc,rm,q=>Zhu H n (.iff f a b) last rm nofun (by rw [Zb];simp [its,It.wt,T.parts];lia) (by simp [its,It.cost,cost];lia) (by
       simp only [comp,Zi7,its,It.comp,It.cnt,Rw.up,List.length_nil,Nat.add_zero,Ys,OB,List.cons_append];rw [show ((x.rows.length+cnt f:Nat):Int)+((cnt a:Int)+2)=((x.rows.length+cnt f+1+cnt a+1:Nat):Int) by lia,show ((x.rows.length+cnt f+1+cnt a:Nat):Int)+((cnt b:Int)+1)=((x.rows.length+cnt f+1+cnt a+1+cnt b:Nat):Int) by lia])
     ⟨fun A' B' x' ws' h' hs rm' q'=>ZhN H n f Ww A' B' x' ws' h' (by rw [hs];exact hc.1) rm' q',fun A' B' x' ws' h' hs rm' q'=>ZhN H n a last A' B' x' ws' h' (by rw [hs];exact hc.2.1) rm' q',fun A' B' x' ws' h' hs rm' q'=>ZhN H n b last A' B' x' ws' h' (by rw [hs];exact hc.2.2) rm' q',trivial⟩ q
end
section
variable {P:Pg}{h0 h:Hd}{c us w:Nat}{U A B_:List Un}{x:Un}{ws:List D}
def Zpg(n fuel:Nat)(q:St h0 h c us w U [])(pr pc:Option D):loop P n c (fuel+1) pr pc h=.ok (.nx,[Ws (.ref c),pr,pc]) h:=by exact ZgG (Zh (Zgd (ZeZ rfl q.qc rfl) q.qw) rfl)
def Zvp(H:Cod P)(n:Nat)(t:T)(ct:Gn.Cl [] t)(hz:t.size<=1000)(hs:x.sc=[])(hr:x.rows=[])(q:St h0 h c us w [x] (Zdx x.u [.part t Ww,.row .fin])):
 ∃h' y N,run P (n+5) (mnm (O "Coder") (O "do_all")) [.ref c] h=.ok .non h'/\St h0 h' c us w (y::N) []/\(y::N).map Un.rows=((comp t [] Ww 0 1).1++[.fin])::(comp t [] Ww 0 1).2:=by
 rw[Zy H.n_Coder_do_all H.Coder_do_all (by rfl)];have cl:∀t:T,cost t<=3 * t.size:=by
  intro t;induction t with
  |num m=>simp[cost,T.size,T.places]
  |name m=>simp[cost,T.size,T.places]
  |fn y e ih=>rw[Zb];simp[cost,T.parts];lia
  |rcc f y e ih=>rw[Zb];simp[cost,T.parts];lia
  |call f a i1 i2=>rw[Zb];simp[cost,T.parts];lia
  |op wd f a i1 i2=>rw[Zb];simp[cost,T.parts];lia
  |iff a b d i1 i2 i3=>rw[Zb];simp[cost,T.parts];lia
 have hb:=H.big;have hct:=cl t;obtain⟨m,hm⟩:∃m,P.L=(m+1+1)+cost t:=⟨P.L - 2 - cost t,by lia⟩
 have pe:Zdx x.u [.part t Ww,.row .fin]=[D.tup [.ref x.u,(It.row .fin).d]]++[.tup [.ref x.u,(It.part t Ww).d]]:=by simp[Zdx]
 rw[pe]at q;obtain⟨h1,pr1,pc1,N,e1,n1,q1⟩:=ZhN H n t Ww [] [] x _ h (by rw[hs];exact ct) ⟨by lia,by rw[hr];simp;lia,by simp;lia,by simp;lia,by rw[hs];simp;lia⟩ q (m+1+1) Wu Wu;rw[hs,hr]at n1 q1;simp only[OB,List.length_nil,Os,Nat.zero_add]at n1 q1;obtain⟨h2,pr2,pc2,e2,q2⟩:=s_row H n (m+1) (A:=[]) (ws:=[]) (by simpa using q1) (by simp only[Zz];have:=ZcB t;lia) pr1 pc1;have e3:=Zpg (P:=P) n m q2 pr2 pc2;refine⟨h2,_,N,?_,q2,?_⟩
 . have e4:loop P n c P.L Wu Wu h=.ok (.nx,[Ws (.ref c),pr2,pc2]) h2:=by rw[hm,e1,e2,e3]
   exact congrArg Ze ((Za (s:=.whl (.ex (.att [O "Coder"] (.var 0) (O "waiting"))) Zpf) (T:=P.tbl (n+4)) e4).trans rfl)
 . rw[Op,n1];simp[Rw.up]
noncomputable def ZbC(a:Nat):List (List Rw)->List Nat
 |[]=>[a]
 |r::rs=>a::ZbC (a+r.length) rs
noncomputable def nmb(a:Nat)(F:List Nat):Rw->Rw
 |.unl k=>.unl (a+k)
 |.jmp k=>.jmp (a+k)
 |.close k ns=>.close (((F[k.toNat]?).getD 0:Nat):Int) ns
 |r=>r
noncomputable def flat(F:List Nat)(a:Nat):List (List Rw)->List Rw
 |[]=>[]
 |r::rs=>r.map (nmb a F)++flat F (a+r.length) rs
def Zid:Sxs:=(.c (.drp (.meth .app (.v 1) (.c (.bin .Add (.ix (.v 1) (.neg (.ci 1))) (.blt .len (.c (.att [(O "Unit")] (.v 2) (O "rows")) .n))) .n))) .n)
def Zpz{j:Nat}{L:List D}{g:Tg}{body:Ev->Hd->R (Fl×Ev)}{d:D}{ds:List D}{S:Ev}{h:Hd}(e:h[j]? = Ws (.lst L)):ZK (Ws (j,L)) g body (d::ds) S h=match ZbS g d S with
 |none=>.bad
 |some ρ1=>(body ρ1 h).bnd λp h2=>match p with
  |(.nx,ρ2)=>ZK (Ws (j,L)) g body ds ρ2 h2
  |(.ct,ρ2)=>ZK (Ws (j,L)) g body ds ρ2 h2
  |(.bk,ρ2)=>.ok (.nx,ρ2) h2
  |(.rt d,ρ2)=>.ok (.rt d,ρ2) h2:=by
 have:Wk.stays (Ws (j,L)) h=Wv:=by simp[Wk.stays,e]
 rw[ZK,if_pos this];rfl
def Zpy(e:h[j]? = Ws (.lst L))(b:ZbS g d S=Ws ρ1)(q:body ρ1 h=.ok (.nx,ρ2) h2):ZK (Ws (j,L)) g body (d::ds) S h=ZK (Ws (j,L)) g body ds ρ2 h2:=by rw[Zpz e,b];simp only;rw[q];rfl
def Zlq{U:Tb}(p:ev U e S h=.ok (.ref i) h1)(l:h1[i]? = Ws (.lst ys)):evi U (.pl e) S h=.ok ⟨Ws (i,ys),ys⟩ h1:=by rw[ZpD,p,Zt];simp only[Zbg,l];rfl
def Zkb{j:Nat}{L:List D}{g:Tg}{body:Ev->Hd->R (Fl×Ev)}{S:Ev}{h:Hd}(e:h[j]? = Ws (.lst L)):ZK (Ws (j,L)) g body [] S h=.ok (.nx,S) h:=by
 have:Wk.stays (Ws (j,L)) h=Wv:=by simp[Wk.stays,e]
 rw[ZK,if_pos this]
theorem Zj1{T:Tb}(q:St h0 h c us w U ws){o0:Option D}:∀(V:List Un) (acc:List D) (a:Nat) (un:Option D),(∀y∈V,y∈U)->acc.length+V.length<=100000->∃un',
 ZK (Ws (us,U.map λx=>D.ref x.u)) (.nm 2) (xs2 T Zid) (V.map λx=>D.ref x.u) [o0,Ws (.ref h.length),un] (h++[.lst (acc++[.int (a:Int)])])
  = .ok (.nx,[o0,Ws (.ref h.length),un']) (h++[.lst (acc++(ZbC a (V.map Un.rows)).map λ(n:Nat)=>D.int (n:Int))])
 |[],acc,a,un,hV,hz=>⟨un,by rw[Oy,Zkb (keep q.qs)];simp[ZbC]⟩
 |y::V,acc,a,un,hV,hz=>by
  obtain⟨un',e⟩:=Zj1 (T:=T) q (o0:=o0) V (acc++[.int (a:Int)]) (a+y.rows.length) (Ws (.ref y.u)) (λz hz=>hV z (Oh _ hz)) (by simp at hz ⊢;lia);have hy:=hV y Oi;have k2:(h++[DO.lst (acc++[.int (a:Int)])])[y.r]? = _:=keep (q.qr y hy);have ix:ZbD T.GD (.ref h.length) (.int (-1)) (h++[.lst (acc++[.int (a:Int)])])=.ok (.int (a:Int)) (h++[.lst (acc++[.int (a:Int)])]):=by rw[ZY ZbL,IV.Zef];rfl
  have x:xs2 T Zid [o0,Ws (.ref h.length),Ws (.ref y.u)] (h++[.lst (acc++[.int (a:Int)])])=.ok (.nx,[o0,Ws (.ref h.length),Ws (.ref y.u)]) (h++[.lst (acc++[.int (a:Int)]++[.int ((a+y.rows.length:Nat):Int)])]):=(Za (ZU (Zdz rfl ZbL (Zc ((Zi ((Zl rfl rfl).trans ix) (Zhs (Zc (ZeZ rfl (keep (q.qu y hy)) rfl) rfl) (Zgh k2))).trans (by rw[Yt];rfl)) rfl) ((ZaT ZbL (by rw[YC];simp at hz ⊢;lia)).trans (by rw[ZjL,Int.natCast_add]))))).trans rfl
  exact⟨un',(Zpy (keep q.qs) rfl x).trans (e.trans (by rw[Oz];rfl))⟩
def Zoz(H:Cod P)(n:Nat)(q:St h0 h c us w U ws)(hU:U.length<=90000):run P (n+1) (O "first_rows") [.ref us] h=.ok (.ref h.length) (h++[.lst ((ZbC 0 (U.map Un.rows)).map λ(n:Nat)=>D.int (n:Int))]):=by rw[Zg H.first_rows (by rfl)];obtain⟨un,e⟩:=Zj1 (T:=P.tbl n) q (o0:=Ws (.ref us)) U [] 0 Wu (λy hy=>hy) (by simp;lia);have w:xs2 (P.tbl n) ZfF [Ws (.ref us),Wu,Wu] h=.ok (.rt (.ref h.length),_) _:=(Za (Zs (ZhQ (xs:=[_]) rfl (show 1<=1000 by decide)))).trans ((Za ((ZfZ (Zlq rfl (keep q.qs))).trans e)).trans (Zd (Zr rfl)));exact congrArg Ze w
end
section
variable {P:Pg}{h0:Hd}{c us w:Nat}{U:List Un}{ws:List D}
def ZdB(m:Nat):Rw->Prop
 |.close k _=>∃i:Nat,k=i/\i<m
 |_=>True
noncomputable def Fd'(F:List Nat):List D:=F.map λ(n:Nat)=>D.int (n:Int)
def Zvm(H:Cod P)(n:Nat)(r:Rw)(a fk:Nat)(F:List Nat)(h:Hd)(hf:h[fk]? = Ws (.lst (Fd' F)))(hr:ZdB F.length r):run P (n+1) (O "numbered") [r.d,.int (a:Int),.ref fk] h=.ok (nmb a F r).d h:=by
 rw[Zg H.numbered rfl];have t:=Zoc H n (e:=.var 0) (S:=[Ws r.d,Ws (.int (a:Int)),Ws (.ref fk)]) (h:=h) r rfl;have go:wd r ≠ "unless" -> wd r ≠ "jump" -> Str.ofString (wd r)≠O "close" -> nmb a F r=r->Ze (xs2 (P.tbl n) ZhD [Ws r.d,Ws (.int (a:Int)),Ws (.ref fk)] h)=.ok (nmb a F r).d h:=λw1 w2 w3 e=>by rw[e];obtain⟨ds,ed⟩:=Zi6 r;rw[ed]at t ⊢;exact congrArg Ze ((Za ((Zf (Zh t (decide_eq_false λz=>z.elim w1 w2))).trans rfl)).trans ((Za ((Zf (Zh (ZaM (ZeR rfl) rfl) (decide_eq_false w3))).trans rfl)).trans (Zd (Zr rfl))))
 cases r with
 |close k ns=>
  obtain⟨i,rfl,hi⟩:=hr;have e:ZbD (P.tbl n).GD (.ref fk) (.int (i:Int)) h=.ok (.int ((F[i]'hi:Nat):Int)) h:=by rw[ZY hf,IV.ZbA];simp[Fd',hi]
  exact(congrArg Ze ((Za ((Zf (Zh t (decide_eq_false (by simp[wd])))).trans rfl)).trans (Zd ((Zj rfl).trans (Zd (Zr (Zaw (xs:=[_,_,_]) (Zc rfl (Zc ((Zl rfl rfl).trans e) rfl)) (show 3<=1000 by decide)))))))).trans (by simp[nmb,Rw.d,hi])
 |unl k=>exact congrArg Ze (Zd ((Zj (Zh t (decide_eq_true (.inl rfl)))).trans (Zd (Zr rfl))))
 |jmp k=>exact congrArg Ze (Zd ((Zj (Zh t (decide_eq_true (.inr rfl)))).trans (Zd (Zr rfl))))
 |_=>exact go (by simp[wd]) (by simp[wd]) (by simp[wd]) rfl
theorem Zsq(H:Cod P)(n:Nat){k a fk:Nat}(e:h[k]? = Ws (.lst ps))(hf:h[fk]? = Ws (.lst (Fd' F))):∀(ds:List Rw) (acc:List D),acc.length+ds.length<=100000->(∀r∈ds,ZdB F.length r) ->
 Z0 (Ws (k,ps)) (.nm 0) (tsto ⟨P.G,P.GD,run P (n+1),P.L⟩ Wu) (ev ⟨P.G,P.GD,run P (n+1),P.L⟩ (.call (O "numbered") (.cons (.var 0) (.cons (.var 1) (.cons (.var 2) .nil))))) (ds.map Rw.d) [Wu,Ws (.int (a:Int)),Ws (.ref fk)] acc h=.ok (acc++(ds.map (nmb a F)).map Rw.d) h
 |[],acc,hz,hc=>by simp[Z0,Wk.stays,e]
 |d::ds,acc,hz,hc=>by
  have ih:=Zsq H n (a:=a) e hf ds (acc++[(nmb a F d).d]) (by simp at hz ⊢;lia) (λr hr=>hc r (Oh _ hr));have hz2:acc.length<16777216:=by simp at hz;lia
  have en:=Zvm H n d a fk F h hf (hc d Oi);rw[Op,Zaj];simp[Wk.stays,e,hz2,YC,en];simpa using ih
structure Ct(h0 h:Hd)(c us w ck fk:Nat)(U:List Un)(ws:List D)(F:List Nat)(cs:List Rw):Prop where
 q:St h0 h c us w U ws
 f:h[fk]? = Ws (.lst (Fd' F))
 k:h[ck]? = Ws (.lst (cs.map Rw.d))
 n1:ck≠us
 n2:ck≠w
 n3:ck≠fk
 n4:∀y∈U,ck≠y.r
 n5:h0.length<=ck
theorem Ct.app(z:Ct h0 h c us w ck fk U ws F cs):Ct h0 (h++g) c us w ck fk U ws F cs:=⟨z.q.app,keep z.f,keep z.k,z.n1,z.n2,z.n3,z.n4,z.n5⟩
theorem Ct.set(z:Ct h0 h c us w ck fk U ws F cs)(ds:List Rw):Ct h0 (h.set ck (.lst (ds.map Rw.d))) c us w ck fk U ws F ds:=by
 have q:=z.q;refine⟨⟨?_,?_,?_,λy hy=>?_,λy hy=>?_,q.nd,q.d1,q.d2,q.d3,q.o1,q.o2,q.o3,by simpa using q.ol,λi hi=>by rw[Oc (by have:=z.n5;lia)];exact q.old i hi⟩,?_,?_,z.n1,z.n2,z.n3,z.n4,z.n5⟩
 . rw[Oc (Zfd q.qc z.k)];exact q.qc
 . rw[Oc z.n1];exact q.qs
 . rw[Oc z.n2];exact q.qw
 . rw[Oc (Zfd (q.qu y hy) z.k)];exact q.qu y hy
 . rw[Oc (z.n4 y hy)];exact q.qr y hy
 . rw[Oc z.n3];exact z.f
 . rw[Ol (Z9 z.k)]
def Zro:Sxs:=(.c (.set (.nm 5) (.blt .len (.c (.v 3) .n))) (.c (.drp (.meth .ext (.v 3) (.c (.comp [(O "row"),(O "first"),(O "firsts")] [Wu,Ws 5,Ws 2] (.pl (.att [(O "Unit")] (.v 4) (O "rows"))) (.nm 0) Wu (.call (O "numbered") (.c (.v 0) (.c (.v 1) (.c (.v 2) .n))))) .n))) .n))
theorem Zpn(H:Cod P)(n:Nat):∀(V:List Un) (cs:List Rw) (h:Hd) (un fs:Option D),(∀y∈V,y∈U)->(∀y∈V,∀r∈y.rows,ZdB F.length r)->cs.length+(V.map λy=>y.rows.length).sum<=50000->Ct h0 h c us w ck fk U ws F cs->∃h' un' fs',
 ZK (Ws (us,U.map λx=>D.ref x.u)) (.nm 4) (xs2 ⟨P.G,P.GD,run P (n+1),P.L⟩ Zro) (V.map λx=>D.ref x.u) [o0,o1,Ws (.ref fk),Ws (.ref ck),un,fs] h=.ok (.nx,[o0,o1,Ws (.ref fk),Ws (.ref ck),un',fs']) h'
  /\ Ct h0 h' c us w ck fk U ws F (cs++flat F cs.length (V.map Un.rows))
 |[],cs,h,un,fs,hV,hc,hz,z=>⟨h,un,fs,by rw[Oy,Zkb z.q.qs],by simpa[flat]using z⟩
 |y::V,cs,h,un,fs,hV,hc,hz,z=>by
  have hy:=hV y Oi;simp only[Op,OI]at hz;have ec:=Zsq H n (a:=cs.length) (z.q.qr y hy) z.f y.rows [] (by simp;lia) (hc y Oi);have z1:=(z.app (g:=[.lst ((y.rows.map (nmb cs.length F)).map Rw.d)])).set (cs++y.rows.map (nmb cs.length F));obtain⟨h',un',fs',e,z2⟩:=Zpn H n (o0:=o0) (o1:=o1) V _ _ (Ws (.ref y.u)) (Ws (.int (cs.length:Int))) (λr hr=>hV r (Oh _ hr)) (λr hr=>hc r (Oh _ hr)) (by simp;lia) z1;refine⟨h',un',fs',?_,?_⟩
  . refine(Zpy z.q.qs rfl ?_).trans e;rw[List.map_append];exact(Za (Zs ((Zhs rfl (Zgh z.k)).trans (by rw[Yt])))).trans ((Za (ZU (Zdz rfl z.k (Zc (Zmy (Zlq (ZeZ rfl (z.q.qu y hy) rfl) (z.q.qr y hy)) ec) rfl) (Zst (keep z.k) ZbL (by rw[YC];simp;lia))))).trans rfl)
  . have hl:(cs++y.rows.map (nmb cs.length F)).length=cs.length+y.rows.length:=by simp
    rw[hl]at z2;simpa[flat]using z2
end
set_option tactic.hygienic true
section
variable {P:Pg}
def ZdB.mono(h:m<=k)(c:ZdB m r):ZdB k r:=by
 cases r with
 |close a ns=>obtain⟨i,e,q⟩:=c;exact⟨i,e,by lia⟩
 |_=>trivial
theorem ZjN:∀(L:List (List Rw)) (a:Nat),(ZbC a L).length=L.length+1
 |[],a=>rfl
 |r::L,a=>by simp[ZbC,ZjN L]
def Rows(X:List Rw×List (List Rw))(Q:Rw->Prop):Prop:=(∀r∈X.1,Q r)/\∀u∈X.2,∀r∈u,Q r
def Rows.imp(h:Rows X Q)(f:∀r,Q r->Q' r):Rows X Q':=⟨λr hr=>f r (h.1 r hr),λu hu r hr=>f r (h.2 u hu r hr)⟩
def Zn5(hx:Rows X (ZdB (k+X.2.length)))(hy:Rows Y (ZdB (k+X.2.length+Y.2.length)))(h0:∀{m},ZdB m r0):Rows (X.1++(Y.1++[r0]),X.2++Y.2) (ZdB (k+(X.2++Y.2).length)):=by
 have hx':=hx.imp (λr hr=>hr.mono (k:=k+(X.2++Y.2).length) (by simp));have hy':=hy.imp (λr hr=>hr.mono (k:=k+(X.2++Y.2).length) (by simp;lia));refine⟨?_,?_⟩
 . intro r hr;simp only[OD,Ox]at hr;rcases hr with hr|hr|rfl
   . exact hx'.1 r hr
   . exact hy'.1 r hr
   . exact h0
 . intro u hu r hr;rcases OD.mp hu with hu|hu
   . exact hx'.2 u hu r hr
   . exact hy'.2 u hu r hr
def Zn9(hx:Rows X (ZdB (k+X.2.length)))(hy:Rows Y (ZdB (k+X.2.length+Y.2.length)))(hz:Rows Z_ (ZdB (k+X.2.length+Y.2.length+Z_.2.length))):Rows (X.1++(.unl a::(Y.1++(.jmp b::Z_.1))),X.2++(Y.2++Z_.2)) (ZdB (k+(X.2++(Y.2++Z_.2)).length)):=by
 have hx':=hx.imp (λr hr=>hr.mono (k:=k+(X.2++(Y.2++Z_.2)).length) (by simp));have hy':=hy.imp (λr hr=>hr.mono (k:=k+(X.2++(Y.2++Z_.2)).length) (by simp;lia));have hz':=hz.imp (λr hr=>hr.mono (k:=k+(X.2++(Y.2++Z_.2)).length) (by simp;lia));refine⟨?_,?_⟩
 . intro r hr;simp only[OD,O3]at hr;rcases hr with hr|rfl|hr|rfl|hr
   . exact hx'.1 r hr
   . trivial
   . exact hy'.1 r hr
   . trivial
   . exact hz'.1 r hr
 . intro u hu r hr;simp only[OD]at hu;rcases hu with hu|hu|hu
   . exact hx'.2 u hu r hr
   . exact hy'.2 u hu r hr
   . exact hz'.2 u hu r hr
theorem Zay:∀(t:T) (sc:List Str) (l:Bool) (p k:Nat),Rows (comp t sc l p k) (ZdB (k+(comp t sc l p k).2.length))
 |.num _,_,_,_,_=>by simp[comp,Rows,ZdB]
 |.name _,_,_,_,_=>by simp[comp,Rows,ZdB]
 |.fn y e,sc,l,p,k=>by
  have ih:=Zay e (y::sc) Wv 0 (k+1);have ih':=ih.imp (λr hr=>hr.mono (k:=k+((comp e (y::sc) Wv 0 (k+1)).2.length+1)) (by lia));refine⟨?_,?_⟩
  . intro r hr;simp[comp]at hr;subst hr;exact⟨k,rfl,by simp[comp]⟩
  . intro u hu r hr;simp only[comp,O3]at hu;rcases hu with rfl|hu
    . rcases OD.mp hr with hr|hr
      . exact ih'.1 r hr
      . simp at hr;subst hr;trivial
    . exact ih'.2 u hu r hr
 |.rcc f y e,sc,l,p,k=>by
  have ih:=Zay e (y::f::sc) Wv 0 (k+1);have ih':=ih.imp (λr hr=>hr.mono (k:=k+((comp e (y::f::sc) Wv 0 (k+1)).2.length+1)) (by lia));refine⟨?_,?_⟩
  . intro r hr;simp[comp]at hr;subst hr;exact⟨k,rfl,by simp[comp]⟩
  . intro u hu r hr;simp only[comp,O3]at hu;rcases hu with rfl|hu
    . rcases OD.mp hr with hr|hr
      . exact ih'.1 r hr
      . simp at hr;subst hr;trivial
    . exact ih'.2 u hu r hr
 |.call f a,sc,l,p,k=>Zn5 (Zay f sc Ww p k) (Zay a sc Ww (p+cnt f) (k+(comp f sc Ww p k).2.length)) (by cases l<;>(intro m;trivial))
 |.op w f a,sc,l,p,k=>Zn5 (Zay f sc Ww p k) (Zay a sc Ww (p+cnt f) (k+(comp f sc Ww p k).2.length)) trivial
 |.iff c t e,sc,l,p,k=>Zn9 (Zay c sc Ww p k) (Zay t sc l (p+cnt c+1) (k+(comp c sc Ww p k).2.length))
  (Zay e sc l (p+cnt c+1+cnt t+1) (k+(comp c sc Ww p k).2.length+(comp t sc l (p+cnt c+1) (k+(comp c sc Ww p k).2.length)).2.length))
noncomputable def units(t:T):List (List Rw):=((comp t [] Ww 0 1).1++[.fin])::(comp t [] Ww 0 1).2
noncomputable def code(t:T):List Rw:=flat (ZbC 0 (units t)) 0 (units t)
def Zn3(t:T):∀u∈units t,∀r∈u,ZdB (ZbC 0 (units t)).length r:=by
 have q:=Zay t [] Ww 0 1;have q':=q.imp (λr hr=>hr.mono (k:=(ZbC 0 (units t)).length) (by rw[ZjN];simp[units];lia));intro u hu r hr;simp only[units,O3]at hu;rcases hu with rfl|hu
 . rcases OD.mp hr with hr|hr
   . exact q'.1 r hr
   . simp at hr;subst hr;trivial
 . exact q'.2 u hu r hr
theorem ZaS:∀(t:T) (sc:List Str) (l:Bool) (p k:Nat),(comp t sc l p k).1.length+((comp t sc l p k).2.map List.length).sum<=3 * t.size
 |.num _,_,_,_,_=>by simp[comp,T.size,T.places]
 |.name _,_,_,_,_=>by simp[comp,T.size,T.places]
 |.fn y e,sc,l,p,k=>by have:=ZaS e (y::sc) Wv 0 (k+1);rw[Zb];simp[comp,T.parts];lia
 |.rcc f y e,sc,l,p,k=>by have:=ZaS e (y::f::sc) Wv 0 (k+1);rw[Zb];simp[comp,T.parts];lia
 |.call f a,sc,l,p,k=>by have:=ZaS f sc Ww p k;have:=ZaS a sc Ww (p+cnt f) (k+(comp f sc Ww p k).2.length);rw[Zb];simp[comp,T.parts];lia
 |.op w f a,sc,l,p,k=>by have:=ZaS f sc Ww p k;have:=ZaS a sc Ww (p+cnt f) (k+(comp f sc Ww p k).2.length);rw[Zb];simp[comp,T.parts];lia
 |.iff c t e,sc,l,p,k=>by
  have:=ZaS c sc Ww p k;have:=ZaS t sc l (p+cnt c+1) (k+(comp c sc Ww p k).2.length);have:=ZaS e sc l (p+cnt c+1+cnt t+1) (k+(comp c sc Ww p k).2.length+(comp t sc l (p+cnt c+1) (k+(comp c sc Ww p k).2.length)).2.length);rw[Zb];simp[comp,T.parts]
  lia
def Zqy(H:Cod P)(n:Nat)(h:Hd):Zgv (run P (n+1)) (O "Coder") [] h=.ok (.ref h.length) (h++[.ins (O "Coder") [(O "units",.ref (h.length+1)),(O "waiting",.ref (h.length+2))],.lst [],.lst []]):=by unfold Zgv;rw[Zy H.n_Coder___init__ H.Coder___init__ (by rfl)];simp[Zal,Zc2,ZF,ZfN,Zg0,YC]
theorem Ztc (H:Cod P) (n:Nat) (t:T) (ct:Gn.Cl [] t) (hz:t.size<=1000) (h:Hd):∃ h' k,run P (n+6) (O "code_of") [t.d] h=.ok (.ref k) h'/\h'[k]? = Ws (.lst ((code t).map Rw.d))/\h.length<=k/\h.length<=h'.length/\∀ i,i<h.length->h'[i]? = h[i]? := by
 rw [Zg H.code_of (by rfl)];have e0:=Zqy H (n+4) h;have q0:St h (h++[.ins (O "Coder") [(O "units",.ref (h.length+1)),(O "waiting",.ref (h.length+2))],.lst [],.lst []]) h.length (h.length+1) (h.length+2) [] [] :=
   ⟨by simp,by simp,by simp,by simp,by simp,by simp,by lia,by simp,by simp,by lia,by lia,by simp,by simp,fun i hi=>by rw [Oe hi]⟩
 have c0:=q0.qc;generalize (h++[.ins (O "Coder") [(O "units",.ref (h.length+1)),(O "waiting",.ref (h.length+2))],.lst [],.lst []])=h1 at *;obtain ⟨h2,y,e1,y1,y2,q1⟩:=Zl0 H (n+3) q0 t [] Ww (by simp) (by simp);simp only [OB] at q1;have c1:=q1.qc;obtain ⟨h3,z,N,e2,q2,er⟩:=Zvp H n t ct hz y1 y2 q1;have c2:=q2.qc;have hl:(z::N).length=(units t).length:=by rw [<- Yt (f:=Un.rows),er];rfl
 have hu:=units_le t [] Ww 0 1;have e3:=Zoz H (n+4) q2 (by rw [hl];simp [units];lia);rw [er] at e3;have q3:Ct h (h3++[.lst (Fd' (ZbC 0 (units t)))]++[.lst []]) h.length (h.length+1) (h.length+2) (h3.length+1) h3.length (z::N) [] (ZbC 0 (units t)) []:=by
   have l1:=Z9 q2.qs;have l2:=Z9 q2.qw;exact ⟨q2.app.app,by simp [Fd'],by simp,by lia,by lia,by lia,fun x hx=>by have:=Z9 (q2.qr x hx);lia,by have:=q2.ol;lia⟩
 have k2:(h3++[DO.lst (Fd' (ZbC 0 (units t)))]++[.lst []])[h.length+1]? = _:=q3.q.qs;have k3:(h3++[DO.lst (Fd' (ZbC 0 (units t)))]++[.lst []])[h.length]? = _:=q3.q.qc;have memU:∀ u∈z::N,u.rows∈units t:=fun u hu=>by
   have:u.rows∈(z::N).map Un.rows:=List.mem_map_of_mem hu;rw [er] at this;exact this
 obtain ⟨h4,un,fs,e4,q4⟩:=Zpn H (n+4) (o0:=Ws t.d) (o1:=Ws (.ref h.length)) (z::N) [] _ Wu Wu (fun y hy=>hy) (fun y hy r hr=>Zn3 t y.rows (memU y hy) r hr) (by
     have:((z::N).map fun y=>y.rows.length).sum=((units t).map List.length).sum:=by
       rw [show (fun y:Un=>y.rows.length)=List.length ∘ Un.rows from rfl,<- List.map_map,er];rfl
     rw [this];have:=ZaS t [] Ww 0 1;simp [units]
     lia) q3
 refine ⟨h4,h3.length+1,?_,?_,by have:=q2.ol;lia,q4.q.ol,q4.q.old⟩
 . have x5:∀ S,ev (P.tbl (n+5)) (.lstl .nil) S (h3++[.lst (Fd' (ZbC 0 (units t)))])=.ok (.ref (h3.length+1)) (h3++[.lst (Fd' (ZbC 0 (units t)))]++[.lst []]):=fun S=>(ZhQ (xs:=[]) rfl (by decide)).trans (by rw [OA];rfl);have x6:xs1 (P.tbl (n+5)) Zgs [Ws t.d,Ws (.ref h.length),Ws (.ref h3.length),Ws (.ref (h3.length+1)),Wu,Wu] _=_:=(ZfZ (Zlq (ZeZ rfl k3 rfl) k2)).trans e4;have w:xs2 (P.tbl (n+5)) Ziz [Ws t.d,Wu,Wu,Wu,Wu,Wu] h=.ok (.rt (.ref (h3.length+1)),_) h4:=(Za (Zs (ZtR rfl e0))).trans ((Za (ZU (ZB rfl c0 rfl rfl e1))).trans ((Za (ZU (ZB rfl c1 rfl rfl e2))).trans ((Za (Zs (Zu e3 (Zc (ZeZ rfl c2 rfl) rfl)))).trans ((Za (Zs (x5 _))).trans ((Za x6).trans (Zd (Zr rfl)))))));exact congrArg Ze w
 . have:=q4.k;rw [er] at this;simpa [code,units] using this
end
set_option tactic.hygienic false
section
noncomputable def off(L:List (List Rw))(i:Nat):Nat:=((L.take i).map List.length).sum
theorem Zl4:∀(L:List (List Rw)) (a i:Nat),i<=L.length->(ZbC a L)[i]? = Ws (a+off L i)
 |[],a,i,h=>by simp at h;subst h;simp[ZbC,off]
 |r::L,a,0,h=>by simp[ZbC,off]
 |r::L,a,i+1,h=>by
  have:=Zl4 L (a+r.length) i (by simpa using h);simp[ZbC,this,off]
  lia
theorem Zmr(F:List Nat):∀(L:List (List Rw)) (a i j:Nat) (u:List Rw) (r:Rw),L[i]? = Ws u->u[j]? = Ws r->(flat F a L)[off L i+j]? = Ws (nmb (a+off L i) F r)
 |[],a,i,j,u,r,hi,hj=>by simp at hi
 |v::L,a,0,j,u,r,hi,hj=>by simp at hi;subst hi;have hl:=(Ob.mp hj).1;rw[flat,show off (v::L) 0=0 by simp[off],Nat.zero_add,Oe (by simpa using hl),O2,hj];rfl
 |v::L,a,i+1,j,u,r,hi,hj=>by
  have ih:=Zmr F L (a+v.length) i j u r (by simpa using hi) hj;have e:off (v::L) (i+1)=v.length+off L i:=by simp[off]
  rw[flat,e,Om (by simp;lia)];rw[show v.length+off L i+j - (v.map (nmb a F)).length=off L i+j by simp;lia,ih];congr 2
  lia
def Plc(L:List (List Rw))(i p:Nat)(rs:List Rw):Prop:=∃u,L[i]? = Ws u/\∀j r,rs[j]? = Ws r->u[p+j]? = Ws r
def Uts(L:List (List Rw))(k:Nat)(us:List (List Rw)):Prop:=∀j u,us[j]? = Ws u->L[k+j]? = Ws u
variable {L:List (List Rw)}{i p k:Nat}
def Plc.left(h:Plc L i p (a++b)):Plc L i p a:=by obtain⟨u,h1,h2⟩:=h;exact⟨u,h1,λj r hr=>h2 j r (by rw[Oe (Ob.mp hr).1];exact hr)⟩
def Plc.right(h:Plc L i p (a++b)):Plc L i (p+a.length) b:=by
 obtain⟨u,h1,h2⟩:=h;refine⟨u,h1,λj r hr=>?_⟩;have:=h2 (a.length+j) r (by rw[Om (by lia)];simpa using hr);rw[<- this];congr 1
 lia
def Plc.head(h:Plc L i p (r::b)):(flat (ZbC 0 L) 0 L)[off L i+p]? = Ws (nmb (off L i) (ZbC 0 L) r):=by obtain⟨u,h1,h2⟩:=h;have:=Zmr (ZbC 0 L) L 0 i p u r h1 (by simpa using h2 0 r rfl);simpa using this
def Plc.tail(h:Plc L i p (r::b)):Plc L i (p+1) b:=Plc.right (a:=[r]) h
def Uts.left(h:Uts L k (a++b)):Uts L k a:=λj u hu=>h j u (by rw[Oe (Ob.mp hu).1];exact hu)
def Uts.right(h:Uts L k (a++b)):Uts L (k+a.length) b:=λj u hu=>by
 have:=h (a.length+j) u (by rw[Om (by lia)];simpa using hu);rw[<- this];congr 1
 lia
def Uts.head(h:Uts L k (r::b)):Plc L k 0 r:=⟨r,by simpa using h 0 r rfl,λj x hx=>by simpa using hx⟩
def Uts.len(h:Uts L k (r::b)):k<L.length:=(Ob.mp (show L[k]? = Ws r by simpa using h 0 r rfl)).1
def Uts.tail(h:Uts L k (r::b)):Uts L (k+1) b:=Uts.right (a:=[r]) h
end
section
noncomputable def ZV(z:Int):D:=.tup [.str (O "num"),.int z]
noncomputable def Z1(q:Nat)(ns:List Str)(ds:List D):D:=.tup [.str (O "clo"),.int q,.tup (ns.map .str),.tup ds]
structure Ma where
 p:Nat
 S_:List D
 E:List D
 pl:List (Nat×List D)
noncomputable def fr(f:Nat×List D):D:=.tup [.int (f.1:Int),.tup f.2]
noncomputable def Ma.d(s:Ma):D:=.tup [.int (s.p:Int),.tup s.S_,.tup s.E,.tup (s.pl.map fr)]
inductive Ans where
 |quiet (s:Ma)|loud (s:Ma)|value|stuck
noncomputable def Ans.d:Ans->D
 |.quiet s=>.tup [.str (O "quiet"),s.d]
 |.loud s=>.tup [.str (O "loud"),s.d]
 |.value=>.tup [.str (O "value")]
 |.stuck=>.tup [.str (O "stuck")]
noncomputable def Ans.nxt:Ans->Option Ma
 |.quiet s|.loud s=>Ws s
 |_=>Wu
section
variable {α:Type}{l:List α}{a b:α}
def Zp5:atI (l++[a,b]) (-1)=Ws b:=by have:=Zef (l:=l++[a]) (x:=b);simpa using this
def ZmK:atI (l++[a,b]) (-2)=Ws a:=by
 unfold atI ixN;rw[if_neg (by decide),if_pos (by simp;lia)];have:(-2+((l++[a,b]).length:Int)).toNat=l.length:=by simp;lia
 simp only[Yz,this];simp
end
def Zuv:cutD (l++[a]) Wu (Ws (-1))=l:=by
 have e:HT.sIx (l++[a]).length (l++[a]).length (Ws (-1))=l.length:=by simp[HT.sIx];lia
 have e0:HT.sIx (l++[a]).length 0 Wu=0:=by simp[HT.sIx]
 unfold cutD;rw[e,e0];simp
def ZpP:cutD (l++[a,b]) Wu (Ws (-2))=l:=by
 have e:HT.sIx (l++[a,b]).length (l++[a,b]).length (Ws (-2))=l.length:=by simp[HT.sIx];lia
 have e0:HT.sIx (l++[a,b]).length 0 Wu=0:=by simp[HT.sIx]
 unfold cutD;rw[e,e0];simp
variable {P:Pg}{h:Hd}
def Zrw:opC GD .In (.str (Str.ofString x)) (.tup [.str (O "call"),.str (O "hop"),.str (O "unless"),.str (O "work")]) h=.ok (.bl (Wx (x = "call" \/ x = "hop" \/ x = "unless" \/ x = "work"))) h:=by have:=@ZbU GD h [O "call",O "hop",O "unless",O "work"] (Str.ofString x);simpa using this
noncomputable def psh(E:List D):Rw->Option D
 |.num z=>Ws (ZV z)
 |.fetch i=>E[i]?
 |.close q ns=>Ws (.tup [.str (O "clo"),.int q,.tup (ns.map .str),.tup E])
 |_=>Wu
def Zcx(e:atI E i=Ws x):ZbD GD (.tup E) (.int i) h=.ok x h:=by show R.ofO (atI E i) h=_;rw[e];rfl
def ZlW(H:Cod P)(n:Nat)(r:Rw)(E:List D)(hx:psh E r=Ws x):run P (n+1) (O "thing_of") [r.d,.tup E] h=.ok x h:=by
 rw[Zg H.thing_of rfl];cases r with
 |num z=>cases hx;exact rfl
 |fetch i=>exact congrArg Ze ((Za ((Zf rfl).trans rfl)).trans (Zd ((Zj rfl).trans (Zd (Zr ((Zl rfl rfl).trans (Zcx (by rw[IV.ZbA];exact hx))))))))
 |close q ns=>cases hx;exact rfl
 |_=>cases hx
def Zqw(H:Cod P)(n:Nat)(r:Rw)(s:Ma)(hx:psh s.E r=Ws x)(hz:s.S_.length<=10000):run P (n+2) (O "quiet_state") [r.d,s.d] h=.ok (Ma.d ⟨s.p+1,s.S_++[x],s.E,s.pl⟩) h:=by
 rw[Zg H.quiet_state rfl];have e1:=ZlW H n (h:=h) r s.E hx;have hw:Str.ofString (wd r)≠O "jump" /\ Str.ofString (wd r)≠O "back" := by cases r<;>first|(cases hx;done)|simp[wd]
 obtain⟨ds,ed⟩:=Zi6 r;rw[ed]at e1 ⊢;exact congrArg Ze ((Za ((Zf (Zh (ZaM (ZeR rfl) rfl) (decide_eq_false hw.1))).trans rfl)).trans ((Za ((Zf (Zh (ZaM (ZeR rfl) rfl) (decide_eq_false hw.2))).trans rfl)).trans (Zd (Zr (Zaw (xs:=[_,_,_,_]) (Zc rfl (Zc ((Zi (x:=.tup s.S_) rfl (Zaw (xs:=[_]) (Zc (Zu e1 rfl) rfl) (show 1<=1000 by decide))).trans (ZbV (by rw[YC];simp;lia))) rfl)) (show 4<=1000 by decide))))))
def ZkW(H:Cod P)(n:Nat)(q:Nat)(s:Ma):run P (n+1) (O "quiet_state") [(Rw.jmp q).d,s.d] h=.ok (Ma.d ⟨q,s.S_,s.E,s.pl⟩) h:=by rw[Zg H.quiet_state (by rfl)];have c1:∀a b c d:D,opB .Add (.tup [a]) (.tup [b,c,d]) h=.ok (.tup [a,b,c,d]) h:=λa b c d=>ZbV (by rw[YC];simp);exact rfl
def Zwq:cutD (a::l) (Ws 1) Wu=l:=by simp[cutD,HT.sIx]
def Ztf(H:Cod P)(n:Nat)(p q:Nat)(S_ E ds:List D)(pl:List (Nat×List D)):run P (n+1) (O "quiet_state") [Rw.back.d,Ma.d ⟨p,S_,E,(q,ds)::pl⟩] h=.ok (Ma.d ⟨q,S_,ds,pl⟩) h:=by rw[Zg H.quiet_state rfl];exact congrArg Ze ((Za ((Zf rfl).trans rfl)).trans (Zd ((Zj rfl).trans ((Za (Zs (ZeR (x:=fr (q,ds)) rfl))).trans (Zd (Zr (Zaw (xs:=[_,_,_,_]) (Zc rfl (Zc rfl (Zc rfl (Zc ((Gn.Zh3 (x:=.tup (((q,ds)::pl).map fr)) rfl rfl rfl).trans (by rw[Op];show R.ok (D.tup (cutD _ _ _)) h=_;rw[Zwq])) rfl)))) (show 4<=1000 by decide))))))))
noncomputable def ent(q:Nat)(ns:List Str)(ds:List D)(v:D):List D:=if ns.length=1 then v::ds else v::Z1 q ns ds::ds
def Zm4(H:Cod P)(n:Nat)(q:Nat)(ns:List Str)(ds:List D)(v:D)(hz:ds.length<=10000):run P (n+1) (O "entered") [Z1 q ns ds,v] h=.ok (.tup (ent q ns ds v)) h:=by
 rw[Zg H.entered rfl];unfold ent;have t:tst (P.tbl n) (.ex (.cmp .Eq (.blt .len (.cons (.ix (.var 0) (.ci 2)) .nil)) (.ci 1))) [Ws (Z1 q ns ds),Ws v] h=.ok (Wx (((ns.map D.str).length:Int)=1)) h:=Zev rfl rfl;rw[Yt]at t;by_cases e:ns.length=1
 . rw[if_pos e];exact congrArg Ze (Zd ((Zj (Zh t (decide_eq_true (by lia)))).trans (Zd (Zr ((Zi rfl rfl).trans (ZbV (xs:=[v]) (by rw[YC];simp;lia)))))))
 . rw[if_neg e];exact congrArg Ze ((Za ((Zf (Zh t (decide_eq_false (by lia)))).trans rfl)).trans (Zd (Zr ((Zi rfl rfl).trans (ZbV (xs:=[v,Z1 q ns ds]) (by rw[YC];simp;lia))))))
def Zm8(H:Cod P)(n:Nat)(z:Int)(S_:List D)(V pl:D):run P (n+2) (O "applied") [.tup (S_++[ZV z,V]),pl] h=.ok .non h:=by rw[Zg H.applied rfl];exact congrArg Ze ((Za (Zs ((Zl rfl rfl).trans (Zcx ZmK)))).trans (Zd ((Zj rfl).trans rfl)))
def Zh8(H:Cod P)(n:Nat)(q:Nat)(ns:List Str)(ds:List D)(S_:List D)(V pl:D)(hz:ds.length<=10000):run P (n+2) (O "applied") [.tup (S_++[Z1 q ns ds,V]),pl] h=.ok (.tup [.int (q:Int),.tup S_,.tup (ent q ns ds V),pl]) h:=by rw[Zg H.applied rfl];exact congrArg Ze ((Za (Zs ((Zl rfl rfl).trans (Zcx ZmK)))).trans ((Za ((Zf rfl).trans rfl)).trans (Zd (Zr (Zaw (xs:=[_,_,_,_]) (Zc rfl (Zc ((Gn.Zh3 (x:=.tup (S_++[Z1 q ns ds,V])) rfl rfl rfl).trans (by show R.ok (D.tup (cutD _ _ _)) h=_;rw[ZpP])) (Zc (Zu (Zm4 H n q ns ds V hz) (Zc rfl (Zc ((Zl rfl rfl).trans (Zcx Zp5)) rfl))) rfl))) (show 4<=1000 by decide))))))
def ZoA(H:Cod P)(n:Nat)(z:Int)(A B_:D):run P (n+1) (O "chosen") [ZV z,A,B_] h=.ok (if z=0 then B_ else A) h:=by
 rw[Zg H.chosen rfl];refine congrArg Ze ((Za ((Zf rfl).trans rfl)).trans (Zd (Zr ?_)));rw[ZpE,Zev (x:=z) rfl rfl,Zt];by_cases e:z=0
 . rw[decide_eq_true e,if_pos rfl,if_pos e];rfl
 . rw[decide_eq_false e,if_neg (by decide),if_neg e];rfl
def ZiK(H:Cod P)(n:Nat)(q:Nat)(ns:List Str)(ds:List D)(A B_:D):run P (n+1) (O "chosen") [Z1 q ns ds,A,B_] h=.ok .non h:=by rw[Zg H.chosen (by rfl)];exact rfl
def Zos(H:Cod P)(n:Nat)(w:Wd)(a b:Int)(ha:0<=a/\a<1000000)(hb:0<=b/\b<1000000):run P (n+1) (O "worked") [.str w.s,ZV a,ZV b] h=.ok (ZV (_root_.Rw.wk w a b)) h:=_root_.Rw.worked_nn H.worked H.gb n w ha hb
end
section
variable {P:Pg}{h:Hd}{C:List Rw}
def Zvd{U:Tb}(p:ev U e S h=.ok (.tup (S_++[x])) h):ev U (.sl e Wu (Ws (.neg (.ci 1)))) S h=.ok (.tup S_) h:=(Gn.Zh3 p rfl rfl).trans (by show R.ok (D.tup (cutD _ _ _)) h=_;rw[Zuv])
def ZkY(H:Cod P)(n:Nat)(q p:Nat)(z:Int)(S_ E:List D)(pl:List (Nat×List D)):run P (n+2) (O "gone_on") [.int (q:Int),Ma.d ⟨p,S_++[ZV z],E,pl⟩] h=.ok (Ma.d ⟨if z=0 then q else p+1,S_,E,pl⟩) h:=by
 rw[Zg H.gone_on rfl];have e3:=ZoA H n (h:=h) z (.int ((p:Int)+1)) (.int q);have go:∀m:Nat,(if z=0 then D.int q else .int ((p:Int)+1))=.int m->Ze (xs2 (P.tbl (n+1)) Ziy [Ws (.int q),Ws (Ma.d ⟨p,S_++[ZV z],E,pl⟩),Wu] h)=.ok (Ma.d ⟨m,S_,E,pl⟩) h:=λm e=>by rw[e]at e3;exact congrArg Ze ((Za (Zs (Zu e3 (Zc ((Zl rfl rfl).trans (Zcx Zef)) rfl)))).trans ((Za ((Zf (Zru (x:=.int m) rfl nofun)).trans rfl)).trans (Zd (Zr (Zaw (xs:=[_,_,_,_]) (Zc rfl (Zc (Zvd rfl) rfl)) (show 4<=1000 by decide))))))
 exact go _ (by split<;>rfl)
def ZkZ(H:Cod P)(n:Nat)(q p:Nat)(k:Nat)(ns:List Str)(ds:List D)(S_ E:List D)(pl:List (Nat×List D)):run P (n+2) (O "gone_on") [.int (q:Int),Ma.d ⟨p,S_++[Z1 k ns ds],E,pl⟩] h=.ok .non h:=by rw[Zg H.gone_on rfl];exact congrArg Ze ((Za (Zs (Zu (ZiK H n k ns ds (.int ((p:Int)+1)) (.int q)) (Zc ((Zl rfl rfl).trans (Zcx Zef)) rfl)))).trans (Zd ((Zj (Zuc rfl)).trans rfl)))
def Zs5(H:Cod P)(n:Nat)(w:Wd)(p:Nat)(a b:Int)(S_ E:List D)(pl:List (Nat×List D))(ha:0<=a/\a<1000000)(hb:0<=b/\b<1000000)(hz:S_.length<=10000):run P (n+2) (O "reckoned") [.str w.s,Ma.d ⟨p,S_++[ZV a,ZV b],E,pl⟩] h=.ok (Ma.d ⟨p+1,S_++[ZV (_root_.Rw.wk w a b)],E,pl⟩) h:=by rw[Zg H.reckoned rfl];exact congrArg Ze ((Za (Zs rfl)).trans ((Za (Zs (Zu (Zos H n w a b ha hb) (Zc rfl (Zc ((Zl rfl rfl).trans (Zcx ZmK)) (Zc ((Zl rfl rfl).trans (Zcx Zp5)) rfl)))))).trans ((Za ((Zf (Zru (x:=ZV _) rfl nofun)).trans rfl)).trans (Zd (Zr (Zaw (xs:=[_,_,_,_]) (Zc rfl (Zc ((Zi ((Gn.Zh3 (x:=.tup (S_++[ZV a,ZV b])) rfl rfl rfl).trans (by show R.ok (D.tup (cutD _ _ _)) h=_;rw[ZpP])) rfl).trans (ZbV (ys:=[ZV (_root_.Rw.wk w a b)]) (by rw[YC];simp;lia))) rfl)) (show 4<=1000 by decide)))))))
def ZsD:D->Ans->Prop:=λd a=>(d=.non/\a=.stuck)\/∃s:Ma,d=s.d/\a=.loud s
def Zm2(H:Cod P)(n:Nat)(ha:ZsD d a):run P (n+1) (O "loud_or_stuck") [d] h=.ok a.d h:=by
 rw[Zg H.loud_or_stuck rfl];rcases ha with ⟨rfl,rfl⟩|⟨s,rfl,rfl⟩
 . exact congrArg Ze (Zd ((Zj (Zuc rfl)).trans rfl))
 . exact congrArg Ze ((Za ((Zf (Zru (x:=s.d) rfl nofun)).trans rfl)).trans (Zd (Zr rfl)))
def Zh6(H:Cod P)(n:Nat)(s:Ma)(hz:s.pl.length<=10000)(e:run P (n+2) (O "applied") [.tup s.S_,.tup (((s.p+1,s.E)::s.pl).map fr)] h=.ok d h):run P (n+3) (O "loud_state") [Rw.call.d,s.d] h=.ok d h:=by rw[Zg H.loud_state rfl];exact congrArg Ze (Zd ((Zj rfl).trans (Zd (Zr (Zu e (Zc rfl (Zc ((Zi rfl rfl).trans (ZbV (xs:=[fr (s.p+1,s.E)]) (by rw[YC];simp;lia))) rfl)))))))
def ZjF(H:Cod P)(n:Nat)(s:Ma)(e:run P (n+2) (O "applied") [.tup s.S_,.tup (s.pl.map fr)] h=.ok d h):run P (n+3) (O "loud_state") [Rw.hop.d,s.d] h=.ok d h:=by rw[Zg H.loud_state rfl];exact congrArg Ze ((Za ((Zf rfl).trans rfl)).trans (Zd ((Zj rfl).trans (Zd (Zr (Zu e rfl))))))
def ZjE(H:Cod P)(n:Nat)(q:Int)(s:Ma)(e:run P (n+2) (O "gone_on") [.int q,s.d] h=.ok d h):run P (n+3) (O "loud_state") [(Rw.unl q).d,s.d] h=.ok d h:=by rw[Zg H.loud_state rfl];exact congrArg Ze ((Za ((Zf rfl).trans rfl)).trans ((Za ((Zf rfl).trans rfl)).trans (Zd ((Zj rfl).trans (Zd (Zr (Zu e rfl)))))))
def Zh5(H:Cod P)(n:Nat)(w:Wd)(s:Ma)(e:run P (n+2) (O "reckoned") [.str w.s,s.d] h=.ok d h):run P (n+3) (O "loud_state") [(Rw.work w).d,s.d] h=.ok d h:=by rw[Zg H.loud_state rfl];exact congrArg Ze ((Za ((Zf rfl).trans rfl)).trans ((Za ((Zf rfl).trans rfl)).trans ((Za ((Zf rfl).trans rfl)).trans (Zd (Zr (Zu e rfl))))))
def Zas{GD:Str->Option (List (Key×D))}{k p:Nat}{r:Rw}(hk:h[k]? = Ws (.lst (C.map Rw.d)))(hc:C[p]? = Ws r):ZbD GD (.ref k) (.int (p:Int)) h=.ok r.d h:=by rw[ZY hk,IV.ZbA,O2,hc];rfl
noncomputable def Zso:Rw->Bool
 |.call|.hop|.unl _|.work _=>Wv
 |_=>Ww
noncomputable def Zk1:Rw->Bool
 |.num _|.fetch _|.close _ _|.jmp _|.back=>Wv
 |_=>Ww
def ZkU(H:Cod P)(n:Nat)(s:Ma){k:Nat}(hk:h[k]? = Ws (.lst (C.map Rw.d)))(hc:C[s.p]? = Ws .fin):run P (n+1) (O "code_step") [.ref k,s.d] h=.ok Ans.value.d h:=by rw[Zg H.code_step rfl];exact congrArg Ze ((Za (Zs ((Zl rfl rfl).trans (Zas hk hc)))).trans (Zd ((Zj rfl).trans (Zd (Zr rfl)))))
def Zrp{r:Rw}(hr:Zso r=Wv):Str.ofString (wd r)≠O "end" /\ (wd r = "call" \/ wd r = "hop" \/ wd r = "unless" \/ wd r = "work"):=by cases r<;>first|(cases hr;done)|simp[wd]
def ZoE{r:Rw}(hr:Zk1 r=Wv):Str.ofString (wd r)≠O "end" /\ ¬ (wd r = "call" \/ wd r = "hop" \/ wd r = "unless" \/ wd r = "work"):=by cases r<;>first|(cases hr;done)|simp[wd]
def Zob(H:Cod P)(p:ev (P.tbl n) e S h=.ok (.str (Str.ofString x)) h):tst (P.tbl n) (.ex (.cmp .In e (.glo (O "LOUD")))) S h=.ok (Wx (x = "call" \/ x = "hop" \/ x = "unless" \/ x = "work")) h:=Zcy ((Zw p (by rw[Zhr,show(P.tbl n).G _=_ from H.go];rfl)).trans Zrw)
def Z2(H:Cod P)(n:Nat)(s:Ma){k:Nat}{r:Rw}(hk:h[k]? = Ws (.lst (C.map Rw.d)))(hc:C[s.p]? = Ws r)(hr:Zso r=Wv){d:D}{a:Ans}(ha:ZsD d a)(e1:run P (n+3) (O "loud_state") [r.d,s.d] h=.ok d h):run P (n+4) (O "code_step") [.ref k,s.d] h=.ok a.d h:=by rw[Zg H.code_step rfl];obtain⟨ds,ed⟩:=Zi6 r;have e:=Zas (GD:=P.GD) hk hc;rw[ed]at e e1;have hw:=Zrp hr;exact congrArg Ze ((Za (Zs ((Zl rfl rfl).trans e))).trans ((Za ((Zf (Zh (ZaM (ZeR rfl) rfl) (decide_eq_false hw.1))).trans rfl)).trans (Zd ((Zj (Zh (Zob (n:=n+3) H (ZeR rfl)) (decide_eq_true hw.2))).trans (Zd (Zr (Zu (Zm2 H (n+2) ha) (Zc (Zu e1 rfl) rfl))))))))
def Zc4(H:Cod P)(n:Nat)(s s':Ma){k:Nat}{r:Rw}(hk:h[k]? = Ws (.lst (C.map Rw.d)))(hc:C[s.p]? = Ws r)(hr:Zk1 r=Wv)(e1:run P (n+3) (O "quiet_state") [r.d,s.d] h=.ok s'.d h):run P (n+4) (O "code_step") [.ref k,s.d] h=.ok (Ans.quiet s').d h:=by rw[Zg H.code_step rfl];obtain⟨ds,ed⟩:=Zi6 r;have e:=Zas (GD:=P.GD) hk hc;rw[ed]at e e1;have hw:=ZoE hr;exact congrArg Ze ((Za (Zs ((Zl rfl rfl).trans e))).trans ((Za ((Zf (Zh (ZaM (ZeR rfl) rfl) (decide_eq_false hw.1))).trans rfl)).trans ((Za ((Zf (Zh (Zob (n:=n+3) H (ZeR rfl)) (decide_eq_false hw.2))).trans rfl)).trans (Zd (Zr (Zaw (xs:=[_,_]) (Zc rfl (Zc (Zu e1 rfl) rfl)) (show 2<=1000 by decide)))))))
end
set_option tactic.hygienic true
inductive Cd(C:List Rw):List Str->Bool->Nat->T->Nat->Prop
 |num {sc:List Str}{l:Bool}{p:Nat}{n:Int}:C[p]? = Ws (.num n)->Cd C sc l p (.num n) (p+1)
 |name {sc:List Str}{l:Bool}{p i:Nat}{x:Str}:C[p]? = Ws (.fetch i)->Tx.place x sc=Ws i->Cd C sc l p (.name x) (p+1)
 |fn {sc:List Str}{l:Bool}{p q q':Nat}{x:Str}{e:T}:C[p]? = Ws (.close (q:Int) [x])->Cd C (x::sc) Wv q e q'->C[q']? = Ws .back->Cd C sc l p (.fn x e) (p+1)
 |rcc {sc:List Str}{l:Bool}{p q q':Nat}{f x:Str}{e:T}:C[p]? = Ws (.close (q:Int) [x,f])->Cd C (x::f::sc) Wv q e q'->C[q']? = Ws .back->Cd C sc l p (.rcc f x e) (p+1)
 |call {sc:List Str}{l:Bool}{p p1 p2:Nat}{f a:T}:Cd C sc Ww p f p1->Cd C sc Ww p1 a p2->C[p2]? = Ws (if l then .hop else .call)->Cd C sc l p (.call f a) (p2+1)
 |op {sc:List Str}{l:Bool}{p p1 p2:Nat}{w:Wd}{a b:T}:Cd C sc Ww p a p1->Cd C sc Ww p1 b p2->C[p2]? = Ws (.work w)->Cd C sc l p (.op w a b) (p2+1)
 |iff {sc:List Str}{l:Bool}{p p1 p2 p3:Nat}{c t e:T}:Cd C sc Ww p c p1->C[p1]? = Ws (.unl ((p2+1:Nat):Int))->Cd C sc l (p1+1) t p2->C[p2]? = Ws (.jmp (p3:Int))->Cd C sc l (p2+1) e p3->Cd C sc l p (.iff c t e) p3
section
variable {L:List (List Rw)}{i p k:Nat}
def Zko{ns:List Str}{r:List Rw}{us:List (List Rw)}(hp:Plc L i p [.close k ns])(hu:Uts L k (r::us)):(flat (ZbC 0 L) 0 L)[off L i+p]? = Ws (.close ((off L k:Nat):Int) ns):=by
 have e:nmb (off L i) (ZbC 0 L) (.close k ns)=.close ((off L k:Nat):Int) ns:=by have:=Zl4 L 0 k (Yy hu.len);simp[nmb,this]
 rw[<- e];exact hp.head
def ZpW{m:Nat}{rs:List Rw}{us:List (List Rw)}(hu:Uts L k ((rs++[.back])::us))(hm:rs.length=m):(flat (ZbC 0 L) 0 L)[off L k+(0+m)]? = Ws .back:=by have:=hu.head.right.head;rw[hm]at this;exact this
theorem Zby:∀(t:T) (sc:List Str) (l:Bool) (p k i:Nat),Gn.Cl sc t->Plc L i p (comp t sc l p k).1->Uts L k (comp t sc l p k).2->Cd (flat (ZbC 0 L) 0 L) sc l (off L i+p) t (off L i+(p+cnt t))
 |.num m,sc,l,p,k,i,ct,hp,hu=>.num hp.head
 |.name y,sc,l,p,k,i,ct,hp,hu=>by obtain⟨j,e1,e2⟩:=ZfR (show y∈sc from ct);have hc:=hp.head;simp only[e1,Option.getD_some]at hc;exact .name hc e1
 |.fn y e,sc,l,p,k,i,ct,hp,hu=>.fn (Zko hp hu) (Zby e (y::sc) Wv 0 (k+1) k ct hu.head.left hu.tail) (ZpW hu (Zz e _ _ _ _))
 |.rcc f y e,sc,l,p,k,i,ct,hp,hu=>.rcc (Zko hp hu) (Zby e (y::f::sc) Wv 0 (k+1) k ct.1 hu.head.left hu.tail) (ZpW hu (Zz e _ _ _ _))
 |.call f a,sc,l,p,k,i,ct,hp,hu=>by have p2:=hp.right;rw[Zz]at p2;have p3:=p2.right;rw[Zz]at p3;have:=Cd.call (l:=l) (Zby f sc Ww p k i ct.1 hp.left hu.left) (Zby a sc Ww (p+cnt f) _ i ct.2 p2.left hu.right) (by cases l<;>exact p3.head);rw[show off L i+(p+cnt (T.call f a))=off L i+(p+cnt f+cnt a)+1 by simp only[cnt];lia];exact this
 |.op w f a,sc,l,p,k,i,ct,hp,hu=>by have p2:=hp.right;rw[Zz]at p2;have p3:=p2.right;rw[Zz]at p3;have:=Cd.op (l:=l) (Zby f sc Ww p k i ct.1 hp.left hu.left) (Zby a sc Ww (p+cnt f) _ i ct.2 p2.left hu.right) p3.head;rw[show off L i+(p+cnt (T.op w f a))=off L i+(p+cnt f+cnt a)+1 by simp only[cnt];lia];exact this
 |.iff c t e,sc,l,p,k,i,ct,hp,hu=>by have p2:=hp.right;rw[Zz]at p2;have p3:=p2.tail;have p4:=p3.right;rw[Zz]at p4;have hh:=p2.head;have hj:=p4.head;simp only[nmb]at hh hj;rw[show((off L i:Nat):Int)+((p+cnt c+1+cnt t+1:Nat):Int)=((off L i+(p+cnt c+1+cnt t)+1:Nat):Int) by lia]at hh;rw[show((off L i:Nat):Int)+((p+cnt c+1+cnt t+1+cnt e:Nat):Int)=((off L i+(p+cnt c+1+cnt t+1+cnt e):Nat):Int) by lia]at hj;have:=Cd.iff (l:=l) (Zby c sc Ww p k i ct.1 hp.left hu.left) hh (Zby t sc l (p+cnt c+1) _ i ct.2.1 p3.left hu.right.left) hj (Zby e sc l (p+cnt c+1+cnt t+1) _ i ct.2.2 p4.tail hu.right.right);rw[show p+cnt (T.iff c t e)=p+cnt c+1+cnt t+1+cnt e by simp[cnt];lia];exact this
end
def ZrS(t:T)(ct:Gn.Cl [] t):Cd (code t) [] Ww 0 t (cnt t)/\(code t)[cnt t]? = Ws .fin:=by
 have hp:Plc (units t) 0 0 ((comp t [] Ww 0 1).1++[.fin]):=⟨_,rfl,λj x hx=>by simpa using hx⟩
 have hu:Uts (units t) 1 (comp t [] Ww 0 1).2:=λj u hu=>by rw[Nat.add_comm];simpa[units]using hu
 have h1:=hp.right.head;rw[Zz]at h1;have h2:=Zby (L:=units t) t [] Ww 0 1 0 ct hp.left hu;have z:off (units t) 0=0:=by simp[off]
 rw[z]at h1 h2;simp only[Nat.zero_add]at h1 h2;exact⟨h2,h1⟩
section
inductive Stp(C:List Rw):Ma->Bool->Ma->Prop
 |push {p:Nat}{S_ E:List D}{pl:List (Nat×List D)}{r:Rw}{x:D} (hc:C[p]? = Ws r) (hx:psh E r=Ws x) (hz:S_.length<=10000):Stp C ⟨p,S_,E,pl⟩ Ww ⟨p+1,S_++[x],E,pl⟩
 |jmp {p q:Nat}{S_ E:List D}{pl:List (Nat×List D)} (hc:C[p]? = Ws (.jmp (q:Int))):Stp C ⟨p,S_,E,pl⟩ Ww ⟨q,S_,E,pl⟩
 |back {p q:Nat}{S_ E ds:List D}{pl:List (Nat×List D)} (hc:C[p]? = Ws .back):Stp C ⟨p,S_,E,(q,ds)::pl⟩ Ww ⟨q,S_,ds,pl⟩
 |call {p q:Nat}{ns:List Str}{V:D}{S_ E ds:List D}{pl:List (Nat×List D)} (hc:C[p]? = Ws .call) (hd:ds.length<=10000) (hp:pl.length<=10000):Stp C ⟨p,S_++[Z1 q ns ds,V],E,pl⟩ Wv ⟨q,S_,ent q ns ds V,(p+1,E)::pl⟩
 |hop {p q:Nat}{ns:List Str}{V:D}{S_ E ds:List D}{pl:List (Nat×List D)} (hc:C[p]? = Ws .hop) (hd:ds.length<=10000):Stp C ⟨p,S_++[Z1 q ns ds,V],E,pl⟩ Wv ⟨q,S_,ent q ns ds V,pl⟩
 |work {p:Nat}{w:Wd}{a b:Int}{S_ E:List D}{pl:List (Nat×List D)} (hc:C[p]? = Ws (.work w)) (ha:0<=a/\a<1000000) (hb:0<=b/\b<1000000) (hz:S_.length<=10000):Stp C ⟨p,S_++[ZV a,ZV b],E,pl⟩ Wv ⟨p+1,S_++[ZV (_root_.Rw.wk w a b)],E,pl⟩
 |unl {p q:Nat}{z:Int}{S_ E:List D}{pl:List (Nat×List D)} (hc:C[p]? = Ws (.unl (q:Int))):Stp C ⟨p,S_++[ZV z],E,pl⟩ Wv ⟨if z=0 then q else p+1,S_,E,pl⟩
noncomputable def ZxK(ld:Bool)(s:Ma):Ans:=if ld then .loud s else .quiet s
def Zvw{E:List D}{r:Rw}{x:D}(h:psh E r=Ws x):Zk1 r=Wv:=by cases r<;>first|rfl|cases h
variable {P:Pg}{h:Hd}{C:List Rw}
def Zsm(H:Cod P)(n:Nat){k:Nat}{s s':Ma}{ld:Bool}(hk:h[k]? = Ws (.lst (C.map Rw.d)))(q:Stp C s ld s'):run P (n+4) (O "code_step") [.ref k,s.d] h=.ok (ZxK ld s').d h:=by
 cases q with
 |push hc hx hz=>exact Zc4 H n _ _ hk hc (Zvw hx) (Zqw H (n+1) _ _ hx hz)
 |jmp hc=>exact Zc4 H n _ _ hk hc rfl (ZkW H (n+2) _ _)
 |back hc=>exact Zc4 H n _ _ hk hc rfl (Ztf H (n+2) _ _ _ _ _ _)
 |@call p q ns V S_ E ds pl hc hd hp=>exact Z2 H n _ hk hc rfl (.inr ⟨_,rfl,rfl⟩) (Zh6 H n ⟨p,S_++[Z1 q ns ds,V],E,pl⟩ hp (Zh8 H n _ _ _ _ _ _ hd))
 |@hop p q ns V S_ E ds pl hc hd=>exact Z2 H n _ hk hc rfl (.inr ⟨⟨q,S_,ent q ns ds V,pl⟩,rfl,rfl⟩) (ZjF H n ⟨p,S_++[Z1 q ns ds,V],E,pl⟩ (Zh8 H n _ _ _ _ _ _ hd))
 |work hc ha hb hz=>exact Z2 H n _ hk hc rfl (.inr ⟨_,rfl,rfl⟩) (Zh5 H n _ _ (Zs5 H n _ _ _ _ _ _ _ ha hb hz))
 |unl hc=>exact Z2 H n _ hk hc rfl (.inr ⟨_,rfl,rfl⟩) (ZjE H n _ _ (ZkY H n _ _ _ _ _ _))
variable {sc:List Str}{E:List D}
end
end Ce
namespace Cs
open PySem IV Gn
open Rw (Th Ar Wt Sta ZgF ArOk ZhY ZhK StN read rnd rd ra)
open Ce (Cd Ma Z1 ZV ent psh Stp)
section
mutual
inductive Vr(C:List Ce.Rw):D->Th->Prop
 |num {z:Int}:Vr C (ZV z) (.num z)
 |fn {q q':Nat}{x:Str}{e:T}{ds:List D}{sc:List Str}{ar:Ar} (c:Cd C (x::sc) Wv q e q') (b:C[q']? = Ws .back) (r:Er C ds sc ar):Vr C (Z1 q [x] ds) (.clo (.fn x e) ar)
 |rcc {q q':Nat}{f x:Str}{e:T}{ds:List D}{sc:List Str}{ar:Ar} (c:Cd C (x::f::sc) Wv q e q') (b:C[q']? = Ws .back) (r:Er C ds sc ar):Vr C (Z1 q [x,f] ds) (.clo (.rcc f x e) ar)
inductive Er(C:List Ce.Rw):List D->List Str->Ar->Prop
 |nil:Er C [] [] .nil
 |cons {d:D}{v:Th}{ds:List D}{sc:List Str}{ar:Ar} (x:Str) (h:Vr C d v) (r:Er C ds sc ar):Er C (d::ds) (x::sc) (.cons x v ar)
end
variable {C:List Ce.Rw}
def ZbF(q:Cd C sc l p t p'):p<p':=by
 induction q with
 |num _=>lia
 |name _ _=>lia
 |fn _ _ _ _=>lia
 |rcc _ _ _ _=>lia
 |call _ _ _ a b=>lia
 |op _ _ _ a b=>lia
 |iff _ _ _ _ _ a b d=>lia
theorem Er.get:∀{ds:List D}{sc:List Str}{ar:Ar}{i:Nat},Er C ds sc ar->L2.Tx.place x sc=Ws i->∃d v,ds[i]? = Ws d/\ar.get x=Ws v/\Vr C d v
 |_,_,_,i,.nil,h=>by cases h
 |_,_,_,i,.cons y hv r,h=>by
  rw[L2.Tx.place]at h;rw[Ar.get];split at h
  . rename_i e;cases h;exact⟨_,_,rfl,if_pos e,hv⟩
  . rename_i ne;cases q:L2.Tx.place x _ with
    |none=>rw[q]at h;cases h
    |some j=>rw[q]at h;cases h;obtain⟨d,v,e1,e2,e3⟩:=r.get q;exact⟨d,v,by simpa using e1,by rw[if_neg ne];exact e2,e3⟩
theorem Er.len:∀{ds:List D}{sc:List Str}{ar:Ar},Er C ds sc ar->ds.length=ar.len
 |_,_,_,.nil=>rfl
 |_,_,_,.cons x h r=>by rw[Os,Ar.len,r.len]
def Hp(r:Ce.Rw)(b:Bool)(S_:List D)(ws:List Wt):Prop:=(r=.call/\(b=Wv->ws≠[]))\/(r=.hop/\b=Wv/\S_=[]/\ws=[])
def Ls(l b:Bool)(S_:List D)(ws:List Wt):Prop:=(l=Wv->b=Wv/\S_=[]/\ws=[])/\(l=Ww->b=Wv->ws≠[])
def Ls.no:Ls Ww b S_ (w::ws):=⟨nofun,nofun⟩
inductive Cx(C:List Ce.Rw):Bool->List Str->Ar->Nat->List D->List Wt->Prop
 |fin {sc:List Str}{ar:Ar}{p:Nat} (hc:C[p]? = Ws .fin):Cx C Ww sc ar p [] []
 |back {sc:List Str}{ar:Ar}{p:Nat} (hc:C[p]? = Ws .back):Cx C Wv sc ar p [] []
 |jmp {b:Bool}{sc:List Str}{ar:Ar}{p q:Nat}{S_:List D}{ws:List Wt} (hc:C[p]? = Ws (.jmp (q:Int))) (hq:p<q) (k:Cx C b sc ar q S_ ws):Cx C b sc ar p S_ ws
 |app {b:Bool}{sc:List Str}{ar:Ar}{p:Nat}{S_:List D}{ws:List Wt}{r:Ce.Rw}{d:D}{W:Th} (hc:C[p]? = Ws r) (hr:Hp r b S_ ws) (v:Vr C d W) (k:Cx C b sc ar (p+1) S_ ws):Cx C b sc ar p (S_++[d]) (.fn W::ws)
 |arg {b:Bool}{sc:List Str}{ar:Ar}{p p1:Nat}{S_:List D}{ws:List Wt}{r:Ce.Rw}{A:T} (c:Cd C sc Ww p A p1) (hc:C[p1]? = Ws r) (hr:Hp r b S_ ws) (k:Cx C b sc ar (p1+1) S_ ws):Cx C b sc ar p S_ (.arg A ar::ws)
 |work {b:Bool}{sc:List Str}{ar:Ar}{p:Nat}{S_:List D}{ws:List Wt}{w:Wd}{d:D}{W:Th} (hc:C[p]? = Ws (.work w)) (v:Vr C d W) (k:Cx C b sc ar (p+1) S_ ws):Cx C b sc ar p (S_++[d]) (.left w W::ws)
 |right {b:Bool}{sc:List Str}{ar:Ar}{p p1:Nat}{S_:List D}{ws:List Wt}{w:Wd}{F:T} (c:Cd C sc Ww p F p1) (hc:C[p1]? = Ws (.work w)) (k:Cx C b sc ar (p1+1) S_ ws):Cx C b sc ar p S_ (.right w F ar::ws)
 |cho {b l:Bool}{sc:List Str}{ar:Ar}{p p2 p3:Nat}{S_:List D}{ws:List Wt}{t e:T} (hc:C[p]? = Ws (.unl ((p2+1:Nat):Int))) (ct:Cd C sc l (p+1) t p2) (hj:C[p2]? = Ws (.jmp (p3:Int))) (ce:Cd C sc l (p2+1) e p3) (hl:Ls l b S_ ws) (k:Cx C b sc ar p3 S_ ws):Cx C b sc ar p S_ (.iff t e ar::ws)
inductive Dx(C:List Ce.Rw):Bool->List (Nat×List D)->List D->List Wt->Prop
 |nil:Dx C Ww [] [] []
 |cons {b:Bool}{sc:List Str}{ar:Ar}{p:Nat}{E S_ S0:List D}{ws vs:List Wt}{pl:List (Nat×List D)} (r:Er C E sc ar) (k:Cx C b sc ar p S_ ws) (hw:b=Wv->ws≠[]) (hc:∃p0,p=p0+1/\C[p0]? = Ws .call) (x:Dx C b pl S0 vs):Dx C Wv ((p,E)::pl) (S0++S_) (ws++vs)
inductive Rc(C:List Ce.Rw):Ma->Sta->Prop
 |go {b l:Bool}{sc:List Str}{ar:Ar}{p p':Nat}{E S_ S0:List D}{ws vs:List Wt}{pl:List (Nat×List D)}{t:T} (r:Er C E sc ar) (c:Cd C sc l p t p') (hl:Ls l b S_ ws) (k:Cx C b sc ar p' S_ ws) (x:Dx C b pl S0 vs):Rc C ⟨p,S0++S_,E,pl⟩ (.go t ar (ws++vs))
 |back {b:Bool}{sc:List Str}{ar:Ar}{p:Nat}{E S_ S0:List D}{ws vs:List Wt}{pl:List (Nat×List D)}{d:D}{V:Th} (r:Er C E sc ar) (v:Vr C d V) (k:Cx C b sc ar p S_ ws) (x:Dx C b pl S0 vs):Rc C ⟨p,S0++S_++[d],E,pl⟩ (.back V (ws++vs))
inductive Qs:Sta->Sta->Prop
 |refl {s:Sta}:Qs s s
 |step {s s' t:Sta} (e:Rw.step s=.quiet s') (q:Qs s' t):Qs s t
def Qs.trans(a:Qs s t)(b:Qs t u):Qs s u:=by
 induction a with
 |refl=>exact b
 |step e _ ih=>exact .step e (ih b)
noncomputable def atm:T->Bool
 |.num _|.name _|.fn _ _|.rcc _ _ _=>Wv
 |_=>Ww
theorem down:∀{t:T}{b l:Bool}{sc:List Str}{ar:Ar}{p p':Nat}{S_:List D}{ws vs:List Wt},Cd C sc l p t p'->Ls l b S_ ws->Cx C b sc ar p' S_ ws->∃t0 l0 p0 ws0,atm t0=Wv/\Cd C sc l0 p t0 p0/\Ls l0 b S_ ws0/\Cx C b sc ar p0 S_ ws0/\Qs (.go t ar (ws++vs)) (.go t0 ar (ws0++vs))
 |.num _,_,_,_,_,_,_,_,_,_,c,hl,k=>⟨_,_,_,_,rfl,c,hl,k,.refl⟩
 |.name _,_,_,_,_,_,_,_,_,_,c,hl,k=>⟨_,_,_,_,rfl,c,hl,k,.refl⟩
 |.fn _ _,_,_,_,_,_,_,_,_,_,c,hl,k=>⟨_,_,_,_,rfl,c,hl,k,.refl⟩
 |.rcc _ _ _,_,_,_,_,_,_,_,_,_,c,hl,k=>⟨_,_,_,_,rfl,c,hl,k,.refl⟩
 |.call f a,b,l,sc,ar,p,p',S_,ws,vs,c,hl,k=>by
  cases c with
  |call c1 c2 hc=>
   have hr:Hp (if l then .hop else .call) b S_ ws:=by
    cases l with
    |true=>exact .inr ⟨rfl,hl.1 rfl⟩
    |false=>exact .inl ⟨rfl,hl.2 rfl⟩
   obtain⟨t0,l0,p0,ws0,h1,h2,h3,h4,h5⟩:=down (b:=b) (vs:=vs) c1 .no (.arg c2 hc hr k);exact⟨t0,l0,p0,ws0,h1,h2,h3,h4,.step rfl h5⟩
 |.op w x y,b,l,sc,ar,p,p',S_,ws,vs,c,hl,k=>by
  cases c with
  |op c1 c2 hc=>obtain⟨t0,l0,p0,ws0,h1,h2,h3,h4,h5⟩:=down (b:=b) (vs:=vs) c1 .no (.right c2 hc k);exact⟨t0,l0,p0,ws0,h1,h2,h3,h4,.step rfl h5⟩
 |.iff x t e,b,l,sc,ar,p,p',S_,ws,vs,c,hl,k=>by
  cases c with
  |iff c1 hc c2 hj c3=>obtain⟨t0,l0,p0,ws0,h1,h2,h3,h4,h5⟩:=down (b:=b) (vs:=vs) c1 .no (.cho hc c2 hj c3 hl k);exact⟨t0,l0,p0,ws0,h1,h2,h3,h4,.step rfl h5⟩
end
end Cs
namespace Cs
open PySem IV Gn
open Rw (Th Ar Wt Sta ZgF ArOk ZhY ZhK StN WtN ThN read rnd rd ra wts)
open Ce (Cd Ma Z1 ZV ent psh Stp)
section
variable {C:List Ce.Rw}{N:Nat}
inductive Stk(C:List Ce.Rw):Ma->Prop
 |app {p:Nat}{r:Ce.Rw}{z:Int}{V:D}{S_ E:List D}{pl:List (Nat×List D)} (hc:C[p]? = Ws r) (hr:r=.call\/r=.hop) (hp:pl.length<=10000):Stk C ⟨p,S_++[ZV z,V],E,pl⟩
 |unl {p q k:Nat}{ns:List Str}{ds S_ E:List D}{pl:List (Nat×List D)} (hc:C[p]? = Ws (.unl (q:Int))):Stk C ⟨p,S_++[Z1 k ns ds],E,pl⟩
 |work {p:Nat}{w:Wd}{A B_:D}{S_ E:List D}{pl:List (Nat×List D)}{V W:Th} (hc:C[p]? = Ws (.work w)) (va:Vr C A W) (vb:Vr C B_ V) (hn:¬ ∃a b,A=ZV a/\B_=ZV b):Stk C ⟨p,S_++[A,B_],E,pl⟩
inductive Sc(C:List Ce.Rw)(s:Ma)(Z:Sta):Ce.Ans->Prop
 |quiet {s':Ma}{σ':Sta} (e:Stp C s Ww s') (r:Rc C s' σ') (q:Qs Z σ'):Sc C s Z (.quiet s')
 |loud {s':Ma}{σ0 σ1 σ':Sta} (e:Stp C s Wv s') (q0:Qs Z σ0) (h:Rw.step σ0=.loud σ1) (r:Rc C s' σ') (q:Qs σ1 σ'):Sc C s Z (.loud s')
 |value {σ0:Sta} (e:C[s.p]? = Ws .fin) (q:Qs Z σ0) (h:Rw.step σ0=.value):Sc C s Z .value
 |stuck {σ0:Sta} (e:Stk C s) (q:Qs Z σ0) (h:Rw.step σ0=.stuck):Sc C s Z .stuck
def Sc.pre(q:Qs Z σ0)(h:Sc C s σ0 a):Sc C s Z a:=by
 cases h with
 |quiet e r q'=>exact .quiet e r (q.trans q')
 |loud e q0 h r q'=>exact .loud e (q.trans q0) h r q'
 |value e q' h=>exact .value e (q.trans q') h
 |stuck e q' h=>exact .stuck e (q.trans q') h
def ZkN(r:Er C E sc ar)(c:Cd C sc l p t p')(hl:Ls l b S_ ws)(k:Cx C b sc ar p' S_ ws)(x:Dx C b pl S0 vs)(hz:(S0++S_).length<=10000):∃a,Sc C ⟨p,S0++S_,E,pl⟩ (.go t ar (ws++vs)) a:=by
 obtain⟨t0,l0,p0,ws0,h1,h2,h3,h4,h5⟩:=down (vs:=vs) c hl k;have fin:∀{rw:Ce.Rw}{d:D}{V:Th},C[p]? = Ws rw->psh E rw=Ws d->p0=p+1->Vr C d V->Rw.step (.go t0 ar (ws0++vs))=.quiet (.back V (ws0++vs))->∃a,Sc C ⟨p,S0++S_,E,pl⟩ (.go t ar (ws++vs)) a:=λhc hd ep hv hs=>by subst ep;exact⟨_,.quiet (.push hc hd hz) (.back r hv h4 x) (h5.trans (.step hs .refl))⟩
 cases t0 with
 |num n=>cases h2 with|num hc=>exact fin hc rfl rfl .num rfl
 |name y=>
  cases h2 with
  |name hc e=>obtain⟨d,v,e1,e2,e3⟩:=r.get e;exact fin hc e1 rfl e3 (by simp only[Rw.step,Rw.ZlN,e2])
 |fn y e=>cases h2 with|fn hc c hb=>exact fin hc rfl rfl (.fn c hb r) rfl
 |rcc f y e=>cases h2 with|rcc hc c hb=>exact fin hc rfl rfl (.rcc c hb r) rfl
 |_=>cases h1
def ZwD:S0++(S_++[a])++[d]=(S0++S_)++[a,d]:=by simp
def Zom(r:Er C E sc ar)(v:Vr C d V)(k:Cx C b sc ar p S_ ws)(x:Dx C b pl S0 vs)(hz:(S0++S_).length<=9000)(hp:pl.length<=9000)(hN:N<=5000)(ok:ZhK (.back V (ws++vs)))(on:StN N (.back V (ws++vs))):∃a,Sc C ⟨p,S0++S_++[d],E,pl⟩ (.back V (ws++vs)) a:=by
 cases k with
 |fin hc=>cases x;exact⟨_,.value hc .refl rfl⟩
 |back hc=>
  cases x with
  |cons r' k' hw hc' x'=>have h:=Rc.back r' v k' x';rw[Ys];exact⟨_,.quiet (.back hc) h .refl⟩
 |jmp hc hq k=>exact⟨_,.quiet (.jmp hc) (.back r v k x) .refl⟩
 |arg c hc hr k=>obtain⟨a,h⟩:=ZkN (vs:=vs) r c .no (.app hc hr v k) x (by simp at hz ⊢;lia);rw[<- Oz]at h;exact⟨a,h.pre (.step rfl .refl)⟩
 |right c hc k=>obtain⟨a,h⟩:=ZkN (vs:=vs) r c .no (.work hc v k) x (by simp at hz ⊢;lia);rw[<- Oz]at h;exact⟨a,h.pre (.step rfl .refl)⟩
 |@app _ _ _ _ S_ ws rw dW W hc hr vW k=>
  rw[ZwD];rw[<- Oz,OA]at hz;have okW:ZgF W:=ok.2 _ Oi;have onW:ThN N W:=on.2 _ Oi;have hr':rw=.call\/rw=.hop:=hr.elim (λz=>.inl z.1) (λz=>.inr z.1);have call:∀{q q':Nat}{ns sc':List Str}{ds:List D}{e:T}{ar':Ar},dW=Z1 q ns ds->ds.length<=10000->Er C (ent q ns ds d) sc' ar'->Cd C sc' Wv q e q'->C[q']? = Ws .back->Rw.step (.back V (.fn W::ws++vs))=.loud (.go e ar' (ws++vs))->∃a,Sc C ⟨p,S0++S_++[dW,d],E,pl⟩ (.back V (.fn W::ws++vs)) a:=λ{q q' ns sc' ds e ar'} ed hd er cd hb hs=>by
   subst ed;rcases hr with ⟨rfl,hw⟩|⟨rfl,rfl,rfl,rfl⟩
   . refine⟨_,.loud (.call hc hd (by lia)) .refl hs ?_ .refl⟩;have:=Rc.go (S_:=[]) (ws:=[]) er cd ⟨λ_=>⟨rfl,rfl,rfl⟩,nofun⟩ (.back hb) (.cons r k hw ⟨_,rfl,hc⟩ x);rw[Ys]at this;exact this
   . refine⟨_,.loud (.hop hc hd) .refl hs ?_ .refl⟩;exact Rc.go (S_:=[]) (ws:=[]) er cd ⟨λ_=>⟨rfl,rfl,rfl⟩,nofun⟩ (.back hb) x
  cases vW with
  |num=>exact⟨_,.stuck (.app hc hr' (by lia)) .refl rfl⟩
  |fn c hb er=>have h1:=onW.1;unfold Rw.Bd at h1;exact call rfl (by rw[er.len];lia) (.cons _ v er) c hb rfl
  |@rcc q q' f y e ds sc' ar' c hb er=>have h1:=onW.1;unfold Rw.Bd at h1;exact call rfl (by rw[er.len];lia) (.cons _ v (.cons _ (.rcc c hb er) er)) c hb rfl
 |@work _ _ _ _ S_ ws w dW W hc vW k=>
  rw[ZwD];rw[<- Oz,OA]at hz;have okW:ZgF W:=ok.2 _ Oi;have okV:=ok.1;have st:(¬ ∃a b,dW=ZV a/\d=ZV b)->Rw.step (.back V (.left w W::ws++vs))=.stuck->∃a,Sc C ⟨p,S0++S_++[dW,d],E,pl⟩ (.back V (.left w W::ws++vs)) a:=λhn hs=>⟨_,.stuck (.work hc vW v hn) .refl hs⟩
  cases vW with
  |num=>
   cases v with
   |num=>exact⟨_,.loud (.work hc okW okV (by lia)) .refl rfl (.back r .num k x) .refl⟩
   |fn c hb er=>exact st (λ⟨_,_,_,z⟩=>by cases z) rfl
   |rcc c hb er=>exact st (λ⟨_,_,_,z⟩=>by cases z) rfl
  |fn c hb er=>exact st (λ⟨_,_,z,_⟩=>by cases z) rfl
  |rcc c hb er=>exact st (λ⟨_,_,z,_⟩=>by cases z) rfl
 |@cho _ l _ _ _ p2 p3 _ ws t e hc ct hj ce hl k=>
  cases v with
  |@num z=>
   by_cases q:z=0
   . subst q;have:=Stp.unl (z:=0) (S_:=S0++S_) (E:=E) (pl:=pl) hc;rw[if_pos rfl]at this;exact⟨_,.loud this .refl rfl (.go r ce hl k x) .refl⟩
   . have:=Stp.unl (z:=z) (S_:=S0++S_) (E:=E) (pl:=pl) hc;rw[if_neg q]at this;refine⟨_,.loud this .refl rfl ?_ .refl⟩;simp only[if_neg q];exact .go r ct hl (.jmp hj (Nat.lt_of_succ_lt (ZbF ce)) k) x
  |fn c hb er=>exact⟨_,.stuck (.unl hc) .refl rfl⟩
  |rcc c hb er=>exact⟨_,.stuck (.unl hc) .refl rfl⟩
def Cx.lens(k:Cx C b sc ar p S_ ws):S_.length<=ws.length:=by
 induction k with
 |fin _=>exact Oq _
 |back _=>exact Oq _
 |jmp _ _ _ ih=>exact ih
 |app _ _ _ _ ih=>simpa using ih
 |arg _ _ _ _ ih=>exact Nat.le_succ_of_le ih
 |work _ _ _ ih=>simpa using ih
 |right _ _ _ ih=>exact Nat.le_succ_of_le ih
 |cho _ _ _ _ _ _ ih=>exact Nat.le_succ_of_le ih
theorem Dx.lens(x:Dx C b pl S_ vs):S_.length<=vs.length/\pl.length<=vs.length+(if b then 1 else 0):=by
 induction x with
 |nil=>exact⟨Oq _,Oq _⟩
 |@cons b _ _ _ _ _ _ ws _ _ r k hw hc x ih=>
  have h1:=k.lens;simp only[OA,Os,if_true];refine⟨by lia,?_⟩;cases b with
  |false=>simp only[OG,if_false]at ih;lia
  |true=>
   have h2:0<ws.length:=List.length_pos_iff.mpr (hw rfl);simp only[if_true]at ih
   lia
theorem Rc.lens(r:Rc C s Z):s.S_.length<=(wts Z).length+1/\s.pl.length<=(wts Z).length+1:=by
 cases r with
 |@go b _ _ _ _ _ _ _ _ _ _ _ _ r c hl k x=>have h1:=k.lens;have h2:=x.lens;simp only[wts,OA];refine⟨by lia,?_⟩;split at h2<;>lia
 |@back b _ _ _ _ _ _ _ _ _ _ _ r v k x=>have h1:=k.lens;have h2:=x.lens;simp only[wts,OA,Os,List.length_nil];refine⟨by lia,?_⟩;split at h2<;>lia
def sim(r:Rc C s Z)(hz:(wts Z).length<=8000)(hN:N<=5000)(ok:ZhK Z)(on:StN N Z):∃a,Sc C s Z a:=by
 have hl:=r.lens;cases r with
 |go r c hl' k x=>exact ZkN r c hl' k x (by simp only at hl;lia)
 |back r v k x=>exact Zom r v k x (by simp only[OA]at hl ⊢;lia) (by simp only at hl;lia) hN ok on
end
end Cs
namespace Pw
open PySem L2 IV
def Zb2:Sxs:=(.c (.drp (.mcl (O "Pen") (O "take_place") (.v 0) .n)) (.c (.ret (.bin .Add (.v 1) (.v 2))) .n))
def Zfp:Fd:=⟨[(O "self"),(O "front"),(O "parts")],[(O "self"),(O "front"),(O "parts")],Zb2⟩
def ZlA:Sxs:=(.c (.set (.nm 2) (.call (O "opened") (.c (.v 1) .n))) (.c (.ret (.mcl (O "Pen") (O "filled") (.v 0) (.c (.ix (.v 2) (.ci 0)) (.c (.ix (.v 2) (.ci 1)) .n)))) .n))
def Zhq:Fd:=⟨[(O "self"),(O "thing")],[(O "self"),(O "thing"),(O "pair")],ZlA⟩
structure Pnw(P:Pg):Prop where
 t:Tm.Trb P
 wd:Tm.Wid P
 gw:P.G (O "WIDEST")=Ws (.int 120)
 n_Pen_joined:P.tb.lookup (mnm (O "Pen") (O "joined"))=Wu
 Pen_joined:P.ms.lookup (mnm (O "Pen") (O "joined"))=Ws Zfp
 n_Pen_told:P.tb.lookup (mnm (O "Pen") (O "told"))=Wu
 Pen_told:P.ms.lookup (mnm (O "Pen") (O "told"))=Ws Zhq
end Pw
namespace Pw
open PySem L2 IV Tm
section
variable {P:Pg}{h0 h:Hd}{pk:Nat}
def Zvh(q:ev U e S h=r):Ze (xs2 U (.cons (.ret e) .nil) S h)=r:=by rw[xs2,ZiC,q];cases r<;>rfl
section
variable {u N:Nat} (H:Pnw P) (n:Nat) (hN:1<=N) (hN2:N<=45000)
include H hN hN2
omit hN hN2
theorem Zm3(fs ps:List D)(a:Aft h0 h pk (.int 120) (u:Int))(hu:u<120)(hz:fs.length+ps.length<=1000):run P (n+2) (mnm (O "Pen") (O "joined")) [.ref pk,.tup fs,.tup ps] h=.ok (.tup (fs++ps)) (h.set pk (Zbc (.int 120) ((u:Int)+1))):=by have e:=Zov H.t n (u:=(u:Int)) (.inr ⟨120,rfl,by lia⟩) a.1;rw[Zy H.n_Pen_joined H.Pen_joined (by rfl)];have x1:xs1 (P.tbl (n+1)) (hdS Zb2) [Ws (.ref pk),Ws (.tup fs),Ws (.tup ps)] h=.ok (.nx,[Ws (.ref pk),Ws (.tup fs),Ws (.tup ps)]) (h.set pk (Zbc (.int 120) ((u:Int)+1))):=ZU (ZB rfl a.1 rfl rfl e);exact(congrArg Ze (nx1 (U:=P.tbl (n+1)) (ss:=Zb2) x1 rfl)).trans (Zvh ((Zi rfl rfl).trans (ZbV (by rw[YC];lia))))
theorem Zox(fs ps:List D)(a:Aft h0 h pk (.int 120) (120:Int)):run P (n+2) (mnm (O "Pen") (O "joined")) [.ref pk,.tup fs,.tup ps] h=.exc (O "Wide") h:=by have e:=ZjC H.t H.wd n a.1;rw[Zy H.n_Pen_joined H.Pen_joined (by rfl)];exact congrArg Ze (ZcP (U:=P.tbl (n+1)) (r:=tlS Zb2) (Zht (ZB rfl a.1 rfl rfl e)))
end
end
end Pw
namespace Cr
open PySem L2 IV
def Zgy:Tx:=(.ex (.cmp .Eq (.blt .len (.c (.v 0) .n)) (.ci 1)))
def ZeW:Sx:=(.ret (.tupl (.c (.Ci_ "fn") (.c (.ix (.v 0) (.ci 0)) (.c (.v 1) .n)))))
def Zgw:Sxs:=(.c ZeW .n)
def ZgD:Sx:=.iff Zgy Zgw .n
def ZgC:Sx:=(.ret (.tupl (.c (.Ci_ "rec") (.c (.ix (.v 0) (.ci 1)) (.c (.ix (.v 0) (.ci 0)) (.c (.v 1) .n))))))
def ZhW:Sxs:=(.c ZgD (.c ZgC .n))
def ZeI:Fd:=⟨[(O "names"),(O "E")],[(O "names"),(O "E")],ZhW⟩
def Zeb:Sx:=(.seta [(O "Decoder")] (.v 0) (O "code") (.v 1))
def Zea:Sx:=(.seta [(O "Decoder")] (.v 0) (O "at") (.ix (.v 2) (.ci 0)))
def Zd9:Sx:=(.seta [(O "Decoder"),(O "Unit")] (.v 0) (O "around") (.ix (.v 2) (.ci 2)))
def Zd8:Sx:=(.seta [(O "Decoder")] (.v 0) (O "pile") (.ix (.v 2) (.ci 3)))
def Zd7:Sx:=(.seta [(O "Decoder")] (.v 0) (O "pen") (.mk (O "Pen") (.c (.glo (O "WIDEST")) .n)))
def Zd6:Sx:=(.seta [(O "Decoder")] (.v 0) (O "done") (.lstl .n))
def Zd5:Sx:=(.seta [(O "Decoder")] (.v 0) (O "begun") (.lstl .n))
def Zci:Sxs:=(.c Zeb (.c Zea (.c Zd9 (.c Zd8 (.c Zd7 (.c Zd6 (.c Zd5 .n)))))))
def ZaF:Fd:=⟨[(O "self"),(O "code"),(O "state")],[(O "self"),(O "code"),(O "state")],Zci⟩
def ZeX:Sx:=(.drp (.mcl (O "Pen") (O "take_place") (.att [(O "Decoder")] (.v 0) (O "pen")) .n))
def Zcc:Tx:=(.ex (.cmp .Eq (.ix (.v 1) (.ci 0)) (.Ci_ "clo")))
def ZdD:Sx:=(.drp (.meth .app (.att [(O "Decoder")] (.v 0) (O "begun")) (.c (.tupl (.c (.Ci_ "function") (.c (.ix (.v 1) (.ci 2)) (.c (.att [(O "Decoder")] (.v 0) (O "at")) (.c (.att [(O "Decoder"),(O "Unit")] (.v 0) (O "around")) .n))))) .n)))
def Zbf:Sx:=(.seta [(O "Decoder")] (.v 0) (O "at") (.ix (.v 1) (.ci 1)))
def Zae:Sx:=(.seta [(O "Decoder"),(O "Unit")] (.v 0) (O "around") (.bin .Add (.blt .tup (.c (.comp [(O "name")] [Wu] (.pl (.ix (.v 1) (.ci 2))) (.nm 0) Wu (.tupl (.c (.Ci_ "name") (.c (.v 0) .n)))) .n)) (.ix (.v 1) (.ci 3))))
def ZdE:Sx:=(.drp (.meth .app (.att [(O "Decoder")] (.v 0) (O "done")) (.c (.v 1) .n)))
def Z3:Sxs:=(.c ZdD (.c Zbf (.c Zae .n)))
def ZaG:Sxs:=(.c ZdE .n)
def Zch:Sx:=.iff Zcc Z3 ZaG
def Zbr:Sxs:=(.c ZeX (.c Zch .n))
def ZcW:Fd:=⟨[(O "self"),(O "thing")],[(O "self"),(O "thing")],Zbr⟩
def ZS:Sx:=(.set (.nm 3) (.blt .tup (.c (.sl (.att [(O "Decoder")] (.v 0) (O "done")) (Ws (.neg (.v 2))) Wu) .n)))
def ZR:Sx:=(.seta [(O "Decoder")] (.v 0) (O "done") (.sl (.att [(O "Decoder")] (.v 0) (O "done")) Wu (Ws (.neg (.v 2)))))
def ZaA:Sx:=(.drp (.meth .app (.att [(O "Decoder")] (.v 0) (O "done")) (.c (.mcl (O "Pen") (O "joined") (.att [(O "Decoder")] (.v 0) (O "pen")) (.c (.tupl (.c (.v 1) .n)) (.c (.v 3) .n))) .n)))
def Zdh:Sxs:=(.c ZS (.c ZR (.c ZaA .n)))
def ZaW:Fd:=⟨[(O "self"),(O "word"),(O "count")],[(O "self"),(O "word"),(O "count"),(O "parts")],Zdh⟩
def ZcI:Sx:=(.ret (.ands (.c (.cmp .Gt (.blt .len (.c (.att [(O "Decoder")] (.v 0) (O "begun")) .n)) (.ci 0)) (.c (.cmp .Eq (.ix (.ix (.att [(O "Decoder")] (.v 0) (O "begun")) (.neg (.ci 1))) (.ci 0)) (.Ci_ "if")) .n))))
def Za3:Sxs:=(.c ZcI .n)
def ZaX:Fd:=⟨[(O "self")],[(O "self")],Za3⟩
def ZcJ:Sx:=(.ret (.ands (.c (.mcl (O "Decoder") (O "is_within_if") (.v 0) .n) (.c (.cmp .Eq (.ix (.ix (.att [(O "Decoder")] (.v 0) (O "begun")) (.neg (.ci 1))) (.ci 1)) (.att [(O "Decoder")] (.v 0) (O "at"))) .n))))
def Za4:Sxs:=(.c ZcJ .n)
def ZaY:Fd:=⟨[(O "self")],[(O "self")],Za4⟩
def Zbl:Tx:=(.nt (.ex (.mcl (O "Decoder") (O "is_within_if") (.v 0) .n)))
def Zez:Sx:=(.seta [(O "Decoder")] (.v 0) (O "at") (.ix (.v 1) (.ci 1)))
def ZfV:Sxs:=(.c Zez .n)
def Zf9:Sx:=.iff Zbl ZfV .n
def Za2:Sxs:=(.c Zf9 .n)
def ZdT:Fd:=⟨[(O "self"),(O "row")],[(O "self"),(O "row")],Za2⟩
def Zat:Tx:=(.ex (.att [(O "Decoder")] (.v 0) (O "begun")))
def Za6:Sx:=(.set (.nm 1) (.meth .pop (.att [(O "Decoder")] (.v 0) (O "begun")) .n))
def Za5:Sx:=(.drp (.meth .app (.att [(O "Decoder")] (.v 0) (O "done")) (.c (.call (O "function_of") (.c (.ix (.v 1) (.ci 1)) (.c (.meth .pop (.att [(O "Decoder")] (.v 0) (O "done")) .n) .n))) .n)))
def Z5:Sx:=(.seta [(O "Decoder")] (.v 0) (O "at") (.ix (.v 1) (.ci 2)))
def ZJ:Sx:=(.seta [(O "Decoder"),(O "Unit")] (.v 0) (O "around") (.ix (.v 1) (.ci 3)))
def Zdi:Sx:=(.seta [(O "Decoder")] (.v 0) (O "at") (.ix (.ix (.att [(O "Decoder")] (.v 0) (O "pile")) (.ci 0)) (.ci 0)))
def Za7:Sx:=(.seta [(O "Decoder"),(O "Unit")] (.v 0) (O "around") (.ix (.ix (.att [(O "Decoder")] (.v 0) (O "pile")) (.ci 0)) (.ci 1)))
def Z6:Sx:=(.seta [(O "Decoder")] (.v 0) (O "pile") (.sl (.att [(O "Decoder")] (.v 0) (O "pile")) (Ws (.ci 1)) Wu))
def Zes:Sxs:=(.c Za6 (.c Za5 (.c Z5 (.c ZJ .n))))
def Zew:Sxs:=(.c Zdi (.c Za7 (.c Z6 .n)))
def ZeA:Sx:=.iff Zat Zes Zew
def ZO:Sxs:=(.c ZeA .n)
def Zcm:Fd:=⟨[(O "self")],[(O "self"),(O "function")],ZO⟩
def Zcd:Tx:=(.ex (.cmp .In (.ix (.v 1) (.ci 0)) (.glo (O "CALLS"))))
def ZdF:Sx:=(.drp (.mcl (O "Decoder") (O "put_together") (.v 0) (.c (.Ci_ "call") (.c (.ci 2) .n))))
def ZdC:Tx:=(.ex (.cmp .Eq (.ix (.v 1) (.ci 0)) (.Ci_ "work")))
def ZcK:Sx:=(.drp (.mcl (O "Decoder") (O "put_together") (.v 0) (.c (.ix (.v 1) (.ci 1)) (.c (.ci 2) .n))))
def ZcD:Tx:=(.ex (.cmp .Eq (.ix (.v 1) (.ci 0)) (.Ci_ "unless")))
def Zb3:Sx:=(.drp (.meth .app (.att [(O "Decoder")] (.v 0) (O "begun")) (.c (.tupl (.c (.Ci_ "if") (.c (.ix (.ix (.att [(O "Decoder")] (.v 0) (O "code")) (.bin .Sub (.ix (.v 1) (.ci 1)) (.ci 1))) (.ci 1)) .n))) .n)))
def Zb0:Tx:=(.ex (.cmp .Eq (.ix (.v 1) (.ci 0)) (.Ci_ "jump")))
def Zbs:Sx:=(.drp (.mcl (O "Decoder") (O "jump") (.v 0) (.c (.v 1) .n)))
def Zbm:Tx:=(.ex (.cmp .Eq (.ix (.v 1) (.ci 0)) (.Ci_ "back")))
def ZaN:Sx:=(.drp (.mcl (O "Decoder") (O "go_back") (.v 0) .n))
def ZaO:Sx:=(.drp (.mcl (O "Decoder") (O "put_on") (.v 0) (.c (.call (O "thing_of") (.c (.v 1) (.c (.att [(O "Decoder"),(O "Unit")] (.v 0) (O "around")) .n))) .n)))
def Zbj:Sxs:=(.c ZaN .n)
def Zbk:Sxs:=(.c ZaO .n)
def Zbt:Sx:=.iff Zbm Zbj Zbk
def ZbY:Sxs:=(.c Zbs .n)
def ZbZ:Sxs:=(.c Zbt .n)
def Zb4:Sx:=.iff Zb0 ZbY ZbZ
def Zcw:Sxs:=(.c Zb3 .n)
def Zcz:Sxs:=(.c Zb4 .n)
def ZcL:Sx:=.iff ZcD Zcw Zcz
def Zdy:Sxs:=(.c ZcK .n)
def ZdA:Sxs:=(.c ZcL .n)
def ZdG:Sx:=.iff ZdC Zdy ZdA
def ZeP:Sxs:=(.c ZdF .n)
def ZeT:Sxs:=(.c ZdG .n)
def ZaI:Sx:=.iff Zcd ZeP ZeT
def Zaq:Sxs:=(.c ZaI .n)
def ZcX:Fd:=⟨[(O "self"),(O "row")],[(O "self"),(O "row")],Zaq⟩
def Zau:Tx:=(.ex (.mcl (O "Decoder") (O "is_behind_if") (.v 0) .n))
def Zdj:Sx:=(.drp (.meth .pop (.att [(O "Decoder")] (.v 0) (O "begun")) .n))
def Za8:Sx:=(.drp (.mcl (O "Decoder") (O "put_together") (.v 0) (.c (.Ci_ "if") (.c (.ci 3) .n))))
def Z7:Sx:=(.auga [(O "Decoder")] (.v 0) (O "at") (.ci 1))
def Za9:Sx:=(.drp (.mcl (O "Decoder") (O "do_row") (.v 0) (.c (.ix (.att [(O "Decoder")] (.v 0) (O "code")) (.bin .Sub (.att [(O "Decoder")] (.v 0) (O "at")) (.ci 1))) .n)))
def Zet:Sxs:=(.c Zdj (.c Za8 .n))
def Zex:Sxs:=(.c Z7 (.c Za9 .n))
def ZeB:Sx:=.iff Zau Zet Zex
def ZP:Sxs:=(.c ZeB .n)
def Zcn:Fd:=⟨[(O "self")],[(O "self")],ZP⟩
def Zv:Sx:=(.drp (.mcl (O "Decoder") (O "put_on") (.v 0) (.c (.v 1) .n)))
def Zbe:Tx:=(.ex (.att [(O "Decoder")] (.v 0) (O "begun")))
def Zc1:Sx:=(.drp (.mcl (O "Decoder") (O "do_next") (.v 0) .n))
def Zbd:Sxs:=(.c Zc1 .n)
def Zn:Sx:=.whl Zbe Zbd
def Zey:Sxs:=(.c Zv (.c Zn .n))
def ZbR:Fd:=⟨[(O "self"),(O "thing")],[(O "self"),(O "thing")],Zey⟩
def Z4:Tx:=(.ors (.c (.ex (.att [(O "Decoder")] (.v 0) (O "begun"))) (.one (.ex (.cmp .NotEq (.ix (.ix (.att [(O "Decoder")] (.v 0) (O "code")) (.att [(O "Decoder")] (.v 0) (O "at"))) (.ci 0)) (.Ci_ "end"))))))
def Zd4:Sx:=(.drp (.mcl (O "Decoder") (O "do_next") (.v 0) .n))
def Zb9:Sxs:=(.c Zd4 .n)
def Z8:Sx:=.whl Z4 Zb9
def ZaJ:Sx:=(.ret (.ix (.att [(O "Decoder")] (.v 0) (O "done")) (.ci 0)))
def Zga:Sxs:=(.c Z8 (.c ZaJ .n))
def ZcY:Fd:=⟨[(O "self")],[(O "self")],Zga⟩
def ZcH:Sx:=(.set (.nm 2) (.mk (O "Decoder") (.c (.v 0) (.c (.v 1) .n))))
def ZhP:Ix:=(.pl (.ix (.v 1) (.ci 1)))
def ZgE:Sx:=(.drp (.mcl (O "Decoder") (O "put_whole") (.v 2) (.c (.v 3) .n)))
def Zab:Sxs:=(.c ZgE .n)
def ZcG:Sx:=.forr (.nm 3) ZhP Zab
def Zbz:Sx:=(.ret (.mcl (O "Decoder") (O "do_all") (.v 2) .n))
def Zkv:Sxs:=(.c ZcH (.c ZcG (.c Zbz .n)))
def Zgn:Fd:=⟨[(O "code"),(O "state")],[(O "code"),(O "state"),(O "decoder"),(O "thing")],Zkv⟩
structure Dec(P:Pg):Prop where
 c:Ce.Cod P
 p:Pw.Pnw P
 gc:P.G (O "CALLS")=Ws (.tup [.str (O "call"),.str (O "hop")])
 function_of:P.tb.lookup (O "function_of")=Ws ZeI
 n_Decoder___init__:P.tb.lookup (mnm (O "Decoder") (O "__init__"))=Wu
 Decoder___init__:P.ms.lookup (mnm (O "Decoder") (O "__init__"))=Ws ZaF
 n_Decoder_put_on:P.tb.lookup (mnm (O "Decoder") (O "put_on"))=Wu
 Decoder_put_on:P.ms.lookup (mnm (O "Decoder") (O "put_on"))=Ws ZcW
 n_Decoder_put_together:P.tb.lookup (mnm (O "Decoder") (O "put_together"))=Wu
 Decoder_put_together:P.ms.lookup (mnm (O "Decoder") (O "put_together"))=Ws ZaW
 n_Decoder_is_within_if:P.tb.lookup (mnm (O "Decoder") (O "is_within_if"))=Wu
 Decoder_is_within_if:P.ms.lookup (mnm (O "Decoder") (O "is_within_if"))=Ws ZaX
 n_Decoder_is_behind_if:P.tb.lookup (mnm (O "Decoder") (O "is_behind_if"))=Wu
 Decoder_is_behind_if:P.ms.lookup (mnm (O "Decoder") (O "is_behind_if"))=Ws ZaY
 n_Decoder_jump:P.tb.lookup (mnm (O "Decoder") (O "jump"))=Wu
 Decoder_jump:P.ms.lookup (mnm (O "Decoder") (O "jump"))=Ws ZdT
 n_Decoder_go_back:P.tb.lookup (mnm (O "Decoder") (O "go_back"))=Wu
 Decoder_go_back:P.ms.lookup (mnm (O "Decoder") (O "go_back"))=Ws Zcm
 n_Decoder_do_row:P.tb.lookup (mnm (O "Decoder") (O "do_row"))=Wu
 Decoder_do_row:P.ms.lookup (mnm (O "Decoder") (O "do_row"))=Ws ZcX
 n_Decoder_do_next:P.tb.lookup (mnm (O "Decoder") (O "do_next"))=Wu
 Decoder_do_next:P.ms.lookup (mnm (O "Decoder") (O "do_next"))=Ws Zcn
 n_Decoder_put_whole:P.tb.lookup (mnm (O "Decoder") (O "put_whole"))=Wu
 Decoder_put_whole:P.ms.lookup (mnm (O "Decoder") (O "put_whole"))=Ws ZbR
 n_Decoder_do_all:P.tb.lookup (mnm (O "Decoder") (O "do_all"))=Wu
 Decoder_do_all:P.ms.lookup (mnm (O "Decoder") (O "do_all"))=Ws ZcY
 code_read:P.tb.lookup (O "code_read")=Ws Zgn
end Cr
namespace Cr
open PySem L2 IV
open Tm (Zbc grown)
open Ce (fr Z1 ZV keep Z9 Zas)
section
variable {P:Pg}{h0 h:Hd}{C:List Ce.Rw}{k c pk bk dk p u:Nat}{A dn:List D}{pl:List (Nat×List D)}
noncomputable def Zft(k p:Nat)(A:List D)(pl:List (Nat×List D))(pk dk bk:Nat):DO:=.ins (O "Decoder") [(O "code",.ref k),(O "at",.int (p:Int)),(O "around",.tup A),(O "pile",.tup (pl.map fr)),(O "pen",.ref pk),(O "done",.ref dk),(O "begun",.ref bk)]
inductive Bg where
 |fn (ns:List Str) (p:Nat) (A:List D)|iff (q:Nat)
noncomputable def Bg.d:Bg->D
 |.fn ns p A=>.tup [.str (O "function"),.tup (ns.map .str),.int (p:Int),.tup A]
 |.iff q=>.tup [.str (O "if"),.int (q:Int)]
variable {bg:List Bg}
noncomputable def tp(bg:List Bg):Option Nat:=match bg.getLast? with
 |some (.iff q)=>Ws q
 |_=>Wu
structure Dq(C:List Ce.Rw)(k c pk bk:Nat)(h0 h:Hd)(dk p:Nat)(A:List D)(pl:List (Nat×List D))(dn:List D)(bg:List Bg)(u:Nat):Prop where
 o:h[c]? = Ws (Zft k p A pl pk dk bk)
 q:h[pk]? = Ws (Zbc (.int 120) (u:Int))
 d:h[dk]? = Ws (.lst dn)
 b:h[bk]? = Ws (.lst (bg.map Bg.d))
 kc:h[k]? = Ws (.lst (C.map Ce.Rw.d))
 ne:dk≠bk
 ok:k<h0.length
 oc:h0.length<=c
 op:h0.length<=pk
 od:h0.length<=dk
 ob:h0.length<=bk
 ol:h0.length<=h.length
 old:∀i,i<h0.length->h[i]? = h0[i]?
def Ds(C:List Ce.Rw)(k c pk bk:Nat)(h0 h:Hd)(p:Nat)(A:List D)(pl:List (Nat×List D))(dn:List D)(bg:List Bg)(u:Nat):Prop:=∃dk,Dq C k c pk bk h0 h dk p A pl dn bg u
def neq{i j:Nat}{a b:DO}(e:h[i]? = Ws a)(e':h[j]? = Ws b)(n:a≠b):i≠j:=λz=>by rw[z,e']at e;cases e;exact n rfl
section
variable (s:Dq C k c pk bk h0 h dk p A pl dn bg u)
include s
theorem Dq.cp:c≠pk:=neq s.o s.q (by simp[Zft,Zbc])
theorem Dq.cd:c≠dk:=neq s.o s.d nofun
theorem Dq.cb:c≠bk:=neq s.o s.b nofun
theorem Dq.pd:pk≠dk:=neq s.q s.d nofun
theorem Dq.pb:pk≠bk:=neq s.q s.b nofun
theorem Dq.app(g:Hd):Dq C k c pk bk h0 (h++g) dk p A pl dn bg u:=⟨keep s.o,keep s.q,keep s.d,keep s.b,keep s.kc,s.ne,s.ok,s.oc,s.op,s.od,s.ob,by have:=s.ol;simp;lia,λi hi=>by rw[Oe (by have:=s.ol;lia)];exact s.old i hi⟩
theorem Dq.set{i:Nat}{o:DO}(hi:h0.length<=i):(∀j,j≠i->(h.set i o)[j]? = h[j]?)/\h0.length<=(h.set i o).length/\∀j,j<h0.length->(h.set i o)[j]? = h0[j]? :=⟨λj hj=>Oc (YL hj),by simpa using s.ol,λj hj=>by rw[Oc (by lia)];exact s.old j hj⟩
theorem Dq.setO(p':Nat)(A':List D)(pl':List (Nat×List D)):Dq C k c pk bk h0 (h.set c (Zft k p' A' pl' pk dk bk)) dk p' A' pl' dn bg u:=by have z:=s.set (o:=Zft k p' A' pl' pk dk bk) s.oc;exact⟨by rw[Ol (Z9 s.o)],by rw[z.1 _ (YL s.cp)];exact s.q,by rw[z.1 _ (YL s.cd)];exact s.d,by rw[z.1 _ (YL s.cb)];exact s.b,by rw[z.1 _ (by have:=s.ok;have:=s.oc;lia)];exact s.kc,s.ne,s.ok,s.oc,s.op,s.od,s.ob,z.2.1,z.2.2⟩
theorem Dq.setN{dk':Nat}{dn':List D}(e:h[dk']? = Ws (.lst dn'))(ne:dk'≠bk)(o:h0.length<=dk'):Dq C k c pk bk h0 (h.set c (Zft k p A pl pk dk' bk)) dk' p A pl dn' bg u:=by have z:=s.set (o:=Zft k p A pl pk dk' bk) s.oc;exact⟨by rw[Ol (Z9 s.o)],by rw[z.1 _ (YL s.cp)];exact s.q,by rw[z.1 _ (YL (neq s.o e nofun))];exact e,by rw[z.1 _ (YL s.cb)];exact s.b,by rw[z.1 _ (by have:=s.ok;have:=s.oc;lia)];exact s.kc,ne,s.ok,s.oc,s.op,o,s.ob,z.2.1,z.2.2⟩
theorem Dq.setD(dn':List D):Dq C k c pk bk h0 (h.set dk (.lst dn')) dk p A pl dn' bg u:=by have z:=s.set (o:=.lst dn') s.od;exact⟨by rw[z.1 _ s.cd];exact s.o,by rw[z.1 _ s.pd];exact s.q,by rw[Ol (Z9 s.d)],by rw[z.1 _ (YL s.ne)];exact s.b,by rw[z.1 _ (by have:=s.ok;have:=s.od;lia)];exact s.kc,s.ne,s.ok,s.oc,s.op,s.od,s.ob,z.2.1,z.2.2⟩
theorem Dq.setB(bg':List Bg):Dq C k c pk bk h0 (h.set bk (.lst (bg'.map Bg.d))) dk p A pl dn bg' u:=by have z:=s.set (o:=.lst (bg'.map Bg.d)) s.ob;exact⟨by rw[z.1 _ s.cb];exact s.o,by rw[z.1 _ s.pb];exact s.q,by rw[z.1 _ s.ne];exact s.d,by rw[Ol (Z9 s.b)],by rw[z.1 _ (by have:=s.ok;have:=s.ob;lia)];exact s.kc,s.ne,s.ok,s.oc,s.op,s.od,s.ob,z.2.1,z.2.2⟩
theorem Dq.setP(u':Nat):Dq C k c pk bk h0 (h.set pk (Zbc (.int 120) (u':Int))) dk p A pl dn bg u':=by have z:=s.set (o:=Zbc (.int 120) (u':Int)) s.op;exact⟨by rw[z.1 _ s.cp];exact s.o,by rw[Ol (Z9 s.q)],by rw[z.1 _ (YL s.pd)];exact s.d,by rw[z.1 _ (YL s.pb)];exact s.b,by rw[z.1 _ (by have:=s.ok;have:=s.op;lia)];exact s.kc,s.ne,s.ok,s.oc,s.op,s.od,s.ob,z.2.1,z.2.2⟩
theorem Dq.gone:∃g,h=h0++g:=grown s.ol s.old
end
section
variable {U:Tb}{S:Ev}{h1:Hd}{Cs:List Str}{f:Str}{fs:List (Str×D)}{d:D}{e:Ex}
def g_a(hρ:(S[0]?).join=Ws (.ref c))(hc:h[c]? = Ws (.ins (O "Decoder") fs))(hC:O "Decoder" ∈ Cs)(hl:fs.lookup f=Ws d):ev U (.att Cs (.var 0) f) S h=.ok d h:=by rw[ZpG,Zi3,hρ];simp only[ofO_some,Zt,ZfY,Zaf,hc,if_pos hC,hl]
def s_a(q:ev U e S h=.ok d h1)(hρ:(S[0]?).join=Ws (.ref c))(hc:h1[c]? = Ws (.ins (O "Decoder") fs))(hC:O "Decoder" ∈ Cs)(hf:fs.length<1000):xs1 U (.seta Cs (.var 0) f e) S h=.ok (.nx,S) (h1.set c (.ins (O "Decoder") (Zg0 f d fs))):=by rw[ZnO,q,Zt,Zi3,hρ];simp only[ofO_some,Zt,ZfN,hc,if_pos (show O "Decoder" ∈ Cs/\fs.length<1000 from⟨hC,hf⟩)]
end
def Zad:O "Decoder" ∈ [O "Decoder"]:=by simp
def cls2:O "Decoder" ∈ [O "Decoder",O "Unit"]:=by simp
def Zmm(e:h[i]? = Ws (.lst (l++[x]))):ZbD GD (.ref i) (.int (-1)) h=.ok x h:=by rw[ZY e,IV.Zef];rfl
def ZjB(H:Dec P)(n:Nat)(s:Dq C k c pk bk h0 h dk p A pl dn bg u):run P (n+1) (mnm (O "Decoder") (O "is_within_if")) [.ref c] h=.ok (.bl (tp bg).isSome) h:=by
 rw[Zy H.n_Decoder_is_within_if H.Decoder_is_within_if (by rfl)];have eb:ev (P.tbl n) (.att [O "Decoder"] (.var 0) (O "begun")) [Ws (.ref c)] h=.ok (.ref bk) h:=g_a rfl s.o Zad rfl;have el:ev (P.tbl n) (.blt .len (.cons (.att [O "Decoder"] (.var 0) (O "begun")) .nil)) [Ws (.ref c)] h=.ok (.int (bg.length:Int)) h:=by refine(Zhs (Zc eb rfl) (Zgh s.b)).trans ?_;rw[Yt]
 have e1:ev (P.tbl n) (.cmp .Gt (.blt .len (.cons (.att [O "Decoder"] (.var 0) (O "begun")) .nil)) (.ci 0)) [Ws (.ref c)] h=.ok (.bl (Wx ((0:Int)<bg.length))) h:=(Zw el rfl).trans rfl;have fin:∀b,evAnd (P.tbl n) (.cons (.cmp .Gt (.blt .len (.cons (.att [O "Decoder"] (.var 0) (O "begun")) .nil)) (.ci 0)) (.cons (.cmp .Eq (.ix (.ix (.att [O "Decoder"] (.var 0) (O "begun")) (.neg (.ci 1))) (.ci 0)) (.Ci_ "if")) .nil)) [Ws (.ref c)] h=.ok (.bl b) h->Ze (xs2 (P.tbl n) Za3 [Ws (.ref c)] h)=.ok (.bl b) h:=λb e=>congrArg Ze (Zd (Zr (Zmz.trans e)));refine fin _ ?_;rw[Zim,e1];rcases List.eq_nil_or_concat bg with rfl|⟨l,x,rfl⟩
 . rfl
 . rw[decide_eq_true (by simp)];have sb:=s.b;rw[List.concat_eq_append,List.map_append]at sb;have e2:ev (P.tbl n) (.ix (.att [O "Decoder"] (.var 0) (O "begun")) (.neg (.ci 1))) [Ws (.ref c)] h=.ok x.d h:=(Zl eb rfl).trans (Zmm sb);show ev (P.tbl n) (.cmp .Eq _ _) [Ws (.ref c)] h=_;cases x with
   |fn ns q B_=>refine(Zw (x:=.str (O "function")) ((Zl e2 rfl).trans rfl) rfl).trans ?_;rw[Zg4,ZdK];simp[tp]
   |iff q=>refine(Zw (x:=.str (O "if")) ((Zl e2 rfl).trans rfl) rfl).trans ?_;rw[Zg4,ZdK];simp[tp]
def ZjI(H:Dec P)(n:Nat)(s:Dq C k c pk bk h0 h dk p A pl dn bg u):run P (n+2) (mnm (O "Decoder") (O "is_behind_if")) [.ref c] h=.ok (.bl (Wx (tp bg=Ws p))) h:=by
 rw[Zy H.n_Decoder_is_behind_if H.Decoder_is_behind_if (by rfl)];have ew:ev (P.tbl (n+1)) (.mcl (O "Decoder") (O "is_within_if") (.var 0) .nil) [Ws (.ref c)] h=.ok (.bl (tp bg).isSome) h:=ZB rfl s.o rfl rfl (ZjB H n s);have fin:∀b,evAnd (P.tbl (n+1)) (.cons (.mcl (O "Decoder") (O "is_within_if") (.var 0) .nil) (.cons (.cmp .Eq (.ix (.ix (.att [O "Decoder"] (.var 0) (O "begun")) (.neg (.ci 1))) (.ci 1)) (.att [O "Decoder"] (.var 0) (O "at"))) .nil)) [Ws (.ref c)] h=.ok (.bl b) h->Ze (xs2 (P.tbl (n+1)) Za4 [Ws (.ref c)] h)=.ok (.bl b) h:=λb e=>congrArg Ze (Zd (Zr (Zmz.trans e)));refine fin _ ?_;rw[Zim,ew];cases q:tp bg with
 |none=>rfl
 |some j=>
  rcases List.eq_nil_or_concat bg with rfl|⟨l,x,rfl⟩
  . cases q
  . have sb:=s.b;rw[List.concat_eq_append,List.map_append]at sb;cases x with
    |fn ns q' B_=>simp[tp]at q
    |iff i=>
     have:i=j:=by simpa[tp]using q
     subst this;have eb:ev (P.tbl (n+1)) (.att [O "Decoder"] (.var 0) (O "begun")) [Ws (.ref c)] h=.ok (.ref bk) h:=g_a rfl s.o Zad rfl;have e2:ev (P.tbl (n+1)) (.ix (.att [O "Decoder"] (.var 0) (O "begun")) (.neg (.ci 1))) [Ws (.ref c)] h=.ok (Bg.iff i).d h:=(Zl eb rfl).trans (Zmm sb);refine(Zw (x:=.int (i:Int)) (y:=.int (p:Int)) ((Zl e2 rfl).trans rfl) (g_a rfl s.o Zad rfl)).trans ?_;rw[Zg4,ZjS];congr 2;simp only[Option.some.injEq];rw[Bool.eq_iff_iff,if_neg (by simp),decide_eq_true_iff,decide_eq_true_iff]
     lia
end
section
variable {P:Pg}{h0 h:Hd}{C:List Ce.Rw}{k c pk bk dk p u:Nat}{A dn:List D}{pl:List (Nat×List D)}{bg:List Bg}
def ZpO(hr:r≠[]):cutD (l++r) (Ws (-(r.length:Int))) Wu=r:=by
 have hp:0<r.length:=List.length_pos_iff.mpr hr;have e:HT.sIx (l++r).length 0 (Ws (-(r.length:Int)))=l.length:=by simp[HT.sIx];lia
 have e0:HT.sIx (l++r).length (l++r).length Wu=(l++r).length:=by simp[HT.sIx]
 unfold cutD;rw[e,e0];simp
def ZpQ(hr:r≠[]):cutD (l++r) Wu (Ws (-(r.length:Int)))=l:=by
 have hp:0<r.length:=List.length_pos_iff.mpr hr;have e:HT.sIx (l++r).length (l++r).length (Ws (-(r.length:Int)))=l.length:=by simp[HT.sIx];lia
 have e0:HT.sIx (l++r).length 0 Wu=0:=by simp[HT.sIx]
 unfold cutD;rw[e,e0];simp
inductive On(C:List Ce.Rw)(k c pk bk:Nat)(h0:Hd)(p:Nat)(A:List D)(pl:List (Nat×List D))(dn:List D)(bg:List Bg)(u:Nat):R D->Prop
 |ok {h':Hd} (le:u<=120) (s:Ds C k c pk bk h0 h' p A pl dn bg u):On C k c pk bk h0 p A pl dn bg u (.ok .non h')
 |ex {g:Hd} (lt:120<u):On C k c pk bk h0 p A pl dn bg u (.exc (O "Wide") (h0++g))
def ZfT(q:ev U e S h=r)(o:On C k c pk bk h0 p A pl dn bg u r):On C k c pk bk h0 p A pl dn bg u (Ze (xs2 U (.cons (.drp e) .nil) S h)):=by
 cases o with
 |ok le s=>rw[Za (ZU q)];exact .ok le s
 |ex lt=>rw[ZcP (Zht q)];exact .ex lt
noncomputable def vp(c:Nat)(w:D)(m:Nat)(o:Option D):Ev:=[Ws (.ref c),Ws w,Ws (.int (m:Int)),o]
def ZkX(H:Dec P)(n:Nat)(s:Dq C k c pk bk h0 h dk p A pl (dn++ps) bg u)(hu:u<=120)(hr:ps≠[])(hps:ps.length<=10)(hd:dn.length<=1000):On C k c pk bk h0 p A pl (dn++[.tup (.str w::ps)]) bg (u+1) (run P (n+3) (mnm (O "Decoder") (O "put_together")) [.ref c,.str w,.int (ps.length:Int)] h):=by
 rw[Zy H.n_Decoder_put_together H.Decoder_put_together (by rfl)];have s1:=s.app [.lst ps];have s2:=s.app ([.lst ps]++[.lst dn]);rw[<- Oz]at s2;have x1:xs1 (P.tbl (n+2)) ZS (vp c (.str w) ps.length Wu) h=.ok (.nx,vp c (.str w) ps.length (Ws (.tup ps))) (h++[.lst ps]):=by
  have q:ev (P.tbl (n+2)) (.sl (.att [O "Decoder"] (.var 0) (O "done")) (Ws (.neg (.var 2))) Wu) (vp c (.str w) ps.length Wu) h=.ok (.ref h.length) (h++[.lst ps]):=by rw[Zmu,g_a (d:=.ref dk) rfl s.o Zad rfl,Zt];show Zgu (.ref dk) (Ws (-(ps.length:Int))) Wu h=_;simp only[Zgu,lstOf,s.d];rw[ZpO hr];rfl
  exact Zs (Zhs (Zc q rfl) (Zsa (ys:=ps) (by simp)))
 have x2:∃h2,xs1 (P.tbl (n+2)) ZR (vp c (.str w) ps.length (Ws (.tup ps))) (h++[.lst ps])=.ok (.nx,vp c (.str w) ps.length (Ws (.tup ps))) h2/\Dq C k c pk bk h0 h2 (h.length+1) p A pl dn bg u:=by
  have q:ev (P.tbl (n+2)) (.sl (.att [O "Decoder"] (.var 0) (O "done")) Wu (Ws (.neg (.var 2)))) (vp c (.str w) ps.length (Ws (.tup ps))) (h++[.lst ps])=.ok (.ref (h.length+1)) (h++[.lst ps]++[.lst dn]):=by rw[Zmu,g_a (d:=.ref dk) rfl s1.o Zad rfl,Zt];show Zgu (.ref dk) Wu (Ws (-(ps.length:Int))) (h++[.lst ps])=_;simp only[Zgu,lstOf,s1.d];rw[ZpQ hr];simp[Zc7]
  refine⟨_,s_a q rfl s2.o Zad (by simp),?_⟩;exact s2.setN (dk':=h.length+1) (by simp) (by have:=Z9 s.b;lia) (by have:=s.ol;lia)
 obtain⟨h2,x2,s3⟩:=x2;show On C k c pk bk h0 p A pl (dn++[.tup (.str w::ps)]) bg (u+1) (Ze (xs2 (P.tbl (n+2)) (.cons ZS (.cons ZR (.cons ZaA .nil))) (vp c (.str w) ps.length Wu) h));rw[Za x1,Za x2];have ed:ev (P.tbl (n+2)) (.att [O "Decoder"] (.var 0) (O "done")) (vp c (.str w) ps.length (Ws (.tup ps))) h2=.ok (.ref (h.length+1)) h2:=g_a rfl s3.o Zad rfl;have ep:ev (P.tbl (n+2)) (.att [O "Decoder"] (.var 0) (O "pen")) (vp c (.str w) ps.length (Ws (.tup ps))) h2=.ok (.ref pk) h2:=g_a rfl s3.o Zad rfl;have es:evs (P.tbl (n+2)) (.cons (.tupl (.cons (.var 1) .nil)) (.cons (.var 3) .nil)) (vp c (.str w) ps.length (Ws (.tup ps))) h2=.ok [.tup [.str w],.tup ps] h2:=rfl;have af:Tm.Aft h2 h2 pk (.int 120) (u:Int):=⟨s3.q,Oq _,λ_ _ _=>rfl⟩
 by_cases q:u=120
 . subst q;have ej:=ZB ep s3.q rfl es (Pw.Zox H.p n [.str w] ps af);have em:ev (P.tbl (n+2)) (.meth .app (.att [O "Decoder"] (.var 0) (O "done")) (.cons (.mcl (O "Pen") (O "joined") (.att [O "Decoder"] (.var 0) (O "pen")) (.cons (.tupl (.cons (.var 1) .nil)) (.cons (.var 3) .nil))) .nil)) (vp c (.str w) ps.length (Ws (.tup ps))) h2=.exc (O "Wide") h2:=by rw[Zmv,ed,Zt,Zih s3.d,if_pos rfl,Zwi ej];rfl
   obtain⟨g,rfl⟩:=s3.gone;exact ZfT em (.ex (by lia))
 . have ej:=ZB ep s3.q rfl es (Pw.Zm3 H.p n [.str w] ps af (by lia) (by simp;lia));have s4:=s3.setP (u+1);rw[show((u:Int)+1)=((u+1:Nat):Int) by lia]at ej;have em:=Zdz (m:=.app) ed s3.d (Zc ej ZI) (ZaT s4.d (by rw[YC];lia));exact ZfT em (.ok (by lia) ⟨_,s4.setD _⟩)
def Zm0(H:Dec P)(n:Nat)(s:Dq C k c pk bk h0 h dk p A pl dn bg u)(hu:u<120):run P (n+1) (mnm (O "Pen") (O "take_place")) [.ref pk] h=.ok .non (h.set pk (Zbc (.int 120) ((u+1:Nat):Int))):=Tm.Zov H.p.t n (.inr ⟨120,rfl,by lia⟩) s.q
noncomputable def vt(c:Nat)(d:D):Ev:=[Ws (.ref c),Ws d]
def Zsn(H:Dec P)(n:Nat)(s:Dq C k c pk bk h0 h dk p A pl dn bg 120):On C k c pk bk h0 p' A' pl dn' bg' 121 (run P (n+2) (mnm (O "Decoder") (O "put_on")) [.ref c,d] h):=by rw[Zy H.n_Decoder_put_on H.Decoder_put_on (by rfl)];have ep:ev (P.tbl (n+1)) (.att [O "Decoder"] (.var 0) (O "pen")) (vt c d) h=.ok (.ref pk) h:=g_a rfl s.o Zad rfl;have q:=ZB (U:=P.tbl (n+1)) (C:=O "Pen") (m:=O "take_place") ep s.q rfl ZI (Tm.ZjC H.p.t H.p.wd n s.q);obtain⟨g,rfl⟩:=s.gone;have x:xs2 (P.tbl (n+1)) Zbr (vt c d) (h0++g)=.exc (O "Wide") (h0++g):=ZcP (Zht q);show On C k c pk bk h0 p' A' pl dn' bg' 121 (Ze (xs2 (P.tbl (n+1)) Zbr (vt c d) (h0++g)));rw[x];exact .ex (by decide)
def ZoF(H:Dec P)(n:Nat)(s:Dq C k c pk bk h0 h dk p A pl dn bg u)(hu:u<120)(ed:d=.tup (.str w::ds)):∃h1,Dq C k c pk bk h0 h1 dk p A pl dn bg (u+1)/\run P (n+2) (mnm (O "Decoder") (O "put_on")) [.ref c,d] h=Ze (xs2 (P.tbl (n+1)) (if w=O "clo" then Z3 else ZaG) (vt c d) h1):=by
 refine⟨_,s.setP (u+1),?_⟩;rw[Zy H.n_Decoder_put_on H.Decoder_put_on (by rfl)];have ep:ev (P.tbl (n+1)) (.att [O "Decoder"] (.var 0) (O "pen")) (vt c d) h=.ok (.ref pk) h:=g_a rfl s.o Zad rfl;have q:=ZB (U:=P.tbl (n+1)) (C:=O "Pen") (m:=O "take_place") ep s.q rfl ZI (Zm0 H n s hu);have one:∀(U:Tb) (st:Sx) (S:Ev) (h:Hd),xs2 U (.cons st .nil) S h=xs1 U st S h:=λU st S h=>by
  rw[xs2];cases xs1 U st S h with
  |bad=>rfl
  |exc c h=>rfl
  |ok p h=>obtain⟨f,S⟩:=p;cases f<;>rfl
 have t:∀h',tst (P.tbl (n+1)) Zcc (vt c d) h'=.ok (Wx (w=O "clo")) h':=λh'=>ZaM ((Zl (x:=d) rfl rfl).trans (by rw[ed];simp)) rfl;have e2:∀h',xs2 (P.tbl (n+1)) (.cons Zch .nil) (vt c d) h'=xs2 (P.tbl (n+1)) (if w=O "clo" then Z3 else ZaG) (vt c d) h':=λh'=>by
  rw[one];by_cases z:w=O "clo"
  . rw[if_pos z];exact Zj (Zh (t h') (decide_eq_true z))
  . rw[if_neg z];exact Zf (Zh (t h') (decide_eq_false z))
 exact congrArg Ze ((Za (ZU q)).trans (e2 _))
def ZlX(H:Dec P)(n:Nat)(s:Dq C k c pk bk h0 h dk p A pl dn bg u)(hu:u<=120)(ed:d=.tup (.str w::ds))(hw:w≠O "clo")(hd:dn.length<=1000):On C k c pk bk h0 p A pl (dn++[d]) bg (u+1) (run P (n+2) (mnm (O "Decoder") (O "put_on")) [.ref c,d] h):=by
 by_cases q:u=120
 . subst q;exact Zsn H n s
 . obtain⟨h1,s1,e⟩:=ZoF H n s (by lia) ed;rw[e,if_neg hw];exact ZfT (Zdz (m:=.app) (g_a rfl s1.o Zad rfl) s1.d (Zc rfl rfl) (ZaT s1.d (by rw[YC];lia))) (.ok (by lia) ⟨_,s1.setD _⟩)
noncomputable def names(ns:List Str):List D:=ns.map λx=>.tup [.str (O "name"),.str x]
theorem ZmH:∀(ns:List Str) (acc:List D),acc.length+ns.length<=1000->Z0 Wu (.nm 0) (tsto U Wu) (ev U (.tupl (.cons (.Ci_ "name") (.cons (.var 0) .nil)))) (ns.map .str) [Wu] acc h=.ok (acc++names ns) h
 |[],acc,_=>by simp[Z0,Wk.stays,names]
 |x::ns,acc,hz=>by rw[Os]at hz;rw[Op,Zaj,if_pos ⟨rfl,by rw[YC];lia⟩];have:=ZmH (U:=U) ns (acc++[.tup [.str (O "name"),.str x]]) (by simp;lia);rw[Oz]at this;exact this
def ZlY(H:Dec P)(n:Nat)(s:Dq C k c pk bk h0 h dk p A pl dn bg u)(hu:u<=120)(hn:ns.length<=10)(hd:ds.length<=100000)(hb:bg.length<=1000):On C k c pk bk h0 q (names ns++ds) pl dn (bg++[.fn ns p A]) (u+1) (run P (n+2) (mnm (O "Decoder") (O "put_on")) [.ref c,Z1 q ns ds] h):=by
 by_cases z:u=120
 . subst z;exact Zsn H n s
 . obtain⟨h1,s1,e⟩:=ZoF H n s (d:=Z1 q ns ds) (by lia) rfl;rw[e,if_pos rfl];have e1:evs (P.tbl (n+1)) (.cons (.tupl (.cons (.Ci_ "function") (.cons (.ix (.var 1) (.ci 2)) (.cons (.att [O "Decoder"] (.var 0) (O "at")) (.cons (.att [O "Decoder",O "Unit"] (.var 0) (O "around")) .nil))))) .nil) (vt c (Z1 q ns ds)) h1=.ok [(Bg.fn ns p A).d] h1:=Zc (Zaw (xs:=[.str (O "function"),.tup (ns.map .str),.int (p:Int),.tup A]) (Zc rfl (Zc rfl (Zc (g_a rfl s1.o Zad rfl) (Zc (g_a rfl s1.o cls2 rfl) rfl)))) (by simp)) rfl;have x1:=ZU (U:=P.tbl (n+1)) (S:=vt c (Z1 q ns ds)) (Zdz (m:=.app) (g_a (Cs:=[O "Decoder"]) (f:=O "begun") rfl s1.o Zad rfl) s1.b e1 (ZaT s1.b (by simp[YC];lia)));have s2:=s1.setB (bg++[.fn ns p A]);rw[List.map_append]at s2;have x2:=s_a (U:=P.tbl (n+1)) (S:=vt c (Z1 q ns ds)) (Cs:=[O "Decoder"]) (f:=O "at") (e:=.ix (.var 1) (.ci 1)) (d:=.int (q:Int)) rfl rfl s2.o Zad (by simp);have s3:=s2.setO q A pl;have ec:∀h',ev (P.tbl (n+1)) (.bin .Add (.blt .tup (.cons (.comp [O "name"] [Wu] (.pl (.ix (.var 1) (.ci 2))) (.nm 0) Wu (.tupl (.cons (.Ci_ "name") (.cons (.var 0) .nil)))) .nil)) (.ix (.var 1) (.ci 3))) (vt c (Z1 q ns ds)) h'=.ok (.tup (names ns++ds)) (h'++[.lst (names ns)]):=λh'=>(Zi (x:=.tup (names ns)) (y:=.tup ds) (Zhs (Zc (Zmy (Zlp (xs:=ns.map .str) rfl) (ZmH ns [] (by simp;lia))) rfl) (Zsa ZbL)) rfl).trans (ZbV (by simp[names,YC];lia))
   have s4:=s3.app [.lst (names ns)];have x3:=s_a (U:=P.tbl (n+1)) (S:=vt c (Z1 q ns ds)) (Cs:=[O "Decoder",O "Unit"]) (f:=O "around") (ec _) rfl s4.o cls2 (by simp);have:=(Za (r:=.cons Zbf (.cons Zae .nil)) x1).trans ((Za (r:=.cons Zae .nil) x2).trans ((Za (r:=.nil) x3).trans rfl));rw[show xs2 (P.tbl (n+1)) Z3 (vt c (Z1 q ns ds)) h1=_ from this];exact .ok (by lia) ⟨_,s4.setO q (names ns++ds) pl⟩
noncomputable def fnT(ns:List Str)(e:T):T:=match ns with
 |[x]=>.fn x e
 |x::f::_=>.rcc f x e
 |[]=>e
def Zoy(H:Dec P)(n:Nat){ns:List Str}(hn:ns.length=1\/ns.length=2)(e:T)(h:Hd):run P (n+1) (O "function_of") [.tup (ns.map .str),e.d] h=.ok (fnT ns e).d h:=by
 rw[Zg H.function_of (by rfl)]
 match ns,hn with
 |[x],_=>exact rfl
 |[x,f],_=>exact rfl
def Zm7(H:Dec P)(n:Nat){ns:List Str}(s:Dq C k c pk bk h0 h dk p A pl (dn++[e.d]) (bg++[.fn ns q B_]) u)(hn:ns.length=1\/ns.length=2)(hu:u<=120)(hd:dn.length<=1000):On C k c pk bk h0 q B_ pl (dn++[(fnT ns e).d]) bg u (run P (n+2) (mnm (O "Decoder") (O "go_back")) [.ref c] h):=by rw[Zy H.n_Decoder_go_back H.Decoder_go_back (by rfl)];have sb:=s.b;rw[List.map_append]at sb;have eb:∀S:Ev,(S[0]?).join=Ws (.ref c)->ev (P.tbl (n+1)) (.att [O "Decoder"] (.var 0) (O "begun")) S h=.ok (.ref bk) h:=λS hρ=>g_a hρ s.o Zad rfl;have t:tst (P.tbl (n+1)) Zat [Ws (.ref c),Wu] h=.ok Wv h:=Zh (Zgd (eb _ rfl) sb) (by simp);have x1:xs1 (P.tbl (n+1)) Za6 [Ws (.ref c),Wu] h=.ok (.nx,[Ws (.ref c),Ws (Bg.fn ns q B_).d]) (h.set bk (.lst (bg.map Bg.d))):=Zs (Zdz (m:=.pop) (eb _ rfl) sb ZI (ZcV sb));have s1:=s.setB bg;have ed:∀{h':Hd}{dk':Nat}{dn':List D}{bg':List Bg}{p':Nat}{A':List D} (s':Dq C k c pk bk h0 h' dk' p' A' pl dn' bg' u),ev (P.tbl (n+1)) (.att [O "Decoder"] (.var 0) (O "done")) [Ws (.ref c),Ws (Bg.fn ns q B_).d] h'=.ok (.ref dk') h':=λs'=>g_a rfl s'.o Zad rfl;have s2:=s1.setD dn;have e2:=Zc (U:=P.tbl (n+1)) (Zu (Zoy H n hn e _) (Zc (a:=.ix (.var 1) (.ci 1)) (S:=[Ws (.ref c),Ws (Bg.fn ns q B_).d]) (x:=.tup (ns.map .str)) rfl (Zc (Zdz (m:=.pop) (ed s1) s1.d ZI (ZcV s1.d)) ZI))) ZI;have x2:=ZU (Zdz (m:=.app) (ed s1) s1.d e2 (ZaT s2.d (by rw[YC];lia)));have s3:=s2.setD (dn++[(fnT ns e).d]);have x3:=s_a (U:=P.tbl (n+1)) (S:=[Ws (.ref c),Ws (Bg.fn ns q B_).d]) (Cs:=[O "Decoder"]) (f:=O "at") (e:=.ix (.var 1) (.ci 2)) (d:=.int (q:Int)) rfl rfl s3.o Zad (by simp);have s4:=s3.setO q A pl;have x4:=s_a (U:=P.tbl (n+1)) (S:=[Ws (.ref c),Ws (Bg.fn ns q B_).d]) (Cs:=[O "Decoder",O "Unit"]) (f:=O "around") (e:=.ix (.var 1) (.ci 3)) (d:=.tup B_) rfl rfl s4.o cls2 (by simp);have w:=(Za (r:=.cons Za5 (.cons Z5 (.cons ZJ .nil))) x1).trans ((Za (r:=.cons Z5 (.cons ZJ .nil)) x2).trans ((Za (r:=.cons ZJ .nil) x3).trans ((Za (r:=.nil) x4).trans rfl)));have w2:xs2 (P.tbl (n+1)) ZO [Ws (.ref c),Wu] h=_:=(Za ((Zj t).trans w)).trans rfl;show On C k c pk bk h0 q B_ pl (dn++[(fnT ns e).d]) bg u (Ze (xs2 (P.tbl (n+1)) ZO [Ws (.ref c),Wu] h));rw[w2];exact .ok hu ⟨_,s4.setO q B_ pl⟩
def Zm6(H:Dec P)(n:Nat)(s:Dq C k c pk bk h0 h dk p A ((q,B_)::pl) dn [] u)(hu:u<=120):On C k c pk bk h0 q B_ pl dn [] u (run P (n+2) (mnm (O "Decoder") (O "go_back")) [.ref c] h):=by
 rw[Zy H.n_Decoder_go_back H.Decoder_go_back (by rfl)];have t:tst (P.tbl (n+1)) Zat [Ws (.ref c),Wu] h=.ok Ww h:=Zgd (g_a rfl s.o Zad rfl) s.b;have ep:∀{h':Hd}{p':Nat}{A':List D} (s':Dq C k c pk bk h0 h' dk p' A' ((q,B_)::pl) dn [] u),ev (P.tbl (n+1)) (.att [O "Decoder"] (.var 0) (O "pile")) [Ws (.ref c),Wu] h'=.ok (.tup (((q,B_)::pl).map fr)) h':=λs'=>g_a rfl s'.o Zad rfl;have x1:=s_a (Cs:=[O "Decoder"]) (f:=O "at") ((Zl (y:=.int 0) (b:=.ci 0) ((Zl (y:=.int 0) (b:=.ci 0) (ep s) rfl).trans (show _=R.ok (fr (q,B_)) h by rw[Op,Zfb,ZiA];rfl)) rfl).trans (show _=R.ok (.int (q:Int)) h by rw[fr,Zfb,ZiA];rfl)) rfl s.o Zad (by simp);have s1:=s.setO q A ((q,B_)::pl);have x2:=s_a (Cs:=[O "Decoder",O "Unit"]) (f:=O "around") ((Zl (y:=.int 1) (b:=.ci 1) ((Zl (y:=.int 0) (b:=.ci 0) (ep s1) rfl).trans (show _=R.ok (fr (q,B_)) _ by rw[Op,Zfb,ZiA];rfl)) rfl).trans (show _=R.ok (.tup B_) _ by rw[fr,Zfb,ZwC];rfl)) rfl s1.o cls2 (by simp);have s2:=s1.setO q B_ ((q,B_)::pl);have e3:∀{h':Hd}{p':Nat}{A':List D} (s':Dq C k c pk bk h0 h' dk p' A' ((q,B_)::pl) dn [] u),ev (P.tbl (n+1)) (.sl (.att [O "Decoder"] (.var 0) (O "pile")) (Ws (.ci 1)) Wu) [Ws (.ref c),Wu] h'=.ok (.tup (pl.map fr)) h':=λ{h'}{_}{_} s'=>by rw[Zmu,ep s',Zt];show R.ok (D.tup (cutD (fr (q,B_)::pl.map fr) (Ws 1) Wu)) h'=_;rw[ZnE]
 have x3:=s_a (Cs:=[O "Decoder"]) (f:=O "pile") (e3 s2) rfl s2.o Zad (by simp);have w:=(Za (r:=.cons Za7 (.cons Z6 .nil)) x1).trans ((Za (r:=.cons Z6 .nil) x2).trans ((Za (r:=.nil) x3).trans rfl));have w2:xs2 (P.tbl (n+1)) ZO [Ws (.ref c),Wu] h=_:=(Za ((Zf t).trans w)).trans rfl;show On C k c pk bk h0 q B_ pl dn [] u (Ze (xs2 (P.tbl (n+1)) ZO [Ws (.ref c),Wu] h));rw[w2];exact .ok hu ⟨_,s2.setO q B_ pl⟩
def ZkW(H:Dec P)(n:Nat)(s:Dq C k c pk bk h0 h dk p A pl dn bg u)(hu:u<=120):On C k c pk bk h0 (if (tp bg).isSome then p else q) A pl dn bg u (run P (n+2) (mnm (O "Decoder") (O "jump")) [.ref c,(Ce.Rw.jmp (q:Int)).d] h):=by
 rw[Zy H.n_Decoder_jump H.Decoder_jump (by rfl)];have t:tst (P.tbl (n+1)) Zbl (vt c (Ce.Rw.jmp (q:Int)).d) h=.ok (!(tp bg).isSome) h:=by rw[Zbl,ZiD,Zcy (ZB rfl s.o rfl rfl (ZjB H n s))];rfl
 show On C k c pk bk h0 _ A pl dn bg u (Ze (xs2 (P.tbl (n+1)) Za2 (vt c (Ce.Rw.jmp (q:Int)).d) h));cases z:(tp bg).isSome with
 |true=>rw[z]at t;rw[show xs2 (P.tbl (n+1)) Za2 (vt c (Ce.Rw.jmp (q:Int)).d) h=.ok (.nx,vt c (Ce.Rw.jmp (q:Int)).d) h from(Za ((Zf t).trans rfl)).trans rfl];exact .ok hu ⟨_,s⟩
 |false=>rw[z]at t;have x:=s_a (U:=P.tbl (n+1)) (S:=vt c (Ce.Rw.jmp (q:Int)).d) (Cs:=[O "Decoder"]) (f:=O "at") (e:=.ix (.var 1) (.ci 1)) (d:=.int (q:Int)) rfl rfl s.o Zad (by simp);rw[show xs2 (P.tbl (n+1)) Za2 (vt c (Ce.Rw.jmp (q:Int)).d) h=_ from(Za ((Zj t).trans ((Za (r:=.nil) x).trans rfl))).trans rfl];exact .ok hu ⟨_,s.setO q A pl⟩
end
end Cr
namespace Cr
open PySem L2 IV
open Tm (Zbc grown)
open Ce (fr Z1 ZV keep Z9 Zas psh wd)
section
variable {P:Pg}{h0 h:Hd}{C:List Ce.Rw}{k c pk bk dk p u:Nat}{A dn:List D}{pl:List (Nat×List D)}{bg:List Bg}
def ZH:xs2 U (.cons s .nil) S h=xs1 U s S h:=by
 rw[xs2];cases xs1 U s S h with
 |bad=>rfl
 |exc c h=>rfl
 |ok p h=>obtain⟨f,S⟩:=p;cases f<;>rfl
def Zh4(H:Dec P)(n:Nat){r:Ce.Rw}(q:xs1 (P.tbl n) ZaI (vt c r.d) h=xs1 (P.tbl n) (.drp e) (vt c r.d) h)(z:ev (P.tbl n) e (vt c r.d) h=o)(on:On C k c pk bk h0 p' A' pl' dn' bg' u' o):On C k c pk bk h0 p' A' pl' dn' bg' u' (run P (n+1) (mnm (O "Decoder") (O "do_row")) [.ref c,r.d] h):=by
 rw[Zy H.n_Decoder_do_row H.Decoder_do_row (by rfl)];have w:xs2 (P.tbl n) Zaq (vt c r.d) h=xs2 (P.tbl n) (.cons (.drp e) .nil) (vt c r.d) h:=by rw[show Zaq=.cons ZaI .nil from rfl,ZH,ZH,q]
 show On C k c pk bk h0 p' A' pl' dn' bg' u' (Ze (xs2 (P.tbl n) Zaq (vt c r.d) h));rw[w];exact ZfT z on
def Zeg(H:Dec P)(n:Nat):tst (P.tbl n) Zcd (vt c r.d) h=.ok (Wx (wd r = "call" \/ wd r = "hop")) h:=by
 have eg:ev (P.tbl n) (.glo (O "CALLS")) (vt c r.d) h=.ok (.tup [.str (O "call"),.str (O "hop")]) h:=by show R.ofO (P.G (O "CALLS")) h=_;rw[H.gc];rfl
 obtain⟨ds,ed⟩:=Ce.Zi6 r;refine Zcy ((Zw (x:=.str (Str.ofString (wd r))) ((Zl (x:=r.d) rfl rfl).trans (by rw[ed];simp)) eg).trans ?_);have:=@ZbU P.GD h [O "call",O "hop"] (Str.ofString (wd r));show opC P.GD .In (.str (Str.ofString (wd r))) (.tup [.str (O "call"),.str (O "hop")]) h=_;simpa using this
def ZaP(n:Nat)(w:String):tst (P.tbl n) (.ex (.cmp .Eq (.ix (.var 1) (.ci 0)) (.cst (.str (Str.ofString w))))) (vt c r.d) h=.ok (Wx (wd r=w)) h:=by obtain⟨ds,ed⟩:=Ce.Zi6 r;refine Zh (ZaM (x:=Str.ofString (wd r)) ((Zl (x:=r.d) rfl rfl).trans (by rw[ed];simp)) rfl) ?_;simp
variable {s0:Nat}
def ZfQ(H:Dec P)(n:Nat){r:Ce.Rw}(hr:r=.call\/r=.hop)(s:Dq C k c pk bk h0 h dk p A pl (dn++[a,b]) bg u)(hu:u<=120)(hd:dn.length<=1000):On C k c pk bk h0 p A pl (dn++[.tup [.str (O "call"),a,b]]) bg (u+1) (run P (n+4) (mnm (O "Decoder") (O "do_row")) [.ref c,r.d] h):=by
 have hw:wd r = "call" \/ wd r = "hop" := by rcases hr with rfl|rfl;exact .inl rfl;exact .inr rfl
 exact Zh4 H (n+3) ((Zj (Zh (Zeg H (n+3)) (decide_eq_true hw))).trans ZH) (ZB rfl s.o rfl rfl rfl) (ZkX H n (ps:=[a,b]) s hu (by simp) (by simp) hd)
def ZfP(H:Dec P)(n:Nat){w:Wd}(s:Dq C k c pk bk h0 h dk p A pl (dn++[a,b]) bg u)(hu:u<=120)(hd:dn.length<=1000):On C k c pk bk h0 p A pl (dn++[.tup [.str w.s,a,b]]) bg (u+1) (run P (n+4) (mnm (O "Decoder") (O "do_row")) [.ref c,(Ce.Rw.work w).d] h):=Zh4 H (n+3) ((Zf (Zh (Zeg H (n+3)) (by simp[wd]))).trans (ZH.trans ((Zj (Zh (ZaP (n+3) "work") (by simp[wd]))).trans ZH))) (ZB rfl s.o rfl (Zc rfl rfl) rfl) (ZkX H n (ps:=[a,b]) s hu (by simp) (by simp) hd)
def ZjG(H:Dec P)(n:Nat){q q':Nat}(s:Dq C k c pk bk h0 h dk p A pl dn bg u)(hu:u<=120)(hj:C[q]? = Ws (.jmp (q':Int)))(hb:bg.length<=1000):On C k c pk bk h0 p A pl dn (bg++[.iff q']) u (run P (n+4) (mnm (O "Decoder") (O "do_row")) [.ref c,(Ce.Rw.unl ((q+1:Nat):Int)).d] h):=by
 have e1:ev (P.tbl (n+3)) (.bin .Sub (.ix (.var 1) (.ci 1)) (.ci 1)) (vt c (Ce.Rw.unl ((q+1:Nat):Int)).d) h=.ok (.int (q:Int)) h:=by
  refine(Zi (x:=.int ((q+1:Nat):Int)) rfl rfl).trans ?_;rw[ZiQ];congr 2
  lia
 have e2:evs (P.tbl (n+3)) (.cons (.tupl (.cons (.Ci_ "if") (.cons (.ix (.ix (.att [O "Decoder"] (.var 0) (O "code")) (.bin .Sub (.ix (.var 1) (.ci 1)) (.ci 1))) (.ci 1)) .nil))) .nil) (vt c (Ce.Rw.unl ((q+1:Nat):Int)).d) h=.ok [(Bg.iff q').d] h:=Zc (Zaw (xs:=[.str (O "if"),.int (q':Int)]) (Zc rfl (Zc ((Zl ((Zl (g_a rfl s.o Zad rfl) e1).trans (Zas s.kc hj)) rfl).trans rfl) rfl)) (by simp)) rfl;have s2:=s.setB (bg++[.iff q']);rw[List.map_append]at s2;exact Zh4 H (n+3) ((Zf (Zh (Zeg H (n+3)) (by simp[wd]))).trans (ZH.trans ((Zf (Zh (ZaP (n+3) "work") (by simp[wd]))).trans (ZH.trans ((Zj (Zh (ZaP (n+3) "unless") (by simp[wd]))).trans ZH))))) (Zdz (m:=.app) (g_a rfl s.o Zad rfl) s.b e2 (ZaT s.b (by simp[YC];lia))) (.ok hu ⟨_,s2⟩)
def ZgY(H:Dec P)(n:Nat){q:Nat}(s:Dq C k c pk bk h0 h dk p A pl dn bg u)(hu:u<=120):On C k c pk bk h0 (if (tp bg).isSome then p else q) A pl dn bg u (run P (n+4) (mnm (O "Decoder") (O "do_row")) [.ref c,(Ce.Rw.jmp (q:Int)).d] h):=Zh4 H (n+3) ((Zf (Zh (Zeg H (n+3)) (by simp[wd]))).trans (ZH.trans ((Zf (Zh (ZaP (n+3) "work") (by simp[wd]))).trans (ZH.trans ((Zf (Zh (ZaP (n+3) "unless") (by simp[wd]))).trans (ZH.trans ((Zj (Zh (ZaP (n+3) "jump") (by simp[wd]))).trans ZH))))))) (ZB rfl s.o rfl (Zc rfl rfl) rfl) (ZkW H (n+1) s hu)
def Zh7(H:Dec P)(n:Nat){p':Nat}(s:Dq C k c pk bk h0 h dk p A pl dn bg u)(on:On C k c pk bk h0 p' A' pl' dn' bg' u (run P (n+3) (mnm (O "Decoder") (O "go_back")) [.ref c] h)):On C k c pk bk h0 p' A' pl' dn' bg' u (run P (n+4) (mnm (O "Decoder") (O "do_row")) [.ref c,Ce.Rw.back.d] h):=Zh4 H (n+3) ((Zf (Zh (Zeg H (n+3)) (by simp[wd]))).trans (ZH.trans ((Zf (Zh (ZaP (n+3) "work") (by simp[wd]))).trans (ZH.trans ((Zf (Zh (ZaP (n+3) "unless") (by simp[wd]))).trans (ZH.trans ((Zf (Zh (ZaP (n+3) "jump") (by simp[wd]))).trans (ZH.trans ((Zj (Zh (ZaP (n+3) "back") (by simp[wd]))).trans ZH))))))))) (ZB rfl s.o rfl ZI rfl) on
def ZjH(H:Dec P)(n:Nat)(s:Dq C k c pk bk h0 h dk p A pl dn bg u)(hd:psh A r=Ws d)(on:On C k c pk bk h0 p' A' pl' dn' bg' u' (run P (n+3) (mnm (O "Decoder") (O "put_on")) [.ref c,d] h)):On C k c pk bk h0 p' A' pl' dn' bg' u' (run P (n+4) (mnm (O "Decoder") (O "do_row")) [.ref c,r.d] h):=by
 have hw:¬ (wd r = "call" \/ wd r = "hop")/\wd r ≠ "work" /\ wd r ≠ "unless" /\ wd r ≠ "jump" /\ wd r ≠ "back" := by cases r<;>first|(cases hd;done)|simp[wd]
 exact Zh4 H (n+3) ((Zf (Zh (Zeg H (n+3)) (decide_eq_false hw.1))).trans (ZH.trans ((Zf (Zh (ZaP (n+3) "work") (decide_eq_false hw.2.1))).trans (ZH.trans ((Zf (Zh (ZaP (n+3) "unless") (decide_eq_false hw.2.2.1))).trans (ZH.trans ((Zf (Zh (ZaP (n+3) "jump") (decide_eq_false hw.2.2.2.1))).trans (ZH.trans ((Zf (Zh (ZaP (n+3) "back") (decide_eq_false hw.2.2.2.2))).trans ZH))))))))) (ZB rfl s.o rfl (Zc (Zu (Ce.ZlW H.c (n+2) r A hd) (Zc rfl (Zc (g_a rfl s.o cls2 rfl) rfl))) rfl) rfl) on
def ZL(H:Dec P)(n:Nat)(s:Ds C k c pk bk h0 h p A pl dn bg u)(hb:tp bg≠Ws p)(hc:C[p]? = Ws r)(on:∀{h':Hd}{dk:Nat},Dq C k c pk bk h0 h' dk (p+1) A pl dn bg u->On C k c pk bk h0 p' A' pl' dn' bg' u' (run P (n+4) (mnm (O "Decoder") (O "do_row")) [.ref c,r.d] h')):On C k c pk bk h0 p' A' pl' dn' bg' u' (run P (n+5) (mnm (O "Decoder") (O "do_next")) [.ref c] h):=by
 obtain⟨dk,s⟩:=s;rw[Zy H.n_Decoder_do_next H.Decoder_do_next (by rfl)];have t:tst (P.tbl (n+4)) Zau [Ws (.ref c)] h=.ok Ww h:=(Zcy (ZB rfl s.o rfl ZI (ZjI H (n+2) s))).trans (by rw[decide_eq_false hb]);have s1:=s.setO (p+1) A pl;have x1:xs1 (P.tbl (n+4)) Z7 [Ws (.ref c)] h=.ok (.nx,[Ws (.ref c)]) (h.set c (Zft k (p+1) A pl pk dk bk)):=by have so:=s.o;unfold Zft at so;rw[Z7,ZnQ];simp[ZfY,Zaf,so,Wi,ZfN,Zg0,Zft]
 have ei:∀{h':Hd} (s':Dq C k c pk bk h0 h' dk (p+1) A pl dn bg u),ev (P.tbl (n+4)) (.ix (.att [O "Decoder"] (.var 0) (O "code")) (.bin .Sub (.att [O "Decoder"] (.var 0) (O "at")) (.ci 1))) [Ws (.ref c)] h'=.ok r.d h':=λs'=>by refine(Zl (g_a rfl s'.o Zad rfl) ((Zi (g_a (d:=.int ((p+1:Nat):Int)) rfl s'.o Zad rfl) rfl).trans (show _=R.ok (D.int (p:Int)) _ by rw[ZiQ];congr 2;lia))).trans (Zas s'.kc hc)
 have w:xs2 (P.tbl (n+4)) ZP [Ws (.ref c)] h=xs2 (P.tbl (n+4)) (.cons Za9 .nil) [Ws (.ref c)] (h.set c (Zft k (p+1) A pl pk dk bk)):=ZH.trans ((Zf t).trans (Za x1));show On C k c pk bk h0 p' A' pl' dn' bg' u' (Ze (xs2 (P.tbl (n+4)) ZP [Ws (.ref c)] h));rw[w];exact ZfT (ZB rfl s1.o rfl (Zc (ei s1) rfl) rfl) (on s1)
def Zmd(H:Dec P)(n:Nat)(s:Ds C k c pk bk h0 h p A pl (dn++[x,y,z]) (bg++[.iff p]) u)(hu:u<=120)(hd:dn.length<=1000):On C k c pk bk h0 p A pl (dn++[.tup [.str (O "if"),x,y,z]]) bg (u+1) (run P (n+5) (mnm (O "Decoder") (O "do_next")) [.ref c] h):=by obtain⟨dk,s⟩:=s;rw[Zy H.n_Decoder_do_next H.Decoder_do_next (by rfl)];have t:tst (P.tbl (n+4)) Zau [Ws (.ref c)] h=.ok Wv h:=(Zcy (ZB rfl s.o rfl ZI (ZjI H (n+2) s))).trans (by simp[tp]);have sb:=s.b;rw[List.map_append]at sb;have x1:=ZU (U:=P.tbl (n+4)) (S:=[Ws (.ref c)]) (Zdz (m:=.pop) (g_a (Cs:=[O "Decoder"]) (f:=O "begun") rfl s.o Zad rfl) sb ZI (ZcV sb));have s1:=s.setB bg;have w:xs2 (P.tbl (n+4)) ZP [Ws (.ref c)] h=xs2 (P.tbl (n+4)) (.cons Za8 .nil) [Ws (.ref c)] (h.set bk (.lst (bg.map Bg.d))):=ZH.trans ((Zj t).trans (Za x1));show On C k c pk bk h0 p A pl (dn++[.tup [.str (O "if"),x,y,z]]) bg (u+1) (Ze (xs2 (P.tbl (n+4)) ZP [Ws (.ref c)] h));rw[w];exact ZfT (ZB rfl s1.o rfl (Zc rfl (Zc rfl rfl)) rfl) (ZkX H (n+1) (ps:=[x,y,z]) s1 hu (by simp) (by simp) hd)
end
end Cr
namespace Cr
open PySem L2 IV
open Rw (Th Ar ThN rd ra)
open Cs (Vr Er ZbF)
open Ce (fr Z1 ZV Cd psh)
open Tm (sub get)
section
variable {P:Pg}{h0 h:Hd}{C:List Ce.Rw}{k c pk bk n N:Nat}
structure Lpk(P:Pg)(n:Nat)(C:List Ce.Rw)(k c pk bk:Nat)(h0:Hd)(L:Bool)(W:Nat->Hd->R (Fl×Ev)):Prop where
 ok:∀{f:Nat}{h h':Hd}{p:Nat}{A:List D}{pl:List (Nat×List D)}{dn:List D}{bg:List Bg}{u:Nat},Ds C k c pk bk h0 h p A pl dn bg u->(bg≠[]\/(L=Wv/\∃r,C[p]? = Ws r/\r≠.fin))->run P (n+5) (mnm (O "Decoder") (O "do_next")) [.ref c] h=.ok .non h'->W (f+1) h=W f h'
 ex:∀{f:Nat}{h h':Hd}{w:Str}{p:Nat}{A:List D}{pl:List (Nat×List D)}{dn:List D}{bg:List Bg}{u:Nat},Ds C k c pk bk h0 h p A pl dn bg u->(bg≠[]\/(L=Wv/\∃r,C[p]? = Ws r/\r≠.fin))->run P (n+5) (mnm (O "Decoder") (O "do_next")) [.ref c] h=.exc w h'->W (f+1) h=.exc w h'
inductive Pc(C:List Ce.Rw)(k c pk bk:Nat)(h0:Hd)(W:Nat->Hd->R (Fl×Ev))(h:Hd)(p:Nat)(A:List D)(pl:List (Nat×List D))(dn:List D)(bg:List Bg)(u B_ X:Nat):Prop
 |ok {h':Hd}{m:Nat} (le:u<=120) (hm:m<=B_) (s:Ds C k c pk bk h0 h' p A pl dn bg u) (e:∀f,W (m+f) h=W f h'):Pc C k c pk bk h0 W h p A pl dn bg u B_ X
 |ex {g:Hd}{m:Nat} (lt:120<u) (hm:m<=X) (e:∀f,W (m+f) h=.exc (O "Wide") (h0++g)):Pc C k c pk bk h0 W h p A pl dn bg u B_ X
section
variable {W:Nat->Hd->R (Fl×Ev)}{L:Bool}{p p1 p2 u u1 u2 B_ B1 B2 X X1 X2:Nat}{A A1 A2 dn dn1 dn2:List D}{pl pl1 pl2:List (Nat×List D)}{bg bg1 bg2:List Bg}
def Pc.bind(a:Pc C k c pk bk h0 W h p1 A1 pl1 dn1 bg1 u1 B1 X1)(b:∀h1,Ds C k c pk bk h0 h1 p1 A1 pl1 dn1 bg1 u1->u1<=120->Pc C k c pk bk h0 W h1 p2 A2 pl2 dn2 bg2 u2 B2 X2)(hu:u1<=u2)(hB:B1+B2<=B_)(hX:X1<=X)(hY:u1<=120->B1+X2<=X):Pc C k c pk bk h0 W h p2 A2 pl2 dn2 bg2 u2 B_ X:=by
 cases a with
 |ex lt hm e=>exact .ex (by lia) (by lia) e
 |@ok h' m le hm s e=>
  cases b h' s le with
  |@ok h2 m2 le2 hm2 s2 e2=>exact .ok le2 (m:=m+m2) (by lia) s2 λf=>by rw[Nat.add_assoc,e,e2]
  |@ex g m2 lt hm2 e2=>exact .ex lt (m:=m+m2) (by have:=hY le;lia) λf=>by rw[Nat.add_assoc,e,e2]
def Pc.turn(K:Lpk P n C k c pk bk h0 L W)(s:Ds C k c pk bk h0 h p A pl dn bg u)(hc:bg≠[]\/(L=Wv/\∃r,C[p]? = Ws r/\r≠.fin))(o:On C k c pk bk h0 p1 A1 pl1 dn1 bg1 u1 (run P (n+5) (mnm (O "Decoder") (O "do_next")) [.ref c] h)):Pc C k c pk bk h0 W h p1 A1 pl1 dn1 bg1 u1 1 1:=by
 generalize hr:run P (n+5) (mnm (O "Decoder") (O "do_next")) [.ref c] h=r at o;cases o with
 |ok le s1=>exact .ok le (m:=1) (Oq _) s1 λf=>by rw[Nat.add_comm];exact K.ok s hc hr
 |ex lt=>exact .ex lt (m:=1) (Oq _) λf=>by rw[Nat.add_comm];exact K.ex s hc hr
theorem Pc.le(a:Pc C k c pk bk h0 W h p A pl dn bg u B_ X)(h1:B_<=B')(h2:X<=X'):Pc C k c pk bk h0 W h p A pl dn bg u B' X':=by
 cases a with
 |ok le hm s e=>exact .ok le (by lia) s e
 |ex lt hm e=>exact .ex lt (by lia) e
end
inductive Eu(C:List Ce.Rw)(N:Nat):List D->List Str->List (Str×Option T)->Prop
 |nil:Eu C N [] [] []
 |nm {A:List D}{sc:List Str}{S:List (Str×Option T)} (x:Str) (r:Eu C N A sc S):Eu C N ((T.name x).d::A) (x::sc) ((x,Wu)::S)
 |val {A:List D}{sc:List Str}{S:List (Str×Option T)}{d:D}{v:Th} (x:Str) (h:Vr C d v) (hn:ThN N v) (r:Eu C N A sc S):Eu C N (d::A) (x::sc) ((x,Ws (rd v))::S)
theorem Eu.of:∀{ds:List D}{sc:List Str}{ar:Ar},Er C ds sc ar->Rw.ArN N ar->Eu C N ds sc (ra ar)
 |_,_,_,.nil,_=>.nil
 |_,_,_,.cons x h r,z=>.val x h z.1 (Eu.of r z.2)
theorem Eu.get:∀{A:List D}{sc:List Str}{S:List (Str×Option T)}{i:Nat},Eu C N A sc S->Tx.place x sc=Ws i->∃d,A[i]? = Ws d/\((d=(T.name x).d/\get S x=Wu)\/∃v,Vr C d v/\ThN N v/\get S x=Ws (rd v))
 |_,_,_,i,.nil,h=>by cases h
 |_,_,_,i,.nm y r,h=>by
  rw[Tx.place]at h;rw[Tm.get];split at h
  . rename_i e;cases h;subst e;exact⟨_,rfl,.inl ⟨rfl,if_pos rfl⟩⟩
  . rename_i ne;cases q:Tx.place x _ with
    |none=>rw[q]at h;cases h
    |some j=>rw[q]at h;cases h;obtain⟨d,e1,e2⟩:=r.get q;exact⟨d,by simpa using e1,by rw[if_neg ne];exact e2⟩
 |_,_,_,i,.val y hv hn r,h=>by
  rw[Tx.place]at h;rw[Tm.get];split at h
  . rename_i e;cases h;exact⟨_,rfl,.inr ⟨_,hv,hn,if_pos e⟩⟩
  . rename_i ne;cases q:Tx.place x _ with
    |none=>rw[q]at h;cases h
    |some j=>rw[q]at h;cases h;obtain⟨d,e1,e2⟩:=r.get q;exact⟨d,by simpa using e1,by rw[if_neg ne];exact e2⟩
def Zhf(h:get r x=get t x):get ((y,o)::r) x=get ((y,o)::t) x:=by rw[Tm.get,Tm.get,h]
theorem Zbw:∀(e:T) {r t:List (Str×Option T)},(∀x,get r x=get t x)->sub r e=sub t e
 |.num _,_,_,_=>rfl
 |.name x,_,_,h=>by rw[sub,sub,h x]
 |.fn x e,r,t,h=>by rw[sub,sub,Zbw e λy=>Zhf (h y)]
 |.rcc f x e,r,t,h=>by rw[sub,sub,Zbw e λy=>Zhf (Zhf (h y))]
 |.call f a,_,_,h=>by rw[sub,sub,Zbw f h,Zbw a h]
 |.iff p q s,_,_,h=>by rw[sub,sub,Zbw p h,Zbw q h,Zbw s h]
 |.op w f a,_,_,h=>by rw[sub,sub,Zbw f h,Zbw a h]
def Zeh:sub ((x,Wu)::(f,Wu)::r) e=sub ((f,Wu)::(x,Wu)::r) e:=Zbw e λy=>by rw[Tm.get,Tm.get,Tm.get,Tm.get];split<;>split<;>rfl
end
end Cr
namespace Cr
open PySem L2 IV
open Rw (Th Ar ThN rd ra)
open Cs (Vr Er ZbF)
open Ce (fr Z1 ZV Cd psh)
open Tm (sub get Zb Zk)
section
variable {P:Pg}{h0 h:Hd}{C:List Ce.Rw}{k c pk bk n N:Nat}{W:Nat->Hd->R (Fl×Ev)}{L:Bool}
def Nb(bg:List Bg)(p p':Nat):Prop:=∀q,tp bg=Ws q->q<p\/p'<=q
def Nb.at(h:Nb bg p p')(h1:p<=q)(h2:q<p'):tp bg≠Ws q:=λz=>by have:=h q z;lia
def Nb.sub(h:Nb bg p p')(h1:p<=q)(h2:q'<=p'):Nb bg q q':=λj z=>by have:=h j z;lia
def Zn8:tp (bg++[.fn ns p A])=Wu:=by simp[tp]
def ZgR:tp (bg++[.iff q])=Ws q:=by simp[tp]
def Zdl:bg++[x]≠[]:=by simp
section
variable (H:Dec P) (K:Lpk P n C k c pk bk h0 L W) (hN:2 * N<=40000)
include H K
theorem ZpM(s:Ds C k c pk bk h0 h q (names ns++ds) pl dn (bg++[.fn ns p A]) (u+1))(hb:C[q']? = Ws .back)(hn:ns.length=1\/ns.length=2)(hu:u+1<=120)(hd:dn.length<=u)(et:t=fnT ns (sub S e))(zt:t.size=1+(sub S e).size)
 (ih:Pc C k c pk bk h0 W h q' (names ns++ds) pl (dn++[(sub S e).d]) (bg++[.fn ns p A]) (u+1+(sub S e).size) (4 * (sub S e).size - 3) (4 * (121 - (u+1)))):Pc C k c pk bk h0 W h p A pl (dn++[t.d]) bg (u+t.size) (4 * t.size - 4) (4 * (121 - u) - 1):=by
 have sp:=Zk (sub S e);refine ih.bind (u2:=u+t.size) (B2:=1) (X2:=1) (λh1 s1 hu1=>?_) (by lia) (by lia) (by lia) (λz=>by lia);rw[show u+t.size=u+1+(sub S e).size by lia,et];exact Pc.turn K s1 (.inl Zdl) (ZL H n s1 (by rw[Zn8];nofun) hb λsq=>Zh7 H n sq (Zm7 H (n+1) sq hn hu1 (by lia)))
include hN
theorem dec:∀(m:Nat) (t:T) {sc:List Str}{l:Bool}{p p' u:Nat}{A dn:List D}{pl:List (Nat×List D)}{bg:List Bg}{S:List (Str×Option T)}{h:Hd},(sub S t).size<=m->Cd C sc l p t p'->Eu C N A sc S->A.length+2 * t.size<=50000->Ds C k c pk bk h0 h p A pl dn bg u->u<=120->dn.length<=u->bg.length<=2 * u->(L=Wv\/bg≠[])->Nb bg p p' ->
 Pc C k c pk bk h0 W h p' A pl (dn++[(sub S t).d]) bg (u+(sub S t).size) (4 * (sub S t).size - 3) (4 * (121 - u)):=by
 intro m;induction m with
 |zero=>intro t sc l p p' u A dn pl bg S h z;have:=Zk (sub S t);lia
 |succ m ih=>
  intro t sc l p p' u A dn pl bg S h hz cd eu hA s hu hd hbg hL nb;have cond:∀{q:Nat}{r:Ce.Rw},C[q]? = Ws r->r≠.fin->(bg≠[]\/(L=Wv/\∃r,C[q]? = Ws r/\r≠.fin)):=λhc nf=>hL.elim (λz=>.inr ⟨z,_,hc,nf⟩) .inl;have leaf:∀{r:Ce.Rw}{w:Str}{ds:List D}{d:D},C[p]? = Ws r->r≠.fin->p'=p+1->psh A r=Ws d->d=.tup (.str w::ds)->w≠O "clo" -> (sub S t).d=d->(sub S t).size=1->Pc C k c pk bk h0 W h p' A pl (dn++[(sub S t).d]) bg (u+(sub S t).size) (4 * (sub S t).size - 3) (4 * (121 - u)):=λ{r w ds d} hc nf ep hp ed hw e1 e2=>by rw[e1,e2,ep];refine(Pc.turn K s (cond hc nf) (ZL H n s (nb.at (Oq _) (ZbF cd)) hc λsq=>ZjH H n sq hp ?_)).le (by lia) (by lia);exact ZlX H (n+1) sq hu ed hw (by lia)
  have fun':∀{r:Ce.Rw}{ns sc':List Str}{q q':Nat}{ds:List D}{e:T}{ρ':List (Str×Option T)},C[p]? = Ws r->r≠.fin->p'=p+1->psh A r=Ws (Z1 q ns ds)->(ns.length=1\/ns.length=2)->Cd C sc' Wv q e q'->C[q']? = Ws .back->Eu C N (names ns++ds) sc' ρ'->(names ns++ds).length+2 * e.size<=50000->sub S t=fnT ns (sub ρ' e)->(sub S t).size=1+(sub ρ' e).size->Pc C k c pk bk h0 W h p' A pl (dn++[(sub S t).d]) bg (u+(sub S t).size) (4 * (sub S t).size - 3) (4 * (121 - u)):=λ{r ns sc' q q' ds e ρ'} hc nf ep hp hn cq hb eq hq e1 e2=>by
   subst ep;have sp:=Zk (sub ρ' e);have hl:(names ns).length=ns.length:=by simp[names]
   rw[OA,hl]at hq;have a:Pc C k c pk bk h0 W h q (names ns++ds) pl dn (bg++[.fn ns (p+1) A]) (u+1) 1 1:=Pc.turn K s (cond hc nf) (ZL H n s (nb.at (Oq _) (ZbF cd)) hc λsq=>ZjH H n sq hp (ZlY H (n+1) sq hu (by lia) (by lia) (by lia)));refine a.bind (B2:=4 * (sub S t).size - 4) (X2:=4 * (121 - u) - 1) (λh1 s1 hu1=>?_) (by lia) (by lia) (by lia) (λz=>by lia);exact ZpM H K s1 hb hn hu1 hd e1 e2 (ih e (by lia) cq eq (by rw[OA,hl];exact hq) s1 hu1 (by lia) (by simp;lia) (.inr Zdl) (λj z=>by rw[Zn8]at z;cases z))
  have two:∀{f a:T}{p1 p2:Nat}{w:Str},Cd C sc Ww p f p1->Cd C sc Ww p1 a p2->p'=p2+1->(sub S t).d=.tup [.str w,(sub S f).d,(sub S a).d]->(sub S t).size=1+((sub S f).size+(sub S a).size)->t.size=1+(f.size+a.size)->(∃r,C[p2]? = Ws r/\r≠.fin/\∀{h':Hd}{dk u':Nat}{x y:D},Dq C k c pk bk h0 h' dk (p2+1) A pl (dn++[x,y]) bg u'->u'<=120->On C k c pk bk h0 (p2+1) A pl (dn++[.tup [.str w,x,y]]) bg (u'+1) (run P (n+4) (mnm (O "Decoder") (O "do_row")) [.ref c,r.d] h'))->Pc C k c pk bk h0 W h p' A pl (dn++[(sub S t).d]) bg (u+(sub S t).size) (4 * (sub S t).size - 3) (4 * (121 - u)):=λ{f a p1 p2 w} c1 c2 ep e1 e2 e3 ⟨r,hc,nf,on⟩=>by subst ep;have l1:=ZbF c1;have l2:=ZbF c2;have sf:=Zk (sub S f);have sa:=Zk (sub S a);refine(ih f (by lia) c1 eu (by lia) s hu hd hbg hL (nb.sub (Oq _) (by lia))).bind (B2:=4 * (sub S a).size - 2) (X2:=4 * (121 - (u+(sub S f).size))+1) (λh1 s1 hu1=>?_) (by lia) (by lia) (by lia) (λz=>by lia);refine(ih a (by lia) c2 eu (by lia) s1 hu1 (by simp;lia) (by lia) hL (nb.sub (by lia) (by lia))).bind (B2:=1) (X2:=1) (λh2 s2 hu2=>?_) (by lia) (by lia) (by lia) (λz=>by lia);rw[Oz]at s2;have o:=ZL H n s2 (nb.at (by lia) (by lia)) hc λsq=>on sq hu2;rw[e1,e2,show u+(1+((sub S f).size+(sub S a).size))=u+(sub S f).size+(sub S a).size+1 by lia];exact Pc.turn K s2 (cond hc nf) o
  cases cd with
  |num hc=>exact leaf hc nofun rfl rfl rfl (by decide) rfl rfl
  |@name _ _ _ i x hc hp=>
   obtain⟨d,e1,e2⟩:=eu.get hp;rcases e2 with ⟨rfl,eg⟩|⟨v,hv,hn,eg⟩
   . exact leaf hc nofun rfl e1 rfl (by decide) (by rw[sub,eg];rfl) (by rw[sub,eg];rfl)
   . have es:sub S (.name x)=rd v:=by rw[sub,eg];rfl
     cases hv with
     |num=>exact leaf hc nofun rfl e1 rfl (by decide) (by rw[es];rfl) (by rw[es];rfl)
     |@fn q q' y e ds sc' ar cq hb r=>have z:=hn.1;unfold Rw.Bd at z;have z2:=Zb (.fn y e);simp only[T.parts,Op,Oy,OI,List.sum_nil]at z2;refine fun' (ns:=[y]) (ρ':=(y,Wu)::ra ar) hc nofun rfl e1 (.inl rfl) cq hb (.nm y (Eu.of r hn.2)) (by simp[names,r.len];lia) (by rw[es,rd];rfl) ?_;rw[es,rd,sub,Zb];simp[T.parts]
     |@rcc q q' f y e ds sc' ar cq hb r=>have z:=hn.1;unfold Rw.Bd at z;have z2:=Zb (.rcc f y e);simp only[T.parts,Op,Oy,OI,List.sum_nil]at z2;refine fun' (ns:=[y,f]) (ρ':=(y,Wu)::(f,Wu)::ra ar) hc nofun rfl e1 (.inr rfl) cq hb (.nm y (.nm f (Eu.of r hn.2))) (by simp[names,r.len];lia) (by rw[es,rd,sub,Zeh];rfl) ?_;rw[es,rd,sub,Zb,Zeh];simp[T.parts]
  |@fn _ _ _ q q' y e hc cq hb=>have z2:=Zb (.fn y e);simp only[T.parts,Op,Oy,OI,List.sum_nil]at z2;refine fun' (ns:=[y]) (ρ':=(y,Wu)::S) hc nofun rfl rfl (.inl rfl) cq hb (.nm y eu) (by simp[names];lia) rfl ?_;rw[sub,Zb];simp[T.parts]
  |@rcc _ _ _ q q' f y e hc cq hb=>have z2:=Zb (.rcc f y e);simp only[T.parts,Op,Oy,OI,List.sum_nil]at z2;refine fun' (ns:=[y,f]) (ρ':=(y,Wu)::(f,Wu)::S) hc nofun rfl rfl (.inr rfl) cq hb (.nm y (.nm f eu)) (by simp[names];lia) (by rw[sub,Zeh];rfl) ?_;rw[sub,Zb,Zeh];simp[T.parts]
  |@call _ _ _ p1 p2 f a c1 c2 hc=>have z2:=Zb (.call f a);have z3:=Zb (.call (sub S f) (sub S a));simp[T.parts]at z2 z3;exact two c1 c2 rfl rfl z3 z2 ⟨_,hc,by cases l<;>nofun,λsq hu'=>ZfQ H n (by cases l;exact .inl rfl;exact .inr rfl) sq hu' (by lia)⟩
  |@op _ _ _ p1 p2 w f a c1 c2 hc=>have z2:=Zb (.op w f a);have z3:=Zb (.op w (sub S f) (sub S a));simp[T.parts]at z2 z3;exact two c1 c2 rfl rfl z3 z2 ⟨_,hc,nofun,λsq hu'=>ZfP H n sq hu' (by lia)⟩
  |@iff _ _ _ p1 p2 p3 x y z c1 h1 c2 h2 c3=>have z2:=Zb (.iff x y z);have z3:=Zb (.iff (sub S x) (sub S y) (sub S z));simp[T.parts]at z2 z3;have l1:=ZbF c1;have l2:=ZbF c2;have l3:=ZbF c3;have sx:=Zk (sub S x);have sy:=Zk (sub S y);have sz:=Zk (sub S z);rw[show(sub S (.iff x y z))=.iff (sub S x) (sub S y) (sub S z)from rfl]at hz ⊢;refine(ih x (by lia) c1 eu (by lia) s hu hd hbg hL (nb.sub (Oq _) (by lia))).bind (B2:=4 * ((sub S y).size+(sub S z).size) - 3) (X2:=4 * (121 - (u+(sub S x).size))+3) (λh1' s1 hu1=>?_) (by lia) (by lia) (by lia) (λq=>by lia);refine(Pc.turn K s1 (cond h1 nofun) (ZL H n s1 (nb.at (by lia) (by lia)) h1 λsq=>ZjG H n sq hu1 h2 (by lia))).bind (B2:=4 * ((sub S y).size+(sub S z).size) - 4) (X2:=4 * (121 - (u+(sub S x).size))+2) (λh2' s2 hu2=>?_) (by lia) (by lia) (by lia) (λq=>by lia);refine(ih y (by lia) c2 eu (by lia) s2 hu2 (by simp;lia) (by simp;lia) (.inr Zdl) (λj q=>by rw[ZgR]at q;cases q;lia)).bind (B2:=4 * (sub S z).size - 1) (X2:=4 * (121 - (u+(sub S x).size+(sub S y).size))+2) (λh3' s3 hu3=>?_) (by lia) (by lia) (by lia) (λq=>by lia);have oj:=ZL H n s3 (by rw[ZgR];intro q;cases q;lia) h2 λsq=>ZgY H n sq hu3;rw[ZgR]at oj;refine(Pc.turn K s3 (.inl Zdl) oj).bind (B2:=4 * (sub S z).size - 2) (X2:=4 * (121 - (u+(sub S x).size+(sub S y).size))+1) (λh4' s4 hu4=>?_) (by lia) (by lia) (by lia) (λq=>by lia);refine(ih z (by lia) c3 eu (by lia) s4 hu4 (by simp;lia) (by simp;lia) (.inr Zdl) (λj q=>by rw[ZgR]at q;cases q;lia)).bind (B2:=1) (X2:=1) (λh5' s5 hu5=>?_) (by lia) (by lia) (by lia) (λq=>by lia);rw[Oz,Oz]at s5;have o:=Zmd H n s5 hu5 (by lia);rw[z3,show u+(1+((sub S x).size+((sub S y).size+(sub S z).size)))=u+(sub S x).size+(sub S y).size+(sub S z).size+1 by lia];exact Pc.turn K s5 (.inl Zdl) o
end
end
end Cr
namespace Cr
open PySem L2 IV
open Rw (Th Ar Wt ThN WtN rd ra fw rnd)
open Cs (Vr Er Cx Dx Hp Ls ZbF)
open Ce (fr Z1 ZV Cd psh)
open Tm (sub get Zb Zk)
section
variable {P:Pg}{h0 h:Hd}{C:List Ce.Rw}{k c pk bk n N:Nat}{W:Nat->Hd->R (Fl×Ev)}
noncomputable def vs1:Wt->List Th
 |.fn V=>[V]
 |.left _ V=>[V]
 |_=>[]
noncomputable def tv(ws:List Wt):List Th:=ws.reverse.flatMap vs1
def Zak(w:Wt)(ws:List Wt):tv (w::ws)=tv ws++vs1 w:=by simp[tv]
def ZkI(a b:List Wt):tv (a++b)=tv b++tv a:=by simp[tv]
inductive Sv(C:List Ce.Rw):List D->List Th->Prop
 |nil:Sv C [] []
 |cons {S_:List D}{vs:List Th}{d:D}{v:Th} (h:Vr C d v) (s:Sv C S_ vs):Sv C (d::S_) (v::vs)
def Sv.app(a:Sv C S_ vs)(b:Sv C S' vs'):Sv C (S_++S') (vs++vs'):=by
 induction a with
 |nil=>exact b
 |cons h s ih=>exact .cons h ih
def Cx.sv(x:Cx C b sc ar p S_ ws):Sv C S_ (tv ws):=by
 induction x with
 |fin _=>exact .nil
 |back _=>exact .nil
 |jmp _ _ _ ih=>exact ih
 |app _ _ v _ ih=>rw[Zak];exact ih.app (.cons v .nil)
 |arg _ _ _ _ ih=>rw[Zak];simpa[vs1]using ih
 |work _ v _ ih=>rw[Zak];exact ih.app (.cons v .nil)
 |right _ _ _ ih=>rw[Zak];simpa[vs1]using ih
 |cho _ _ _ _ _ _ ih=>rw[Zak];simpa[vs1]using ih
theorem Dx.sv(x:Dx C b pl S_ vs):Sv C S_ (tv vs):=by
 induction x with
 |nil=>exact .nil
 |cons r kx hw hc x ih=>rw[ZkI];exact ih.app (Cx.sv kx)
noncomputable def dns(vs:List Th):List D:=vs.map λv=>(rd v).d
noncomputable def szs(vs:List Th):Nat:=(vs.map λv=>(rd v).size).sum
def Zep(a b:List Th):dns (a++b)=dns a++dns b:=by simp[dns]
def ZaQ(a b:List Th):szs (a++b)=szs a+szs b:=by simp[szs]
def ZaC(a:List Th):(dns a).length<=szs a:=by
 induction a with
 |nil=>exact Oq _
 |cons v a ih=>have:=Zk (rd v);simp[dns,szs]at *;lia
inductive Fo(C:List Ce.Rw)(k c pk bk:Nat)(h0:Hd)(W:Nat->Hd->R (Fl×Ev))(h:Hd)(t:T)(B_:Nat):Prop
 |ok {h':Hd}{m p:Nat}{A:List D} (le:t.size<=120) (hm:m<=B_) (hc:C[p]? = Ws .fin) (s:Ds C k c pk bk h0 h' p A [] [t.d] [] t.size) (e:∀f,W (m+f) h=W f h'):Fo C k c pk bk h0 W h t B_
 |ex {g:Hd}{m:Nat} (lt:120<t.size) (hm:m<=B_) (e:∀f,W (m+f) h=.exc (O "Wide") (h0++g)):Fo C k c pk bk h0 W h t B_
def Fo.bind(a:Pc C k c pk bk h0 W h p A pl dn bg u B1 X1)(b:∀h1,Ds C k c pk bk h0 h1 p A pl dn bg u->u<=120->Fo C k c pk bk h0 W h1 t B2)(hu:u<=t.size)(hX:X1<=B_)(hB:u<=120->B1+B2<=B_):Fo C k c pk bk h0 W h t B_:=by
 cases a with
 |ex lt hm e=>exact .ex (by lia) (by lia) e
 |@ok h' m le hm s e=>
  have:=hB le;cases b h' s le with
  |@ok h2 m2 p2 A2 le2 hm2 hc s2 e2=>exact .ok le2 (m:=m+m2) (by lia) hc s2 λf=>by rw[Nat.add_assoc,e,e2]
  |@ex g m2 lt hm2 e2=>exact .ex lt (m:=m+m2) (by lia) λf=>by rw[Nat.add_assoc,e,e2]
noncomputable def mx(G p l u:Nat):Nat:=4 * (121 - u)+8+3 * (G - p)+l * (3 * G+3)
def Zgt(e:C[p]? = Ws r):p<C.length:=(Ob.mp e).1
def Zac(ws:List Wt)(t:T):t.size+szs (tv ws)<=(rnd ws t).size:=by
 induction ws generalizing t with
 |nil=>simp[tv,szs,rnd]
 |cons w ws ih=>
  have q:=ih (fw w t);rw[Zak,ZaQ,show rnd (w::ws) t=rnd ws (fw w t)from rfl];have:t.size+szs (vs1 w)<=(fw w t).size:=by
   cases w with
   |arg A ar=>rw[fw,Zb (.call _ _)];simp[T.parts,vs1,szs];lia
   |fn V=>rw[fw,Zb (.call _ _)];simp[T.parts,vs1,szs];lia
   |iff a b ar=>rw[fw,Zb (.iff _ _ _)];simp[T.parts,vs1,szs];lia
   |right w F ar=>rw[fw,Zb (.op _ _ _)];simp[T.parts,vs1,szs];lia
   |left w V=>rw[fw,Zb (.op _ _ _)];simp[T.parts,vs1,szs];lia
  lia
section
variable (H:Dec P) (K:Lpk P n C k c pk bk h0 Wv W) (hN:2 * N<=40000)
include H K hN
theorem ctx(kx:Cx C b sc ar p S_ ws):∀{E:List D}{pl:List (Nat×List D)}{vs:List Wt}{t:T}{h:Hd},Er C E sc ar->(∀w∈ws,WtN N w)->(∀{t:T}{h:Hd}{p':Nat}{A:List D},(b=Wv->C[p']? = Ws .back)->(b=Ww->C[p']? = Ws .fin)->Ds C k c pk bk h0 h p' A pl (dns (tv vs)++[t.d]) [] (szs (tv vs)+t.size)->szs (tv vs)+t.size<=120->Fo C k c pk bk h0 W h (rnd vs t) (mx C.length C.length pl.length (szs (tv vs)+t.size))) ->
 Ds C k c pk bk h0 h p E pl (dns (tv vs)++dns (tv ws)++[t.d]) [] (szs (tv vs)+szs (tv ws)+t.size)->szs (tv vs)+szs (tv ws)+t.size<=120->Fo C k c pk bk h0 W h (rnd vs (rnd ws t)) (mx C.length p pl.length (szs (tv vs)+szs (tv ws)+t.size)):=by
 have nt:∀q,tp ([]:List Bg)≠Ws q:=nofun
 have mono:∀{h:Hd}{t:T}{B_ B':Nat},Fo C k c pk bk h0 W h t B_->B_<=B'->Fo C k c pk bk h0 W h t B':=λf hb=>by
  cases f with
  |ok le hm hc s e=>exact .ok le (by lia) hc s e
  |ex lt hm e=>exact .ex lt (by lia) e
 induction kx with
 |fin hc=>intro E pl vs t h er hw fin s hu;rw[show dns (tv ([]:List Wt))=[]from rfl,Ys]at s;rw[show szs (tv ([]:List Wt))=0 from rfl,Nat.add_zero]at s hu ⊢;show Fo C k c pk bk h0 W h (rnd vs t) _;exact mono (fin nofun (λ_=>hc) s hu) (by simp only[mx];lia)
 |back hc=>intro E pl vs t h er hw fin s hu;rw[show dns (tv ([]:List Wt))=[]from rfl,Ys]at s;rw[show szs (tv ([]:List Wt))=0 from rfl,Nat.add_zero]at s hu ⊢;show Fo C k c pk bk h0 W h (rnd vs t) _;exact mono (fin (λ_=>hc) nofun s hu) (by simp only[mx];lia)
 |@jmp b sc ar p q S_ ws hc hq kx ih=>intro E pl vs t h er hw fin s hu;have lp:=Zgt hc;have o:=ZL H n s (nt _) hc λsq=>ZgY H n sq hu;exact Fo.bind (Pc.turn K s (.inr ⟨rfl,_,hc,nofun⟩) o) (λh1 s1 hu1=>ih er hw fin s1 hu1) (by have:=Zac vs (rnd ws t);have:=Zac ws t;lia) (by simp only[mx];lia) (λz=>by simp only[mx];lia)
 |@app b sc ar p S_ ws r d V hc hr v kx ih=>
  intro E pl vs t h er hw fin s hu;have lp:=Zgt hc;have zc:=Zb (.call (rd V) t);simp[T.parts]at zc;have e1:dns (tv (.fn V::ws))=dns (tv ws)++[(rd V).d]:=by rw[Zak,Zep];rfl
  have e2:szs (tv (.fn V::ws))=szs (tv ws)+(rd V).size:=by rw[Zak,ZaQ];simp[vs1,szs]
  rw[e1]at s;rw[e2]at s hu ⊢;rw[<- Oz,Oz _ [(rd V).d]]at s;have l1:=ZaC (tv vs);have l2:=ZaC (tv ws);have hr':r=.call\/r=.hop:=hr.elim (λz=>.inl z.1) (λz=>.inr z.1);have o:=ZL H n s (nt _) hc λsq=>ZfQ H n hr' sq hu (by simp;lia);have nf:r≠.fin:=by rcases hr' with rfl|rfl<;>nofun
  rw[show szs (tv vs)+(szs (tv ws)+(rd V).size)+t.size+1=szs (tv vs)+szs (tv ws)+(T.call (rd V) t).size by lia]at o;have zr:=Zac ws (.call (rd V) t);have zq:=Zac vs (rnd ws (.call (rd V) t));exact Fo.bind (Pc.turn K s (.inr ⟨rfl,_,hc,nf⟩) o) (λh1 s1 hu1=>ih (t:=.call (rd V) t) er (λw hw'=>hw w (Oh _ hw')) fin s1 hu1) (by show _<=(rnd vs (rnd ws (.call (rd V) t))).size;lia) (by simp only[mx];lia) (λz=>by simp only[mx];lia)
 |@work b sc ar p S_ ws w d V hc v kx ih=>
  intro E pl vs t h er hw fin s hu;have lp:=Zgt hc;have zc:=Zb (.op w (rd V) t);simp[T.parts]at zc;have e1:dns (tv (.left w V::ws))=dns (tv ws)++[(rd V).d]:=by rw[Zak,Zep];rfl
  have e2:szs (tv (.left w V::ws))=szs (tv ws)+(rd V).size:=by rw[Zak,ZaQ];simp[vs1,szs]
  rw[e1]at s;rw[e2]at s hu ⊢;rw[<- Oz,Oz _ [(rd V).d]]at s;have l1:=ZaC (tv vs);have l2:=ZaC (tv ws);have o:=ZL H n s (nt _) hc λsq=>ZfP H n sq hu (by simp;lia);rw[show szs (tv vs)+(szs (tv ws)+(rd V).size)+t.size+1=szs (tv vs)+szs (tv ws)+(T.op w (rd V) t).size by lia]at o;have zr:=Zac ws (.op w (rd V) t);have zq:=Zac vs (rnd ws (.op w (rd V) t));exact Fo.bind (Pc.turn K s (.inr ⟨rfl,_,hc,nofun⟩) o) (λh1 s1 hu1=>ih (t:=.op w (rd V) t) er (λw hw'=>hw w (Oh _ hw')) fin s1 hu1) (by show _<=(rnd vs (rnd ws (.op w (rd V) t))).size;lia) (by simp only[mx];lia) (λz=>by simp only[mx];lia)
 |@arg b sc ar p p1 S_ ws r A cd hc hr kx ih=>
  intro E pl vs t h er hw fin s hu;have lp:=Zgt hc;have lc:=ZbF cd;have wn:=hw _ Oi;have bd:=wn.1;unfold Rw.Bd at bd;have sa:=Zk (sub (ra ar) A);have zc:=Zb (.call t (sub (ra ar) A));simp[T.parts]at zc;have e1:tv (.arg A ar::ws)=tv ws:=by rw[Zak];simp[vs1]
  rw[e1]at s hu ⊢;have l1:=ZaC (tv vs);have l2:=ZaC (tv ws);have hr':r=.call\/r=.hop:=hr.elim (λz=>.inl z.1) (λz=>.inr z.1);have nf:r≠.fin:=by rcases hr' with rfl|rfl<;>nofun
  have zr:=Zac ws (.call t (sub (ra ar) A));have zq:=Zac vs (rnd ws (.call t (sub (ra ar) A)));have st:=Zk t;refine Fo.bind (dec H K hN _ A (Oq _) cd (Eu.of er wn.2) (by rw[er.len];lia) s hu (by simp;lia) (by simp) (.inl rfl) nofun) (B2:=1+mx C.length (p1+1) pl.length (szs (tv vs)+szs (tv ws)+(T.call t (sub (ra ar) A)).size)) (λh1 s1 hu1=>?_) (by show _<=(rnd vs (rnd ws (.call t (sub (ra ar) A)))).size;lia) (by simp only[mx];lia) (λz=>by simp only[mx];lia);rw[Oz _ [t.d]]at s1;have o:=ZL H n s1 (nt _) hc λsq=>ZfQ H n hr' sq hu1 (by simp;lia);rw[show szs (tv vs)+szs (tv ws)+t.size+(sub (ra ar) A).size+1=szs (tv vs)+szs (tv ws)+(T.call t (sub (ra ar) A)).size by lia]at o;exact Fo.bind (Pc.turn K s1 (.inr ⟨rfl,_,hc,nf⟩) o) (λh2 s2 hu2=>ih (t:=.call t (sub (ra ar) A)) er (λw hw'=>hw w (Oh _ hw')) fin s2 hu2) (by show _<=(rnd vs (rnd ws (.call t (sub (ra ar) A)))).size;lia) (by lia) (λz=>by lia)
 |@right b sc ar p p1 S_ ws w A cd hc kx ih=>
  intro E pl vs t h er hw fin s hu;have lp:=Zgt hc;have lc:=ZbF cd;have wn:=hw _ Oi;have bd:=wn.1;unfold Rw.Bd at bd;have sa:=Zk (sub (ra ar) A);have zc:=Zb (.op w t (sub (ra ar) A));simp[T.parts]at zc;have e1:tv (.right w A ar::ws)=tv ws:=by rw[Zak];simp[vs1]
  rw[e1]at s hu ⊢;have l1:=ZaC (tv vs);have l2:=ZaC (tv ws);have zr:=Zac ws (.op w t (sub (ra ar) A));have zq:=Zac vs (rnd ws (.op w t (sub (ra ar) A)));have st:=Zk t;refine Fo.bind (dec H K hN _ A (Oq _) cd (Eu.of er wn.2) (by rw[er.len];lia) s hu (by simp;lia) (by simp) (.inl rfl) nofun) (B2:=1+mx C.length (p1+1) pl.length (szs (tv vs)+szs (tv ws)+(T.op w t (sub (ra ar) A)).size)) (λh1 s1 hu1=>?_) (by show _<=(rnd vs (rnd ws (.op w t (sub (ra ar) A)))).size;lia) (by simp only[mx];lia) (λz=>by simp only[mx];lia);rw[Oz _ [t.d]]at s1;have o:=ZL H n s1 (nt _) hc λsq=>ZfP H n sq hu1 (by simp;lia);rw[show szs (tv vs)+szs (tv ws)+t.size+(sub (ra ar) A).size+1=szs (tv vs)+szs (tv ws)+(T.op w t (sub (ra ar) A)).size by lia]at o;exact Fo.bind (Pc.turn K s1 (.inr ⟨rfl,_,hc,nofun⟩) o) (λh2 s2 hu2=>ih (t:=.op w t (sub (ra ar) A)) er (λw hw'=>hw w (Oh _ hw')) fin s2 hu2) (by show _<=(rnd vs (rnd ws (.op w t (sub (ra ar) A)))).size;lia) (by lia) (λz=>by lia)
 |@cho b l sc ar p p2 p3 S_ ws x y hc ct hj ce hl kx ih=>
  intro E pl vs t h er hw fin s hu;have lp:=Zgt hc;have lj:=Zgt hj;have lc:=ZbF ct;have le:=ZbF ce;have wn:=hw _ Oi;have bx:=wn.1.1;have by':=wn.1.2;unfold Rw.Bd at bx by';have sx:=Zk (sub (ra ar) x);have sy:=Zk (sub (ra ar) y);have st:=Zk t;have zc:=Zb (.iff t (sub (ra ar) x) (sub (ra ar) y));simp[T.parts]at zc;have e1:tv (.iff x y ar::ws)=tv ws:=by rw[Zak];simp[vs1]
  rw[e1]at s hu ⊢;have l1:=ZaC (tv vs);have l2:=ZaC (tv ws);generalize hq:T.iff t (sub (ra ar) x) (sub (ra ar) y)=q at *;have zr:=Zac ws q;have zq:=Zac vs (rnd ws q);have zz:(rnd vs (rnd (.iff x y ar::ws) t))=rnd vs (rnd ws q):=by rw[<- hq];rfl
  rw[zz];have nb2:∀{a b':Nat},b'<=p3->Nb ([]++[.iff p3]) a b':=λhb j z=>by rw[ZgR]at z;cases z;exact .inr hb
  generalize hM:mx C.length p3 pl.length (szs (tv vs)+szs (tv ws)+q.size)=M at ih;have hM':szs (tv vs)+szs (tv ws)+q.size<=121->4 * (1+((sub (ra ar) x).size+(sub (ra ar) y).size))+M+3<=mx C.length p pl.length (szs (tv vs)+szs (tv ws)+t.size):=λz=>by rw[<- hM];simp only[mx];lia
  have hX':4 * (121 - (szs (tv vs)+szs (tv ws)+t.size))+8+3<=mx C.length p pl.length (szs (tv vs)+szs (tv ws)+t.size):=by simp only[mx];lia
  generalize mx C.length p pl.length (szs (tv vs)+szs (tv ws)+t.size)=G at *;have a1:=Pc.turn K s (.inr ⟨rfl,_,hc,nofun⟩) (ZL H n s (nt _) hc λsq=>ZjG H n sq hu hj (by simp));have a2:Pc C k c pk bk h0 W h p3 E pl (dns (tv vs)++dns (tv ws)++[q.d]) [] (szs (tv vs)+szs (tv ws)+q.size) (4 * (1+((sub (ra ar) x).size+(sub (ra ar) y).size))+3) (4 * (121 - (szs (tv vs)+szs (tv ws)+t.size))+8):=by
   refine a1.bind (B2:=4 * (1+((sub (ra ar) x).size+(sub (ra ar) y).size))+2) (X2:=4 * (121 - (szs (tv vs)+szs (tv ws)+t.size))+7) (λh1 s1 hu1=>?_) (by lia) (by lia) (by lia) (λz=>by lia);refine(dec H K hN _ x (Oq _) ct (Eu.of er wn.2) (by rw[er.len];lia) s1 hu1 (by simp;lia) (by simp;lia) (.inl rfl) (nb2 (by lia))).bind (B2:=4 * (1+(sub (ra ar) y).size)+2) (X2:=4 * (121 - (szs (tv vs)+szs (tv ws)+t.size+(sub (ra ar) x).size))+7) (λh2 s2 hu2=>?_) (by lia) (by lia) (by lia) (λz=>by lia);have oj:=ZL H n s2 (by rw[ZgR];intro q;cases q;lia) hj λsq=>ZgY H n sq hu2;rw[ZgR]at oj;refine(Pc.turn K s2 (.inl Zdl) oj).bind (B2:=4 * (1+(sub (ra ar) y).size)+1) (X2:=4 * (121 - (szs (tv vs)+szs (tv ws)+t.size+(sub (ra ar) x).size))+6) (λh3 s3 hu3=>?_) (by lia) (by lia) (by lia) (λz=>by lia);refine(dec H K hN _ y (Oq _) ce (Eu.of er wn.2) (by rw[er.len];lia) s3 hu3 (by simp;lia) (by simp;lia) (.inl rfl) (nb2 (Oq _))).bind (B2:=1) (X2:=1) (λh4 s4 hu4=>?_) (by lia) (by lia) (by lia) (λz=>by lia);rw[Oz _ [t.d],Oz _ _ [(sub (ra ar) y).d]]at s4;have o:=Zmd H n s4 hu4 (by simp;lia);rw[show szs (tv vs)+szs (tv ws)+t.size+(sub (ra ar) x).size+(sub (ra ar) y).size+1=szs (tv vs)+szs (tv ws)+q.size by lia]at o;have ed:q.d=.tup [.str (O "if"),t.d,(sub (ra ar) x).d,(sub (ra ar) y).d]:=by rw[<- hq];rfl
   rw[ed];exact Pc.turn K s4 (.inl Zdl) o
  exact Fo.bind (B2:=M) a2 (λh5 s5 hu5=>by rw[<- hM];exact ih (t:=q) er (λw hw'=>hw w (Oh _ hw')) fin s5 hu5) (by lia) (by lia) (λz=>by have:=hM' (by lia);lia)
end
end
end Cr
namespace Cr
open PySem L2 IV
open Rw (Th Ar Wt ThN WtN StN rd ra fw rnd read Sta)
open Cs (Vr Er Cx Dx Rc ZbF)
open Ce (fr Z1 ZV Cd psh Ma Z9 keep Zas)
open Tm (sub get Zb Zk Zbc grown)
section
variable {P:Pg}{h0 h:Hd}{C:List Ce.Rw}{k c pk bk n N p u:Nat}{A dn:List D}{pl:List (Nat×List D)}
noncomputable def wW(P:Pg)(n c:Nat)(d:D)(f:Nat)(h:Hd):R (Fl×Ev):=Zag (tst (P.tbl (n+5)) Zbe) (xs2 (P.tbl (n+5)) Zbd) f (vt c d) h
noncomputable def wA(P:Pg)(n c:Nat)(f:Nat)(h:Hd):R (Fl×Ev):=Zag (tst (P.tbl (n+5)) Z4) (xs2 (P.tbl (n+5)) Zb9) f [Ws (.ref c)] h
def Ze3(hρ:(S[0]?).join=Ws (.ref c))(s:Ds C k c pk bk h0 h p A pl dn bg u):tst U (.ex (.att [O "Decoder"] (.var 0) (O "begun"))) S h=.ok (!bg.isEmpty) h:=by obtain⟨dk,s⟩:=s;refine Zh (Zgd (g_a hρ s.o Zad rfl) s.b) ?_;cases bg<;>rfl
def ZtP(h:bg≠[]):(!bg.isEmpty)=Wv:=by cases bg;exact absurd rfl h;rfl
def kW:Lpk P n C k c pk bk h0 Ww (wW P n c d):=by
 constructor
 . intro f h h' p A pl dn bg u s hc e;obtain⟨dk,s'⟩:=id s;have hb:bg≠[]:=hc.elim id (λz=>by cases z.1);exact Ze1 (Zh (Ze3 rfl s) (ZtP hb)) ((Za (ZU (ZB rfl s'.o rfl ZI e))).trans rfl)
 . intro f h h' w p A pl dn bg u s hc e;obtain⟨dk,s'⟩:=id s;have hb:bg≠[]:=hc.elim id (λz=>by cases z.1);exact ZlI (Zh (Ze3 rfl s) (ZtP hb)) (ZcP (Zht (ZB rfl s'.o rfl ZI e)))
def Zsc(s:Ds C k c pk bk h0 h p A pl dn bg u)(hb:bg=[])(hc:C[p]? = Ws r):tst (P.tbl (n+5)) Z4 [Ws (.ref c)] h=.ok (!Wx (Ce.wd r = "end")) h:=by subst hb;have t1:=Ze3 (U:=P.tbl (n+5)) (S:=[Ws (.ref c)]) rfl s;obtain⟨dk,s⟩:=s;refine ZiM t1 ?_;obtain⟨ds,ed⟩:=Ce.Zi6 r;have e1:ev (P.tbl (n+5)) (.ix (.ix (.att [O "Decoder"] (.var 0) (O "code")) (.att [O "Decoder"] (.var 0) (O "at"))) (.ci 0)) [Ws (.ref c)] h=.ok (.str (Str.ofString (Ce.wd r))) h:=(Zl (x:=r.d) ((Zl (g_a rfl s.o Zad rfl) (g_a (d:=.int (p:Int)) rfl s.o Zad rfl)).trans (Zas s.kc hc)) rfl).trans (by rw[ed];simp);refine Zcy ((Zw e1 rfl).trans ?_);rw[Zo1,ZdK];simp
def kA:Lpk P n C k c pk bk h0 Wv (wA P n c):=by
 have tt:∀{h:Hd}{p:Nat}{A:List D}{pl:List (Nat×List D)}{dn:List D}{bg:List Bg}{u:Nat},Ds C k c pk bk h0 h p A pl dn bg u->(bg≠[]\/(Wv=Wv/\∃r,C[p]? = Ws r/\r≠.fin))->tst (P.tbl (n+5)) Z4 [Ws (.ref c)] h=.ok Wv h:=λ{h p A pl dn bg u} s hc=>by
  by_cases hb:bg=[]
  . obtain⟨_,r,e,nf⟩:=hc.elim (λz=>absurd hb z) id;refine Zh (Zsc s hb e) ?_;cases r<;>first|exact absurd rfl nf|simp[Ce.wd]
  . exact Zo0 (Zh (Ze3 rfl s) (ZtP hb))
 constructor
 . intro f h h' p A pl dn bg u s hc e;obtain⟨dk,s'⟩:=id s;exact Ze1 (tt s hc) ((Za (ZU (ZB rfl s'.o rfl ZI e))).trans rfl)
 . intro f h h' w p A pl dn bg u s hc e;obtain⟨dk,s'⟩:=id s;exact ZlI (tt s hc) (ZcP (Zht (ZB rfl s'.o rfl ZI e)))
def Zqu(H:Dec P)(hN:2 * N<=40000)(hv:Vr C d v)(hn:ThN N v)(s:Ds C k c pk bk h0 h p A pl dn [] u)(hu:u<=120)(hd:dn.length<=u):On C k c pk bk h0 p A pl (dn++[(rd v).d]) [] (u+(rd v).size) (run P (n+6) (mnm (O "Decoder") (O "put_whole")) [.ref c,d] h):=by
 have hL:1000000<=P.L:=H.c.big;obtain⟨dk,s⟩:=s;rw[Zy H.n_Decoder_put_whole H.Decoder_put_whole (by rfl)];show On C k c pk bk h0 p A pl (dn++[(rd v).d]) [] (u+(rd v).size) (Ze (xs2 (P.tbl (n+5)) (.cons Zv (.cons Zn .nil)) (vt c d) h));have fin:∀{h1 h2:Hd}{m:Nat},m<=900000->(∀f,wW P n c d (m+f) h1=wW P n c d f h2)->Ds C k c pk bk h0 h2 p A pl (dn++[(rd v).d]) [] (u+(rd v).size)->u+(rd v).size<=120->On C k c pk bk h0 p A pl (dn++[(rd v).d]) [] (u+(rd v).size) (Ze (xs2 (P.tbl (n+5)) (.cons Zn .nil) (vt c d) h1)):=λ{h1 h2 m} hm e s2 le=>by
  obtain⟨f,hf⟩:∃f,P.L=m+(f+1):=⟨P.L - m - 1,by lia⟩
  have q:xs1 (P.tbl (n+5)) Zn (vt c d) h1=.ok (.nx,vt c d) h2:=by show wW P n c d P.L h1=_;rw[hf,e];exact ZgG (Ze3 rfl s2)
  rw[Za q];exact .ok le s2
 have o1:∀{p' u':Nat}{A' dn':List D}{bg':List Bg},On C k c pk bk h0 p' A' pl dn' bg' u' (run P (n+5) (mnm (O "Decoder") (O "put_on")) [.ref c,d] h)->(120<u'->120<u+(rd v).size)->(∀h1,Ds C k c pk bk h0 h1 p' A' pl dn' bg' u'->u'<=120->On C k c pk bk h0 p A pl (dn++[(rd v).d]) [] (u+(rd v).size) (Ze (xs2 (P.tbl (n+5)) (.cons Zn .nil) (vt c d) h1)))->On C k c pk bk h0 p A pl (dn++[(rd v).d]) [] (u+(rd v).size) (Ze (xs2 (P.tbl (n+5)) (.cons Zv (.cons Zn .nil)) (vt c d) h)):=λ{p' u' A' dn' bg'} o hx hk=>by
  generalize hr:run P (n+5) (mnm (O "Decoder") (O "put_on")) [.ref c,d] h=r at o;cases o with
  |@ok h1 le s1=>have x:xs1 (P.tbl (n+5)) Zv (vt c d) h=.ok (.nx,vt c d) h1:=ZU (ZB rfl s.o rfl (Zc rfl rfl) hr);rw[Za x];exact hk _ s1 le
  |@ex g lt=>have x:xs1 (P.tbl (n+5)) Zv (vt c d) h=.exc (O "Wide") (h0++g):=Zht (ZB rfl s.o rfl (Zc rfl rfl) hr);rw[ZcP x];exact .ex (hx lt)
 have fn:∀{q q':Nat}{ns sc:List Str}{ds:List D}{e:T}{S:List (Str×Option T)},d=Z1 q ns ds->(ns.length=1\/ns.length=2)->Cd C sc Wv q e q'->C[q']? = Ws .back->Eu C N (names ns++ds) sc S->(names ns++ds).length+2 * e.size<=50000->rd v=fnT ns (sub S e)->(rd v).size=1+(sub S e).size->On C k c pk bk h0 p A pl (dn++[(rd v).d]) [] (u+(rd v).size) (Ze (xs2 (P.tbl (n+5)) (.cons Zv (.cons Zn .nil)) (vt c d) h)):=λ{q q' ns sc ds e S} ed hl cq hb eu hz e1 e2=>by
  have hl':(names ns).length=ns.length:=by simp[names]
  have hz':=hz;rw[OA,hl']at hz';refine o1 (by rw[ed];exact ZlY H (n+3) s hu (by lia) (by lia) (by simp)) (by lia) λh1 s1 hu1=>?_;have sp:=Zk (sub S e);have pc:=ZpM H (kW (P:=P) (n:=n) (d:=d)) s1 hb hl hu1 hd e1 e2 (dec H kW hN _ e (Oq _) cq eu hz s1 hu1 (by lia) (by simp;lia) (.inr Zdl) (λj z=>by rw[Zn8]at z;cases z));cases pc with
  |ok le hm s2 e'=>exact fin (by lia) e' s2 le
  |@ex g m lt hm e'=>
   obtain⟨f,hf⟩:∃f,P.L=m+f:=⟨P.L - m,by lia⟩
   have q:xs1 (P.tbl (n+5)) Zn (vt c d) h1=.exc (O "Wide") (h0++g):=by show wW P n c d P.L h1=_;rw[hf,e']
   rw[ZcP q];exact .ex lt
 cases hv with
 |@num z=>exact o1 (ZlX H (n+3) s hu rfl (by decide) (by lia)) (λz=>z) λh1 s1 hu1=>fin (m:=0) (by lia) (λf=>by rw[Nat.zero_add]) s1 hu1
 |@fn q q' y e ds sc' ar cq hb r=>have z:=hn.1;unfold Rw.Bd at z;have z2:=Zb (.fn y e);simp only[T.parts,Op,Oy,OI,List.sum_nil]at z2;refine fn (ns:=[y]) (S:=(y,Wu)::ra ar) rfl (.inl rfl) cq hb (.nm y (Eu.of r hn.2)) (by simp[names,r.len];lia) (by rw[rd];rfl) ?_;rw[rd,sub,Zb];simp[T.parts]
 |@rcc q q' f y e ds sc' ar cq hb r=>have z:=hn.1;unfold Rw.Bd at z;have z2:=Zb (.rcc f y e);simp only[T.parts,Op,Oy,OI,List.sum_nil]at z2;refine fn (ns:=[y,f]) (S:=(y,Wu)::(f,Wu)::ra ar) rfl (.inr rfl) cq hb (.nm y (.nm f (Eu.of r hn.2))) (by simp[names,r.len];lia) (by rw[rd,sub,Zeh];rfl) ?_;rw[rd,sub,Zb,Zeh];simp[T.parts]
inductive Of'(C:List Ce.Rw)(k c pk bk:Nat)(h0:Hd)(p:Nat)(A:List D)(pl:List (Nat×List D))(dn:List D)(u:Nat)(S:Option D->Ev):R (Fl×Ev)->Prop
 |ok {h':Hd}{o:Option D} (le:u<=120) (s:Ds C k c pk bk h0 h' p A pl dn [] u):Of' C k c pk bk h0 p A pl dn u S (.ok (.nx,S o) h')
 |ex {g:Hd} (lt:120<u):Of' C k c pk bk h0 p A pl dn u S (.exc (O "Wide") (h0++g))
noncomputable def vc(kk:Nat)(sd:D)(c:Nat)(o:Option D):Ev:=[Ws (.ref kk),Ws sd,Ws (.ref c),o]
theorem Zmh(H:Dec P)(hN:2 * N<=40000):∀{S_:List D}{vs:List Th},Sv C S_ vs->(∀v∈vs,ThN N v)->∀{h:Hd}{dn:List D}{u:Nat}{o:Option D},Ds C k c pk bk h0 h p A pl dn [] u->u<=120->dn.length<=u->Of' C k c pk bk h0 p A pl (dn++dns vs) (u+szs vs) (vc kk sd c) (ZK Wu (.nm 3) (xs2 (P.tbl (n+6)) Zab) S_ (vc kk sd c o) h)
 |_,_,.nil,_,h,dn,u,o,s,hu,hd=>by rw[show dns ([]:List Th)=[]from rfl,show szs ([]:List Th)=0 from rfl,Ys];exact .ok hu s
 |_,_,.cons (d:=d) (v:=v) (S_:=S_) (vs:=vs) hv sv,hn,h,dn,u,o,s,hu,hd=>by
  have q:=Zqu H (n:=n) hN hv (hn v Oi) s hu hd;have sp:=Zk (rd v);obtain⟨dk,s'⟩:=id s;rw[show dns (v::vs)=[(rd v).d]++dns vs from rfl,show szs (v::vs)=(rd v).size+szs vs by simp[szs],<- Oz,<- Nat.add_assoc];generalize hr:run P (n+6) (mnm (O "Decoder") (O "put_whole")) [.ref c,d] h=r at q;cases q with
  |@ok h1 le s1=>have x:xs2 (P.tbl (n+6)) Zab (vc kk sd c (Ws d)) h=.ok (.nx,vc kk sd c (Ws d)) h1:=(Za (ZU (ZB rfl s'.o rfl (Zc rfl rfl) hr))).trans rfl;rw[Zf0 rfl x];exact Zmh H hN sv (λw hw=>hn w (Oh _ hw)) s1 le (by simp;lia)
  |@ex g lt=>have x:xs2 (P.tbl (n+6)) Zab (vc kk sd c (Ws d)) h=.exc (O "Wide") (h0++g):=ZcP (Zht (ZB rfl s'.o rfl (Zc rfl rfl) hr));rw[Zwe rfl x];exact .ex (by lia)
end
section
variable {P:Pg}{h0 h:Hd}{C:List Ce.Rw}{k c pk bk n N p u:Nat}{A dn:List D}
def ZiG(a b:List Wt)(t:T):rnd (a++b) t=rnd b (rnd a t):=List.foldl_append
def Zvy(H:Dec P)(hN:2 * N<=40000)(x:Dx C b pl S0 vs):(∀w∈vs,WtN N w)->∀{t:T}{h:Hd}{p':Nat}{A:List D},(b=Wv->C[p']? = Ws .back)->(b=Ww->C[p']? = Ws .fin)->Ds C k c pk bk h0 h p' A pl (dns (tv vs)++[t.d]) [] (szs (tv vs)+t.size)->szs (tv vs)+t.size<=120->Fo C k c pk bk h0 (wA P n c) h (rnd vs t) (mx C.length C.length pl.length (szs (tv vs)+t.size)):=by
 induction x with
 |nil=>intro hw t h p' A hb hf s hu;have e0:szs (tv ([]:List Wt))+t.size=t.size:=Nat.zero_add _;rw[e0]at s hu;exact .ok (m:=0) hu (Yw _) (hf rfl) s (λf=>by rw[Nat.zero_add])
 |@cons b sc ar p E S_ S0 ws vs pl r kx hw' hcl x ih=>
  intro hw t h p' A hb hf s hu;rw[ZkI,Zep,ZaQ]at s;rw[ZkI,ZaQ]at hu ⊢;rw[ZiG];have hc:=hb rfl;have lp:=Zgt hc;have o:=ZL H n s nofun hc λsq=>Zh7 H n sq (Zm6 H (n+1) sq hu);have zr:=Zac ws t;have zq:=Zac vs (rnd ws t);refine Fo.bind (Pc.turn kA s (.inr ⟨rfl,_,hc,nofun⟩) o) (λh1 s1 hu1=>ctx H kA hN kx r (λw z=>hw w (Yr _ z)) (ih (λw z=>hw w (Ov _ z))) s1 hu1) (by lia) (by simp only[mx,Os];lia) (λz=>?_);simp only[mx,Os,Nat.add_mul,Nat.one_mul]
  lia
inductive Rd(h0:Hd)(t:T):R D->Prop
 |ok {g:Hd} (le:t.size<=120):Rd h0 t (.ok t.d (h0++g))
 |ex {g:Hd} (lt:120<t.size):Rd h0 t (.exc (O "Wide") (h0++g))
def Ztb(H:Dec P)(s0:Dq C k c pk bk h0 h dk p0 A0 pl dn0 bg u0)(f:Fo C k c pk bk h0 (wA P n c) h t B_)(hB:B_<=900000):Rd h0 t (run P (n+6) (mnm (O "Decoder") (O "do_all")) [.ref c] h):=by
 have hL:1000000<=P.L:=H.c.big;rw[Zy H.n_Decoder_do_all H.Decoder_do_all (by rfl)];show Rd h0 t (Ze (xs2 (P.tbl (n+5)) (.cons Z8 (.cons ZaJ .nil)) [Ws (.ref c)] h));cases f with
 |@ok h' m p A le hm hc s e=>
  obtain⟨f,hf⟩:∃f,P.L=m+(f+1):=⟨P.L - m - 1,by lia⟩
  have q:xs1 (P.tbl (n+5)) Z8 [Ws (.ref c)] h=.ok (.nx,[Ws (.ref c)]) h':=by show wA P n c P.L h=_;rw[hf,e];exact ZgG (Zh (Zsc s rfl hc) rfl)
  obtain⟨dk,s⟩:=s;have x2:xs1 (P.tbl (n+5)) ZaJ [Ws (.ref c)] h'=.ok (.rt t.d,[Ws (.ref c)]) h':=Zr ((Zl (g_a rfl s.o Zad rfl) rfl).trans (by rw[ZY s.d,ZiA];rfl));rw[Za q,Zd x2];obtain⟨g,rfl⟩:=s.gone;exact .ok le
 |@ex g m lt hm e=>
  obtain⟨f,hf⟩:∃f,P.L=m+f:=⟨P.L - m,by lia⟩
  have q:xs1 (P.tbl (n+5)) Z8 [Ws (.ref c)] h=.exc (O "Wide") (h0++g):=by show wA P n c P.L h=_;rw[hf,e]
  rw[ZcP q];exact .ex lt
def Zm5(H:Dec P)(n:Nat){k:Nat}{s:Ma}(h:Hd):Zgv (run P (n+2)) (O "Decoder") [.ref k,s.d] h=.ok (.ref h.length) (h++[Zft k s.p s.E s.pl (h.length+1) (h.length+2) (h.length+3),Zbc (.int 120) 0,.lst [],.lst []]):=by
 have pen:∀fs:List (Str×D),ev (P.tbl (n+1)) (.mk (O "Pen") (.cons (.glo (O "WIDEST")) .nil)) [Ws (.ref h.length),Ws (.ref k),Ws s.d] (h++[.ins (O "Decoder") fs])=.ok (.ref (h.length+1)) (h++[.ins (O "Decoder") fs,Zbc (.int 120) 0]):=λfs=>by rw[Ce.ZtR (Zc (show ev (P.tbl (n+1)) (.glo (O "WIDEST")) _ _=.ok (.int 120) _ by rw[Zhr,show(P.tbl (n+1)).G _=_ from H.p.gw];rfl) rfl) (Tm.Zvl H.p.t n (.int 120) _)];simp
 have st:∀{Cs f e d g g' fs} (C:O "Decoder" ∈ Cs) (q:ev (P.tbl (n+1)) e [Ws (.ref h.length),Ws (.ref k),Ws s.d] (h++.ins (O "Decoder") fs::g)=.ok d (h++.ins (O "Decoder") fs::g')) (z:fs.length<1000),xs1 (P.tbl (n+1)) (.seta Cs (.var 0) f e) [Ws (.ref h.length),Ws (.ref k),Ws s.d] (h++.ins (O "Decoder") fs::g)=.ok (.nx,[Ws (.ref h.length),Ws (.ref k),Ws s.d]) (h++.ins (O "Decoder") (Zg0 f d fs)::g'):=λC q z=>(s_a q rfl ZbL C z).trans (by rw[ZjL]);have w:xs2 (P.tbl (n+1)) Zci [Ws (.ref h.length),Ws (.ref k),Ws s.d] (h++[.ins (O "Decoder") []])=.ok (.nx,[Ws (.ref h.length),Ws (.ref k),Ws s.d]) (h++[Zft k s.p s.E s.pl (h.length+1) (h.length+2) (h.length+3),Zbc (.int 120) 0,.lst [],.lst []]):=(Za (st Zad rfl (by decide))).trans ((Za (st (fs:=[_]) Zad rfl (show 1<1000 by decide))).trans ((Za (st (fs:=[_,_]) cls2 rfl (show 2<1000 by decide))).trans ((Za (st (fs:=[_,_,_]) Zad rfl (show 3<1000 by decide))).trans ((Za (st (fs:=[_,_,_,_]) Zad (pen _) (show 4<1000 by decide))).trans ((Za (st (fs:=[_,_,_,_,_]) (d:=.ref (h.length+2)) (g':=[Zbc (.int 120) 0,.lst []]) Zad ((ZhQ (xs:=[]) rfl (by decide)).trans (by simp)) (show 5<1000 by decide))).trans ((Za (st (fs:=[_,_,_,_,_,_]) (d:=.ref (h.length+3)) (g':=[Zbc (.int 120) 0,.lst [],.lst []]) Zad ((ZhQ (xs:=[]) rfl (by decide)).trans (by simp)) (show 6<1000 by decide))).trans rfl))))))
 unfold Zgv;rw[Zy H.n_Decoder___init__ H.Decoder___init__ rfl];exact congrArg (λr=>(Ze r).bind _) w
def Zqf(hw:∀w∈ws,WtN N w):∀v∈tv ws,ThN N v:=λv hv=>by
 obtain⟨w,h1,h2⟩:=List.mem_flatMap.mp hv;have q:=hw w (List.mem_reverse.mp h1);cases w with
 |fn V=>rw[vs1,Ox]at h2;subst h2;exact q
 |left w V=>rw[vs1,Ox]at h2;subst h2;exact q
 |_=>cases h2
def rest(H:Dec P)(hN:2 * N<=40000)(r:Rc C s Z)(on:StN N Z):∃vs:List Th,Sv C s.S_ vs/\(∀v∈vs,ThN N v)/\szs vs<=(read Z).size/\∀{h:Hd},Ds C k c pk bk h0 h s.p s.E s.pl (dns vs) [] (szs vs)->szs vs<=120->Fo C k c pk bk h0 (wA P n c) h (read Z) (484+mx C.length 0 s.pl.length 0):=by
 cases r with
 |@go b l sc ar p p' E S_ S0 ws vs pl t r cd hl kx x=>have hw1:∀w∈ws,WtN N w:=λw z=>on.2.2 w (Yr _ z);have hw2:∀w∈vs,WtN N w:=λw z=>on.2.2 w (Ov _ z);have bd:=on.1;unfold Rw.Bd at bd;have zr:=Zac ws (sub (ra ar) t);have zq:=Zac vs (rnd ws (sub (ra ar) t));have e:read (.go t ar (ws++vs))=rnd vs (rnd ws (sub (ra ar) t)):=ZiG _ _ _;refine⟨tv vs++tv ws,(Dx.sv x).app (Cx.sv kx),λv hv=>(OD.mp hv).elim (Zqf hw2 v) (Zqf hw1 v),by rw[e,ZaQ];lia,λ{h} s hu=>?_⟩;rw[Zep]at s;rw[ZaQ]at s hu;rw[e];have sp:=Zk (sub (ra ar) t);have l1:=ZaC (tv vs);have l2:=ZaC (tv ws);exact Fo.bind (dec H kA hN _ t (Oq _) cd (Eu.of r on.2.1) (by rw[r.len];lia) s hu (by simp;lia) (by simp) (.inl rfl) nofun) (λh1 s1 hu1=>ctx H kA hN kx r hw1 (Zvy H hN x hw2) s1 hu1) (by lia) (by simp only[mx];lia) (λz=>by simp only[mx];lia)
 |@back b sc ar p E S_ S0 ws vs pl d V r v kx x=>
  have hw1:∀w∈ws,WtN N w:=λw z=>on.2 w (Yr _ z);have hw2:∀w∈vs,WtN N w:=λw z=>on.2 w (Ov _ z);have zr:=Zac ws (rd V);have zq:=Zac vs (rnd ws (rd V));have e:read (.back V (ws++vs))=rnd vs (rnd ws (rd V)):=ZiG _ _ _;have eV:szs [V]=(rd V).size:=by simp[szs]
  refine⟨tv vs++tv ws++[V],((Dx.sv x).app (Cx.sv kx)).app (.cons v .nil),λw hv=>?_,by rw[e,ZaQ,ZaQ,eV];lia,λ{h} s hu=>?_⟩
  . rcases OD.mp hv with q|q
    . exact(OD.mp q).elim (Zqf hw2 w) (Zqf hw1 w)
    . rw[Ox]at q;subst q;exact on.1
  . rw[Zep,Zep]at s;rw[ZaQ,ZaQ,eV]at s hu;rw[e];have f:=ctx H kA hN kx r hw1 (Zvy (n:=n) H hN x hw2) (t:=rd V) s hu;cases f with
    |ok le hm hc s e=>exact .ok le (by simp only[mx]at *;lia) hc s e
    |ex lt hm e=>exact .ex lt (by simp only[mx]at *;lia) e
theorem Zs6 (H:Dec P) (n:Nat) (hN:2 * N<=40000) {s:Ma} (r:Rc C s Z) (on:StN N Z) (hG:C.length<=500) (hp:s.pl.length<=500) {k:Nat} (h:Hd) (hk:h[k]? = Ws (.lst (C.map Ce.Rw.d))):Rd h (read Z) (run P (n+7) (O "code_read") [.ref k,s.d] h):=by
 obtain ⟨vs,sv,hn,hz,fo⟩:=rest (k:=k) (c:=h.length) (pk:=h.length+1) (bk:=h.length+3) (h0:=h) (n:=n) H hN r on;rw [Zg H.code_read (by rfl)];have s0:Dq C k h.length (h.length+1) (h.length+3) h (h++[Zft k s.p s.E s.pl (h.length+1) (h.length+2) (h.length+3),Zbc (.int 120) 0,.lst [],.lst []]) (h.length+2) s.p s.E s.pl [] [] 0 :=
   ⟨by simp,by simp,by simp,by simp,keep hk,by lia,Z9 hk,by lia,by lia,by lia,by lia,by simp,fun i hi=>by rw [Oe hi]⟩
 have x1:xs1 (P.tbl (n+6)) ZcH [Ws (.ref k),Ws s.d,Wu,Wu] h=.ok (.nx,vc k s.d h.length Wu) _:=Zs (by rw [Zsu,Zc rfl (Zc rfl rfl)];exact Zm5 H (n+4) h);have ls:=Zmh (n:=n) H hN (kk:=k) (sd:=s.d) sv hn (o:=Wu) ⟨_,s0⟩ (by decide) (by simp);rw [OB,Nat.zero_add] at ls;generalize (h++[Zft k s.p s.E s.pl (h.length+1) (h.length+2) (h.length+3),Zbc (.int 120) 0,.lst [],.lst []])=h1 at *;show Rd h (read Z) (Ze (xs2 (P.tbl (n+6)) (.cons ZcH (.cons ZcG (.cons Zbz .nil))) [Ws (.ref k),Ws s.d,Wu,Wu] h));rw [Za x1];have x2:xs1 (P.tbl (n+6)) ZcG (vc k s.d h.length Wu) h1=ZK Wu (.nm 3) (xs2 (P.tbl (n+6)) Zab) s.S_ (vc k s.d h.length Wu) h1:=ZfZ (w:=⟨Wu,s.S_⟩) (Zlp rfl);generalize ZK Wu (.nm 3) (xs2 (P.tbl (n+6)) Zab) s.S_ (vc k s.d h.length Wu) h1=rr at *;cases ls with
 | @ok h2 o le s2 =>
   rw [Za x2];have f:=fo s2 le;obtain ⟨dk,s2⟩:=s2;have q:=Ztb H s2 f (by
     have:s.pl.length * (3 * C.length+3)<=500 * 1503:=Nat.mul_le_mul hp (by lia);simp only [mx]
     lia)
   generalize hr:run P (n+6) (mnm (O "Decoder") (O "do_all")) [.ref h.length] h2=r2 at q;cases q with
   | @ok g le2 =>
     have x3:xs1 (P.tbl (n+6)) Zbz (vc k s.d h.length o) h2=.ok (.rt (read Z).d,vc k s.d h.length o) (h++g):=Zr (ZB rfl s2.o rfl ZI hr);rw [Zd x3];exact .ok le2
   | @ex g lt =>
     have x3:xs1 (P.tbl (n+6)) Zbz (vc k s.d h.length o) h2=.exc (O "Wide") (h++g):=Zvg (ZB rfl s2.o rfl ZI hr);rw [ZcP x3];exact .ex lt
 | @ex g lt =>
   rw [ZcP x2];exact .ex (by lia)
end
end Cr
namespace Cs
open PySem IV Gn
open Rw (Th Ar Wt Sta ZgF ArOk ZhY ZhK StN WtN ThN read rnd rd ra wts)
open Ce (Cd Ma Z1 ZV ent psh Stp)
section
variable {P:Pg}{C:List Ce.Rw}{N:Nat}{h:Hd}
structure Ci(C:List Ce.Rw)(N:Nat)(s:Ma)(Z:Sta):Prop where
 r:Rc C s Z
 ok:ZhK Z
 on:StN N Z
def Qs.keeps(q:Qs Z σ'):ZhK Z->StN N Z->ZhK σ'/\StN N σ'/\read σ'=read Z:=by
 induction q with
 |refl=>exact λa b=>⟨a,b,rfl⟩
 |@step s s' t e _ ih=>intro a b;have i:=Rw.Zjx a b (.inl e);have m:=Rw.Ze6 s a;rw[e]at m;obtain⟨h1,h2,h3⟩:=ih i.1 i.2;exact⟨h1,h2,h3.trans m⟩
inductive Sp(C:List Ce.Rw)(N:Nat)(t:T):Ce.Ans->Prop
 |quiet {s:Ma}{Z:Sta} (d:Ci C N s Z) (e:read Z=t):Sp C N t (.quiet s)
 |loud {s:Ma}{Z:Sta} (d:Ci C N s Z) (nv:Tm.isV t=Ww) (e:Tm.next t=Ws (read Z)):Sp C N t (.loud s)
 |value (v:Tm.isV t=Wv):Sp C N t .value
 |stuck (nv:Tm.isV t=Ww) (e:Tm.next t=Wu):Sp C N t .stuck
def Sc.sp(d:Ci C N s Z)(h:Sc C s Z a):Sp C N (read Z) a:=by
 cases h with
 |quiet e r q=>obtain⟨h1,h2,h3⟩:=q.keeps d.ok d.on;exact .quiet ⟨r,h1,h2⟩ h3
 |@loud s' σ0 σ1 σ' e q0 hs r q=>obtain⟨h1,h2,h3⟩:=q0.keeps d.ok d.on;have i:=Rw.Zjx h1 h2 (.inr hs);have m:=Rw.Ze6 σ0 h1;rw[hs]at m;obtain⟨g1,g2,g3⟩:=q.keeps i.1 i.2;have m1:=m.1.1;have m2:=m.2;rw[h3]at m1 m2;exact .loud ⟨r,g1,g2⟩ m1 (by rw[m2,g3])
 |@value σ0 e q hs=>obtain⟨h1,h2,h3⟩:=q.keeps d.ok d.on;have m:=Rw.Ze6 σ0 h1;rw[hs]at m;obtain⟨V,_,m⟩:=m;rw[h3]at m;exact .value m
 |@stuck σ0 e q hs=>obtain⟨h1,h2,h3⟩:=q.keeps d.ok d.on;have m:=Rw.Ze6 σ0 h1;rw[hs]at m;have m1:=m.1.1;have m2:=m.2;rw[h3]at m1 m2;exact .stuck m1 m2
def Zot(H:Ce.Cod P)(n:Nat)(w:Wd){A B_:D}(va:Vr C A W)(vb:Vr C B_ V)(hn:¬ ∃a b,A=ZV a/\B_=ZV b):run P (n+1) (O "worked") [.str w.s,A,B_] h=.ok .non h:=by
 rw[Zg H.worked rfl];have no:∀{z:Int}{q:Nat}{ns:List Str}{ds:List D},A=Z1 q ns ds\/A=ZV z/\B_=Z1 q ns ds->Ze (xs2 (P.tbl n) Ce.ZG [Ws (.str w.s),Ws A,Ws B_] h)=.ok .non h:=by
  rintro z q ns ds (rfl|⟨rfl,rfl⟩)
  . exact congrArg Ze (Zd ((Zj (Zo0 rfl)).trans rfl))
  . exact congrArg Ze (Zd ((Zj (ZiM rfl rfl)).trans rfl))
 cases va with
 |num=>
  cases vb with
  |num=>exact absurd ⟨_,_,rfl,rfl⟩ hn
  |fn _ _ _=>exact no (.inr ⟨rfl,rfl⟩)
  |rcc _ _ _=>exact no (.inr ⟨rfl,rfl⟩)
 |fn _ _ _=>exact no (z:=0) (.inl rfl)
 |rcc _ _ _=>exact no (z:=0) (.inl rfl)
def Zvk(H:Ce.Cod P)(n:Nat){k:Nat}(hk:h[k]? = Ws (.lst (C.map Ce.Rw.d)))(q:Stk C s):run P (n+4) (O "code_step") [.ref k,s.d] h=.ok Ce.Ans.stuck.d h:=by
 cases q with
 |@app p r z V S_ E pl hc hr hp=>
  have e:=Ce.Zm8 H n (h:=h) z S_ V;rcases hr with rfl|rfl
  . exact Ce.Z2 H n _ hk hc rfl (.inl ⟨rfl,rfl⟩) (Ce.Zh6 H n ⟨p,S_++[ZV z,V],E,pl⟩ hp (e _))
  . exact Ce.Z2 H n _ hk hc rfl (.inl ⟨rfl,rfl⟩) (Ce.ZjF H n ⟨p,S_++[ZV z,V],E,pl⟩ (e _))
 |unl hc=>exact Ce.Z2 H n _ hk hc rfl (.inl ⟨rfl,rfl⟩) (Ce.ZjE H n _ _ (Ce.ZkZ H n _ _ _ _ _ _ _ _))
 |@work p w A B_ S_ E pl V W hc va vb hn=>refine Ce.Z2 H n _ hk hc rfl (.inl ⟨rfl,rfl⟩) (Ce.Zh5 H n _ _ ?_);rw[Zg H.reckoned (by rfl)];have e1:=Ce.Zp5 (l:=S_) (a:=A) (b:=B_);have e2:=Ce.ZmK (l:=S_) (a:=A) (b:=B_);have e4:=Zot H n (h:=h) w va vb hn;simp[Ma.d,Ce.ZeS,Ce.ZhC,ZF,e1,e2,e4,YC]
def Zof(q:Stp C s ld s'):s'.pl.length<=s.pl.length+1:=by
 cases q with
 |back hc=>exact OE (Nat.le_succ _) (Nat.le_succ _)
 |call hc hd hp=>exact Oq _
 |_=>exact Nat.le_succ _
def Ci.step(d:Ci C N s Z)(H:Ce.Cod P)(n:Nat)(hN:N<=5000)(hz:(wts Z).length<=8000)(hk:h[k]? = Ws (.lst (C.map Ce.Rw.d))):∃a,run P (n+4) (O "code_step") [.ref k,s.d] h=.ok a.d h/\Sp C N (read Z) a/\∀s',a.nxt=Ws s'->s'.pl.length<=s.pl.length+1:=by
 obtain⟨a,sc⟩:=sim d.r hz hN d.ok d.on;have sp:=sc.sp d;refine⟨a,?_,sp,λs' e'=>?_⟩
 . cases sc with
   |quiet e r q=>exact Ce.Zsm H n hk e
   |loud e q0 hs r q=>exact Ce.Zsm H n hk e
   |value e q hs=>exact Ce.ZkU H (n+3) s hk e
   |stuck e q hs=>exact Zvk H n hk e
 . cases sc with
   |quiet e r q=>cases e';exact Zof e
   |loud e q0 hs r q=>cases e';exact Zof e
   |value e q hs=>cases e'
   |stuck e q hs=>cases e'
def Ci.begin(t:T)(c:Gn.Cl [] t):Ci (Ce.code t) t.size ⟨0,[],[],[]⟩ (.go t .nil []):=by
 obtain⟨cd,hf⟩:=Ce.ZrS t c;refine⟨Rc.go (b:=false) (S_:=[]) (S0:=[]) (ws:=[]) (vs:=[]) .nil cd ⟨nofun,nofun⟩ (.fin hf) .nil,⟨c,trivial,nofun⟩,?_,trivial,nofun⟩;unfold Rw.Bd;rw[Ar.len]
 lia
def Zhz(er:Er C E sc ar)(cd:Cd C sc l p t p'):∃r,C[p]? = Ws r/\∀i,r=.fetch i->i<E.length:=by
 induction cd with
 |num hc=>exact⟨_,hc,nofun⟩
 |name hc hp=>obtain⟨d,v,e1,_,_⟩:=er.get hp;exact⟨_,hc,λi z=>by cases z;exact(Ob.mp e1).1⟩
 |fn hc _ _ _=>exact⟨_,hc,nofun⟩
 |rcc hc _ _ _=>exact⟨_,hc,nofun⟩
 |call _ _ _ ih _=>exact ih er
 |op _ _ _ ih _=>exact ih er
 |iff _ _ _ _ _ ih _ _=>exact ih er
def Rc.row(r:Rc C s Z):∃r,C[s.p]? = Ws r/\∀i,r=.fetch i->i<s.E.length:=by
 cases r with
 |go r c hl k x=>exact Zhz r c
 |back r v k x=>
  cases k with
  |fin hc=>exact⟨_,hc,nofun⟩
  |back hc=>exact⟨_,hc,nofun⟩
  |jmp hc _ _=>exact⟨_,hc,nofun⟩
  |app hc hr _ _=>exact⟨_,hc,λi z=>by rcases hr with ⟨rfl,_⟩|⟨rfl,_⟩<;>cases z⟩
  |arg c _ _ _=>exact Zhz r c
  |work hc _ _=>exact⟨_,hc,nofun⟩
  |right c _ _=>exact Zhz r c
  |cho hc _ _ _ _ _=>exact⟨_,hc,nofun⟩
def Cx.has(er:Er C E sc ar)(k:Cx C b sc ar p S_ ws):p<C.length:=by
 have lt:∀{p:Nat}{r:Ce.Rw},C[p]? = Ws r->p<C.length:=λe=>(Ob.mp e).1;cases k with
 |fin hc=>exact lt hc
 |back hc=>exact lt hc
 |jmp hc _ _=>exact lt hc
 |app hc hr _ _=>exact lt hc
 |arg c _ _ _=>obtain⟨_,e,_⟩:=Zhz er c;exact lt e
 |work hc _ _=>exact lt hc
 |right c _ _=>obtain⟨_,e,_⟩:=Zhz er c;exact lt e
 |cho hc _ _ _ _ _=>exact lt hc
theorem Dx.has(x:Dx C b pl S_ vs):∀f∈pl,f.1<C.length/\∃p0,f.1=p0+1/\C[p0]? = Ws .call:=by
 induction x with
 |nil=>nofun
 |cons r k hw hc x ih=>
  intro f hf;rcases O3.mp hf with rfl|hf
  . exact⟨k.has r,hc⟩
  . exact ih f hf
theorem Rc.has(r:Rc C s Z):∀f∈s.pl,f.1<C.length/\∃p0,f.1=p0+1/\C[p0]? = Ws .call:=by
 cases r with
 |go r c hl k x=>exact x.has
 |back r v k x=>exact x.has
def ZnS(Z:Sta):(wts Z).length+1<=(read Z).size:=by
 cases Z with
 |go E ar ws=>have:=Rw.Ze8 ws (Tm.sub (ra ar) E);have:=Tm.Zk (Tm.sub (ra ar) E);exact OE (by simp only[wts];lia) (Rw.Ze8 ws (Tm.sub (ra ar) E))
 |back V ws=>have:=Tm.Zk (rd V);exact OE (by simp only[wts];lia) (Rw.Ze8 ws (rd V))
end
end Cs
namespace K56L
open PySem L2 IV
def ZhF:Sx:=(.set (.nm 2) (.cst .non))
def Zce:Sx:=(.trs 2 (O "code_read") (.c (.v 0) (.c (.v 1) .n)) (O "Wide"))
def ZdW:Tx:=(.ex (.cmp .Is (.v 2) (.cst .non)))
def Zfz:Sx:=(.ret (.ci 0))
def Zg7:Sxs:=(.c Zfz .n)
def ZhE:Sx:=.iff ZdW Zg7 .n
def ZdY:Sx:=(.ret (.call (O "_law_width") (.c (.v 2) .n)))
def Zje:Sxs:=(.c ZhF (.c Zce (.c ZhE (.c ZdY .n))))
def Zfk:Fd:=⟨[(O "_law_code"),(O "_law_state")],[(O "_law_code"),(O "_law_state"),(O "_law_told")],Zje⟩
def ZfD:Sx:=(.set (.many [3,4,5,6]) (.v 1))
def Zde:Tx:=(.ors (.c (.nt (.ex (.cmp2 .LtE .Lt (.ci 0) (.v 3) (.blt .len (.c (.v 0) .n))))) (.c (.ex (.cmp .Gt (.blt .len (.c (.v 6) .n)) (.v 2))) (.one (.ex (.cmp .Gt (.blt .len (.c (.v 4) .n)) (.v 2)))))))
def ZgA:Sx:=(.ret (.cst (.bl Ww)))
def ZiV:Sxs:=(.c ZgA .n)
def Zjf:Sx:=.iff Zde ZiV .n
def ZiZ:Ix:=(.pl (.v 6))
def Zcb:Tx:=(.ors (.c (.nt (.ex (.cmp2 .Lt .Lt (.ci 0) (.v 7) (.blt .len (.c (.v 0) .n))))) (.c (.ex (.cmp .NotEq (.ix (.v 0) (.bin .Sub (.v 7) (.ci 1))) (.tupl (.c (.Ci_ "call") .n)))) (.one (.nt (.ex (.blt .isi (.c (.v 8) (.c (.cst (.ty "tuple")) .n)))))))))
def ZfB:Sx:=(.ret (.cst (.bl Ww)))
def Zg8:Sxs:=(.c ZfB .n)
def ZhG:Sx:=.iff Zcb Zg8 .n
def Zff:Sxs:=(.c ZhG .n)
def ZfC:Sx:=.forr (.two 7 8) ZiZ Zff
def ZfA:Sx:=(.ret (.ors (.c (.cmp .NotEq (.ix (.ix (.v 0) (.v 3)) (.ci 0)) (.Ci_ "fetch")) (.c (.cmp2 .LtE .Lt (.ci 0) (.ix (.ix (.v 0) (.v 3)) (.ci 1)) (.blt .len (.c (.v 5) .n))) .n))))
def Zlx:Sxs:=(.c ZfD (.c Zjf (.c ZfC (.c ZfA .n))))
def Zhn:Fd:=⟨[(O "_law_code"),(O "_law_state"),(O "_law_most")],[(O "_law_code"),(O "_law_state"),(O "_law_most"),(O "_law_at"),(O "_law_stack"),(O "_law_around"),(O "_law_pile"),(O "_law_row"),(O "_law_kept")],Zlx⟩
def Zjn:Sx:=(.set (.nm 1) (.call (O "code_of") (.c (.call (O "_law_program") (.c (.v 0) (.c (.ci 1) .n))) .n)))
def Zjm:Sx:=(.set (.nm 2) (.call (O "code_begun") (.c (.v 1) .n)))
def Zjl:Sx:=(.set (.nm 3) (.call (O "_law_places") (.c (.v 1) (.c (.v 2) .n))))
def Zi0:Ix:=(.rng (.bin .Add (.ci 1) (.bin .Mod (.call (O "_law_mixed") (.c (.call (O "_law_cell_at") (.c (.v 0) (.c (.ci 0) .n))) (.c (.ci 1) .n))) (.ci 239))))
def Zf5:Tx:=(.nt (.ex (.call (O "_law_good") (.c (.v 1) (.c (.v 2) (.c (.v 3) .n))))))
def Zjj:Sx:=(.ret (.cst (.bl Ww)))
def Znw:Sxs:=(.c Zjj .n)
def Zix:Sx:=.iff Zf5 Znw .n
def Ziw:Sx:=(.set (.nm 5) (.call (O "code_step") (.c (.v 1) (.c (.v 2) .n))))
def ZnG:Tx:=(.ors (.c (.ex (.cmp .Eq (.ix (.v 5) (.ci 0)) (.Ci_ "value"))) (.one (.ex (.cmp .Eq (.ix (.v 5) (.ci 0)) (.Ci_ "stuck"))))))
def Zji:Sx:=(.ret (.cst (.bl Wv)))
def Znv:Sxs:=(.c Zji .n)
def Zer:Sx:=.iff ZnG Znv .n
def Zf7:Sx:=(.set (.nm 2) (.ix (.v 5) (.ci 1)))
def Ziq:Tx:=(.ex (.cmp .Eq (.ix (.v 5) (.ci 0)) (.Ci_ "loud")))
def ZfE:Sx:=(.set (.nm 3) (.call (O "_law_places") (.c (.v 1) (.c (.v 2) .n))))
def Zfw:Tx:=(.ex (.cmp .Eq (.v 3) (.ci 0)))
def ZgB:Sx:=(.ret (.cst (.bl Wv)))
def ZiW:Sxs:=(.c ZgB .n)
def Zjh:Sx:=.iff Zfw ZiW .n
def Znu:Sxs:=(.c ZfE (.c Zjh .n))
def Zf6:Sx:=.iff Ziq Znu .n
def Zdb:Sxs:=(.c Zix (.c Ziw (.c Zer (.c Zf7 (.c Zf6 .n)))))
def Zjk:Sx:=.forr (.nm 4) Zi0 Zdb
def Zjg:Sx:=(.ret (.cmp .Gt (.v 3) (.ci 0)))
def Zww:Sxs:=(.c Zjn (.c Zjm (.c Zjl (.c Zjk (.c Zjg .n)))))
def Zkf:Fd:=⟨[(O "_law_script")],[(O "_law_script"),(O "_law_code"),(O "_law_state"),(O "_law_room"),(O "_law_step"),(O "_law_answer")],Zww⟩
structure Lw(P:Pg):Prop where
 m:Gn.Mkr P
 d:Cr.Dec P
 cell:P.tb.lookup (O "_law_cell_at")=Ws Gn.Zav
 law_places:P.tb.lookup (O "_law_places")=Ws Zfk
 law_good:P.tb.lookup (O "_law_good")=Ws Zhn
 law:P.tb.lookup (O "law")=Ws Zkf
end K56L
namespace K56L
open PySem L2 IV
open Rw (Sta StN read wts)
open Cs (Ci Sp)
open Ce (Ma fr Z9 keep Zas)
section
variable {P:Pg}{h:Hd}{C:List Ce.Rw}{N k:Nat}
def Zls(ho:opC U.GD o (.int x) (.int y) h=.ok (.bl v) h)(p:ev U a S h=.ok (.int x) h)(q:ev U b S h=.ok (.int y) h)(r:ev U c S h=.ok (.int z) h):ev U (.cmp2 o .Lt a b c) S h=.ok (.bl (v&&Wx (y<z))) h:=by
 show R.bind (ev U a S h) _=_;rw[p];show R.bind (ev U b S h) _=_;rw[q];show R.bind (opC U.GD o (.int x) (.int y) h) _=_;rw[ho];cases v with
 |true=>show R.bind (ev U c S h) _=_;rw[r];rfl
 |false=>rfl
noncomputable def plc(t:T):Nat:=if t.size<=120 then t.size else 0
def ZjD(H:Lw P)(n:Nat)(hn:200<=n)(hN:2 * N<=40000)(d:Ci C N s Z)(hG:C.length<=500)(hp:s.pl.length<=500)(hk:h[k]? = Ws (.lst (C.map Ce.Rw.d))):∃g,run P (n+8) (O "_law_places") [.ref k,s.d] h=.ok (.int (plc (read Z):Int)) (h++g):=by
 have q:=Cr.Zs6 H.d n hN d.r d.on hG hp h hk;rw[Zg H.law_places (by rfl)];generalize hr:run P (n+7) (O "code_read") [.ref k,s.d] h=r at q;cases q with
 |@ok g le=>obtain⟨g2,e2⟩:=Gn.ZgQ H.m (n+7) (read Z) (h++g) (by have:=Tm.ZcA (read Z);lia);refine⟨g++g2,?_⟩;have x2:xs1 (P.tbl (n+7)) Zce [Ws (.ref k),Ws s.d,Ws .non] h=.ok (.nx,[Ws (.ref k),Ws s.d,Ws (read Z).d]) (h++g):=ZsP rfl hr;have t3:tst (P.tbl (n+7)) ZdW [Ws (.ref k),Ws s.d,Ws (read Z).d] (h++g)=.ok Ww (h++g):=Zru (x:=(read Z).d) rfl (by cases read Z<;>nofun);have x4:xs1 (P.tbl (n+7)) ZdY [Ws (.ref k),Ws s.d,Ws (read Z).d] (h++g)=.ok (.rt (.int ((read Z).size:Int)),[Ws (.ref k),Ws s.d,Ws (read Z).d]) (h++g++g2):=Zr (Zu e2 rfl);rw[plc,if_pos le,<- Oz];exact congrArg Ze ((Za rfl).trans ((Za x2).trans ((Za ((Zf t3).trans rfl)).trans (Zd x4))))
 |@ex g lt=>refine⟨g,?_⟩;have x2:xs1 (P.tbl (n+7)) Zce [Ws (.ref k),Ws s.d,Ws .non] h=.ok (.nx,[Ws (.ref k),Ws s.d,Ws .non]) (h++g):=ZuW rfl hr;rw[plc,if_neg (by lia)];exact congrArg Ze ((Za rfl).trans ((Za x2).trans (Zd ((Zj (Zuc rfl)).trans (Zd (Zr rfl))))))
noncomputable def vg(k:Nat)(s:Ma)(m:Nat)(o7 o8:Option D):Ev:=[Ws (.ref k),Ws s.d,Ws (.int (m:Int)),Ws (.int (s.p:Int)),Ws (.tup s.S_),Ws (.tup s.E),Ws (.tup (s.pl.map fr)),o7,o8]
theorem Zpm(hk:h[k]? = Ws (.lst (C.map Ce.Rw.d))):∀(fs:List (Nat×List D)),(∀f∈fs,f.1<C.length/\∃p0,f.1=p0+1/\C[p0]? = Ws .call)->∀(o7 o8:Option D),∃p7 p8,ZK Wu (.two 7 8) (xs2 U Zff) (fs.map fr) (vg k s m o7 o8) h=.ok (.nx,vg k s m p7 p8) h
 |[],_,o7,o8=>⟨o7,o8,rfl⟩
 |(q,B_)::fs,hf,o7,o8=>by
  obtain⟨h1,p0,h2,h3⟩:=hf _ Oi;simp only at h1 h2;obtain⟨p7,p8,e⟩:=Zpm (U:=U) (s:=s) (m:=m) hk fs (λf z=>hf f (Oh _ z)) (Ws (.int (q:Int))) (Ws (.tup B_));refine⟨p7,p8,(Zf0 (ρ1:=vg k s m (Ws (.int (q:Int))) (Ws (.tup B_))) rfl ?_).trans e⟩;have el:ev U (.blt .len (.cons (.var 0) .nil)) (vg k s m (Ws (.int (q:Int))) (Ws (.tup B_))) h=.ok (.int (C.length:Int)) h:=(Zhs (Zc rfl rfl) (Zgh hk)).trans (by rw[Yt]);have t1:tst U (.nt (.ex (.cmp2 .Lt .Lt (.ci 0) (.var 7) (.blt .len (.cons (.var 0) .nil))))) (vg k s m (Ws (.int (q:Int))) (Ws (.tup B_))) h=.ok Ww h:=by rw[ZiD,Zcy (Zls (o:=.Lt) (v:=Wx ((0:Int)<q)) rfl rfl rfl el),decide_eq_true (by lia),decide_eq_true (by lia)];rfl
  have ei:ev U (.ix (.var 0) (.bin .Sub (.var 7) (.ci 1))) (vg k s m (Ws (.int (q:Int))) (Ws (.tup B_))) h=.ok Ce.Rw.call.d h:=(Zl (x:=.ref k) rfl ((Zi (x:=.int (q:Int)) rfl rfl).trans (show _=R.ok (D.int (p0:Int)) h by rw[ZiQ];congr 2;lia))).trans (Zas hk h3);have t2:tst U (.ex (.cmp .NotEq (.ix (.var 0) (.bin .Sub (.var 7) (.ci 1))) (.tupl (.cons (.Ci_ "call") .nil)))) (vg k s m (Ws (.int (q:Int))) (Ws (.tup B_))) h=.ok Ww h:=Zcy (b:=false) ((Zw (y:=Ce.Rw.call.d) (h2:=h) ei rfl).trans (Zno (n:=true) (d:=Ce.Rw.call.d) rfl (by simp[Ce.Rw.d,D.dp,D.dps])));have tt:tst U Zcb (vg k s m (Ws (.int (q:Int))) (Ws (.tup B_))) h=.ok Ww h:=by rw[Zcb,ZgH,Zbi,t1,Zt,Zbi,t2];rfl
  exact(Za ((Zf tt).trans rfl)).trans rfl
def Zs9(H:Lw P)(n:Nat)(d:Ci C N s Z)(hk:h[k]? = Ws (.lst (C.map Ce.Rw.d))):run P (n+1) (O "_law_good") [.ref k,s.d,.int ((read Z).size:Int)] h=.ok (.bl Wv) h:=by
 rw[Zg H.law_good (by rfl)];obtain⟨r,hc,hf⟩:=d.r.row;have hl:=d.r.lens;have hw:=Cs.ZnS Z;have hp:=(Ob.mp hc).1;obtain⟨p7,p8,e3⟩:=Zpm (U:=P.tbl n) (s:=s) (m:=(read Z).size) hk s.pl d.r.has Wu Wu;generalize (read Z).size=m at *;have x1:xs1 (P.tbl n) ZfD [Ws (.ref k),Ws s.d,Ws (.int (m:Int)),Wu,Wu,Wu,Wu,Wu,Wu] h=.ok (.nx,vg k s m Wu Wu) h:=rfl;have el:∀o7 o8,ev (P.tbl n) (.blt .len (.cons (.var 0) .nil)) (vg k s m o7 o8) h=.ok (.int (C.length:Int)) h:=λ_ _=>(Zhs (Zc rfl rfl) (Zgh hk)).trans (by rw[Yt]);have t1:tst (P.tbl n) (.nt (.ex (.cmp2 .LtE .Lt (.ci 0) (.var 3) (.blt .len (.cons (.var 0) .nil))))) (vg k s m Wu Wu) h=.ok Ww h:=by rw[ZiD,Zcy (Zls (o:=.LtE) (v:=Wx ((0:Int)<=s.p)) rfl rfl rfl (el _ _)),decide_eq_true (by lia),decide_eq_true (by lia)];rfl
 have e6:ev (P.tbl n) (.blt .len (.cons (.var 6) .nil)) (vg k s m Wu Wu) h=.ok (.int ((s.pl.map fr).length:Int)) h:=rfl;have e4:ev (P.tbl n) (.blt .len (.cons (.var 4) .nil)) (vg k s m Wu Wu) h=.ok (.int (s.S_.length:Int)) h:=rfl;rw[Yt]at e6;have tt:tst (P.tbl n) Zde (vg k s m Wu Wu) h=.ok Ww h:=by rw[Zde,ZgH,Zbi,t1,Zt,Zbi,Zh (Zrz e6 rfl) (decide_eq_false (by lia)),Zt,ZmS,Zh (Zrz e4 rfl) (decide_eq_false (by lia))];rfl
 have x3:xs1 (P.tbl n) ZfC (vg k s m Wu Wu) h=.ok (.nx,vg k s m p7 p8) h:=(ZfZ (w:=⟨Wu,s.pl.map fr⟩) (Zlp rfl)).trans e3;obtain⟨ds,ed⟩:=Ce.Zi6 r;have er:ev (P.tbl n) (.ix (.var 0) (.var 3)) (vg k s m p7 p8) h=.ok r.d h:=(Zl (x:=.ref k) (y:=.int (s.p:Int)) rfl rfl).trans (Zas hk hc);have ea:ev (P.tbl n) (.cmp .NotEq (.ix (.ix (.var 0) (.var 3)) (.ci 0)) (.Ci_ "fetch")) (vg k s m p7 p8) h=.ok (.bl (!Wx (Ce.wd r = "fetch"))) h:=(Zw (x:=.str (Str.ofString (Ce.wd r))) (y:=.str (O "fetch")) (h1:=h) (h2:=h) ((Zl er rfl).trans (by rw[ed];simp)) rfl).trans (by rw[Zo1,ZdK];simp);have x4:xs1 (P.tbl n) ZfA (vg k s m p7 p8) h=.ok (.rt (.bl Wv),vg k s m p7 p8) h:=by
  refine Zr (Zum.trans ?_);rw[ZpH,ea];by_cases z:Ce.wd r = "fetch"
  . rw[decide_eq_true z];cases r with
    |fetch i=>have li:=hf i rfl;have ec:ev (P.tbl n) (.cmp2 .LtE .Lt (.ci 0) (.ix (.ix (.var 0) (.var 3)) (.ci 1)) (.blt .len (.cons (.var 5) .nil))) (vg k s m p7 p8) h=.ok (.bl (Wx ((0:Int)<=i)&&Wx ((i:Int)<s.E.length))) h:=Zls rfl rfl ((Zl er rfl).trans rfl) rfl;refine ec.trans ?_;rw[decide_eq_true (by lia),decide_eq_true (by lia)];rfl
    |_=>simp[Ce.wd]at z
  . rw[decide_eq_false z];rfl
 exact congrArg Ze ((Za x1).trans ((Za ((Zf tt).trans rfl)).trans ((Za x3).trans (Zd x4))))
theorem Zkc(F:List Nat):∀(L:List (List Ce.Rw)) (a:Nat),(Ce.flat F a L).length=(L.map List.length).sum
 |[],_=>rfl
 |r::L,a=>by rw[Ce.flat,OA,Yt,Zkc F L];simp
def ZpU(t:T):(Ce.code t).length<=3 * t.size+1:=by
 have:=Ce.ZaS t [] Ww 0 1;rw[Ce.code,Zkc,Ce.units];simp only[Op,OI,OA,Os,List.length_nil]
 lia
noncomputable def vl(ro:D)(k:Nat)(sd:D)(m:Nat)(o4 o5:Option D):Ev:=[Ws ro,Ws (.ref k),Ws sd,Ws (.int (m:Int)),o4,o5]
inductive Lo(ro:D)(k:Nat):R (Fl×Ev)->Prop
 |rt {S:Ev}{h:Hd}:Lo ro k (.ok (.rt (.bl Wv),S) h)
 |nx {sd:D}{m:Nat}{o4 o5:Option D}{h:Hd} (hm:0<m):Lo ro k (.ok (.nx,vl ro k sd m o4 o5) h)
theorem Zpl(H:Lw P)(n:Nat)(hn:200<=n)(hN:N<=5000)(hG:C.length<=500){ro:D}:∀(ds:List D) {s:Ma}{Z:Sta}{o4 o5:Option D}{h:Hd}{j:Nat},Ci C N s Z->(read Z).size<=120->h[k]? = Ws (.lst (C.map Ce.Rw.d))->Lo ro k (ZK Wu (.nm 4) (xs2 (P.tbl (n+8)) Zdb) ds (vl ro k s.d (read Z).size o4 o5) h)
 |[],s,Z,o4,o5,h,j,d,hz,hk=>.nx (Tm.Zk _)
 |x::ds,s,Z,o4,o5,h,j,d,hz,hk=>by
  have hw:=Cs.ZnS Z;obtain⟨a,e2,sp,hpl⟩:=d.step H.d.c (n+4) (h:=h) hN (by lia) hk;have t1:tst (P.tbl (n+8)) Zf5 (vl ro k s.d (read Z).size (Ws x) o5) h=.ok Ww h:=by rw[Zf5,ZiD,Zcy (Zu (Zs9 H (n+7) d hk) rfl)];rfl
  have x1:xs1 (P.tbl (n+8)) Zix (vl ro k s.d (read Z).size (Ws x) o5) h=.ok (.nx,vl ro k s.d (read Z).size (Ws x) o5) h:=(Zf t1).trans rfl;have x2:xs1 (P.tbl (n+8)) Ziw (vl ro k s.d (read Z).size (Ws x) o5) h=.ok (.nx,vl ro k s.d (read Z).size (Ws x) (Ws a.d)) h:=Zs (Zu e2 rfl);have fin:∀{S:Ev}{h':Hd}{d:D},xs2 (P.tbl (n+8)) (.cons Zer (.cons Zf7 (.cons Zf6 .nil))) (vl ro k s.d (read Z).size (Ws x) (Ws a.d)) h=.ok (.rt d,S) h'->ZK Wu (.nm 4) (xs2 (P.tbl (n+8)) Zdb) (x::ds) (vl ro k s.d (read Z).size o4 o5) h=.ok (.rt d,S) h':=λq=>Zui rfl ((Za x1).trans ((Za x2).trans q));have go:∀{S:Ev}{h':Hd},xs2 (P.tbl (n+8)) (.cons Zer (.cons Zf7 (.cons Zf6 .nil))) (vl ro k s.d (read Z).size (Ws x) (Ws a.d)) h=.ok (.nx,S) h'->ZK Wu (.nm 4) (xs2 (P.tbl (n+8)) Zdb) (x::ds) (vl ro k s.d (read Z).size o4 o5) h=ZK Wu (.nm 4) (xs2 (P.tbl (n+8)) Zdb) ds S h':=λq=>Zf0 rfl ((Za x1).trans ((Za x2).trans q));cases sp with
  |value v=>rw[fin (Zd ((Zj (Zo0 (Zh (ZaM rfl rfl) (by decide)))).trans (Zd (Zr rfl))))];exact .rt
  |stuck nv e=>rw[fin (Zd ((Zj (ZiM (Zh (ZaM rfl rfl) (by decide)) (Zh (ZaM rfl rfl) (by decide)))).trans (Zd (Zr rfl))))];exact .rt
  |@quiet s' σ' d' er=>rw[go ((Za ((Zf (ZiM (Zh (ZaM rfl rfl) (by decide)) (Zh (ZaM rfl rfl) (by decide)))).trans rfl)).trans ((Za rfl).trans ((Za ((Zf (Zh (ZaM rfl rfl) (by decide))).trans rfl)).trans rfl)))];have:=Zpl H n hn hN hG ds (o4:=Ws x) (o5:=Ws (Ce.Ans.quiet s').d) (ro:=ro) (j:=0) d' (by rw[er];exact hz) hk;rw[er]at this;exact this
  |@loud s' σ' d' nv er=>
   have hl:=d.r.lens;obtain⟨g,e5⟩:=ZjD H n hn (by lia) d' hG (by have:=hpl s' rfl;lia) hk;have x3:xs1 (P.tbl (n+8)) Zer (vl ro k s.d (read Z).size (Ws x) (Ws (Ce.Ans.loud s').d)) h=.ok (.nx,vl ro k s.d (read Z).size (Ws x) (Ws (Ce.Ans.loud s').d)) h:=(Zf (ZiM (Zh (ZaM rfl rfl) (by decide)) (Zh (ZaM rfl rfl) (by decide)))).trans rfl;have x5:xs1 (P.tbl (n+8)) ZfE (vl ro k s'.d (read Z).size (Ws x) (Ws (Ce.Ans.loud s').d)) h=.ok (.nx,vl ro k s'.d (plc (read σ')) (Ws x) (Ws (Ce.Ans.loud s').d)) (h++g):=Zs (Zu e5 rfl);have t5:tst (P.tbl (n+8)) Ziq (vl ro k s'.d (read Z).size (Ws x) (Ws (Ce.Ans.loud s').d)) h=.ok Wv h:=Zh (ZaM rfl rfl) (by decide);have t6:tst (P.tbl (n+8)) Zfw (vl ro k s'.d (plc (read σ')) (Ws x) (Ws (Ce.Ans.loud s').d)) (h++g)=.ok (Wx ((plc (read σ'):Int)=0)) (h++g):=Zev rfl rfl;by_cases hz':(read σ').size<=120
   . have sp:=Tm.Zk (read σ');have q:plc (read σ')=(read σ').size:=if_pos hz';rw[q]at x5 t6;rw[go ((Za x3).trans ((Za rfl).trans ((Za ((Zj t5).trans ((Za x5).trans ((Za ((Zf (Zh t6 (decide_eq_false (by lia)))).trans rfl)).trans rfl)))).trans rfl)))];exact Zpl H n hn hN hG ds (j:=0) d' hz' (keep hk)
   . have q:plc (read σ')=0:=if_neg hz';rw[q]at x5 t6;rw[fin ((Za x3).trans ((Za rfl).trans (Zd ((Zj t5).trans ((Za x5).trans (Zd ((Zj (Zh t6 rfl)).trans (Zd (Zr rfl)))))))))];exact .rt
def Ztd(hc:P.tb.lookup (O "_law_cell_at")=Ws Gn.Zav)(n:Nat)(zs:List Int){h:Hd}:∃v,run P (n+1) (O "_law_cell_at") [.ro (zs.map .int),.int 0] h=.ok (.int v) h:=by
 rw[Zg hc rfl];cases zs with
 |nil=>exact⟨0,by simp[Gn.Zav,Gn.ZcF,ZF,ZcE,ZlB,seqOf,lstOf]⟩
 |cons z zs=>
  refine⟨z,?_⟩;have:(0:Int)<(zs.length:Int)+1:=by lia
  simp[Gn.Zav,Gn.ZcF,ZF,ZcE,ZlB,seqOf,lstOf,this]
def Zvn(H:Lw P)(zs:List Int)(hz:zs.length<=63):∃h',run P (250+1) (O "law") [.ro (zs.map .int)] []=.ok (.bl Wv) h':=by
 obtain⟨t,h1,e1,ct,st,dt,_,_⟩:=Gn.Zm1 H.m (N:=249) (by lia) zs 1 [] (by lia);obtain⟨h2,k,e2,hk,_,_,_⟩:=Ce.Ztc H.d.c 244 t ct (by lia) h1;have d:=Ci.begin t ct;have cl:=ZpU t;have rt:read (Sta.go t .nil [])=t:=Tm.Zcs t (λx=>rfl);have eb:run P 250 (O "code_begun") [.ref k] h2=.ok (Ma.d ⟨0,[],[],[]⟩) h2:=by rw[Zg H.d.c.code_begun (by rfl)];exact rfl
 obtain⟨g,e3⟩:=ZjD H 242 (by decide) (by lia) d (by lia) (by simp) hk;rw[rt,plc,if_pos (by lia)]at e3;obtain⟨v,e4⟩:=Ztd H.cell 249 (h:=h2++g) zs;have e5:=Gn.ZiJ H.m 249 v 1 (h2++g) (by decide);obtain⟨M,hM⟩:∃M:Nat,Gn.mixed v 1 % 239=(M:Int):=⟨(Gn.mixed v 1 % 239).toNat,by have:=Int.emod_nonneg (Gn.mixed v 1) (b:=239) (by decide);lia⟩
 have hM2:M<=239:=by have:=Int.emod_lt_of_pos (Gn.mixed v 1) (b:=239) (by decide);lia
 generalize D.ro (zs.map .int)=ro at *;have ei:evi (P.tbl 250) Zi0 (vl ro k (Ma.d ⟨0,[],[],[]⟩) t.size Wu Wu) (h2++g)=.ok ⟨Wu,ZaE 0 (1+M)⟩ (h2++g):=by
  have q:ev (P.tbl 250) (.bin .Add (.ci 1) (.bin .Mod (.call (O "_law_mixed") (.cons (.call (O "_law_cell_at") (.cons (.var 0) (.cons (.ci 0) .nil))) (.cons (.ci 1) .nil))) (.ci 239))) (vl ro k (Ma.d ⟨0,[],[],[]⟩) t.size Wu Wu) (h2++g)=.ok (.int ((1+M:Nat):Int)) (h2++g):=(Zi (x:=.int 1) rfl ((Zi (Zu e5 (Zc (Zu e4 rfl) rfl)) rfl).trans ((ZW (by decide)).trans (by rw[hM])))).trans (by rw[Zma];congr 2);have s62:ZbT ((1+M:Nat):Int)=Wv:=by simp[ZbT];lia
  rw[Zi0,ZrG,q,Zt];simp only[s62,if_true,Int.toNat_natCast]
 have lo:=Zpl H 242 (by decide) (by lia) (by lia) (ro:=ro) (k:=k) (ZaE 0 (1+M)) (o4:=Wu) (o5:=Wu) (h:=h2++g) (j:=0) d (by rw[rt];lia) (keep hk);rw[rt]at lo;have x1:xs1 (P.tbl 250) Zjn [Ws ro,Wu,Wu,Wu,Wu,Wu] []=.ok (.nx,[Ws ro,Ws (.ref k),Wu,Wu,Wu,Wu]) h2:=Zs (Zu e2 (Zc (Zu e1 rfl) rfl));have x2:xs1 (P.tbl 250) Zjm [Ws ro,Ws (.ref k),Wu,Wu,Wu,Wu] h2=.ok (.nx,[Ws ro,Ws (.ref k),Ws (Ma.d ⟨0,[],[],[]⟩),Wu,Wu,Wu]) h2:=Zs (Zu eb rfl);have x3:xs1 (P.tbl 250) Zjl [Ws ro,Ws (.ref k),Ws (Ma.d ⟨0,[],[],[]⟩),Wu,Wu,Wu] h2=.ok (.nx,vl ro k (Ma.d ⟨0,[],[],[]⟩) t.size Wu Wu) (h2++g):=Zs (Zu e3 rfl);have x4:xs1 (P.tbl 250) Zjk (vl ro k (Ma.d ⟨0,[],[],[]⟩) t.size Wu Wu) (h2++g)=ZK Wu (.nm 4) (xs2 (P.tbl 250) Zdb) (ZaE 0 (1+M)) (vl ro k (Ma.d ⟨0,[],[],[]⟩) t.size Wu Wu) (h2++g):=ZfZ ei;rw[Zg H.law (by rfl)];show ∃h',Ze (xs2 (P.tbl 250) (.cons Zjn (.cons Zjm (.cons Zjl (.cons Zjk (.cons Zjg .nil))))) [Ws ro,Wu,Wu,Wu,Wu,Wu] [])=_;rw[Za x1,Za x2,Za x3];generalize ZK Wu (.nm 4) (xs2 (P.tbl 250) Zdb) (ZaE 0 (1+M)) (vl ro k (Ma.d ⟨0,[],[],[]⟩) t.size Wu Wu) (h2++g)=rr at *;cases lo with
 |rt=>exact⟨_,by rw[Zd x4];rfl⟩
 |@nx sd m o4 o5 h3 hm=>rw[Za x4];have x5:xs1 (P.tbl 250) Zjg (vl ro k sd m o4 o5) h3=.ok (.rt (.bl Wv),vl ro k sd m o4 o5) h3:=Zr ((Zw (x:=.int (m:Int)) (y:=.int 0) rfl rfl).trans (by rw[ZtL,decide_eq_true (by lia)]));exact⟨_,by rw[Zd x5];rfl⟩
end
end K56L
section
set_option maxHeartbeats 4000000
namespace K56
open PySem L2 IV PyProof.Rows
def Zf8:Sxs:=(.c (.iff (.ex (.cmp .Eq (.att [(O "Pen")] (.v 0) (O "used")) (.att [(O "Pen")] (.v 0) (O "most")))) (.c (.rai (O "Wide") (.Ci_ "more places than an expression that is told may have")) .n) .n) (.c (.auga [(O "Pen")] (.v 0) (O "used") (.ci 1)) .n))
def Zf2:Fd:=⟨[(O "self")],[(O "self")],Zf8⟩
noncomputable def cG:List (Str×D):=[((O "WIDEST"),(.int 120)),((O "BEYOND"),(.int 1000000)),((O "CALLS"),(.tup [(.str (O "call")),(.str (O "hop"))])),((O "LOUD"),(.tup [(.str (O "call")),(.str (O "hop")),(.str (O "unless")),(.str (O "work"))])),((O "LEADING"),(.tup [(.str (O "unless")),(.str (O "jump"))])),((O "FORMS"),.kd (O "FORMS"))]
noncomputable def cD:List (Str×List (Key×D)):=[((O "FORMS"),[(.inr (O "fn"),(.tup [(.int 1),(.int 1)])),(.inr (O "rec"),(.tup [(.int 2),(.int 1)])),(.inr (O "call"),(.tup [(.int 0),(.int 2)])),(.inr (O "if"),(.tup [(.int 0),(.int 3)])),(.inr (O "+"),(.tup [(.int 0),(.int 2)])),(.inr (O "-"),(.tup [(.int 0),(.int 2)])),(.inr (O "*"),(.tup [(.int 0),(.int 2)])),(.inr (O "<"),(.tup [(.int 0),(.int 2)]))])]
noncomputable def dl:List (Str×Fd×Nat):=[((O "bound_names"),Ce.Zbx,6),((O "parts_of"),Ce.Zdc,7),((O "front_of"),Tm.Zho,8),((O "count_parts"),Tm.ZeJ,9),((O "built"),Tm.Zms,10),((O "bound_to"),Tm.Zhp,12),((O "loud_or_stuck"),Ce.Zdo,13),((O "opened"),Tm.Zke,14),((O "meant_by"),Tm.Zhl,15),((O "within"),Tm.Zkd,16),((O "chosen"),Ce.Zkg,20),((O "worked"),Ce.Zfi,21),((O "code_begun"),Ce.Zfo,25),((O "thing_of"),Ce.Zhj,26),((O "quiet_state"),Ce.ZeG,27),((O "entered"),Ce.Zij,28),((O "applied"),Ce.Zil,29),((O "gone_on"),Ce.Zii,30),((O "reckoned"),Ce.ZeS,31),((O "loud_state"),Ce.Zfj,32),((O "code_step"),Ce.Zgm,33),((O "function_of"),Cr.ZeI,34),((O "code_read"),Cr.Zgn,36),((O "count_rows"),Ce.Zfn,39),((O "pieces_of"),Ce.Zgk,40),((O "first_rows"),Ce.Zfm,43),((O "numbered"),Ce.Zhk,44),((O "code_of"),Ce.Zik,45),((O "_law_cell_at"),Gn.Zav,47),((O "_law_mixed"),Gn.ZdR,48),((O "_law_next"),Gn.Zhm,49),((O "_law_names"),Gn.ZdQ,50),((O "_law_there"),Gn.ZdP,51),((O "_law_plain"),Gn.Zgl,52),((O "_law_function"),Gn.ZdS,53),((O "_law_number"),Gn.Zfl,54),((O "_law_any"),Gn.Zeo,55),((O "_law_width"),Gn.Zcl,56),((O "_law_deep"),Gn.Zdd,57),((O "_law_program"),Gn.ZeH,58),((O "_law_places"),K56L.Zfk,59),((O "_law_good"),K56L.Zhn,60),((O "law"),K56L.Zkf,61)]
noncomputable def tb:List (Str×Fd):=dl.map λp=>(p.1,p.2.1)
noncomputable def mo1:List Ml:=[((O "take_place"),(O "Pen.take_place"),Zf2,17,1),((O "joined"),(O "Pen.joined"),Pw.Zfp,17,2),((O "filled"),(O "Pen.filled"),Tm.Zfq,17,3),((O "told"),(O "Pen.told"),Pw.Zhq,17,4)]
noncomputable def mo2:List Ml:=[((O "put_on"),(O "Decoder.put_on"),Cr.ZcW,35,1),((O "put_together"),(O "Decoder.put_together"),Cr.ZaW,35,2),((O "is_within_if"),(O "Decoder.is_within_if"),Cr.ZaX,35,3),((O "is_behind_if"),(O "Decoder.is_behind_if"),Cr.ZaY,35,4),((O "jump"),(O "Decoder.jump"),Cr.ZdT,35,5),((O "go_back"),(O "Decoder.go_back"),Cr.Zcm,35,6),((O "do_row"),(O "Decoder.do_row"),Cr.ZcX,35,7),((O "do_next"),(O "Decoder.do_next"),Cr.Zcn,35,8),((O "put_whole"),(O "Decoder.put_whole"),Cr.ZbR,35,9),((O "do_all"),(O "Decoder.do_all"),Cr.ZcY,35,10)]
noncomputable def mo3:List Ml:=[((O "add_row"),(O "Unit.add_row"),Ce.ZaU,41,1)]
noncomputable def mo4:List Ml:=[((O "wait_for"),(O "Coder.wait_for"),Ce.ZcZ,42,1),((O "begin_unit"),(O "Coder.begin_unit"),Ce.Zca,42,2),((O "begin_function"),(O "Coder.begin_function"),Ce.ZaZ,42,3),((O "do_part"),(O "Coder.do_part"),Ce.Zdp,42,4),((O "do_all"),(O "Coder.do_all"),Ce.ZdU,42,5)]
noncomputable def ms:List (Str×Fd):=[(mnm (O "Pen") (O "__init__"),Tm.ZaV),(mnm (O "Decoder") (O "__init__"),Cr.ZaF),(mnm (O "Unit") (O "__init__"),Ce.ZaB),(mnm (O "Coder") (O "__init__"),Ce.Zal)]++mo1.map (λp=>(mnm (O "Pen") p.1,p.2.2.1))++mo2.map (λp=>(mnm (O "Decoder") p.1,p.2.2.1))++mo3.map (λp=>(mnm (O "Unit") p.1,p.2.2.1))++mo4.map (λp=>(mnm (O "Coder") p.1,p.2.2.1))
noncomputable def pg:Pg:=⟨tb,λx=>cG.lookup x,λx=>cD.lookup x,1000000,ms⟩
noncomputable def kl:Kl:=⟨[(O "Pen"),(O "Decoder"),(O "Unit"),(O "Coder")],[(O "around"),(O "at"),(O "begun"),(O "code"),(O "done"),(O "most"),(O "pen"),(O "pile"),(O "rows"),(O "units"),(O "used"),(O "waiting")],mo1.map (λp=>((O "Pen"),p.1))++mo2.map (λp=>((O "Decoder"),p.1))++mo3.map (λp=>((O "Unit"),p.1))++mo4.map (λp=>((O "Coder"),p.1)),[(O "Pen"),(O "Decoder"),(O "Unit"),(O "Coder")],[(O "Wide")]⟩
abbrev Zkf:Fd:=K56L.Zkf
noncomputable def top(i:Nat):Stmt:=PySem.Challenge.pw_samestride_k56_code_pile.main.body.getD i (.Pass ⟨0,0,0,0⟩)
noncomputable def mt(i j:Nat):Stmt:=inClass (top i) j
noncomputable def fs:List Str:=tb.map (·.1)
local macro_rules|`(tactic| wtm_at "al")=>`(tactic| repeat' first|exact trivial|refine' And.intro ?_ ?_)
local macro_rules|`(tactic| wtm_at "chk")=>`(tactic| exact⟨by constructor<;>decide +kernel,λ_ _ _ _ _ _ us hl=>by
 first
 |(have e:=ZuS (show us.length=0 from hl);subst e;rfl)
 |(obtain⟨a0,e⟩:=ZuR (show us.length=1 from hl);subst e;rfl)
 |(obtain⟨a0,a1,e⟩:=ZuQ (show us.length=2 from hl);subst e;rfl)
 |(obtain⟨a0,a1,a2,e⟩:=ZuP (show us.length=3 from hl);subst e;rfl)
 |(obtain⟨a0,a1,a2,a3,e⟩:=ZuO (show us.length=4 from hl);subst e;rfl)
 |(obtain⟨a0,a1,a2,a3,a4,e⟩:=ZuN (show us.length=5 from hl);subst e;rfl)
 |(obtain⟨a0,a1,a2,a3,a4,a5,e⟩:=ZwS (show us.length=6 from hl);subst e;rfl)
 |(obtain⟨a0,a1,a2,a3,a4,a5,a6,e⟩:=us_7 (show us.length=7 from hl);subst e;rfl),by decide +kernel⟩)
def kd:All (λp:Str×Fd×Nat=>Chk kl fs p.1 p.1 p.2.1 (top p.2.2)) dl:=by
 wtm_at "al"
 all_goals wtm_at "chk"
def km1:All (λp:Ml=>Chk kl fs p.1 p.2.1 p.2.2.1 (mt p.2.2.2.1 p.2.2.2.2)) mo1:=by
 wtm_at "al"
 all_goals wtm_at "chk"
def kk1:All (λp:Ml=>pg.look (mnm (O "Pen") p.1)=Ws p.2.2.1) mo1:=by
 wtm_at "al"
 all_goals kernel_rfl
def ki1:Chk kl fs (O "__init__") (O "Pen.__init__") Tm.ZaV (mt 17 0):=by wtm_at "chk"
def km2:All (λp:Ml=>Chk kl fs p.1 p.2.1 p.2.2.1 (mt p.2.2.2.1 p.2.2.2.2)) mo2:=by
 wtm_at "al"
 all_goals wtm_at "chk"
def kk2:All (λp:Ml=>pg.look (mnm (O "Decoder") p.1)=Ws p.2.2.1) mo2:=by
 wtm_at "al"
 all_goals kernel_rfl
def ki2:Chk kl fs (O "__init__") (O "Decoder.__init__") Cr.ZaF (mt 35 0):=by wtm_at "chk"
def km3:All (λp:Ml=>Chk kl fs p.1 p.2.1 p.2.2.1 (mt p.2.2.2.1 p.2.2.2.2)) mo3:=by
 wtm_at "al"
 all_goals wtm_at "chk"
def kk3:All (λp:Ml=>pg.look (mnm (O "Unit") p.1)=Ws p.2.2.1) mo3:=by
 wtm_at "al"
 all_goals kernel_rfl
def ki3:Chk kl fs (O "__init__") (O "Unit.__init__") Ce.ZaB (mt 41 0):=by wtm_at "chk"
def km4:All (λp:Ml=>Chk kl fs p.1 p.2.1 p.2.2.1 (mt p.2.2.2.1 p.2.2.2.2)) mo4:=by
 wtm_at "al"
 all_goals wtm_at "chk"
def kk4:All (λp:Ml=>pg.look (mnm (O "Coder") p.1)=Ws p.2.2.1) mo4:=by
 wtm_at "al"
 all_goals kernel_rfl
def ki4:Chk kl fs (O "__init__") (O "Coder.__init__") Ce.Zal (mt 42 0):=by wtm_at "chk"
end K56
end
namespace K56
open PySem L2 IV
def Zt3:pg.tb.lookup (O "law")=Ws Zkf:=by kernel_rfl
def mkr:Gn.Mkr pg:=⟨by kernel_rfl,by kernel_rfl,by kernel_rfl,by kernel_rfl,by kernel_rfl,.same (by kernel_rfl),.same (by kernel_rfl),.same (by kernel_rfl),by kernel_rfl,by kernel_rfl,.same (by kernel_rfl)⟩
def tre:Gn.Tre pg:=by
 constructor
 all_goals (first|kernel_rfl|decide)
def wid:Tm.Wid pg:=⟨.str (O "more places than an expression that is told may have"),by kernel_rfl⟩
def trb:Tm.Trb pg:=by
 constructor
 case toTre=>exact tre
 case tk=>obtain⟨m,e⟩:=wid;exact⟨_,e⟩
 all_goals kernel_rfl
def pnw:Pw.Pnw pg:=by
 constructor;exact trb;exact wid
 all_goals kernel_rfl
def cod:Ce.Cod pg:=by
 constructor
 all_goals (first|kernel_rfl|decide)
def dec:Cr.Dec pg:=by
 constructor;exact cod;exact pnw
 all_goals kernel_rfl
def lw:K56L.Lw pg:=by
 constructor;exact mkr;exact dec
 all_goals kernel_rfl
def runs:∀ns:List Int,ns.length<=63->∃h',run pg (250+1) (O "law") [.ro (ns.map .int)] []=.ok (.bl Wv) h':=λns hl=>K56L.Zvn lw ns hl
end K56
section
set_option maxHeartbeats 4000000
namespace K56
open PySem L2 IV PyProof.Rows
theorem md{Pr:Yh}{w:Yg}{K:Yk}{h:YG}{mg:Str->Option Yj}{ca1:Yi}{ca2:Yi}{ca3:Yi}{ca4:Yi}{xa1:Yi}{t101:Tok}{t103:Tok}{q105:Yi}{r106:Option Yi}{n107:Nat}{v108:Array (Option Yj)}{t110:Tok}{t111:Tok}{q113:Yi}{r114:Option Yi}{n115:Nat}{v116:Array (Option Yj)}{t118:Tok}{t119:Tok}{t120:Tok}{t121:Tok}{q123:Yi}{r124:Option Yi}{n125:Nat}{v126:Array (Option Yj)}{t128:Tok}{t129:Tok}{q131:Yi}{e132:Nat}{j136:Int}{t137:Tok}{q138:Yi}{r139:Option Yi}{n140:Nat}{v141:Array (Option Yj)}{t143:Tok}{t144:Tok}{j145:Int}{t146:Tok}{q147:Yi}{r148:Option Yi}{n149:Nat}{v150:Array (Option Yj)}{t152:Tok}{t153:Tok}{j154:Int}{t155:Tok}{q156:Yi}{r157:Option Yi}{n158:Nat}{v159:Array (Option Yj)}{t161:Tok}{t162:Tok}{j163:Int}{t164:Tok}{q165:Yi}{r166:Option Yi}{n167:Nat}{v168:Array (Option Yj)}{t170:Tok}{t171:Tok}{j172:Int}{t173:Tok}{q174:Yi}{r175:Option Yi}{n176:Nat}{v177:Array (Option Yj)}{t179:Tok}{t180:Tok}{j181:Int}{t182:Tok}{q183:Yi}{r184:Option Yi}{n185:Nat}{v186:Array (Option Yj)}{t188:Tok}{t189:Tok}{j190:Int}{t191:Tok}{q192:Yi}{r193:Option Yi}{n194:Nat}{v195:Array (Option Yj)}{t197:Tok}{t198:Tok}{j199:Int}{t200:Tok}{q201:Yi}{r202:Option Yi}{n203:Nat}{v204:Array (Option Yj)}{t206:Tok}{t207:Tok}(X:K.In h)(G:h.Ns Yd mg)
   (tb0:ZcQ K=Wv)
   (dd:All (fun p:Str×Fd×Nat=>ZuE K p.1 (top p.2.2)) dl)
   (y1a:Yl K Yd (O "Pen")=Ws (Ws (.ref ca1))) (y1b:PySem.W.plainGet K ca1 Str.empty=Wv) (y1c:PySem.W.hasDictIn K ca1=Wv) (y1d:PySem.W.plainOver K ca1=Wv) (y1e:YJ K (.ref ca1) "__setattr__" = Ws (Ws (.builtin "object.__setattr__")))
   (n1:All (fun f=>YJ K (.ref ca1) f=Ws Wu) kl.ats)
   (y1m:PySem.W.makesIn K ca1=Wv) (y1k:We K (.ref ca1)=Wv)
   (i1:ZhL K ca1 (O "__init__") (O "Pen.__init__") (mt 17 0))
   (u1:All (fun p:Ml=>ZhL K ca1 p.1 p.2.1 (mt p.2.2.2.1 p.2.2.2.2)) mo1)
   (y2a:Yl K Yd (O "Decoder")=Ws (Ws (.ref ca2))) (y2b:PySem.W.plainGet K ca2 Str.empty=Wv) (y2c:PySem.W.hasDictIn K ca2=Wv) (y2d:PySem.W.plainOver K ca2=Wv) (y2e:YJ K (.ref ca2) "__setattr__" = Ws (Ws (.builtin "object.__setattr__")))
   (n2:All (fun f=>YJ K (.ref ca2) f=Ws Wu) kl.ats)
   (y2m:PySem.W.makesIn K ca2=Wv) (y2k:We K (.ref ca2)=Wv)
   (i2:ZhL K ca2 (O "__init__") (O "Decoder.__init__") (mt 35 0))
   (u2:All (fun p:Ml=>ZhL K ca2 p.1 p.2.1 (mt p.2.2.2.1 p.2.2.2.2)) mo2)
   (y3a:Yl K Yd (O "Unit")=Ws (Ws (.ref ca3))) (y3b:PySem.W.plainGet K ca3 Str.empty=Wv) (y3c:PySem.W.hasDictIn K ca3=Wv) (y3d:PySem.W.plainOver K ca3=Wv) (y3e:YJ K (.ref ca3) "__setattr__" = Ws (Ws (.builtin "object.__setattr__")))
   (n3:All (fun f=>YJ K (.ref ca3) f=Ws Wu) kl.ats)
   (y3m:PySem.W.makesIn K ca3=Wv) (y3k:We K (.ref ca3)=Wv)
   (i3:ZhL K ca3 (O "__init__") (O "Unit.__init__") (mt 41 0))
   (u3:All (fun p:Ml=>ZhL K ca3 p.1 p.2.1 (mt p.2.2.2.1 p.2.2.2.2)) mo3)
   (y4a:Yl K Yd (O "Coder")=Ws (Ws (.ref ca4))) (y4b:PySem.W.plainGet K ca4 Str.empty=Wv) (y4c:PySem.W.hasDictIn K ca4=Wv) (y4d:PySem.W.plainOver K ca4=Wv) (y4e:YJ K (.ref ca4) "__setattr__" = Ws (Ws (.builtin "object.__setattr__")))
   (n4:All (fun f=>YJ K (.ref ca4) f=Ws Wu) kl.ats)
   (y4m:PySem.W.makesIn K ca4=Wv) (y4k:We K (.ref ca4)=Wv)
   (i4:ZhL K ca4 (O "__init__") (O "Coder.__init__") (mt 42 0))
   (u4:All (fun p:Ml=>ZhL K ca4 p.1 p.2.1 (mt p.2.2.2.1 p.2.2.2.2)) mo4)
   (o1a:Yl K Yd (O "Wide")=Ws (Ws (.ref xa1))) (o1b:PySem.W.typeIn K (.ref xa1)=Ws (.type "type")) (o1c:PySem.W.isClsIn K xa1=Wv) (o1d:YV K (.ref xa1) (.type "BaseException")=Ws Wv) (o1e:PySem.W.excIn K xa1 [.type "ValueError",.type "Exception",.type "BaseException",.type "object"] "ValueError.__new__" = Wv) (o1f:YV K (.ref xa1) (.ref xa1)=Ws Wv)
   (zz:All (fun x:Str=>Yl K Yd x=Ws Wu) ["len", "isinstance", "int", "tuple", "list", "sum", "all", "sorted", "range", "enumerate", "reversed", "str", "bool", "max"])
   (g102:Yl K Yd (O "WIDEST")=Ws (Ws (.int 120 t101)))
   (g104:Yl K Yd (O "BEYOND")=Ws (Ws (.int 1000000 t103)))
   (h109:K.lookup q105=Ws ⟨.type "tuple",r106,.seq #[.str (O "call") t110,.str (O "hop") t111] n107,v108⟩)
   (g112:Yl K Yd (O "CALLS")=Ws (Ws (.ref q105)))
   (h117:K.lookup q113=Ws ⟨.type "tuple",r114,.seq #[.str (O "call") t118,.str (O "hop") t119,.str (O "unless") t120,.str (O "work") t121] n115,v116⟩)
   (g122:Yl K Yd (O "LOUD")=Ws (Ws (.ref q113)))
   (h127:K.lookup q123=Ws ⟨.type "tuple",r124,.seq #[.str (O "unless") t128,.str (O "jump") t129] n125,v126⟩)
   (g130:Yl K Yd (O "LEADING")=Ws (Ws (.ref q123)))
   (h142:K.lookup q138=Ws ⟨.type "tuple",r139,.seq #[.int 1 t143,.int 1 t144] n140,v141⟩)
   (h151:K.lookup q147=Ws ⟨.type "tuple",r148,.seq #[.int 2 t152,.int 1 t153] n149,v150⟩)
   (h160:K.lookup q156=Ws ⟨.type "tuple",r157,.seq #[.int 0 t161,.int 2 t162] n158,v159⟩)
   (h169:K.lookup q165=Ws ⟨.type "tuple",r166,.seq #[.int 0 t170,.int 3 t171] n167,v168⟩)
   (h178:K.lookup q174=Ws ⟨.type "tuple",r175,.seq #[.int 0 t179,.int 2 t180] n176,v177⟩)
   (h187:K.lookup q183=Ws ⟨.type "tuple",r184,.seq #[.int 0 t188,.int 2 t189] n185,v186⟩)
   (h196:K.lookup q192=Ws ⟨.type "tuple",r193,.seq #[.int 0 t197,.int 2 t198] n194,v195⟩)
   (h205:K.lookup q201=Ws ⟨.type "tuple",r202,.seq #[.int 0 t206,.int 2 t207] n203,v204⟩)
   (g133:Yl K Yd (O "FORMS")=Ws (Ws (.ref q131)))
   (h134:K.lookup q131=Ws ⟨.type "dict",Wu,.dict #[⟨j136,.str (O "fn") t137,.ref q138⟩,⟨j145,.str (O "rec") t146,.ref q147⟩,⟨j154,.str (O "call") t155,.ref q156⟩,⟨j163,.str (O "if") t164,.ref q165⟩,⟨j172,.str (O "+") t173,.ref q174⟩,⟨j181,.str (O "-") t182,.ref q183⟩,⟨j190,.str (O "*") t191,.ref q192⟩,⟨j199,.str (O "<") t200,.ref q201⟩] e132,#[]⟩)
   (x208:j136=hashStr w (O "fn"))
   (x209:j145=hashStr w (O "rec"))
   (x210:j154=hashStr w (O "call"))
   (x211:j163=hashStr w (O "if"))
   (x212:j172=hashStr w (O "+"))
   (x213:j181=hashStr w (O "-"))
   (x214:j190=hashStr w (O "*"))
   (x215:j199=hashStr w (O "<"))
   (w135:(q131==Ye)=Ww):Md Pr w K mg pg kl:=by
 have D_FORMS:∃ a kvs',mg (O "FORMS")=Ws (.ref a)/\DkK Pr w K a kvs'/\∀ H B,RKs ⟨K,mg⟩ H B (cD.lookup (O "FORMS") |>.getD []) kvs':=by
   refine ⟨q131,[(YE (O "fn"),(.ref q138)),(YE (O "rec"),(.ref q147)),(YE (O "call"),(.ref q156)),(YE (O "if"),(.ref q165)),(YE (O "+"),(.ref q174)),(YE (O "-"),(.ref q183)),(YE (O "*"),(.ref q192)),(YE (O "<"),(.ref q201))],YO X G g133,⟨_,_,_,[(YE (O "fn"),.ref q138),(YE (O "rec"),.ref q147),(YE (O "call"),.ref q156),(YE (O "if"),.ref q165),(YE (O "+"),.ref q174),(YE (O "-"),.ref q183),(YE (O "*"),.ref q192),(YE (O "<"),.ref q201)],h134,⟨rfl,rfl,rfl⟩,rfl,?_,(.cons (Zx (O "fn") t137) rfl (.cons (Zx (O "rec") t146) rfl (.cons (Zx (O "call") t155) rfl (.cons (Zx (O "if") t164) rfl (.cons (Zx (O "+") t173) rfl (.cons (Zx (O "-") t182) rfl (.cons (Zx (O "*") t191) rfl (.cons (Zx (O "<") t200) rfl .nil)))))))),(by show ([YE (O "fn"),YE (O "rec"),YE (O "call"),YE (O "if"),YE (O "+"),YE (O "-"),YE (O "*"),YE (O "<")]:List Key).Nodup;decide +kernel),(.cons ⟨rfl,Zai⟩ (.cons ⟨rfl,Zai⟩ (.cons ⟨rfl,Zai⟩ (.cons ⟨rfl,Zai⟩ (.cons ⟨rfl,Zai⟩ (.cons ⟨rfl,Zai⟩ (.cons ⟨rfl,Zai⟩ (.cons ⟨rfl,Zai⟩ .nil)))))))),(by show 8<=sizeLine;decide),w135⟩,fun _ _=>(.cons (.tup (ZdI (vs:=[(.int 1),(.int 1)]) h142 (by show 2<=sizeLine;decide) (.cons ZC (.cons ZC .nil))) (.cons (.int _) (.cons (.int _) .nil))) (.cons (.tup (ZdI (vs:=[(.int 2),(.int 1)]) h151 (by show 2<=sizeLine;decide) (.cons ZC (.cons ZC .nil))) (.cons (.int _) (.cons (.int _) .nil))) (.cons (.tup (ZdI (vs:=[(.int 0),(.int 2)]) h160 (by show 2<=sizeLine;decide) (.cons ZC (.cons ZC .nil))) (.cons (.int _) (.cons (.int _) .nil))) (.cons (.tup (ZdI (vs:=[(.int 0),(.int 3)]) h169 (by show 2<=sizeLine;decide) (.cons ZC (.cons ZC .nil))) (.cons (.int _) (.cons (.int _) .nil))) (.cons (.tup (ZdI (vs:=[(.int 0),(.int 2)]) h178 (by show 2<=sizeLine;decide) (.cons ZC (.cons ZC .nil))) (.cons (.int _) (.cons (.int _) .nil))) (.cons (.tup (ZdI (vs:=[(.int 0),(.int 2)]) h187 (by show 2<=sizeLine;decide) (.cons ZC (.cons ZC .nil))) (.cons (.int _) (.cons (.int _) .nil))) (.cons (.tup (ZdI (vs:=[(.int 0),(.int 2)]) h196 (by show 2<=sizeLine;decide) (.cons ZC (.cons ZC .nil))) (.cons (.int _) (.cons (.int _) .nil))) (.cons (.tup (ZdI (vs:=[(.int 0),(.int 2)]) h205 (by show 2<=sizeLine;decide) (.cons ZC (.cons ZC .nil))) (.cons (.int _) (.cons (.int _) .nil))) .nil))))))))⟩;exact (by
       intro e he;simp only [List.mem_toArray,O3,List.not_mem_nil,or_false] at he;rcases he with rfl|rfl|rfl|rfl|rfl|rfl|rfl|rfl
       . exact ⟨YE (O "fn"),Zx (O "fn") t137,x208⟩
       . exact ⟨YE (O "rec"),Zx (O "rec") t146,x209⟩
       . exact ⟨YE (O "call"),Zx (O "call") t155,x210⟩
       . exact ⟨YE (O "if"),Zx (O "if") t164,x211⟩
       . exact ⟨YE (O "+"),Zx (O "+") t173,x212⟩
       . exact ⟨YE (O "-"),Zx (O "-") t182,x213⟩
       . exact ⟨YE (O "*"),Zx (O "*") t191,x214⟩
       . exact ⟨YE (O "<"),Zx (O "<") t200,x215⟩
     )
 refine ⟨tb0,fun x kvs hx=>?_,fun x d hx=>?_,?_,fun x fd hx=>?_,?_,?_,?_,?_⟩
 . have hm:(x,kvs)∈cD:=lookup_mem hx;have e:(x,kvs)=((O "FORMS"),(cD.lookup (O "FORMS") |>.getD [])):=by
     simp only [cD,O3,List.not_mem_nil,or_false] at hm;exact hm
   cases e;exact D_FORMS
 . have hm:(x,d)∈cG:=lookup_mem hx;have all:All (fun p:Str×D=>∃ v u,mg p.1=Ws u/\RelV v u/\∀ H B,RD ⟨K,mg⟩ H B p.2 v) cG:=⟨⟨(.int 120),_,YO X G g102,ZC,fun _ _=>(.int _)⟩,⟨(.int 1000000),_,YO X G g104,ZC,fun _ _=>(.int _)⟩,⟨(.ref q105),_,YO X G g112,Zai,fun _ _=>(.tup (ZdI (vs:=[(.str (O "call")),(.str (O "hop"))]) h109 (by show 2<=sizeLine;decide) (.cons ZbB (.cons ZbB .nil))) (.cons (.str _ (by decide +kernel)) (.cons (.str _ (by decide +kernel)) .nil)))⟩,⟨(.ref q113),_,YO X G g122,Zai,fun _ _=>(.tup (ZdI (vs:=[(.str (O "call")),(.str (O "hop")),(.str (O "unless")),(.str (O "work"))]) h117 (by show 4<=sizeLine;decide) (.cons ZbB (.cons ZbB (.cons ZbB (.cons ZbB .nil))))) (.cons (.str _ (by decide +kernel)) (.cons (.str _ (by decide +kernel)) (.cons (.str _ (by decide +kernel)) (.cons (.str _ (by decide +kernel)) .nil)))))⟩,⟨(.ref q123),_,YO X G g130,Zai,fun _ _=>(.tup (ZdI (vs:=[(.str (O "unless")),(.str (O "jump"))]) h127 (by show 2<=sizeLine;decide) (.cons ZbB (.cons ZbB .nil))) (.cons (.str _ (by decide +kernel)) (.cons (.str _ (by decide +kernel)) .nil)))⟩,⟨.ref q131,_,YO X G g133,rfl,fun _ _=>.kd (YO X G g133)⟩,trivial⟩;exact all.mem _ hm
 . exact (ZjU X G zz).mem
 . exact (ZmA X G dd kd).mem _ (lookup_mem hx)
 . have all:All (fun C=>∃ a,mg C=Ws (.ref a)/\Cls K a/\∀ f∈kl.ats,Zbv K a f) kl.cs:=⟨⟨ca1,YO X G y1a,⟨y1b,y1c,y1d,y1e⟩,n1.mem⟩,⟨ca2,YO X G y2a,⟨y2b,y2c,y2d,y2e⟩,n2.mem⟩,⟨ca3,YO X G y3a,⟨y3b,y3c,y3d,y3e⟩,n3.mem⟩,⟨ca4,YO X G y4a,⟨y4b,y4c,y4d,y4e⟩,n4.mem⟩,trivial⟩
   exact all.mem
 . exact (show All _ kl.ms from ((((Zfe (P:=pg) X G y1a ⟨y1b,y1c,y1d,y1e⟩ u1 km1 kk1).app (Zfe (P:=pg) X G y2a ⟨y2b,y2c,y2d,y2e⟩ u2 km2 kk2)).app (Zfe (P:=pg) X G y3a ⟨y3b,y3c,y3d,y3e⟩ u3 km3 kk3)).app (Zfe (P:=pg) X G y4a ⟨y4b,y4c,y4d,y4e⟩ u4 km4 kk4))).mem
 . have all:All (fun C:Str=>∃ a f fdd fd st q,mg C=Ws (.ref a)/\Mk K a f/\pg.look (mnm C (O "__init__"))=Ws fd/\BodyOk K kl (pg.tb.map (·.1)) (O "__init__") q fd st f fdd) kl.is:=⟨ZiT X G y1a y1m y1k i1 ki1 (by kernel_rfl),ZiT X G y2a y2m y2k i2 ki2 (by kernel_rfl),ZiT X G y3a y3m y3k i3 ki3 (by kernel_rfl),ZiT X G y4a y4m y4k i4 ki4 (by kernel_rfl),trivial⟩
   exact all.mem
 . have all:All (fun C:Str=>∃ a,mg C=Ws (.ref a)/\XOk K a) kl.xs:=⟨⟨xa1,YO X G o1a,⟨⟨o1b,L2.isSome_of o1c,o1d⟩,o1e,o1f⟩⟩,trivial⟩
   exact all.mem
end K56
end
section
set_option maxHeartbeats 4000000
open PySem PySem.W PyProof.Rows
local macro_rules|`(tactic| wtm_at "al")=>`(tactic| repeat' first|exact trivial|refine' And.intro ?_ ?_)
local macro_rules|`(tactic| wtm_at "dg")=>`(tactic| (refine' ⟨_,_,?na,L2.Zpw ?l ?c ?k⟩;(case na=>k_is);(case l=>k_is);(case c=>k_is);(case k=>k_is)))
local macro_rules|`(tactic| wtm_at "mg")=>`(tactic| (refine' ⟨_,_,?na,?f,?k,L2.Zpw ?l ?c ?kk⟩;(case na=>k_is);(case f=>k_is);(case l=>k_is);(case c=>k_is);(case k=>k_is);(case kk=>k_is)))
set_option maxRecDepth 100000 in
set_option maxHeartbeats 0 in
theorem PySem.Challenge.cw_samestride_k56_code_pile_holds : PySem.Challenge.rw_samestride_k56_code_pile.Holds := by
 refine K56hd ?_
 k_fill
 refine IV.ZuM (l:=PySem.Challenge.rw_samestride_k56_code_pile) (P:=K56.pg) 250 rfl rfl rfl ⟨rfl,by decide,by decide⟩ (kl:=K56.kl) (λw h Y=>PySem.W.kIn_of Y) K56.Zt3 rfl K56.runs ?MM0
 case MM0=>
  intro w mg h KX G;refine' K56.md KX G ?tb0 ?dd ?y1a ?y1b ?y1c ?y1d ?y1e ?n1 ?y1m ?y1k ?i1 ?u1 ?y2a ?y2b ?y2c ?y2d ?y2e ?n2 ?y2m ?y2k ?i2 ?u2 ?y3a ?y3b ?y3c ?y3d ?y3e ?n3 ?y3m ?y3k ?i3 ?u3 ?y4a ?y4b ?y4c ?y4d ?y4e ?n4 ?y4m ?y4k ?i4 ?u4 ?o1a ?o1b ?o1c ?o1d ?o1e ?o1f ?zz ?g102 ?g104 ?h109 ?g112 ?h117 ?g122 ?h127 ?g130 ?h142 ?h151 ?h160 ?h169 ?h178 ?h187 ?h196 ?h205 ?g133 ?h134 ?x208 ?x209 ?x210 ?x211 ?x212 ?x213 ?x214 ?x215 ?w135
  (case tb0=>(first|k_is|kernel_rfl|decide +kernel))
  (case y1a=>k_is)
  (case y1b=>k_is)
  (case y1c=>k_is)
  (case y1d=>k_is)
  (case y1e=>k_is)
  (case n1=>(wtm_at "al";all_goals (dsimp only;k_is)))
  (case y1m=>k_is)
  (case y1k=>k_is)
  (case i1=>wtm_at "mg")
  (case u1=>(wtm_at "al";all_goals wtm_at "mg"))
  (case y2a=>k_is)
  (case y2b=>k_is)
  (case y2c=>k_is)
  (case y2d=>k_is)
  (case y2e=>k_is)
  (case n2=>(wtm_at "al";all_goals (dsimp only;k_is)))
  (case y2m=>k_is)
  (case y2k=>k_is)
  (case i2=>wtm_at "mg")
  (case u2=>(wtm_at "al";all_goals wtm_at "mg"))
  (case y3a=>k_is)
  (case y3b=>k_is)
  (case y3c=>k_is)
  (case y3d=>k_is)
  (case y3e=>k_is)
  (case n3=>(wtm_at "al";all_goals (dsimp only;k_is)))
  (case y3m=>k_is)
  (case y3k=>k_is)
  (case i3=>wtm_at "mg")
  (case u3=>(wtm_at "al";all_goals wtm_at "mg"))
  (case y4a=>k_is)
  (case y4b=>k_is)
  (case y4c=>k_is)
  (case y4d=>k_is)
  (case y4e=>k_is)
  (case n4=>(wtm_at "al";all_goals (dsimp only;k_is)))
  (case y4m=>k_is)
  (case y4k=>k_is)
  (case i4=>wtm_at "mg")
  (case u4=>(wtm_at "al";all_goals wtm_at "mg"))
  (case o1a=>k_is)
  (case o1b=>k_is)
  (case o1c=>k_is)
  (case o1d=>k_is)
  (case o1e=>k_exc)
  (case o1f=>k_is)
  (case dd=>(wtm_at "al";all_goals wtm_at "dg"))
  (case zz=>(wtm_at "al";all_goals (dsimp only;k_is)))
  (case g102=>k_is)
  (case g104=>k_is)
  (case g112=>k_is)
  (case h109=>k_is)
  (case g122=>k_is)
  (case h117=>k_is)
  (case g130=>k_is)
  (case h127=>k_is)
  (case g133=>k_is)
  (case h134=>k_is)
  (case h142=>k_is)
  (case h151=>k_is)
  (case h160=>k_is)
  (case h169=>k_is)
  (case h178=>k_is)
  (case h187=>k_is)
  (case h196=>k_is)
  (case h205=>k_is)
  (case x208=>(first|rfl|k_is|fail))
  (case x209=>(first|rfl|k_is|fail))
  (case x210=>(first|rfl|k_is|fail))
  (case x211=>(first|rfl|k_is|fail))
  (case x212=>(first|rfl|k_is|fail))
  (case x213=>(first|rfl|k_is|fail))
  (case x214=>(first|rfl|k_is|fail))
  (case x215=>(first|rfl|k_is|fail))
  (case w135=>rfl)
end
