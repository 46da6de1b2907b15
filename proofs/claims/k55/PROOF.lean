import PyProof.Rows.All
import Wide.All
import OpenK.AllK
import Wide.FinOn
import PyProof.EqAt
import PyProof.EqKinds
import PyProof.TupleCall
import Lean
import PySem.Challenge.RW_samestride_k55_code_loud
noncomputable section
set_option Elab.async false
set_option linter.all false
set_option maxRecDepth 100000
open PySem renaming wpAny_bind->Ya,Shared->Yb,wpAny_pure->Yc,mainGlobals->Yd,sysModules->Ye,wpAny_mono->Yf,World->Yg,Program->Yh,Addr->Yi,Value->Yj,wpAny_newObj_type->Yq,starEach->YA,wpAny->YB,sizeLine_eq->YC,Heap->YG,Around->YH,mem_of_lookup->YI,compareOp->YM,wpAny_field->YR,backTo->YS,wpAny_Call_Name_kw->YY,keywordEach->Wc,wpAny_callSpecial?_slot->We,wpAny_holding->Wh,wpAny_call_entry->Wi,wpAny_of_eq->Wp
open PySem.W renaming Frag->Yk,nsIn->Yl,findIn->YJ,mg_of->YO,emptyDict->YT,subIn->YV,hideAll->Wa,keepIn->Wg,instObj->Wj
open PySem.Heap renaming lt_size->Ym,get?_update_other->YN,get?_update_self->YX,get?_push_of_some->Od,get?_push_size->Oj
open PySem.NameKind renaming free->Yn
open PySem.PyData renaming strOk->Yo,eqv->YQ
open PySem.StrLaws renaming sliceText->Yp
open List renaming mem_append_left->Yr,append_nil->Ys,length_map->Yt,replicate->YK,any_cons->Wf,lookup->Wm,foldl_cons->Wr,find?_cons->Ws,getElem?_eq_some_iff->Ob,getElem?_set_ne->Oc,getElem?_append_left->Oe,size_toArray->Of,getElem?_eq_getElem->Og,mem_cons_of_mem->Oh,mem_cons_self->Oi,mem_of_getElem?->O1,getElem?_set_self->Ol,getElem?_append_right->Om,getElem?_map->O2,map_cons->Op,mem_cons->O3,length_cons->Os,mem_append_right->Ov,mem_singleton->Ox,map_nil->Oy,append_assoc->Oz,length_append->OA,nil_append->OB,all_eq_true->OC,mem_append->OD,lookup_cons->OF,sum_cons->OI,getElem?_cons_zero->OJ,getElem?_cons_succ->O0
open Option renaming map_some->Yu,bind_some->Yz,some->J,none->M,map_eq_some_iff->Oo
open Nat renaming lt_irrefl->Yv,zero_le->Yw,le_of_lt->Yy,add_comm->YW,le_add_left->Wb,le_refl->Oq,lt_of_lt_of_le->Ot,ne_of_lt->Ou,le_trans->OE,lt_succ_self->OH
open PySem.Value renaming ref->YD
open Sum renaming inr->YE
open Option.some renaming inj->YF
open Ne renaming symm->YL
open PySem.F renaming plain_max_loop->YU
open PySem.Obj renaming data_mapFields->YZ
open PyProof.Rows renaming slot_tuple_getitem->Wo
open PySem.Builtin.List renaming listTooLong->Wq
open Bool renaming or_eq_true->Wu,true->Wx,false->Wy,and_eq_true->Oa,false_ne_true->Ow,false_eq_true->OG
open Decidable renaming decide->Wz
open PySem.Str renaming ofString->O
set_option genSizeOf false
section
open PySem PySem.W PyProof.Rows
set_option maxHeartbeats 0
structure PySem.W.Fast:Prop where(tw12711735997101831903 tw7943794981929474566 tw3315509054385059014 tw2850140482273138218 tw17470536044271998766 tw15608432536679450861 tw13561377781083256139 tw6582232383018352456 tw8060546254235028105 tw12712946167227916193 tw1402584316594039632 tw18014333299369256854 tw16780683417701286323 tw14889573439809010883 tw14180081870787991104 tw8607261182520797296 tw16727343413382115030 tw10084334709585709105 tw3105876703681062580 tw5985152493257096276 tw10948849106561509983 tw2424870787484329271 tw11090459728802085421 tw10846596709253744569 tw12489152736871780268 tw646855767350730098 tw14931175187993548785 tw7773689729569010647 tw12704095783912364093 tw12513646211179460629 tw170512410075255924 tw5314698178274853832 tw17846665006716769939 tw2908887173016041585 tw1440551021021007684 tw11183972172035583756 tw15547051625815750851 tw6207109395282266430 tw1836736016448451199 tw6788929605509030481 tw12454302642056877716 tw11795212165329309167 tw8593129527451275346 tw6859416048193928145 tw1417546554075349688 tw12572936063973952202 tw29469849175213043 tw15468960996359258968 tw12582135520771659887 tw17404188726240700399 tw551869883360627795 tw11203229801631794459 tw6427240626914624759 tw12690522964743635286 tw3780219805526927242 tw17604818231524232686 tw9833803626165650245 tw13496109257149290971 tw8640711140875048009 tw15093389286516079065 tw17351818905413110755 tw6260405608174288422 tw11366476206547950978 tw17815503356463975825 tw5730265775204082499 tw17445603379807495548 tw13680933885132326077 tw10837458870754994323 tw7975240335808264710 tw15388229763838619179 tw1551924230070117611 tw15613293738808263148 tw9554692163163158142 tw13651710174941386969 tw18392034035343552226 tw4465120663896560027 tw17608602275306625203 tw10420103613509000950 tw3894006468914986567 tw13302683867915343567 tw11058646627592269869 tw3315845407821588610 tw9658378033056863890 tw1846517048242357645 tw12682678249133840404 tw195720336539479294 tw1417262802786692907 tw10292608428638129567 tw2081292420946318869 tw17939959481716469446 tw16227770230939863389 tw13535227420476553879 tw9631392979446439050 tw10059639096234133862 tw4068657202007921420 tw1039033234816692044 tw8941369799672969605 tw6807564239233536902 tw9243978678233777581 tw11855071520442063291 tw16383267945599907455 tw17910538625048691226 tw12237525762526181924 tw9882148122309735827 tw14706171570012637246 tw12776344051277595689 tw11870103083673869548 tw15478704436320805887 tw1020688441634310249 tw18174271896514640794 tw4787803280217252681 tw12837754824331404882:True)
open_top K55hd for PySem.Challenge.rw_samestride_k55_code_loud
end
namespace L2
open PySem PySem.Spec PyProof.Rows
noncomputable abbrev Key:=Sum Int Str
noncomputable def Zjb:Key->Yj->Bool
 |.inl k,v=>Value.isInt k v
 |.inr x,v=>Value.isStrOf x v
noncomputable def Zy4(w:Yg):Key->Int
 |.inl k=>hashInt k
 |.inr x=>hashStr w x
def ZP:∀{k:Key}{v:Yj},Zjb k v=Wx->(∃i t,k=Sum.inl i/\v=Value.int i t)\/(∃x t,k=YE x/\v=Value.str x t)
 |.inl i,v,h=>by obtain⟨t,e⟩:=Value.isInt_shape (k:=i) (v:=v) h;exact .inl ⟨i,t,rfl,e⟩
 |.inr x,v,h=>by obtain⟨t,e⟩:=Value.isStrOf_shape (x:=x) (v:=v) h;exact .inr ⟨x,t,rfl,e⟩
def ZoS(i:Int)(t:Tok):Zjb (.inl i) (.int i t)=Wx:=by simp[Zjb,Value.isInt]
def Zy(x:Str)(t:Tok):Zjb (.inr x) (.str x t)=Wx:=by simp[Zjb,Value.isStrOf]
def ZvI(a b:Int):Wz ((Sum.inl a:Key)=Sum.inl b)=(a==b):=by
 by_cases e:a=b
 . subst e;simp
 . have h:¬ (Sum.inl a:Key)=Sum.inl b:=λq=>e (Sum.inl.inj q);rw[decide_eq_false h];exact(beq_eq_false_iff_ne.mpr e).symm
def ZvF(a b:Str):Wz ((YE a:Key)=YE b)=Wz (a=b):=by
 by_cases e:a=b
 . subst e;simp
 . have h:¬ (YE a:Key)=YE b:=λq=>e (Sum.inr.inj q);rw[decide_eq_false h,decide_eq_false e]
def ZvH(a:Int)(b:Str):Wz ((Sum.inl a:Key)=YE b)=Wy:=decide_eq_false (λq=>nomatch q)
def ZvG(a:Str)(b:Int):Wz ((YE a:Key)=Sum.inl b)=Wy:=decide_eq_false (λq=>nomatch q)
def ZZ(prog:Yh)(w:Yg):PySem.KeyKind prog w Key where
 is:=Zjb
 hash:=Zy4 w
 inj:=λv a b ha hb=>by
  rcases ZP ha with⟨i,t,rfl,rfl⟩|⟨x,t,rfl,rfl⟩
  . rcases ZP hb with⟨j,u,rfl,e⟩|⟨y,u,rfl,e⟩
    . injection e with e1 _;rw[e1]
    . exact nomatch e
  . rcases ZP hb with⟨j,u,rfl,e⟩|⟨y,u,rfl,e⟩
    . exact nomatch e
    . injection e with e1 _;rw[e1]
 byValue:=λk v h=>by rcases ZP h with⟨i,t,rfl,rfl⟩|⟨x,t,rfl,rfl⟩<;>rfl
 pyHash:=λhv h=>by
  rcases ZP hv with⟨i,t,rfl,rfl⟩|⟨x,t,rfl,rfl⟩
  . exact wpAny_pyHash_int h
  . exact wpAny_pyHash_str h
 eqBool:=λhu hv h=>by
  rcases ZP hu with⟨i,t,rfl,rfl⟩|⟨x,t,rfl,rfl⟩
  . rcases ZP hv with⟨j,u,rfl,rfl⟩|⟨y,u,rfl,rfl⟩
    . rw[ZvI]at h;exact wpAny_eqBool_int h
    . rw[ZvH]at h;exact SeqAt.EqAt.int_str i t y u _ _ _ _ h
  . rcases ZP hv with⟨j,u,rfl,rfl⟩|⟨y,u,rfl,rfl⟩
    . rw[ZvG]at h;exact SeqAt.EqAt.str_int x t j u _ _ _ _ h
    . rw[ZvF]at h;exact wpAny_eqBool_str h
 «strs»:=λk x t v h=>by
  rcases ZP h with⟨i,u,rfl,e⟩|⟨y,u,rfl,e⟩
  . exact nomatch e
  . injection e with e1 _;subst e1;cases v<;>rfl
def ZkR(prog:Yh)(w:Yg)(i:Int)(t:Tok):(ZZ prog w).is (.inl i) (.int i t)=Wx:=ZoS i t
def ZkQ(prog:Yh)(w:Yg)(x:Str)(t:Tok):(ZZ prog w).is (.inr x) (.str x t)=Wx:=Zy x t
inductive V where
 |non|bl (b:Bool)|int (i:Int)|str (x:Str)|byt (b:Array UInt8)|flt (b:UInt64)|ref (a:Yi)|ty (n:String)
 deriving DecidableEq
def RelV:V->Yj->Prop
 |.non,u=>u=Value.none
 |.bl b,u=>u=Value.bool b
 |.int i,u=>∃t,u=Value.int i t
 |.str x,u=>∃t,u=Value.str x t
 |.byt b,u=>∃t,u=Value.bytes b t
 |.flt b,u=>∃t,u=Value.float b t
 |.ref a,u=>u=YD a
 |.ty n,u=>u=Value.type n
abbrev Zs:List V->List Yj->Prop:=Paired RelV
theorem Zs.length(r:Zs xs us):xs.length=us.length:=Paired.length r
theorem Zs.get:∀{xs:List V}{us:List Yj}{i:Nat}{x:V},Zs xs us->xs[i]?=J x->∃u,us[i]?=J u/\RelV x u
 |_,_,_,_,.nil,e=>by simp at e
 |_,_,0,_,.cons r _,e=>by simp at e;subst e;exact⟨_,rfl,r⟩
 |_,_,i+1,x,.cons _ t,e=>by obtain⟨u,R,h2⟩:=Zs.get (i:=i) (x:=x) t (by simpa using e);exact⟨u,by simpa using R,h2⟩
theorem Zs.set(r:RelV x u):∀{xs:List V}{us:List Yj} (i:Nat),Zs xs us->Zs (xs.set i x) (us.set i u)
 |_,_,_,.nil=>.nil
 |_,_,0,.cons _ t=>.cons r t
 |_,_,i+1,.cons q t=>.cons q (Zs.set r i t)
theorem Zs.append:∀{xs ys:List V}{us ws:List Yj},Zs xs us->Zs ys ws->Zs (xs++ys) (us++ws)
 |_,_,_,_,.nil,s=>s
 |_,_,_,_,.cons r t,s=>.cons r (Zs.append t s)
theorem Zs.take:∀{xs:List V}{us:List Yj} (n:Nat),Zs xs us->Zs (xs.take n) (us.take n)
 |_,_,0,_=>.nil
 |_,_,_+1,.nil=>.nil
 |_,_,n+1,.cons r t=>.cons r (Zs.take n t)
theorem Zs.drop:∀{xs:List V}{us:List Yj} (n:Nat),Zs xs us->Zs (xs.drop n) (us.drop n)
 |_,_,0,r=>r
 |_,_,_+1,.nil=>.nil
 |_,_,n+1,.cons _ t=>Zs.drop n t
def Zgn:Option V->Option Yj->Prop
 |some v,J u=>RelV v u
 |none,M=>True
 |_,_=>False
def KV:List (κ×V)->List (κ×Yj)->Prop:=Paired λ(p:κ×V) (q:κ×Yj)=>p.1=q.1/\RelV p.2 q.2
noncomputable def kV:Key->V
 |.inl i=>.int i
 |.inr x=>.str x
inductive HO where
 |lst (xs:List V)
 |tup (xs:List V)
 |dK (kvs:List (Key×V))|dT (kvs:List (List Key×V))
 |set (S_:Int->Bool) (n:Nat)
 |ins (C dx:Yi) (fs:List (Str×V))
 |own (x:Yi)
 |xd (fs:List (Str×V))
 |met (f x:Yi)
 |rng (lo hi:Int)
 |frz (o:Obj) (u:HO)
 |tbl (ps:Array Yj)
 |ext (φ:YG->Prop)
abbrev Hp:=Yi->Option HO
noncomputable def upd(H:Hp)(a:Yi)(o:HO):Hp:=λb=>if b=a then J o else H b
def Zt:upd H a o a=J o:=by unfold upd;rw[if_pos rfl]
def Zr(h:b≠a):upd H a o b=H b:=by unfold upd;rw[if_neg h]
def ZT{H:Hp}(h:H a=J o)(h':H b=M):a≠b:=by intro e;subst e;rw[h]at h';cases h'
section
variable (P:Yh)(w:Yg)
def Zb2(h:YG)(a:Yi)(items:Array Yj):Prop:=∃o,h.get? a=J o/\o.cls=.type "tuple" /\ o.dict=M/\∃n,o.data=.seq items n
theorem Zb2.tup(x:Zb2 h a items):IsTup h a items:=let⟨o,ho,hc,_,r⟩:=x;⟨o,ho,hc,r⟩
theorem Zb2.fresh(h:YG)(items:Array Yj):Zb2 (h.push {cls:=.type "tuple",data:=.seq items}) h.objs.size items:=⟨_,Oj _ rfl,rfl,rfl,_,rfl⟩
def Zat(H:Hp)(h:YG)(a:Yi):HO->Prop
 |.lst xs=>xs.length<=sizeLine/\∃(its:List Yj) (n:Nat),Zs xs its/\h.get? a=J {cls:=.type "list",data:=.seq its.toArray n}
 |.tup xs=>xs.length<=sizeLine/\∃its:List Yj,Zs xs its/\Zb2 h a its.toArray
 |.dK kvs=>kvs.length<=sizeLine/\(a==Ye)=Wy/\∃vs,KV kvs vs/\h.DictOf (ZZ P w) a vs
 |.dT kvs=>kvs.length<=sizeLine/\(a==Ye)=Wy/\∃xs:List (List Key×Yi×Yj),
  Paired (λ(p:List Key×V) (q:List Key×Yi×Yj)=>p.1=q.1/\H q.2.1=J (.tup (p.1.map kV))/\RelV p.2 q.2.2) kvs xs /\
  ∃o es ep,h.get? a=J o/\o.ExactDict/\o.data=.dict es ep/\es.toList=xs.map (entryOfKey (tupleKind (ZZ P w)))/\(xs.map (·.1)).Nodup
 |.set S_ n=>h.SetOf (intKind P w) a S_ n
 |.ins C dx fs=>H dx=J (.own a)/\fs.length<=1000/\dx≠a/\h.get? a=J (Wj C dx) /\
  ∃mA,h.Ns1 dx mA/\(∀f,Zgn (fs.lookup f) (mA f))/\PySem.Within mA (fs.map (·.1))
 |.own _=>∃o,h.get? a=J o
 |.xd fs=>∃mA,h.Ns1 a mA/\∀f,Zgn (fs.lookup f) (mA f)
 |.rng lo hi=>∃t u v,h.get? a=J {cls:=.type "range",data:=.fields #[.int lo t,.int hi u,.int 1 v]}
 |.frz o u=>h.get? a=J o/\Zat H h a u
 |.tbl ps=>h.get? a=J {cls:=.none,data:=.fields ps}
 |.met f x=>h.get? a=J (PySem.W.methodObj (.ref f) (.ref x))
 |.ext φ=>φ h/\(∃o,h.get? a=J o)/\∀R h2:YG,φ R->(∀o,R.get? a=J o->h2.get? a=J o)->φ h2
def HOk(H:Hp)(h:YG):Prop:=∀a o,H a=J o->Zat P w H h a o
end
section
variable {P:Yh}{w:Yg}{H H':Hp}{h h':YG}{a:Yi}{o:HO}
theorem Zat.lt(x:Zat P w H h a o):a<h.objs.size:=by
 cases o with
 |lst xs=>obtain⟨_,_,_,_,e⟩:=x;exact Ym e
 |tup xs=>obtain⟨_,_,_,p⟩:=x;exact p.tup.lt
 |dK kvs=>obtain⟨_,_,_,_,o,_,_,e,_⟩:=x;exact Ym e
 |dT kvs=>obtain⟨_,_,_,_,o,_,_,e,_⟩:=x;exact Ym e
 |set S_ n=>obtain⟨o,_,_,_,e,_⟩:=x;exact Ym e
 |ins C dx fs=>obtain⟨_,_,_,e,_⟩:=x;exact Ym e
 |own y=>obtain⟨_,e⟩:=x;exact Ym e
 |xd fs=>obtain⟨_,⟨_,_,_,e,_⟩,_⟩:=x;exact Ym e
 |rng lo hi=>obtain⟨_,_,_,e⟩:=x;exact Ym e
 |frz ob u=>obtain⟨e,_⟩:=x;exact Ym e
 |tbl ps=>exact Ym (show h.get? a=J _ from x)
 |met f y=>exact Ym (show h.get? a=J _ from x)
 |ext φ=>obtain⟨_,⟨_,e⟩,_⟩:=x;exact Ym e
theorem Paired.mapP:∀{l₁:List α}{l₂:List β},Paired F l₁ l₂->(∀a b,F a b->G a b)->Paired G l₁ l₂
 |_,_,.nil,_=>.nil
 |_,_,.cons r t,f=>.cons (f _ _ r) (Paired.mapP t f)
def Zat.stay(x:Zat P w H h a o)(k:∀b u,(b=a\/H b=J (.own a))->h.get? b=J u->h'.get? b=J u)
 (ho:∀b,H b=J (.own a)->H' b=J (.own a)) (ht:∀b xs,H b=J (.tup xs)->H' b=J (.tup xs)):Zat P w H' h' a o:=by
 induction o with
 |lst xs=>obtain⟨z,its,n,r,e⟩:=x;exact⟨z,its,n,r,k _ _ (.inl rfl) e⟩
 |tup xs=>obtain⟨z,its,r,ob,e,c⟩:=x;exact⟨z,its,r,ob,k _ _ (.inl rfl) e,c⟩
 |dK kvs=>obtain⟨z,y,vs,r,ob,es,ep,e,c⟩:=x;exact⟨z,y,vs,r,ob,es,ep,k _ _ (.inl rfl) e,c⟩
 |dT kvs=>obtain⟨z,y,xs,r,ob,es,ep,e,c⟩:=x;exact⟨z,y,xs,Paired.mapP r λp q z=>⟨z.1,ht _ _ z.2.1,z.2.2⟩,ob,es,ep,k _ _ (.inl rfl) e,c⟩
 |set S_ n=>obtain⟨ob,es,ep,t,e,c⟩:=x;exact⟨ob,es,ep,t,k _ _ (.inl rfl) e,c⟩
 |ins C dx fs=>obtain⟨d,z,ne,e,mA,⟨od,es,ep,e2,c⟩,r⟩:=x;exact⟨ho _ d,z,ne,k _ _ (.inl rfl) e,mA,⟨od,es,ep,k _ _ (.inr d) e2,c⟩,r⟩
 |own y=>obtain⟨ob,e⟩:=x;exact⟨ob,k _ _ (.inl rfl) e⟩
 |xd fs=>obtain⟨mA,⟨od,es,ep,e,c⟩,r⟩:=x;exact⟨mA,⟨od,es,ep,k _ _ (.inl rfl) e,c⟩,r⟩
 |rng lo hi=>obtain⟨t,u,v,e⟩:=x;exact⟨t,u,v,k _ _ (.inl rfl) e⟩
 |frz ob u ih=>obtain⟨e,q⟩:=x;exact⟨k _ _ (.inl rfl) e,ih q⟩
 |tbl ps=>have e:h.get? a=J {cls:=.none,data:=.fields ps}:=x;show h'.get? a=J {cls:=.none,data:=.fields ps};exact k a _ (.inl rfl) e
 |met f y=>have e:h.get? a=J (PySem.W.methodObj (.ref f) (.ref y)):=x;show h'.get? a=J (PySem.W.methodObj (.ref f) (.ref y));exact k a _ (.inl rfl) e
 |ext φ=>obtain⟨p,⟨o,e⟩,st⟩:=x;exact⟨st _ _ p λo q=>k _ _ (.inl rfl) q,⟨o,k _ _ (.inl rfl) e⟩,st⟩
theorem HOk.lt(x:HOk P w H h)(e:H a=J o):a<h.objs.size:=(x a o e).lt
def HOk.fresh(x:HOk P w H h)(e:h.objs.size<=a):H a=M:=by
 cases q:H a with
 |none=>rfl
 |some u=>exact absurd (Ot (x.lt q) e) (Yv _)
def HOk.kept(x:HOk P w H h)(k:∀b u,h.get? b=J u->h'.get? b=J u):HOk P w H h':=λa o e=>(x a o e).stay (λb u _ q=>k b u q) (λ_ q=>q) λ_ _ q=>q
def HOk.laid(x:HOk P w H h)(k:∀b u,h.get? b=J u->h'.get? b=J u)(hp:h.objs.size<=a)(new:Zat P w (upd H a o) h' a o):HOk P w (upd H a o) h':=λb u e=>by
 have hn:=x.fresh hp;by_cases hb:b=a
 . subst hb;rw[Zt]at e;cases e;exact new
 . rw[Zr hb]at e;exact(x b u e).stay (λc v _ q=>k c v q) (λc q=>by rw[Zr (ZT q hn)];exact q) λc xs q=>by rw[Zr (ZT q hn)];exact q
end
def Rd(H:Hp)(a:Yi)(u:HO):Prop:=H a=J u\/∃o,H a=J (.frz o u)
def Rd.ok{P:Yh}{w:Yg}{H:Hp}{h:YG}{a:Yi}{u:HO}(r:Rd H a u)(x:HOk P w H h):Zat P w H h a u:=by
 rcases r with r|⟨o,r⟩
 . exact x a u r
 . obtain⟨_,q⟩:=x a _ r;exact q
def Mut:Option HO->Prop
 |some (.lst _)=>True
 |some (.dK _)=>True
 |some (.dT _)=>True
 |some (.set _ _)=>True
 |some (.ins _ _ _)=>True
 |some (.ext _)=>True
 |_=>False
section
variable {P:Yh}{w:Yg}{H:Hp}{h h':YG}{x e:Yi}{o':HO}
def HOk.write(ok:HOk P w H h)(mu:Mut (H x))(he:e=x\/H e=J (.own x))(k:∀b u,b≠e->h.get? b=J u->h'.get? b=J u)(eY:∃u,h'.get? e=J u)
 (new:Zat P w (upd H x o') h' x o'):HOk P w (upd H x o') h':=λb u q=>by
 have fB:∀c y,H c=J (.own y)->c≠x:=λc y r z=>by subst z;rw[r]at mu;exact mu
 have ip:∀c xs,H c=J (.tup xs)->c≠x:=λc xs r z=>by subst z;rw[r]at mu;exact mu
 by_cases hb:b=x
 . subst hb;rw[Zt]at q;cases q;exact new
 . rw[Zr hb]at q;by_cases hbe:b=e
   . have q':H b=J (.own x):=by
      rcases he with z|z
      . exact absurd (hbe.trans z) hb
      . rw[hbe];exact z
     rw[q]at q';cases q';obtain⟨v,hv⟩:=eY;exact⟨v,by rw[hbe];exact hv⟩
   . refine(ok b u q).stay (λc v hc r=>k c v ?_ r) (λc r=>by rw[Zr (fB c b r)];exact r) λc xs r=>by rw[Zr (ip c xs r)];exact r
     rcases hc with rfl|hc
     . exact hbe
     . rintro rfl;rcases he with z|z
       . exact fB c b hc z
       . rw[hc]at z;cases z;exact hb rfl
end
structure Un(fs ex:List Yi)(H H':Hp)(h h':YG):Prop where
 keep:∀b o,h.get? b=J o->H b=M->b ∉ fs->b ∉ ex->h'.get? b=J o
 slot:∀b o,h.get? b=J o->H b=M->b∈fs->b ∉ ex->∃sl,h'.get? b=J {o with slots:=sl}
 free:∀b o,h.get? b=J o->H b=M->b ∉ ex->H' b=M
 there:∀b o,h.get? b=J o->b ∉ ex->∃o',h'.get? b=J o'
 tups:∀b xs,H b=J (.tup xs)->H' b=J (.tup xs)
 frzs:∀b o u,H b=J (.frz o u)->H' b=J (.frz o u)
 tbls:∀b ps,H b=J (.tbl ps)->∃more,H' b=J (.tbl (ps++more))
section
variable {fs ex:List Yi}{H H1 H2:Hp}{h R h2 h':YG}{a x e:Yi}{o:HO}
def Un.any(u:Un fs ex H H1 h R)(q:h.get? b=J ob)(n:H b=M)(hx:b ∉ ex):∃sl,R.get? b=J {ob with slots:=sl}:=by
 by_cases hb:b∈fs
 . exact u.slot b ob q n hb hx
 . exact⟨ob.slots,u.keep b ob q n hb hx⟩
def Un.trans(a:Un fs ex H H1 h R)(b:Un fs ex H1 H2 R h2):Un fs ex H H2 h h2 where
 keep:=λc ob q n hc hx=>b.keep c ob (a.keep c ob q n hc hx) (a.free c ob q n hx) hc hx
 slot:=λc ob q n hc hx=>by obtain⟨sl,e1⟩:=a.slot c ob q n hc hx;obtain⟨cr,e2⟩:=b.slot c _ e1 (a.free c ob q n hx) hc hx;exact⟨cr,e2⟩
 free:=λc ob q n hx=>by obtain⟨o',e1⟩:=a.there c ob q hx;exact b.free c o' e1 (a.free c ob q n hx) hx
 there:=λc ob q hx=>by obtain⟨o',e1⟩:=a.there c ob q hx;exact b.there c o' e1 hx
 tups:=λc xs q=>b.tups c xs (a.tups c xs q)
 frzs:=λc ob xs q=>b.frzs c ob xs (a.frzs c ob xs q)
 tbls:=λc ps q=>by obtain⟨m1,e1⟩:=a.tbls c ps q;obtain⟨m2,e2⟩:=b.tbls c _ e1;exact⟨m1++m2,by rw[e2,Array.append_assoc]⟩
def Un.kept(k:∀b u,h.get? b=J u->h'.get? b=J u):Un fs ex H H h h':=⟨λb ob q _ _ _=>k b ob q,λb ob q _ _ _=>⟨ob.slots,k b ob q⟩,λ_ _ _ n _=>n,λb ob q _=>⟨ob,k b ob q⟩,λ_ _ q=>q,λ_ _ _ q=>q,λ_ ps q=>⟨#[],by rw[q];simp⟩⟩
def Un.refl:Un fs ex H H h h:=Un.kept λ_ _ q=>q
def Un.laid(k:∀b u,h.get? b=J u->h'.get? b=J u)(hp:h.objs.size<=a)(hn:H a=M):Un fs ex H (upd H a o) h h' where
 keep:=λb u q _ _ _=>k b u q
 slot:=λb u q _ _ _=>⟨u.slots,k b u q⟩
 free:=λb u q n _=>by rw[Zr (Ou (Ot (Ym q) hp))];exact n
 there:=λb u q _=>⟨u,k b u q⟩
 tups:=λb xs q=>by rw[Zr (ZT q hn)];exact q
 frzs:=λb u xs q=>by rw[Zr (ZT q hn)];exact q
 tbls:=λb ps q=>⟨#[],by rw[Zr (ZT q hn),q];simp⟩
def Un.write(mu:Mut (H x))(he:e=x\/H e=J (.own x))(k:∀b u,b≠e->h.get? b=J u->h'.get? b=J u)(eY:∃u,h'.get? e=J u):Un fs ex H (upd H x o) h h':=by
 have hx:∀b,H b=M->b≠x:=λb n z=>by subst z;rw[n]at mu;exact mu
 have hb:∀b,H b=M->b≠e:=λb n z=>by
  subst z;rcases he with r|r
  . exact hx b n r
  . rw[n]at r;cases r
 have hm:∀b u,H b=J u->¬ Mut (J u)->b≠x:=λb u q nm z=>by subst z;rw[q]at mu;exact nm mu
 refine⟨λb u q n _ _=>k b u (hb b n) q,λb u q n _ _=>⟨u.slots,k b u (hb b n) q⟩,λb u q n _=>by rw[Zr (hx b n)];exact n,λb u q _=>?_,
  λb xs q=>by rw[Zr (hm b _ q λz=>z)];exact q,λb u xs q=>by rw[Zr (hm b _ q λz=>z)];exact q,λb ps q=>⟨#[],by rw[Zr (hm b _ q λz=>z),q];simp⟩⟩
 by_cases hbe:b=e
 . subst hbe;exact eY
 . exact⟨u,k b u hbe q⟩
end
def trk(h:YG)(H:Hp):List Yi:=(List.range h.objs.size).filter λa=>(H a).isSome
def ZjV(h:YG)(H:Hp):YG:=Wa h (trk h H)
def ZoU(h:YG)(H:Hp):(ZjV h H).objs.size=h.objs.size:=PySem.W.hideAll_size _ _
def ZqU(e:h.get? b=J o)(n:H b=M):(ZjV h H).get? b=J o:=
 PySem.W.hideAll_get _ e λhm=>by have q:(H b).isSome=Wx:=(List.mem_filter.mp hm).2;rw[n]at q;simp at q
def ZsI(e:(ZjV h H).get? b=J o):h.get? b=J o/\H b=M:=by
 have e':h.get? b=J o:=PySem.W.of_hideAll (trk h H) e;refine⟨e',?_⟩;cases q:H b with
 |none=>rfl
 |some x=>have hm:b∈trk h H:=List.mem_filter.mpr ⟨List.mem_range.mpr (Ym e'),by simp[q]⟩;have z:(ZjV h H).get? b=M:=PySem.W.hideAll_none (trk h H) hm;rw[z]at e;cases e
structure Mod(K:Yk)(mg:Str->Option Yj)(base:YG):Prop where
 kin:K.In base
 glob:base.Ns Yd mg
 blt:∃mb,base.Ns builtinsNs mb/\∀x:Str,x ≠ "__name__" -> mb x=bootBuiltins x
 nolimit:base.NoLimit
structure Cx where
 prog:Yh
 w:Yg
 K:Yk
 mg:Str->Option Yj
 base:YG
 A:YH
 N:List Str
 s₀:Yb
 H₀:Hp
 env:Env
 outer:List Env
 stack:List Env
 ex:List Yi
 fn:Str->Bool
 calm:Bool
 pn:List (Yi×Obj)
 xe:Yj->Yb->Prop
noncomputable def frs(l:List Env):List Yi:=l.filterMap (·.frame)
abbrev Cx.fs(X:Cx):List Yi:=frs X.outer
def Vis(sc:Scope)(x:Str):Prop:=sc.names.lookup x=J .local\/sc.names.lookup x=J .cell\/sc.names.lookup x=J .free
def Loc(sc:Scope)(x:Str):Prop:=sc.names.lookup x=J .local\/sc.names.lookup x=J .cell
def Look(env:Env)(h:YG)(m:Str->Option Yj)(x:Str)(u:Yj):Prop:=(env.kindOf x=J .local/\m x=J u)\/((env.kindOf x=J .cell\/env.kindOf x=J .free)/\∃c,env.cells.lookup x=J c/\h.IsCell c (J u))
structure Cx.Ok(X:Cx):Prop where
 mod:Mod X.K X.mg X.base
 kind:X.env.scope.kind=.function
 glob:X.env.globals=Yd
 blt:X.env.builtins=builtinsNs
 above:X.s₀.heap.objs.size<=X.env.locals
 inj:∀x y c,X.env.cells.lookup x=J c->X.env.cells.lookup y=J c->x=y
 has:∀x,(X.env.kindOf x=J .cell\/X.env.kindOf x=J .free)->∃c,X.env.cells.lookup x=J c
 cab:∀x c,X.fn x=Wx->X.env.cells.lookup x=J c->X.s₀.heap.objs.size<=c
 hd:X.calm=Wx->X.A.handled=M
 frames:X.A.frames=J X.stack
 stk:X.stack=X.outer\/(X.stack=X.env::X.outer/\X.env.frame=J X.env.locals)
 exf:∀b∈X.ex,b≠X.env.locals/\∀x c,X.env.cells.lookup x=J c->c≠b
 bs:∀b o,X.base.get? b=J o->X.s₀.heap.get? b=J o/\X.H₀ b=M
 bsz:X.base.objs.size<=X.s₀.heap.objs.size
 noex:∀b o,X.base.get? b=J o->b ∉ X.ex
 exfs:∀b∈X.ex,b ∉ X.fs
 funs:X.s₀.heap.FunFrames X.base X.outer
 frf:∀b∈X.fs,X.H₀ b=M
structure Inv(X:Cx)(aa:List (Yi×Obj))(Z:List (Option V))(H:Hp)(s:Yb):Prop where
 ok:X.Ok
 os:s.os=X.s₀.os
 bare:AllBare s.gens
 base:Un X.fs X.ex X.H₀ H X.s₀.heap s.heap
 loc:∃m,s.heap.Ns X.env.locals m/\∀(i:Nat) (x:Str) (v:V),X.N[i]?=J x->Z[i]?=J (J v)->Vis X.env.scope x->∃u,RelV v u/\Look X.env s.heap m x u
 cell:∀x c,X.env.cells.lookup x=J c->∃v,s.heap.IsCell c v
 free:H X.env.locals=M
 freeC:∀x c,X.env.cells.lookup x=J c->H c=M
 pin:∀p∈X.pn++aa,s.heap.get? p.1=J p.2/\H p.1=M/\p.1≠X.env.locals/\p.1 ∉ X.fs/\∀v,p.2.data≠.cell v
 hok:HOk X.prog X.w H s.heap
 len:Z.length=X.N.length
section
variable {X:Cx}{aa:List (Yi×Obj)}{Z:List (Option V)}{H H':Hp}{s:Yb}{h':YG}
def Cx.Ok.nofr(ok:X.Ok)(e:X.base.get? b=J o):b ∉ X.fs:=λhb=>by have:=(ok.funs.mem hb).1;rw[e]at this;cases this
theorem Inv.bs(I:Inv X aa Z H s):∀b o,X.base.get? b=J o->s.heap.get? b=J o/\H b=M:=λb o e=>⟨I.base.keep b o (I.ok.bs b o e).1 (I.ok.bs b o e).2 (I.ok.nofr e) (I.ok.noex b o e),I.base.free b o (I.ok.bs b o e).1 (I.ok.bs b o e).2 (I.ok.noex b o e)⟩
def Inv.bk(I:Inv X aa Z H s):∀b o,X.base.get? b=J o->s.heap.get? b=J o:=λb o e=>(I.bs b o e).1
theorem Inv.mod(I:Inv X aa Z H s):Mod X.K X.mg X.base:=I.ok.mod
def Inv.kIn(I:Inv X aa Z H s):X.K.In s.heap:=I.ok.mod.kin.keeps I.bk
theorem Inv.lt(I:Inv X aa Z H s):X.env.locals<s.heap.objs.size:=let⟨_,hn,_⟩:=I.loc;hn.lt
def Inv.sz(I:Inv X aa Z H s):X.s₀.heap.objs.size<=s.heap.objs.size:=OE I.ok.above (Yy I.lt)
def Inv.nofs(I:Inv X aa Z H s)(h:s.heap.objs.size<=a):a ∉ X.fs:=λhb=>by obtain⟨_,o,ho,_⟩:=I.ok.funs.mem hb;exact absurd (Ot (Ym ho) (OE I.sz h)) (Yv _)
def Inv.cne(I:Inv X aa Z H s):∀x c,X.env.cells.lookup x=J c->c≠X.env.locals:=λx c e z=>by obtain⟨v,o,ho,hd⟩:=I.cell x c e;obtain⟨m,⟨o',es,ep,dL,iW,_⟩,_⟩:=I.loc;rw[z,dL]at ho;cases ho;rw[iW]at hd;cases hd
theorem Inv.funs(I:Inv X aa Z H s):s.heap.FunFrames X.base X.outer:=by
 have all:∀(l:List Env),(∀b∈frs l,b∈X.fs)->X.s₀.heap.FunFrames X.base l->s.heap.FunFrames X.base l:=by
  intro l;induction l with
  |nil=>intro _ _;trivial
  |cons env r ih=>intro hs hl;obtain⟨hk,⟨L,o,hf,hn,ho,hd⟩,hr⟩:=hl;have hL:L∈X.fs:=hs L (by unfold frs;rw[List.filterMap_cons,hf];exact Oi);obtain⟨sl,e⟩:=I.base.slot L o ho (I.ok.frf L hL) hL λz=>I.ok.exfs L z hL;exact⟨hk,⟨L,_,hf,hn,e,hd⟩,ih (λb hb=>hs b (by unfold frs;rw[List.filterMap_cons,hf];exact Oh _ hb)) hr⟩
 exact all X.outer (λ_ hb=>hb) I.ok.funs
theorem Inv.stack(I:Inv X aa Z H s):s.heap.FunFrames X.base X.stack:=by
 rcases I.ok.stk with e|⟨e,hf⟩
 . rw[e];exact I.funs
 . rw[e];obtain⟨m,hn,_⟩:=I.loc;refine .cons (by rw[I.ok.kind];decide) hf hn ?_ I.funs;exact Heap.get?_none_of_le (OE I.ok.bsz I.ok.above)
def Inv.stkSub(I:Inv X aa Z H s):∀b∈frs X.stack,b∈X.env.locals::X.fs:=λb hb=>by
 rcases I.ok.stk with e|⟨e,hf⟩
 . rw[e]at hb;exact Oh _ hb
 . rw[e]at hb;unfold frs at hb;rw[List.filterMap_cons,hf]at hb;exact hb
def Inv.stkFree(I:Inv X aa Z H s):∀b∈frs X.stack,H b=M:=λb hb=>by
 rcases O3.mp (I.stkSub b hb)with e|hb
 . rw[e];exact I.free
 . obtain⟨_,o,ho,_⟩:=I.ok.funs.mem hb;exact I.base.free b o ho (I.ok.frf b hb) λz=>I.ok.exfs b z hb
def Inv.step{g':Array GenState}{t':Nat}{d':Drawn}{ch:List Yi}(I:Inv X aa Z H s)
 (cz:∀b∈ch,(b∈X.ex\/X.s₀.heap.objs.size<=b)/\b≠X.env.locals/\(∀x c,X.env.cells.lookup x=J c->c≠b)/\∀p∈X.pn++aa,p.1≠b)
 (keep:∀b o,b≠X.env.locals->b ∉ X.fs->b ∉ ch->s.heap.get? b=J o->H b=M->h'.get? b=J o)
 (slot:∀b o,b≠X.env.locals->b∈X.fs->b ∉ ch->s.heap.get? b=J o->H b=M->∃sl,h'.get? b=J {o with slots:=sl}) (free:∀b o,b ∉ ch->s.heap.get? b=J o->H b=M->H' b=M)
 (there:∀b o,b ∉ ch->s.heap.get? b=J o->∃o',h'.get? b=J o')
 (tups:∀b xs,H b=J (.tup xs)->H' b=J (.tup xs)) (frzs:∀b o u,H b=J (.frz o u)->H' b=J (.frz o u)) (tbls:∀b ps,H b=J (.tbl ps)->∃more,H' b=J (.tbl (ps++more)))
 (ns:∀m,s.heap.Ns X.env.locals m->h'.Ns X.env.locals m) (hok:HOk X.prog X.w H' h') (hg:AllBare g') :
 Inv X aa Z H' {s with heap:=h',gens:=g',drawn:=d',toks:=t'}:=by
 have ju:∀b o,X.s₀.heap.get? b=J o->b≠X.env.locals:=λb o e=>Ou (Ot (Ym e) I.ok.above);have gB:∀b o,X.s₀.heap.get? b=J o->b ∉ X.ex->b ∉ ch:=λb o e hx hb=>by
  rcases(cz b hb).1 with z|z
  . exact hx z
  . exact absurd (Ot (Ym e) z) (Yv _)
 have cW:∀x c,X.env.cells.lookup x=J c->∀v,s.heap.IsCell c v->h'.IsCell c v:=λx c e v ⟨o,ho,hd⟩=>by
  have fE:c ∉ ch:=λz=>(cz c z).2.2.1 x c e rfl;by_cases hc:c∈X.fs
  . obtain⟨sl,q⟩:=slot c o (I.cne x c e) hc fE ho (I.freeC x c e);exact⟨_,q,hd⟩
  . exact⟨o,keep c o (I.cne x c e) hc fE ho (I.freeC x c e),hd⟩
 refine⟨I.ok,I.os,hg,⟨λb o e n hb hx=>?_,λb o e n hb hx=>?_,λb o e n hx=>?_,λb o e hx=>?_,λb xs e=>tups b xs (I.base.tups b xs e),λb o xs e=>frzs b o xs (I.base.frzs b o xs e),λb ps e=>?_⟩,?_,λx c e=>?_,?_,λx c e=>?_,λp hp=>?_,hok,I.len⟩
 . exact keep b o (ju b o e) hb (gB b o e hx) (I.base.keep b o e n hb hx) (I.base.free b o e n hx)
 . obtain⟨sl,e1⟩:=I.base.slot b o e n hb hx;obtain⟨cr,e2⟩:=slot b _ (ju b o e) hb (gB b o e hx) e1 (I.base.free b o e n hx);exact⟨cr,e2⟩
 . obtain⟨o',e1⟩:=I.base.there b o e hx;exact free b o' (gB b o e hx) e1 (I.base.free b o e n hx)
 . obtain⟨o',e1⟩:=I.base.there b o e hx;exact there b o' (gB b o e hx) e1
 . obtain⟨m1,e1⟩:=I.base.tbls b ps e;obtain⟨m2,e2⟩:=tbls b _ e1;exact⟨m1++m2,by rw[e2,Array.append_assoc]⟩
 . obtain⟨m,hn,hl⟩:=I.loc;refine⟨m,ns m hn,λi x v e1 e2 e3=>?_⟩;obtain⟨u,r,l⟩:=hl i x v e1 e2 e3;refine⟨u,r,?_⟩;rcases l with l|⟨k,c,e,z⟩
   . exact .inl l
   . exact .inr ⟨k,c,e,cW x c e _ z⟩
 . obtain⟨v,z⟩:=I.cell x c e;exact⟨v,cW x c e v z⟩
 . obtain⟨m,⟨o,_,_,ho,_⟩,_⟩:=I.loc;exact free _ o (λz=>(cz _ z).2.1 rfl) ho I.free
 . obtain⟨v,o,ho,hd⟩:=I.cell x c e;exact free c o (λz=>(cz c z).2.2.1 x c e rfl) ho (I.freeC x c e)
 . obtain⟨e,n,ne,nf,d⟩:=I.pin p hp;have fE:p.1 ∉ ch:=λz=>(cz p.1 z).2.2.2 p hp rfl;exact⟨keep p.1 p.2 ne nf fE e n,free p.1 p.2 fE e n,ne,nf,d⟩
theorem Inv.un{t':Nat}(I:Inv X aa Z H s)(u:Un X.fs [] H H' s.heap h')(hok:HOk X.prog X.w H' h'):Inv X aa Z H' {s with heap:=h',toks:=t'}:=by
 obtain⟨m,⟨o,es,ep,ho,r⟩,_⟩:=id I.loc;obtain⟨sl,hL⟩:=u.any ho I.free (by simp);exact I.step (g':=s.gens) (d':=s.drawn) (ch:=[]) (λ_ z=>nomatch z) (λb o _ hb _ e n=>u.keep b o e n hb (by simp)) (λb o _ hb _ e n=>u.slot b o e n hb (by simp)) (λb o _ e n=>u.free b o e n (by simp)) (λb o _ e=>u.there b o e (by simp)) u.tups u.frzs u.tbls (λm' hm=>by
   obtain⟨o',gQ,jh,dL,r'⟩:=hm;rw [ho] at dL;cases dL;exact⟨_,gQ,jh,hL,r'⟩) hok I.bare
theorem Inv.call{g':Array GenState}{t':Nat}{d':Drawn}{ch:List Yi}(I:Inv X aa Z H s)(u:Un (frs X.stack) ch H H' s.heap h')(hok:HOk X.prog X.w H' h')(hg:AllBare g')
   (cz:∀ b∈ch,(b∈X.ex\/X.s₀.heap.objs.size<=b)/\b≠X.env.locals/\(∀ x c,X.env.cells.lookup x=J c->c≠b)/\∀ p∈X.pn++aa,p.1≠b) :
   Inv X aa Z H' {s with heap:=h',gens:=g',drawn:=d',toks:=t'}:=by
 obtain⟨m,⟨o,es,ep,ho,r⟩,_⟩:=id I.loc;obtain⟨sl,hL⟩:=u.any ho I.free λz=>(cz _ z).2.1 rfl;exact I.step (ch:=ch) cz (λb o hL hb hc e n=>u.keep b o e n (λz=>(O3.mp (I.stkSub b z)).elim hL hb) hc) (λb o _ _ hc e n=>u.any e n hc) (λb o hc e n=>u.free b o e n hc) (λb o hc e=>u.there b o e hc) u.tups u.frzs u.tbls (λm' hm=>by
   obtain⟨o',gQ,jh,dL,r'⟩:=hm;rw [ho] at dL;cases dL;exact⟨_,gQ,jh,hL,r'⟩) hok hg
def Inv.turned{t':Nat}{it:Yi}(I:Inv X aa Z H s)(k:∀b o,b≠it->s.heap.get? b=J o->h'.get? b=J o)(hn:H it=M)(hL:it≠X.env.locals)
 (R:it∈X.ex\/X.s₀.heap.objs.size<=it) (h2:∀x c,X.env.cells.lookup x=J c->c≠it) (h3:∀p∈X.pn++aa,p.1≠it):Inv X aa Z H {s with heap:=h',toks:=t'}:=by
 have cR:∀b u,H b=J u->b≠it:=λb u e z=>by rw[z,hn]at e;cases e
 refine I.step (g':=s.gens) (d':=s.drawn) (ch:=[it]) (λb hb=>?_) (λb o _ _ hc e _=>k b o (λz=>hc (by simp[z])) e) (λb o _ _ hc e _=>⟨o.slots,k b o (λz=>hc (by simp[z])) e⟩) (λ_ _ _ _ n=>n)
  (λb o hc e=>⟨o,k b o (λz=>hc (by simp[z])) e⟩) (λ_ _ e=>e) (λ_ _ _ e=>e) (λb ps e=>⟨#[],by rw[e];simp⟩) (λm hm=>?_) (λb u e=>?_) I.bare
 . have e:b=it:=by simpa using hb
   subst e;exact⟨R,hL,h2,h3⟩
 . obtain⟨o,es,ep,ho,r⟩:=hm;exact⟨o,es,ep,k _ o (YL hL) ho,r⟩
 . refine(I.hok b u e).stay (λc v hc q=>k c v ?_ q) (λ_ q=>q) λ_ _ q=>q;rcases hc with z|z
   . rw[z];exact cR b u e
   . exact cR c _ z
def Inv.tok(I:Inv X aa Z H s)(t:Nat):Inv X aa Z H {s with toks:=t}:=I.un (h':=s.heap) (t':=t) Un.refl I.hok
theorem Inv.kept{t':Nat}(I:Inv X aa Z H s)(k:∀b u,s.heap.get? b=J u->h'.get? b=J u):Inv X aa Z H {s with heap:=h',toks:=t'}:=I.un (Un.kept k) (I.hok.kept k)
theorem Inv.laid{a:Yi}{o:HO}{t':Nat}(I:Inv X aa Z H s)(k:∀b u,s.heap.get? b=J u->h'.get? b=J u)(hp:s.heap.objs.size<=a)(new:Zat X.prog X.w (upd H a o) h' a o):
 Inv X aa Z (upd H a o) {s with heap:=h',toks:=t'}:=I.un (Un.laid k hp (I.hok.fresh hp)) (I.hok.laid k hp new)
theorem Inv.write(I:Inv X aa Z H s)(mu:Mut (H x))(he:e=x\/H e=J (.own x))(k:∀b u,b≠e->s.heap.get? b=J u->h'.get? b=J u)(eY:∃u,h'.get? e=J u)
 (new:Zat X.prog X.w (upd H x o) h' x o):Inv X aa Z (upd H x o) {s with heap:=h',toks:=t'}:=I.un (Un.write mu he k eY) (I.hok.write mu he k eY new)
def Inv.weak(I:Inv X aa Z H s)(hl:σ'.length=Z.length)(w:∀(i:Nat) v,σ'[i]?=J (J v)->Z[i]?=J (J v)):Inv X aa σ' H s:=⟨I.ok,I.os,I.bare,I.base,let⟨m,hn,fS⟩:=I.loc;⟨m,hn,λi x v e1 e2 e3=>fS i x v e1 (w i v e2) e3⟩,I.cell,I.free,I.freeC,I.pin,I.hok,hl.trans I.len⟩
def Inv.pins_of(I:Inv X aa Z H s)(h:∀p∈fA,s.heap.get? p.1=J p.2/\H p.1=M/\p.1≠X.env.locals/\p.1 ∉ X.fs/\∀v,p.2.data≠.cell v):Inv X fA Z H s:=⟨I.ok,I.os,I.bare,I.base,I.loc,I.cell,I.free,I.freeC,λp hp=>(OD.mp hp).elim (λz=>I.pin p (Yr _ z)) (h p),I.hok,I.len⟩
def ZkP{N:List Str}(hN:N.Nodup){i j:Nat}{x:Str}(a:N[i]?=J x)(b:N[j]?=J x):i=j:=by obtain⟨R,e1⟩:=Ob.mp a;obtain⟨h2,e2⟩:=Ob.mp b;exact(List.getElem_inj hN).mp (e1.trans e2.symm)
def ZiU{qd:Model}{A:YH}{Q:Unit->Yb->Prop}(I:Inv X aa Z H s)(hN:X.N.Nodup)(hi:X.N[i]?=J x)(hx:Loc X.env.scope x)(r:RelV v u)
 (h:∀s',Inv X aa (Z.set i (J v)) H s'->(∃a,Heap.SameBut a s.heap s'.heap/\(a=X.env.locals\/X.env.cells.lookup x=J a))->Q () s') (hf:X.fn x=Wx\/X.env.scope.names.lookup x=J .local:=by first|exact .inl rfl|exact .inr rfl|assumption):YB qd A (storeName X.env x u) Q E s:=by
 obtain⟨m,hn,hl⟩:=id I.loc;have dX:(X.env.scope.kind==.class||(X.env.scope.kind==.module&&X.env.locals != X.env.globals))=Wy:=by rw[I.ok.kind];rfl
 have hiσ:i<Z.length:=by rw[I.len];exact(Ob.mp hi).1
 have cne:=I.cne;have bz:∀{a:Yi}{h':YG},(∃o,s.heap.get? a=J o/\H a=M)->Heap.SameBut a s.heap h'->HOk X.prog X.w H h':=λ{a h'} ha hs b ob e=>by
  obtain⟨_,_,bn⟩:=ha;refine(I.hok b ob e).stay (λc w' hc q=>(hs.2 c ?_).trans q) (λ_ q=>q) λ_ _ q=>q;rintro rfl;rcases hc with rfl|hc
  . rw[bn]at e;cases e
  . rw[bn]at hc;cases hc
 rcases hx with hk|hk
 . refine wpAny_storeName_local hk hn (λh' fP hs=>?_) dX;obtain⟨oL,_,_,fO,_⟩:=id hn;refine h _ ⟨I.ok,I.os,I.bare,⟨λb o e n hb hx=>?_,λb o e n hb hx=>?_,I.base.free,λb o e hx=>?_,I.base.tups,I.base.frzs,I.base.tbls⟩,⟨_,fP,λj y v' e1 e2 e3=>?_⟩,λy c e=>?_,I.free,I.freeC,λp hp=>?_,bz ⟨oL,fO,I.free⟩ hs,by simpa using I.len⟩ ⟨_,hs,.inl rfl⟩
   . exact(hs.2 b (Ou (Ot (Ym e) I.ok.above))).trans (I.base.keep b o e n hb hx)
   . obtain⟨sl,e1⟩:=I.base.slot b o e n hb hx;exact⟨sl,(hs.2 b (Ou (Ot (Ym e) I.ok.above))).trans e1⟩
   . obtain⟨o',e1⟩:=I.base.there b o e hx;exact⟨o',(hs.2 b (Ou (Ot (Ym e) I.ok.above))).trans e1⟩
   . by_cases hj:j=i
     . subst hj;rw[hi]at e1;cases e1;rw[Ol hiσ]at e2;cases e2;exact⟨u,r,.inl ⟨hk,by simp⟩⟩
     . rw[Oc (YL hj)]at e2;obtain⟨u',r',q⟩:=hl j y v' e1 e2 e3;refine⟨u',r',?_⟩;rcases q with⟨k,e⟩|⟨k,c,e,z⟩
       . refine .inl ⟨k,?_⟩;have:y≠x:=λe=>hj (ZkP hN e1 (e▸hi));simp[this,e]
       . exact .inr ⟨k,c,e,z.sameBut hs (cne y c e)⟩
   . obtain⟨w',z⟩:=I.cell y c e;exact⟨w',z.sameBut hs (cne y c e)⟩
   . obtain⟨e,n,ne,nf,d⟩:=I.pin p hp;exact⟨(hs.2 p.1 ne).trans e,n,ne,nf,d⟩
 . have iU:X.fn x=Wx:=by
    rcases hf with z|z
    . exact z
    . rw[z]at hk;cases hk
   obtain⟨c,hc⟩:=I.ok.has x (.inl hk);obtain⟨w',z⟩:=I.cell x c hc;refine wpAny_storeName_cell I.ok.kind hk hc z (λh' cB hs=>?_);obtain⟨oc,gG,iM⟩:=id z;refine h {s with heap:=h'} ⟨I.ok,I.os,I.bare,⟨λb o e n hb hx=>?_,λb o e n hb hx=>?_,I.base.free,λb o e hx=>?_,I.base.tups,I.base.frzs,I.base.tbls⟩,⟨m,hn.sameBut hs (YL (cne x c hc)),λj y v' e1 e2 e3=>?_⟩,λy c' e=>?_,I.free,I.freeC,λp hp=>?_,bz ⟨oc,gG,I.freeC x c hc⟩ hs,by simpa using I.len⟩ ⟨c,hs,.inr hc⟩
   . exact(hs.2 b (Ou (Ot (Ym e) (I.ok.cab x c iU hc)))).trans (I.base.keep b o e n hb hx)
   . obtain⟨sl,e1⟩:=I.base.slot b o e n hb hx;exact⟨sl,(hs.2 b (Ou (Ot (Ym e) (I.ok.cab x c iU hc)))).trans e1⟩
   . obtain⟨o',e1⟩:=I.base.there b o e hx;exact⟨o',(hs.2 b (Ou (Ot (Ym e) (I.ok.cab x c iU hc)))).trans e1⟩
   . by_cases hj:j=i
     . subst hj;rw[hi]at e1;cases e1;rw[Ol hiσ]at e2;cases e2;exact⟨u,r,.inr ⟨.inl hk,c,hc,cB⟩⟩
     . rw[Oc (YL hj)]at e2;obtain⟨u',r',q⟩:=hl j y v' e1 e2 e3;refine⟨u',r',?_⟩;rcases q with q|⟨k,c',e,z'⟩
       . exact .inl q
       . refine .inr ⟨k,c',e,z'.sameBut hs ?_⟩;rintro rfl;exact hj (ZkP hN e1 (I.ok.inj _ _ _ e hc▸hi))
   . by_cases hcc:c'=c
     . subst hcc;exact⟨_,cB⟩
     . obtain⟨w2,z2⟩:=I.cell y c' e;exact⟨w2,z2.sameBut hs hcc⟩
   . obtain⟨e,n,ne,nf,d⟩:=I.pin p hp;refine⟨(hs.2 p.1 ?_).trans e,n,ne,nf,d⟩;intro q;rw[q,gG]at e;have q':oc=p.2:=YF e;exact d w' (by rw[<-q'];exact iM)
def ZfD(I:Inv X aa Z H s)(hN:X.N.Nodup)(hi:X.N[i]?=J x)(hx:Loc X.env.scope x)(r:RelV v u)
 (h:∀s',Inv X aa (Z.set i (J v)) H s'->Q () s') (hf:X.fn x=Wx\/X.env.scope.names.lookup x=J .local:=by first|exact .inl rfl|exact .inr rfl|assumption):YB qd A (storeName X.env x u) Q E s:=
 ZiU I hN hi hx r (λs' I' _=>h s' I') hf
def Inv.call'(I:Inv X aa Z H s)(ho:s'.os=s.os)(u:Un (frs X.stack) ch H H' s.heap s'.heap)(hok:HOk X.prog X.w H' s'.heap)(hg:AllBare s'.gens)
 (cz:∀b∈ch,(b∈X.ex\/X.s₀.heap.objs.size<=b)/\b≠X.env.locals/\(∀x c,X.env.cells.lookup x=J c->c≠b)/\∀p∈X.pn++aa,p.1≠b):Inv X aa Z H' s':=by
 obtain⟨h',g',d',t',o'⟩:=s';have e:o'=s.os:=ho;subst e;exact I.call (g':=g') (t':=t') (d':=d') u hok hg cz
end
abbrev XK:=Yj->Option Yi->Hp->Prop
noncomputable abbrev St:=List (Option V)
abbrev VK:=V->Hp->Prop
abbrev TE:=St->Hp->VK->Prop
abbrev TT:=St->Hp->(Bool->Hp->Prop)->Prop
abbrev TA:=St->Hp->(List V->Hp->Prop)->Prop
structure Ends where
 nx:St->Hp->Prop
 rt:VK
 bk:St->Hp->Prop:=λ_ _=>False
 ct:St->Hp->Prop:=λ_ _=>False
abbrev TS:=Ends->St->Hp->Prop
def EP(X:Cx)(aa:List (Yi×Obj))(Z:St)(Q:VK)(u:Yj)(s':Yb):Prop:=∃v H',Inv X aa Z H' s'/\RelV v u/\Q v H'
def TP(X:Cx)(aa:List (Yi×Obj))(Z:St)(Q:Bool->Hp->Prop)(b:Bool)(s':Yb):Prop:=∃H',Inv X aa Z H' s'/\Q b H'
def AP(X:Cx)(aa:List (Yi×Obj))(Z:St)(Q:List V->Hp->Prop)(us:List Yj)(s':Yb):Prop:=∃vs H',Inv X aa Z H' s'/\Zs vs us/\Q vs H'
def SP(X:Cx)(aa:List (Yi×Obj))(D:Ends)(f:Flow)(s':Yb):Prop:=
 match f with
 |.next=>∃σ' H',Inv X aa σ' H' s'/\D.nx σ' H'
 |.brk=>∃σ' H',Inv X aa σ' H' s'/\D.bk σ' H'
 |.cont=>∃σ' H',Inv X aa σ' H' s'/\D.ct σ' H'
 |.ret u=>∃v σ' H',Inv X aa σ' H' s'/\RelV v u/\D.rt v H'
def PE(X:Cx)(e:Expr)(t:TE):Prop:=∀(aa:List (Yi×Obj)) (s:Yb) (Z:St) (H:Hp) (Q:VK),Inv X aa Z H s->t Z H Q->YB (model X.prog X.w) X.A (eval e X.env) (EP X aa Z Q) X.xe s
def PT(X:Cx)(e:Expr)(t:TT):Prop:=∀(aa:List (Yi×Obj)) (s:Yb) (Z:St) (H:Hp) (Q:Bool->Hp->Prop),Inv X aa Z H s->t Z H Q->YB (model X.prog X.w) X.A (isTrue e X.env (eval e X.env)) (TP X aa Z Q) X.xe s
def PW(X:Cx)(e:Expr)(t:TT):Prop:=∀(aJ:Sem Yj) (aa:List (Yi×Obj)) (s:Yb) (Z:St) (H:Hp) (Q:Bool->Hp->Prop),Inv X aa Z H s->t Z H Q->YB (model X.prog X.w) X.A (isTrue e X.env aJ) (TP X aa Z Q) X.xe s
def PW.pt(h:PW X e t):PT X e t:=h _
def PA(X:Cx)(es:List Expr)(t:TA):Prop:=∀(pos:Pos) (aa:List (Yi×Obj)) (s:Yb) (Z:St) (H:Hp) (Q:List V->Hp->Prop),Inv X aa Z H s->t Z H Q->YB (model X.prog X.w) X.A (spliced (YS pos (YA es X.env))) (AP X aa Z Q) X.xe s
def PS(X:Cx)(st:Stmt)(t:TS):Prop:=∀(aa:List (Yi×Obj)) (s:Yb) (Z:St) (H:Hp) (D:Ends),Inv X aa Z H s->t D Z H->YB (model X.prog X.w) X.A (exec st X.env) (SP X aa D) X.xe s
def PSs(X:Cx)(st:List Stmt)(t:TS):Prop:=∀(aa:List (Yi×Obj)) (s:Yb) (Z:St) (H:Hp) (D:Ends),Inv X aa Z H s->t D Z H->YB (model X.prog X.w) X.A (execs st X.env) (SP X aa D) X.xe s
def thn(h:YB qd A t Q E s)(hQ:∀a s,Q a s->Q' a s):YB qd A t Q' E s:=Yf h hQ λ_ _ x=>x
section
variable {X:Cx}
noncomputable def Zyu(i:Nat):TE:=λZ H Q=>∃v,Z[i]?=J (J v)/\Q v H
noncomputable def tC(v:V):TE:=λ_ H Q=>Q v H
def Zu1(hN:X.N[i]?=J x)(hv:Vis X.env.scope x)(hd:(x==("__debug__" : Str))=Wy:=by decide)(cA:(x==("__classdict__" : Str))=Wy:=by decide):PE X (.Name x pos) (Zyu i):=by
 intro aa s Z H Q I h;obtain⟨v,e,h⟩:=h;obtain⟨m,hn,hl⟩:=I.loc;obtain⟨u,r,l⟩:=hl i x v hN e hv;have fin:EP X aa Z Q u s:=⟨v,H,I,r,h⟩
 rcases l with⟨hk,hm⟩|⟨hk,c,hc,aR⟩
 . exact wpAny_Name (wpAny_loadName_local I.ok.kind hk hn hm fin) hd
 . rcases hk with hk|hk
   . exact wpAny_Name (wpAny_loadName_cell I.ok.kind hk hc aR fin) hd
   . exact wpAny_Name (wpAny_loadName_free I.ok.kind hk hc aR fin cA) hd
def Zu7{i j pos}:PE X (.Constant (.int i) j pos) (tC (.int i)):=λ_ _ _ H _ I h=>wpAny_Constant_int ⟨.int i,H,I.tok _,⟨_,rfl⟩,h⟩
def Zxk{b j pos}:PE X (.Constant (.bool b) j pos) (tC (.bl b)):=λ_ _ _ H _ I h=>Constant_bool ⟨.bl b,H,I,rfl,h⟩
def Zqj{j pos}:PE X (.Constant .none j pos) (tC .non):=λ_ _ _ H _ I h=>Constant_none ⟨.non,H,I,rfl,h⟩
def Zu4{x j pos}:PE X (.Constant (.str x) j pos) (tC (.str x)):=λ_ _ _ H _ I h=>Calls.Constant_str ⟨.str x,H,I.tok _,⟨_,rfl⟩,h⟩
def Gl(X:Cx)(x:Str):Prop:=X.env.kindOf x=J .globalImplicit
def Zdt(I:Inv X aa Z H s)(hg:Gl X x)(hm:X.mg x=J u)(h:Q u s)
 (hd:(x==("__debug__" : Str))=Wy:=by decide):YB (model X.prog X.w) X.A (eval (.Name x pos) X.env) Q E s:=
 Calls.Name_function_global I.ok.kind hg (Calls.loadGlobal_global (by rw[I.ok.glob];exact I.mod.glob.keeps I.bk) hm h) hd
def Zdu(I:Inv X aa Z H s)(hg:Gl X x)(hm:X.mg x=M)(hv:bootBuiltins x=J u)(h:Q u s)
 (hn:x ≠ "__name__" := by decide) (hd:(x==("__debug__" : Str))=Wy:=by decide):YB (model X.prog X.w) X.A (eval (.Name x pos) X.env) Q E s:=by
 obtain⟨mb,R,h2⟩:=I.mod.blt;exact Calls.Name_function_global I.ok.kind hg (Calls.loadGlobal_builtin (by rw[I.ok.glob];exact I.mod.glob.keeps I.bk) hm (by rw[I.ok.blt];exact R.keeps I.bk) ((h2 x hn).trans hv) h) hd
def Zsn(hg:Gl X x)(hm:X.mg x=J u)(r:RelV v u)(hd:(x==("__debug__" : Str))=Wy:=by decide):PE X (.Name x pos) (tC v):=λ_ _ _ H _ I h=>Zdt I hg hm ⟨v,H,I,r,h⟩ hd
def Zsr(hg:Gl X x)(hm:X.mg x=M)(hv:bootBuiltins x=J u)(r:RelV v u)(hn:x ≠ "__name__" := by decide)(hd:(x==("__debug__" : Str))=Wy:=by decide):PE X (.Name x pos) (tC v):=λ_ _ _ H _ I h=>Zdu I hg hm hv ⟨v,H,I,r,h⟩ hn hd
variable {a b:Expr}{ta tb:TE}{pos:Pos}
variable {tA gv:TT}{rest:List Expr}
noncomputable def ZyI(t u:TT):TT:=λZ H Q=>t Z H λc H1=>if c=Wx then u Z H1 Q else Q Wy H1
noncomputable def tOr(t u:TT):TT:=λZ H Q=>t Z H λc H1=>if c=Wx then Q Wx H1 else u Z H1 Q
noncomputable def ZyA(t:TT):TT:=λZ H Q=>t Z H λc H1=>Q (!c) H1
def Zr7(ha:PT X a tA):PW X (.BoolOp .And [a] pos) tA:=by
 intro wh aa s Z H Q I h;refine isTrue_and (thn (ha aa s Z H Q I h) λc s1 e=>?_);cases c with
 |true=>exact isTrue_and_nil e
 |false=>exact e
def ZuP(ha:PT X a tA):PW X (.BoolOp .Or [a] pos) tA:=by
 intro wh aa s Z H Q I h;refine isTrue_or (thn (ha aa s Z H Q I h) λc s1 e=>?_);cases c with
 |false=>exact isTrue_or_nil e
 |true=>exact e
def ZuQ(ha:PT X a tA)(hb:PW X (.BoolOp .And (b::rest) pos) gv):PW X (.BoolOp .And (a::b::rest) pos) (ZyI tA gv):=by
 intro wh aa s Z H Q I h;refine isTrue_and (thn (ha aa s Z H _ I h) λc s1 ⟨H1,I1,q1⟩=>?_);cases c with
 |true=>exact hb wh aa s1 Z H1 Q I1 q1
 |false=>exact⟨H1,I1,q1⟩
def Zxa(ha:PT X a tA)(hb:PW X (.BoolOp .Or (b::rest) pos) gv):PW X (.BoolOp .Or (a::b::rest) pos) (tOr tA gv):=by
 intro wh aa s Z H Q I h;refine isTrue_or (thn (ha aa s Z H _ I h) λc s1 ⟨H1,I1,q1⟩=>?_);cases c with
 |true=>exact⟨H1,I1,q1⟩
 |false=>exact hb wh aa s1 Z H1 Q I1 q1
def ZuS(ha:PT X a tA):PT X (.UnaryOp .Not a pos) (ZyA tA):=by intro aa s Z H Q I h;exact isTrue_not (ha aa s Z H (λc H1=>Q (!c) H1) I h)
def ZwN(ta tb:TE):TE:=λZ H Q=>ta Z H λx H1=>∃c,x=.bl c/\if c=Wx then tb Z H1 Q else Q (.bl Wy) H1
def Zyz(ta tb:TE):TE:=λZ H Q=>ta Z H λx H1=>∃c,x=.bl c/\if c=Wx then Q (.bl Wx) H1 else tb Z H1 Q
noncomputable def ZwH(ta:TE):TE:=λZ H Q=>ta Z H λx H1=>∃c,x=.bl c/\Q (.bl (!c)) H1
def Zqi{op}(h:PE X a t):PE X (.BoolOp op [a] pos) t:=λaa s Z H Q I hw=>BoolOp_one (h aa s Z H Q I hw)
def Zvb(ha:PE X a ta)(hb:PE X (.BoolOp .And (b::rest) pos) tb):PE X (.BoolOp .And (a::b::rest) pos) (ZwN ta tb):=by
 intro aa s Z H Q I h;refine BoolOp_and (thn (ha aa s Z H _ I h) λv s1 ⟨x,H1,I1,r1,q1⟩=>?_);obtain⟨c,rfl,q1⟩:=q1;cases r1;refine wpAny_truthy_bool ?_;cases c with
 |true=>exact hb aa s1 Z H1 Q I1 q1
 |false=>exact⟨.bl Wy,H1,I1,rfl,q1⟩
def Zxg(ha:PE X a ta)(hb:PE X (.BoolOp .Or (b::rest) pos) tb):PE X (.BoolOp .Or (a::b::rest) pos) (Zyz ta tb):=by
 intro aa s Z H Q I h;refine BoolOp_or (thn (ha aa s Z H _ I h) λv s1 ⟨x,H1,I1,r1,q1⟩=>?_);obtain⟨c,rfl,q1⟩:=q1;cases r1;refine wpAny_truthy_bool ?_;cases c with
 |false=>exact hb aa s1 Z H1 Q I1 q1
 |true=>exact⟨.bl Wx,H1,I1,rfl,q1⟩
def Zu5(ha:PE X a ta):PE X (.UnaryOp .Not a pos) (ZwH ta):=by intro aa s Z H Q I h;refine UnaryOp_ (thn (ha aa s Z H _ I h) λv s1 ⟨x,H1,I1,r1,q1⟩=>?_);obtain⟨c,rfl,q1⟩:=q1;cases r1;exact not_of (wpAny_truthy_bool ⟨.bl (!c),H1,I1,rfl,q1⟩)
def tIf(t:TT)(ta tb:TE):TE:=λZ H Q=>t Z H λc H1=>if c=Wx then ta Z H1 Q else tb Z H1 Q
def Zqm(hc:PT X c tA)(ha:PE X a ta)(hb:PE X b tb):PE X (.IfExp c a b pos) (tIf tA ta tb):=by
 intro aa s Z H Q I h;refine wpAny_IfExp (thn (hc aa s Z H _ I h) λd s1 ⟨H1,I1,q1⟩=>?_);cases d with
 |true=>exact ha aa s1 Z H1 Q I1 q1
 |false=>exact hb aa s1 Z H1 Q I1 q1
end
def SqL(K:Yk)(H:Hp)(a:Yi)(xs:List V):Prop:=
 Rd H a (.lst xs) \/
  ∃(o:Obj) (its:Array Yj) (n:Nat),K.lookup a=J o/\o.cls=.type "list" /\ o.dict=M/\o.data=.seq its n/\its.size<=sizeLine/\Zs xs its.toList
def SqT(K:Yk)(H:Hp)(a:Yi)(xs:List V):Prop:=
 Rd H a (.tup xs) \/
  ∃(o:Obj) (its:Array Yj) (n:Nat),K.lookup a=J o/\o.cls=.type "tuple" /\ o.data=.seq its n/\its.size<=sizeLine/\Zs xs its.toList
noncomputable def Zzo:Yj->Option V
 |.none=>J .non
 |.bool b=>J (.bl b)
 |.int i _=>J (.int i)
 |.str x _=>J (.str x)
 |.bytes b _=>J (.byt b)
 |.float b _=>J (.flt b)
 |.ref a=>J (.ref a)
 |.type n=>J (.ty n)
 |_=>M
def RelV.abs(r:RelV x u):Zzo u=J x:=by
 cases x with
 |non=>cases r;rfl
 |bl _=>cases r;rfl
 |int _=>obtain⟨t,rfl⟩:=r;rfl
 |str _=>obtain⟨t,rfl⟩:=r;rfl
 |byt _=>obtain⟨t,rfl⟩:=r;rfl
 |flt _=>obtain⟨t,rfl⟩:=r;rfl
 |ref _=>cases r;rfl
 |ty _=>cases r;rfl
def RelV.inj(r:RelV x u)(q:RelV y u):x=y:=YF (r.abs.symm.trans q.abs)
theorem Zs.inj:∀{xs ys:List V}{us:List Yj},Zs xs us->Zs ys us->xs=ys
 |_,_,_,.nil,.nil=>rfl
 |_,_,_,.cons r t,.cons r' t'=>by rw[r.inj r',Zs.inj t t']
section
variable {X:Cx}{aa:List (Yi×Obj)}{Z:St}{H:Hp}{s:Yb}{a:Yi}{xs ys:List V}
def SqL.of{K:Yk}(h:H a=J (.lst xs)):SqL K H a xs:=.inl (.inl h)
def Inv.list(I:Inv X aa Z H s)(h:SqL X.K H a xs):∃its:List Yj,Zs xs its/\PlainL s.heap a its.toArray/\xs.length<=sizeLine:=by
 rcases h with h|⟨o,its,n,hk,hc,hd,hs,hz,r⟩
 . obtain⟨z,its,n,r,e⟩:=h.ok I.hok;exact⟨its,r,⟨_,n,e,rfl,rfl,rfl⟩,z⟩
 . refine⟨its.toList,r,⟨o,n,I.kIn a o hk,hc,hd,by simpa using hs⟩,?_⟩;have e:=r.length;simp only[Array.length_toList]at e
   lia
def Inv.tuple(I:Inv X aa Z H s)(h:SqT X.K H a xs):∃its:List Yj,Zs xs its/\IsTup s.heap a its.toArray/\xs.length<=sizeLine:=by
 rcases h with h|⟨o,its,n,hk,hc,hs,hz,r⟩
 . obtain⟨z,its,r,p⟩:=h.ok I.hok;exact⟨its,r,p.tup,z⟩
 . refine⟨its.toList,r,⟨o,I.kIn a o hk,hc,n,by simpa using hs⟩,?_⟩;have e:=r.length;simp only[Array.length_toList]at e
   lia
def Inv.list_inj(I:Inv X aa Z H s)(h:SqL X.K H a xs)(h':SqL X.K H a ys):xs=ys:=by
 obtain⟨its,r,⟨o,n,e,_,_,d⟩,_⟩:=I.list h;obtain⟨its',r',⟨o',n',e',_,_,d'⟩,_⟩:=I.list h';rw[e]at e';cases e';rw[d]at d';injection d' with d1 _;have:its=its':=by simpa using congrArg Array.toList d1
 subst this;exact r.inj r'
def Inv.tuple_inj(I:Inv X aa Z H s)(h:SqT X.K H a xs)(h':SqT X.K H a ys):xs=ys:=by
 obtain⟨its,r,⟨o,e,_,n,d⟩,_⟩:=I.tuple h;obtain⟨its',r',⟨o',e',_,n',d'⟩,_⟩:=I.tuple h';rw[e]at e';cases e';rw[d]at d';injection d' with d1 _;have:its=its':=by simpa using congrArg Array.toList d1
 subst this;exact r.inj r'
end
noncomputable abbrev Cx.wish(X:Cx)(E:Yj->Yb->Prop):Cx:={X with xe:=E}
abbrev Cx.nox(X:Cx):Cx:=X.wish λ_ _=>False
theorem Cx.Ok.wish{X:Cx}(ok:X.Ok)(E:Yj->Yb->Prop):(X.wish E).Ok:=⟨ok.mod,ok.kind,ok.glob,ok.blt,ok.above,ok.inj,ok.has,ok.cab,ok.hd,ok.frames,ok.stk,ok.exf,ok.bs,ok.bsz,ok.noex,ok.exfs,ok.funs,ok.frf⟩
def Cx.Ok.unwish{X:Cx}{E:Yj->Yb->Prop}(ok:(X.wish E).Ok):X.Ok:=⟨ok.mod,ok.kind,ok.glob,ok.blt,ok.above,ok.inj,ok.has,ok.cab,ok.hd,ok.frames,ok.stk,ok.exf,ok.bs,ok.bsz,ok.noex,ok.exfs,ok.funs,ok.frf⟩
section
variable {X:Cx}{aa:List (Yi×Obj)}{Z:St}{H:Hp}{s:Yb}{E:Yj->Yb->Prop}
theorem Inv.wish(I:Inv X aa Z H s)(E:Yj->Yb->Prop):Inv (X.wish E) aa Z H s:=⟨I.ok.wish E,I.os,I.bare,I.base,I.loc,I.cell,I.free,I.freeC,I.pin,I.hok,I.len⟩
theorem Inv.unwish(I:Inv (X.wish E) aa Z H s):Inv X aa Z H s:=⟨I.ok.unwish,I.os,I.bare,I.base,I.loc,I.cell,I.free,I.freeC,I.pin,I.hok,I.len⟩
end
section
variable {X:Cx}{st:Stmt}{rest:List Stmt}{t u:TS}{e:Expr}{te:TE}{pos:Pos}
noncomputable def ZtN:TS:=λD Z H=>D.nx Z H
noncomputable def Zyx(t u:TS):TS:=λD Z H=>t {D with nx:=u D} Z H
def Zsa:PSs X [] ZtN:=λ_ _ Z H _ I h=>wpAny_execs_nil ⟨Z,H,I,h⟩
def Zp7(R:PS X st t)(h2:PSs X rest u):PSs X (st::rest) (Zyx t u):=by
 intro aa s Z H D I h;refine wpAny_execs_cons (thn (R aa s Z H {D with nx:=u D} I h) λf s1 q=>?_);cases f with
 |next=>obtain⟨σ',H',I',q⟩:=q;exact h2 aa s1 σ' H' D I' q
 |ret v=>exact q
 |brk=>exact q
 |cont=>exact q
def Zr9(R:PS X st t):PSs X [st] t:=by
 intro aa s Z H D I h;refine wpAny_execs_cons (thn (R aa s Z H D I h) λf s1 q=>?_);cases f with
 |next=>exact wpAny_execs_nil q
 |ret v=>exact q
 |brk=>exact q
 |cont=>exact q
noncomputable def Zut:TS:=λD Z H=>D.bk Z H
noncomputable def ZwL:TS:=λD Z H=>D.ct Z H
def Zsb:PS X (.Pass pos) ZtN:=λ_ _ Z H _ I h=>wpAny_Pass ⟨Z,H,I,h⟩
def Zqa:PS X (.Break pos) Zut:=λ_ _ Z H _ I h=>wpAny_Break ⟨Z,H,I,h⟩
def ZkJ:PS X (.Continue pos) ZwL:=λ_ _ Z H _ I h=>wpAny_Continue ⟨Z,H,I,h⟩
def Inv.quiet(I:Inv X aa Z H s):interactive X.env=Wy:=by simp[interactive,I.ok.kind]
noncomputable def ZwJ(te:TE):TS:=λD Z H=>te Z H λ_ H1=>D.nx Z H1
def Zsc(he:PE X e te)(hs:swapsWith e M pos.line X.env=pure Wy:=by rfl):PS X (.Expr e pos) (ZwJ te):=by intro aa s Z H D I h;exact wpAny_Expr_any (thn (he aa s Z H _ I h) λv s1 ⟨x,H1,I1,r1,q1⟩=>⟨Z,H1,I1,q1⟩) I.quiet hs
noncomputable def Zyy(te:TE):TS:=λD Z H=>te Z H D.rt
def ZuT(he:PE X e te):PS X (.Return (J e) pos) (Zyy te):=by intro aa s Z H D I h;exact wpAny_Return_some (thn (he aa s Z H _ I h) λv s1 ⟨x,H1,I1,r1,q1⟩=>⟨x,Z,H1,I1,r1,q1⟩)
noncomputable def ZyC(c:TT)(t u:TS):TS:=λD Z H=>c Z H λb H1=>if b=Wx then t D Z H1 else u D Z H1
def Zxc(hc:PT X c tc)(ha:PSs X a t)(hb:PSs X b u):PS X (.If c a b pos) (ZyC tc t u):=by
 intro aa s Z H D I h;refine wpAny_If (thn (hc aa s Z H _ I h) λd s1 ⟨H1,I1,q1⟩=>?_);cases d with
 |true=>exact ha aa s1 Z H1 D I1 q1
 |false=>exact hb aa s1 Z H1 D I1 q1
end
abbrev TG:=V->St->Hp->(St->Hp->Prop)->Prop
abbrev TGs:=List V->St->Hp->(St->Hp->Prop)->Prop
def PG(X:Cx)(target:Expr)(t:TG):Prop:=
 ∀(aa:List (Yi×Obj)) (s:Yb) (Z:St) (H:Hp) (v:V) (u:Yj) (Q:St->Hp->Prop),Inv X aa Z H s->RelV v u->t v Z H Q ->
  YB (model X.prog X.w) X.A (assign target X.env u) (λ_ s'=>∃σ' H',Inv X aa σ' H' s'/\Q σ' H') X.xe s
def PGs(X:Cx)(ts:List Expr)(t:TGs):Prop:=
 ∀(aa:List (Yi×Obj)) (s:Yb) (Z:St) (H:Hp) (vs:List V) (us:List Yj) (Q:St->Hp->Prop),Inv X aa Z H s->Zs vs us->t vs Z H Q ->
  YB (model X.prog X.w) X.A (assignInOrder ((assignEach ts X.env).map (·.2)) us) (λ_ s'=>∃σ' H',Inv X aa σ' H' s'/\Q σ' H') X.xe s
abbrev ZtG:=V->V->V->Hp->(Hp->Prop)->Prop
def ZtH(X:Cx)(t:ZtG):Prop:=
 ∀(aa:List (Yi×Obj)) (s:Yb) (Z:St) (H:Hp) (o i v:V) (ov iv u:Yj) (Q:Hp->Prop),Inv X aa Z H s->RelV o ov->RelV i iv->RelV v u->t o i v H Q ->
  YB (model X.prog X.w) X.A (setItem ov iv u) (λ_ s'=>∃H',Inv X aa Z H' s'/\Q H') X.xe s
abbrev TIp:=V->V->Hp->VK->Prop
def PIp(X:Cx)(op:Operator)(t:TIp):Prop:=
 ∀(aa:List (Yi×Obj)) (s:Yb) (Z:St) (H:Hp) (x y:V) (v u:Yj) (Q:VK),Inv X aa Z H s->RelV x v->RelV y u->t x y H Q ->
  YB (model X.prog X.w) X.A (inplaceOp op v u) (EP X aa Z Q) X.xe s
section
variable {X:Cx}{pos:Pos}
noncomputable def ZdK(i:Nat):TG:=λv Z H Q=>Q (Z.set i (J v)) H
def Zni(hN:X.N.Nodup)(hi:X.N[i]?=J x)(hx:Loc X.env.scope x)(hf:X.fn x=Wx\/X.env.scope.names.lookup x=J .local:=by first|exact .inl rfl|exact .inr rfl|assumption):PG X (.Name x pos) (ZdK i):=by intro aa s Z H v u Q I r h;exact wpAny_assign_Name (ZfD I hN hi hx r (λs' I'=>⟨_,H,I',h⟩) hf)
def Zs9:TGs:=λvs Z H Q=>vs=[]/\Q Z H
def Zk4(t:TG)(u:TGs):TGs:=λvs Z H Q=>∃v r,vs=v::r/\t v Z H λσ' H'=>u r σ' H' Q
def Zng:PGs X [] Zs9:=by intro aa s Z H vs us Q I r h;obtain⟨e,h⟩:=h;subst e;cases r;exact assignInOrder_nil ⟨Z,H,I,h⟩
def ZhS(R:PG X e t)(h2:PGs X es u)
 (hs:(assignEach (e::es) X.env).map (·.2)=assign e X.env::(assignEach es X.env).map (·.2):=by rfl):PGs X (e::es) (Zk4 t u):=by
 intro aa s Z H vs us Q I r h;obtain⟨v,vr,e1,h⟩:=h;subst e1;cases r with
 |cons r rr=>rw[hs];refine assignInOrder_cons (thn (R aa s Z H _ _ _ I r h) λ_ s1 ⟨σ1,H1,I1,q1⟩=>?_);exact h2 aa s1 σ1 H1 _ _ Q I1 rr q1
noncomputable def Zs8(K:Yk)(n:Nat)(t:TGs):TG:=λv Z H Q=>∃a xs,v=.ref a/\SqT K H a xs/\xs.length=n/\t xs Z H Q
def Zqg(hc:X.calm=Wx)(h:PGs X es t)
 (hn:(assignEach es X.env).length=n:=by rfl) (hst:(assignEach es X.env).findIdx? (·.1)=M:=by rfl):PG X (.Tuple es k pos) (Zs8 X.K n t):=by
 intro aa s Z H v u Q I r hw;obtain⟨a,xs,e1,hq,hl,hw⟩:=hw;subst e1;cases r;obtain⟨its,rv,ht,hz⟩:=I.tuple hq;refine assign_Tuple_tuple (I.ok.hd hc) ht (by simp[hn,<-hl,rv.length]) hst λh' hx=>?_;have I1:Inv X aa Z H {s with heap:=h'}:=I.kept (t':=s.toks) λb o e=>hx b o (Ou (Ym e)) e;exact h aa _ Z H xs _ Q I1 (by simpa using rv) hw
noncomputable def Zy7(to ti:TE)(t:ZtG):TG:=λv Z H Q=>to Z H λo H1=>ti Z H1 λi H2=>t o i v H2 λH3=>Q Z H3
def Zu0(ho:PE X o to)(hi:PE X i ti)(hs:ZtH X t)
 (ha:∀v,assign (.Subscript o i pos) X.env v=(do
  let ov <- holding [v] (eval o X.env);let iv <- holding [v,ov] (eval i X.env)
  standAt pos
  holding [v,ov,iv] (setItem ov iv v)
  release [v,ov,iv] []):=by intro _;rfl):PG X (.Subscript o i pos) (Zy7 to ti t):=by
 intro aa s Z H v u Q I r h;rw[ha];refine Ya (Wh (thn (ho aa s Z H _ I h) λov s1 ⟨x,H1,I1,r1,q1⟩=>?_));refine Ya (Wh (thn (hi aa s1 Z H1 _ I1 q1) λiv s2 ⟨y,H2,I2,r2,q2⟩=>?_));refine Ya (wpAny_standAt (Ya (Wh (thn (hs aa s2 Z H2 x y v ov iv u _ I2 r1 r2 r q2) λ_ s3 ⟨H3,I3,q3⟩=>?_))));exact wpAny_release ⟨Z,H3,I3,q3⟩
noncomputable def ZlJ(te:TE)(g:TG):TS:=λD Z H=>te Z H λx H1=>g x Z H1 D.nx
def Zqb(he:PE X e te)(hg:PG X tg g)(hs:swapsWithSole [tg] e pos.line X.env=pure Wy:=by rfl)(hw:swappedStores [tg] e X.env=pure M:=by rfl)
 (R:(assignEach [tg] X.env).map (·.2)=[assign tg X.env]:=by rfl):PS X (.Assign [tg] e pos) (ZlJ te g):=by
 intro aa s Z H D I h;refine wpAny_Assign_stores (thn (he aa s Z H _ I h) λv s1 ⟨x,H1,I1,r1,q1⟩=>?_) hs hw;rw[R];exact thn (hg aa s1 Z H1 x v _ I1 r1 q1) λ_ s2 q=>q
def Zl0(hN:X.N.Nodup)(hi:X.N[i]?=J x)(hx:Loc X.env.scope x)(he:PE X e te)(hs:swapsWith e (J (.Name x bu)) pos.line X.env=pure Wy:=by rfl)(hf:X.fn x=Wx\/X.env.scope.names.lookup x=J .local:=by first|exact .inl rfl|exact .inr rfl|assumption):
 PS X (.Assign [.Name x bu] e pos) (ZlJ te (ZdK i)):=by
 intro aa s Z H D I h;refine wpAny_Assign_Name (thn (he aa s Z H _ I h) λv s1 ⟨y,H1,I1,r1,q1⟩=>?_) hs;exact ZfD I1 hN hi hx r1 (λs2 I2=>⟨_,H1,I2,q1⟩) hf
noncomputable def ZyH(i:Nat)(te:TE)(ti:TIp):TS:=λD Z H=>∃x,Z[i]?=J (J x)/\te Z H λy H1=>ti x y H1 λz H2=>D.nx (Z.set i (J z)) H2
def ZuW(hN:X.N.Nodup)(hi:X.N[i]?=J x)(hx:Loc X.env.scope x)(he:PE X e te)(ho:PIp X op ti)(hf:X.fn x=Wx\/X.env.scope.names.lookup x=J .local:=by first|exact .inl rfl|exact .inr rfl|assumption):
 PS X (.AugAssign (.Name x bu) op e pos) (ZyH i te ti):=by
 intro aa s Z H D I h;obtain⟨v,e1,h⟩:=h;obtain⟨m,hn,hl⟩:=I.loc;have vis:Vis X.env.scope x:=by rcases hx with k|k;exact .inl k;exact .inr (.inl k)
 obtain⟨u,r,l⟩:=hl i x v hi e1 vis;refine wpAny_AugAssign_Name ?_;have go:YB (model X.prog X.w) X.A (eval e X.env) (λw s₂=>YB (model X.prog X.w) X.A (inplaceOp op u w) (λr s₃=>YB (model X.prog X.w) X.A (storeName X.env x r) (λ_=>SP X aa D .next) X.xe s₃) X.xe s₂) X.xe s:=by refine thn (he aa s Z H _ I h) λw s1 ⟨y,H1,I1,r1,q1⟩=>?_;refine thn (ho aa s1 Z H1 v y u w _ I1 r r1 q1) λz s2 ⟨zv,H2,I2,r2,q2⟩=>?_;exact ZfD I2 hN hi hx r2 (λs3 I3=>⟨_,H2,I3,q2⟩) hf
 rcases l with⟨hk,hm⟩|⟨hk,c,hc,aR⟩
 . exact wpAny_loadName_local I.ok.kind hk hn hm go
 . rcases hk with hk|hk
   . exact wpAny_loadName_cell I.ok.kind hk hc aR go
   . rcases hx with k|k
     . have:X.env.scope.names.lookup x=J .free:=hk;rw[k]at this;cases this
     . have:X.env.scope.names.lookup x=J .free:=hk;rw[k]at this;cases this
noncomputable def ipI(f:Int->Int->Int):TIp:=λx y H Q=>∃i j,x=.int i/\y=.int j/\Q (.int (f i j)) H
def ZvL:PIp X .Add (ipI λi j=>i+j):=by intro aa s Z H x y v u Q I r1 r2 h;obtain⟨i,j,e1,e2,q⟩:=h;subst e1;subst e2;obtain⟨t,rfl⟩:=r1;obtain⟨t',rfl⟩:=r2;exact iadd_int ⟨.int _,H,I.tok _,⟨_,rfl⟩,q⟩
def ZpE(c:TT)(tb:TS):TS:=λD Z H=>∃W:Nat->St->Hp->Prop,(∃m,W m Z H)/\∀m Z H,W m Z H ->
 c Z H λb H1=>if b=Wx then ∃N:St->Hp->Prop,(∀σ' H',N σ' H'->∃m',m'<m/\W m' σ' H')/\tb {D with nx:=N,ct:=N,bk:=D.nx} Z H1 else D.nx Z H1
def Zp8(hp:PassesOwn (model X.prog X.w) X.A X.env X.xe)(hc:PT X c tc)(hb:PSs X body tb):PS X (.While c body [] pos) (ZpE tc tb):=by
 intro aa s Z H D I h;obtain⟨W,⟨m0,w0⟩,turn⟩:=h;refine wpAny_While (codeAny_whileLoop (λn s'=>∃σ' H',Inv X aa σ' H' s'/\W n σ' H') ?_ m0 ⟨Z,H,I,w0⟩);rintro n s1 ⟨σ1,H1,I1,w1⟩;refine wpAny_passesOwn hp (thn (hc aa s1 σ1 H1 _ I1 (turn n σ1 H1 w1)) λb s2 ⟨H2,I2,q2⟩=>?_);cases b with
 |true=>
  obtain⟨N,hN,q2⟩:=q2;rw[if_pos rfl];refine wpAny_passesOwn hp (thn (hb aa s2 σ1 H2 _ I2 q2) λf s3 q3=>?_);cases f with
  |next=>obtain⟨σ3,H3,I3,n3⟩:=q3;obtain⟨m',hm,w3⟩:=hN σ3 H3 n3;exact⟨m',hm,σ3,H3,I3,w3⟩
  |cont=>obtain⟨σ3,H3,I3,n3⟩:=q3;obtain⟨m',hm,w3⟩:=hN σ3 H3 n3;exact⟨m',hm,σ3,H3,I3,w3⟩
  |brk=>exact q3
  |ret v=>exact q3
 |false=>rw[if_neg Ow];exact wpAny_execs_nil ⟨σ1,H2,I2,q2⟩
end
structure It where
 go:Nat->Hp->Prop
 yld:Nat->Hp->V->Hp->Prop
 stop:Nat->Hp->Prop
def Zcg(X:Cx)(aa:List (Yi×Obj))(H:Hp)(b:Yi):Prop:=H b=M/\b≠X.env.locals/\b ∉ X.fs/\(b∈X.ex\/X.s₀.heap.objs.size<=b)/\(∀x c,X.env.cells.lookup x=J c->c≠b)/\∀p∈X.pn++aa,p.1≠b
def Inv.fpOk(I:Inv X aa Z H s)(hb:s.heap.objs.size<=b)(hn:H' b=M):Zcg X aa H' b:=by
 refine⟨hn,Nat.ne_of_gt (Ot I.lt hb),I.nofs hb,.inr (OE I.sz hb),λx c e z=>?_,λp hp z=>?_⟩
 . obtain⟨v,q⟩:=I.cell x c e;exact absurd (Ot q.lt (by rw[z];exact hb)) (Yv _)
 . exact absurd (Ot (Ym (I.pin p hp).1) (by rw[z];exact hb)) (Yv _)
structure Turn(P:Yh)(w:Yg)(K:Yk)(tg:Expr)(qb:It)(fp:List Yi)(it:Yi)(tn:Nat->YG->Prop):Prop where
 mem:it∈fp
 obj:∀i h,tn i h->∀b∈fp,∃o,h.get? b=J o/\∀v,o.data≠.cell v
 keep:∀i h h',tn i h->(∀b∈fp,∀o,h.get? b=J o->h'.get? b=J o)->tn i h'
 item:∀(X:Cx),X.prog=P->X.w=w->X.K=K->X.calm=Wx->∀(i:Nat) (aa:List (Yi×Obj)) (s:Yb) (Z:St) (H:Hp) (E:Yj->Yb->Prop),Inv X aa Z H s->(∀b∈fp,Zcg X aa H b)->tn i s.heap->qb.go i H ->
  YB (model P w) X.A (pyNext (.ref it)) (λr s1=>∃u,r=J u /\
   YB (model P w) X.A (letOwnedTupleGo tg (.ref it) u) (λ_ s2=>∃x H',Inv X aa Z H' s2/\RelV x u/\qb.yld i H x H'/\tn (i+1) s2.heap/\∀b∈fp,H' b=M) E s1) E s
 done:∀(X:Cx),X.prog=P->X.w=w->X.K=K->X.calm=Wx->∀(i:Nat) (aa:List (Yi×Obj)) (s:Yb) (Z:St) (H:Hp) (E:Yj->Yb->Prop),Inv X aa Z H s->(∀b∈fp,Zcg X aa H b)->tn i s.heap->qb.stop i H ->
  YB (model P w) X.A (pyNext (.ref it)) (λr s1=>r=M/\Inv X aa Z H s1) E s
 self:∀(A:YH) (i:Nat) (s:Yb) (Q:Yj->Yb->Prop) (E:Yj->Yb->Prop),tn i s.heap->Q (.ref it) s->YB (model P w) A (pyIter (.ref it)) Q E s
abbrev TI:=St->Hp->(It->Hp->Prop)->Prop
def PIE(X:Cx)(aa:List (Yi×Obj))(Z:St)(tg:Expr)(qe:It->Hp->Prop)(gC:Yj)(s2:Yb):Prop:=∃(it:Yi) (fp:List Yi) (tn:Nat->YG->Prop) (qb:It) (H':Hp),gC=.ref it/\Inv X aa Z H' s2/\Turn X.prog X.w X.K tg qb fp it tn/\tn 0 s2.heap/\(∀b∈fp,Zcg X aa H' b)/\qe qb H'
def PI(X:Cx)(tg iter:Expr)(wi:TI):Prop:=
 ∀(aa:List (Yi×Obj)) (s:Yb) (Z:St) (H:Hp) (qe:It->Hp->Prop),Inv X aa Z H s->wi Z H qe ->
  YB (model X.prog X.w) X.A (eval iter X.env) (λv s1=>YB (model X.prog X.w) X.A (pyIter v) (PIE X aa Z tg qe) X.xe s1) X.xe s
theorem Zk2(ho:s.heap.get? it=J o)(hc:o.cls=.type n)(hd:o.data=.fields vs)
   (hn:["enumerate", "zip", "dict_itemiterator", "dict_reverseitemiterator", "odict_iterator", "itertools.zip_longest", "itertools.pairwise"].contains n=Wy) (hQ:Q () s):YB qd A (letOwnedTupleGo tg (.ref it) u) Q E s:=by
 unfold letOwnedTupleGo;cases tg<;>first
   |exact Yc hQ
   | (cases u<;>first
       |exact Yc hQ
       | (refine Ya (wpAny_load ho ?_)
          rw [hc,hd];show YB qd A (if (["enumerate", "zip", "dict_itemiterator", "dict_reverseitemiterator", "odict_iterator", "itertools.zip_longest", "itertools.pairwise"].contains n&&vs[0]?==J (rawInt _))=Wx then _ else _) Q E s;rw [if_neg (by intro h;rw [hn,Bool.false_and] at h;cases h)];exact Yc hQ))
noncomputable def Itl(K:Yk)(a:Yi):It:=⟨λi H=>∃xs x,SqL K H a xs/\xs[i]?=J x,λi H x H'=>H'=H/\∀xs,SqL K H a xs->xs[i]?=J x,λi H=>∃xs,SqL K H a xs/\xs.length<=i⟩
noncomputable def Itt(K:Yk)(a:Yi):It:=⟨λi H=>∃xs x,SqT K H a xs/\xs[i]?=J x,λi H x H'=>H'=H/\∀xs,SqT K H a xs->xs[i]?=J x,λi H=>∃xs,SqT K H a xs/\xs.length<=i⟩
noncomputable def Itr(lo:Int)(n:Nat):It:=⟨λi _=>i<n,λi H x H'=>H'=H/\x=.int (lo+i),λi _=>n<=i⟩
def Zn8{P:Yh}{w:Yg}{K:Yk}{tg:Expr}(a it:Yi):Turn P w K tg (Itl K a) [it] it (λi h=>h.IsListIter it a i) where
 mem:=by simp
 obj:=λi h st b hb=>by
  have e:b=it:=by simpa using hb
  subst e;obtain⟨o,e,c,d⟩:=st;exact⟨o,e,λv z=>by rw[d]at z;cases z⟩
 keep:=λi h h' st k=>st.at λo e=>k it (by simp) o e
 item:=by intro X hP hw hK hc i aa s Z H E I hf st hg;subst hP hw hK;obtain⟨xs,x,hq,hx⟩:=hg;obtain⟨its,rv,p,hz⟩:=I.list hq;obtain⟨u,hu,ru⟩:=rv.get hx;obtain⟨f0,f1,f2,f3,f4,f5⟩:=hf it (by simp);refine wpAny_pyNext_list_item st p.isList (x:=u) (by simpa using hu) λh' bf sb=>?_;have I1:Inv X aa Z H {s with heap:=h'}:=I.turned (t':=s.toks) (λb o hb e=>(sb.2 b hb).trans e) f0 f1 f3 f4 f5;obtain⟨o,e,c,d⟩:=id bf;exact⟨u,rfl,Zk2 (s:={s with heap:=h'}) e c d (by decide) ⟨x,H,I1,ru,⟨rfl,λys hy=>by rw[I.list_inj hy hq];exact hx⟩,bf,λb hb=>(hf b hb).1⟩⟩
 done:=by intro X hP hw hK hc i aa s Z H E I hf st hg;subst hP hw hK;obtain⟨xs,hq,hx⟩:=hg;obtain⟨its,rv,p,hz⟩:=I.list hq;obtain⟨f0,f1,f2,f3,f4,f5⟩:=hf it (by simp);have hl:=rv.length;exact wpAny_pyNext_list_end (I.ok.hd hc) st p.isList (by simp;lia) λh' eb=>⟨rfl,I.turned (t':=s.toks) (λb o hb e=>eb b o hb e) f0 f1 f3 f4 f5⟩
 self:=λ_ _ _ _ _ st h=>wpAny_pyIter_listiter st h
def ZlH{P:Yh}{w:Yg}{K:Yk}{tg:Expr}(a it:Yi):Turn P w K tg (Itt K a) [it] it (λi h=>h.IsTupleIter it a i) where
 mem:=by simp
 obj:=λi h st b hb=>by
  have e:b=it:=by simpa using hb
  subst e;obtain⟨o,e,c,d⟩:=st;exact⟨o,e,λv z=>by rw[d]at z;cases z⟩
 keep:=λi h h' st k=>st.at λo e=>k it (by simp) o e
 item:=by intro X hP hw hK hc i aa s Z H E I hf st hg;subst hP hw hK;obtain⟨xs,x,hq,hx⟩:=hg;obtain⟨its,rv,p,hz⟩:=I.tuple hq;obtain⟨u,hu,ru⟩:=rv.get hx;obtain⟨f0,f1,f2,f3,f4,f5⟩:=hf it (by simp);refine wpAny_pyNext_tuple_item st (show s.heap.IsTuple a its.toArray from p) (x:=u) (by simpa using hu) λh' bf sb=>?_;have I1:Inv X aa Z H {s with heap:=h'}:=I.turned (t':=s.toks) (λb o hb e=>(sb.2 b hb).trans e) f0 f1 f3 f4 f5;obtain⟨o,e,c,d⟩:=id bf;exact⟨u,rfl,Zk2 (s:={s with heap:=h'}) e c d (by decide) ⟨x,H,I1,ru,⟨rfl,λys hy=>by rw[I.tuple_inj hy hq];exact hx⟩,bf,λb hb=>(hf b hb).1⟩⟩
 done:=by intro X hP hw hK hc i aa s Z H E I hf st hg;subst hP hw hK;obtain⟨xs,hq,hx⟩:=hg;obtain⟨its,rv,p,hz⟩:=I.tuple hq;obtain⟨f0,f1,f2,f3,f4,f5⟩:=hf it (by simp);have hl:=rv.length;exact wpAny_pyNext_tuple_end (I.ok.hd hc) st (show s.heap.IsTuple a its.toArray from p) (by simp;lia) λh' eb=>⟨rfl,I.turned (t':=s.toks) (λb o hb e=>eb b o hb e) f0 f1 f3 f4 f5⟩
 self:=λ_ _ _ _ _ st h=>wpAny_pyIter_tupleiter st h
theorem ZlI{P:Yh}{w:Yg}{K:Yk}{tg:Expr}(it:Yi)(lo:Int)(n:Nat):Turn P w K tg (Itr lo n) [it] it (λi h=>IsRangeIter h it (lo+(i:Nat)*1) ((n:Int)-(i:Nat)) 1) where
 mem:=by simp
 obj:=λi h st b hb=>by
   have e:b=it:=by simpa using hb
   subst e;exact⟨_,st,λv z=>by
     have z':Data.fields _=Data.cell v:=z;cases z'⟩
 keep:=λi h h' st k=>k it (by simp) _ st
 item:=by
   intro X hP hw hK hc i aa s Z H E I hf st hg;subst hP hw hK;obtain⟨f0,f1,f2,f3,f4,f5⟩:=hf it (by simp);have W:=Walks.range (prog:=X.prog) (w:=X.w) (I.ok.hd hc) it lo 1 n;refine W.item i s _ _ hg st λv h' tk hv bf kk=>?_;obtain⟨t,rfl⟩:=hv;have I1:Inv X aa Z H {s with heap:=h',toks:=tk}:=I.turned (λb o hb e=>kk b o (by simpa using hb) e) f0 f1 f3 f4 f5;refine⟨_,rfl,Zk2 (s:={s with heap:=h',toks:=tk}) (n := "range_iterator") bf rfl rfl (by decide) ⟨.int (lo+i),H,I1,⟨t,?_⟩,⟨rfl,rfl⟩,bf,λb hb=>(hf b hb).1⟩⟩;rw [Int.mul_one]
 done:=by
   intro X hP hw hK hc i aa s Z H E I hf st hg;subst hP hw hK;obtain⟨f0,f1,f2,f3,f4,f5⟩:=hf it (by simp);exact wpAny_pyNext_range_end (I.ok.hd hc) st (by have:n<=i:=hg;lia) λh' eb=>⟨rfl,I.turned (t':=s.toks) (λb o hb e=>eb b o hb e) f0 f1 f3 f4 f5⟩
 self:=λ_ _ _ _ _ st h=>wpAny_pyIter_rangeiter st h
section
variable {X:Cx}{tg:Expr}
def ZpP{aa:List (Yi×Obj)}{Z:St}{H:Hp}{s:Yb}{qe:It->Hp->Prop}{E:Yj->Yb->Prop}{lo hi:Int}{t u v:Tok}{tk:Nat}(I:Inv X aa Z H s)(R:-(2^62)<=lo)(h2:lo<2^62)(h3:-(2^62)<=hi)(h4:hi<2^62)
 (q:qe (Itr lo (hi-lo).toNat) H):YB (model X.prog X.w) X.A (pyIter (.ref s.heap.objs.size)) (PIE X aa Z tg qe) E {s with heap:=s.heap.push {cls:=.type "range",data:=.fields #[.int lo t,.int hi u,.int 1 v]},toks:=tk}:=by
 refine wpAny_pyIter_range (IsRange.new ..) (small_one R h2 h3 h4) ?_;have I1:Inv X aa Z H {s with heap:=s.heap.push {cls:=.type "range",data:=.fields #[.int lo t,.int hi u,.int 1 v]},toks:=tk}:=I.kept λb o e=>Od _ e;refine⟨(s.heap.push {cls:=.type "range",data:=.fields #[.int lo t,.int hi u,.int 1 v]}).objs.size,[(s.heap.push {cls:=.type "range",data:=.fields #[.int lo t,.int hi u,.int 1 v]}).objs.size],_,_,H,rfl,
  I1.kept (t':=tk) λb o e=>Od _ e,ZlI _ lo (hi-lo).toNat,?_,λb hb=>?_,q⟩
 . have e1:lo+((0:Nat):Int)*1=lo:=by simp
   have e2:(((hi-lo).toNat:Nat):Int)-((0:Nat):Int)=Builtin.Range.rangeSize lo hi 1:=by rw[rangeSize_one];split<;>lia
   show IsRangeIter _ _ (lo+((0:Nat):Int)*1) ((((hi-lo).toNat:Nat):Int)-((0:Nat):Int)) 1;rw[e1,e2];exact Oj _ rfl
 . have e:b=(s.heap.push {cls:=.type "range",data:=.fields #[.int lo t,.int hi u,.int 1 v]}).objs.size:=by simpa using hb
   subst e;exact I1.fpOk (Oq _) (I1.hok.fresh (Oq _))
def ZxR(ta:TA):TI:=λZ H qe=>ta Z H λvs H1=>∃j:Int,vs=[.int j]/\-(2^62)<=j/\j<2^62/\qe (Itr 0 j.toNat) H1
def ZoA{a:Expr}{ta:TA}{p pos:Pos}(hg:Gl X "range")(hm:X.mg "range"=M)(ha:PA X [a] ta)(hs:YA [a] X.env=[(Wy,eval a X.env)]:=by rfl):PI X tg (.Call (.Name "range" p) [a] [] pos) (ZxR ta):=by
 intro aa s Z H qe I h;refine Call_ (Zdu I hg hm boot_range (PyProof.Rows.callWith_type1 (thn (ha pos aa s Z H _ I h) λus s1 ⟨vs,H1,I1,r1,q1⟩=>?_) hs rfl));obtain⟨j,e,q1,q2,q⟩:=q1;subst e;cases r1 with
 |cons r rr=>cases rr;obtain⟨t,rfl⟩:=r;exact call_range_1 (ZpP I1 (by lia) (by lia) q1 q2 (by simpa using q))
def ZyD(wi:TI)(g:TG)(tb:TS):TS:=λD Z H=>wi Z H λqb H1=>∃W:Nat->Nat->St->Hp->Prop,(∃m,W 0 m Z H1)/\∀i m Z H,W i m Z H ->
 (qb.stop i H/\D.nx Z H)\/(qb.go i H/\∃N:St->Hp->Prop,(∀σ' H',N σ' H'->∃m',m'<m/\W (i+1) m' σ' H')/\∀x H',qb.yld i H x H'->g x Z H' λσ2 H2=>tb {D with nx:=N,ct:=N,bk:=D.nx} σ2 H2)
noncomputable def ZhR(fp:List Yi)(h:YG):List (Yi×Obj):=fp.filterMap λb=>(h.get? b).map λo=>(b,o)
def Zds(hb:b∈fp)(e:h.get? b=J o):(b,o)∈ZhR fp h:=List.mem_filterMap.mpr ⟨b,hb,by rw[e];rfl⟩
def ZoJ(hp:p∈ZhR fp h):p.1∈fp/\h.get? p.1=J p.2:=by
 obtain⟨b,hb,e⟩:=List.mem_filterMap.mp hp;cases q:h.get? b with
 |none=>rw[q]at e;cases e
 |some o=>rw[q]at e;have e':(b,o)=p:=YF e;subst e';exact⟨hb,q⟩
def Inv.pinned(I:Inv X aa Z H s)(hf:∀b∈fp,Zcg X aa H b)(ho:∀b∈fp,∃o,s.heap.get? b=J o/\∀v,o.data≠.cell v):Inv X (aa++ZhR fp s.heap) Z H s:=
 I.pins_of λp hp=>(OD.mp hp).elim (λz=>I.pin p (Ov _ z)) λz=>by obtain⟨hb,e⟩:=ZoJ z;obtain⟨f0,f1,f2,_⟩:=hf p.1 hb;obtain⟨o,e',d⟩:=ho p.1 hb;rw[e]at e';cases e';exact⟨e,f0,f1,f2,d⟩
def Inv.unpinned(I:Inv X (aa++pl) Z H s):Inv X aa Z H s:=I.pins_of λp hp=>I.pin p (Ov _ (Yr _ hp))
def ZuU(hp:PassesOwn (model X.prog X.w) X.A X.env X.xe)(hc:X.calm=Wx)(hi:PI X tg iter wi)(hg:PG X tg g)(hb:PSs X body tb)
 (hs:∀x,foldedSetIterable iter X.env x=pure x:=by intro _;rfl):PS X (.For tg iter body [] pos) (ZyD wi g tb):=by
 intro aa s Z H D I h;refine wpAny_For (thn (hi aa s Z H _ I h) λv s1 R=>thn R λgC s2 h2=>?_) hs;obtain⟨it,fp,tn,qb,H2,e,I2,T,bG,f2,W,⟨m0,w0⟩,turn⟩:=h2;subst e;have bq:∀{H':Hp},(∀b∈fp,H' b=M)->∀b∈fp,Zcg X aa H' b:=λhn b hb=>⟨hn b hb,(f2 b hb).2⟩
 refine codeAny_forLoop_any (λn s'=>∃i σ' H',Inv X aa σ' H' s'/\tn i s'.heap/\(∀b∈fp,H' b=M)/\W i n σ' H') ?_ m0 ⟨0,Z,H2,I2,bG,λb hb=>(f2 b hb).1,w0⟩;rintro n s3 ⟨i,σ3,H3,I3,st3,fr3,w3⟩;rcases turn i n σ3 H3 w3 with⟨stop,qn⟩|⟨go,N,hN,step⟩
 . refine wpAny_passesOwn hp (thn (T.done X rfl rfl rfl hc i aa s3 σ3 H3 X.xe I3 (bq fr3) st3 stop) λr s4 ⟨hr,I4⟩=>?_);subst hr;exact wpAny_execs_nil ⟨σ3,H3,I4,qn⟩
 . refine wpAny_passesOwn hp (thn (T.item X rfl rfl rfl hc i aa s3 σ3 H3 X.xe I3 (bq fr3) st3 go) λr s4 ⟨u,hr,h4⟩=>?_);subst hr;refine wpAny_passesOwn hp (thn h4 λ_ s5 ⟨x,H5,I5,r5,y5,eR,gP⟩=>?_);have mj:=I5.pinned (bq gP) (T.obj _ _ eR);refine wpAny_passesOwn hp (thn (hg _ s5 σ3 H5 x u _ mj r5 (step x H5 y5)) λ_ s6 ⟨σ6,H6,I6,q6⟩=>?_);refine wpAny_passesOwn hp (thn (hb _ s6 σ6 H6 _ I6 q6) λf s7 q7=>?_);have again:∀{σ7:St}{H7:Hp},Inv X (aa++ZhR fp s5.heap) σ7 H7 s7->N σ7 H7->∃m,m<n/\∃i σ' H',Inv X aa σ' H' s7/\tn i s7.heap/\(∀b∈fp,H' b=M)/\W i m σ' H':=λ{σ7 H7} I7 n7=>by obtain⟨m',hm,w7⟩:=hN σ7 H7 n7;refine⟨m',hm,i+1,σ7,H7,I7.unpinned,T.keep _ _ _ eR λb hb o e=>(I7.pin (b,o) (Ov _ (Ov _ (Zds hb e)))).1,λb hb=>?_,w7⟩;obtain⟨o,e,d⟩:=T.obj _ _ eR b hb;exact(I7.pin (b,o) (Ov _ (Ov _ (Zds hb e)))).2.1
   cases f with
   |next=>obtain⟨σ7,H7,I7,n7⟩:=q7;exact again I7 n7
   |cont=>obtain⟨σ7,H7,I7,n7⟩:=q7;exact again I7 n7
   |brk=>obtain⟨σ7,H7,I7,q7⟩:=q7;exact⟨σ7,H7,I7.unpinned,q7⟩
   |ret v=>obtain⟨x7,σ7,H7,I7,r7,q7⟩:=q7;exact⟨x7,σ7,H7,I7.unpinned,r7,q7⟩
end
abbrev R2:=V->V->Hp->VK->Prop
def OpR(X:Cx)(f:Yj->Yj->Sem Yj)(r:R2):Prop:=
 ∀(aa:List (Yi×Obj)) (s:Yb) (Z:St) (H:Hp) (x y:V) (v u:Yj) (Q:VK),Inv X aa Z H s->RelV x v->RelV y u->r x y H Q ->
  YB (model X.prog X.w) X.A (f v u) (EP X aa Z Q) X.xe s
def UnR(X:Cx)(f:Yj->Sem Yj)(r:V->Hp->VK->Prop):Prop:=
 ∀(aa:List (Yi×Obj)) (s:Yb) (Z:St) (H:Hp) (x:V) (v:Yj) (Q:VK),Inv X aa Z H s->RelV x v->r x H Q ->
  YB (model X.prog X.w) X.A (f v) (EP X aa Z Q) X.xe s
def Zb5(X:Cx)(f:Yj)(r:List V->Hp->VK->Prop):Prop:=
 ∀(aa:List (Yi×Obj)) (s:Yb) (Z:St) (H:Hp) (xs:List V) (us:List Yj) (Q:VK),Inv X aa Z H s->Zs xs us->r xs H Q ->
  YB (model X.prog X.w) X.A (call f us) (EP X aa Z Q) X.xe s
def Zzp(X:Cx)(r:V->Hp->(Bool->Hp->Prop)->Prop):Prop:=
 ∀(aa:List (Yi×Obj)) (s:Yb) (Z:St) (H:Hp) (x:V) (v:Yj) (Q:Bool->Hp->Prop),Inv X aa Z H s->RelV x v->r x H Q ->
  YB (model X.prog X.w) X.A (truthy v) (TP X aa Z Q) X.xe s
def tOp(r:R2)(ta tb:TE):TE:=λZ H Q=>ta Z H λx H1=>tb Z H1 λy H2=>r x y H2 Q
noncomputable def tUn(r:V->Hp->VK->Prop)(ta:TE):TE:=λZ H Q=>ta Z H λx H1=>r x H1 Q
noncomputable def rI(C:Int->Int->Prop)(g:Int->Int->V):R2:=λx y H Q=>∃i j,x=.int i/\y=.int j/\C i j/\Q (g i j) H
noncomputable def rI0(g:Int->Int->V):R2:=λx y H Q=>∃i j,x=.int i/\y=.int j/\Q (g i j) H
def rU(g:Int->V):V->Hp->VK->Prop:=λx H Q=>∃i,x=.int i/\Q (g i) H
section
variable {X:Cx}{a b:Expr}{ta tb:TE}{pos:Pos}
def Zwc(ha:PE X a ta)(hb:PE X b tb){aa:List (Yi×Obj)}{s:Yb}{Z:St}{H:Hp}{qe:V->V->Hp->Prop}(I:Inv X aa Z H s)
 (h:ta Z H λx H1=>tb Z H1 λy H2=>qe x y H2) {Q:Yj->Yb->Prop}{f:Yj->Yj->Sem Yj}
 (hf:∀v u s2 x y H2,Inv X aa Z H2 s2->RelV x v->RelV y u->qe x y H2->YB (model X.prog X.w) X.A (f v u) Q X.xe s2) :
 YB (model X.prog X.w) X.A (eval a X.env) (λv s₁=>YB (model X.prog X.w) X.A (eval b X.env) (λu s₂=>YB (model X.prog X.w) X.A (f v u) Q X.xe s₂) X.xe s₁) X.xe s:=by
 refine thn (ha aa s Z H _ I h) λv s1 ⟨x,H1,I1,r1,q1⟩=>?_;refine thn (hb aa s1 Z H1 _ I1 q1) λu s2 ⟨y,H2,I2,r2,q2⟩=>?_;exact hf v u s2 x y H2 I2 r1 r2 q2
def Zxh{op:Operator}{r:R2}(ho:OpR X (binaryOp op) r)(ha:PE X a ta)(hb:PE X b tb):PE X (.BinOp a op b pos) (tOp r ta tb):=by intro aa s Z H Q I h;exact wpAny_BinOp (Zwc ha hb I h λv u s2 x y H2 I2 rx ry q=>ho aa s2 Z H2 x y v u Q I2 rx ry q)
def Zxf{op:UnaryOp}{r:V->Hp->VK->Prop}(ho:UnR X (unaryOp op) r)(ha:PE X a ta):PE X (.UnaryOp op a pos) (tUn r ta):=by intro aa s Z H Q I h;exact UnaryOp_ (thn (ha aa s Z H _ I h) λv s1 ⟨x,H1,I1,r1,q1⟩=>ho aa s1 Z H1 x v Q I1 r1 q1)
def opI{f:Yj->Yj->Sem Yj}{C:Int->Int->Prop}{g:Int->Int->Int}
 (rule:∀(i j:Int) (t u:Tok) (s:Yb) (Q:Yj->Yb->Prop) (E:Yj->Yb->Prop),C i j->Q (.int (g i j) s.toks) {s with toks:=s.toks+1}->YB (model X.prog X.w) X.A (f (.int i t) (.int j u)) Q E s) :
 OpR X f (rI C λi j=>.int (g i j)):=by
 intro aa s Z H x y v u Q I rx ry h;obtain⟨i,j,rfl,rfl,hc,q⟩:=h;obtain⟨t,rfl⟩:=rx;obtain⟨t',rfl⟩:=ry;exact rule i j t t' s _ _ hc ⟨.int (g i j),H,I.tok _,⟨_,rfl⟩,q⟩
def Zxs{g:Int->Int->Int}
 (rule:∀(i j:Int) (t u:Tok) (s:Yb) (Q:Yj->Yb->Prop) (E:Yj->Yb->Prop),Q (.int (g i j) s.toks) {s with toks:=s.toks+1}->YB (model X.prog X.w) X.A (f (.int i t) (.int j u)) Q E s) :
 OpR X f (rI0 λi j=>.int (g i j)):=by
 intro aa s Z H x y v u Q I rx ry h;obtain⟨i,j,rfl,rfl,q⟩:=h;obtain⟨t,rfl⟩:=rx;obtain⟨t',rfl⟩:=ry;exact rule i j t t' s _ _ ⟨.int (g i j),H,I.tok _,⟨_,rfl⟩,q⟩
def ZsH{g:Int->Int->Bool}
 (rule:∀(i j:Int) (t u:Tok) (s:Yb) (Q:Yj->Yb->Prop) (E:Yj->Yb->Prop),Q (.bool (g i j)) s->YB (model X.prog X.w) X.A (f (.int i t) (.int j u)) Q E s) :
 OpR X f (rI0 λi j=>.bl (g i j)):=by
 intro aa s Z H x y v u Q I rx ry h;obtain⟨i,j,rfl,rfl,q⟩:=h;obtain⟨t,rfl⟩:=rx;obtain⟨t',rfl⟩:=ry;exact rule i j t t' s _ _ ⟨.bl (g i j),H,I,rfl,q⟩
def Zzr(i j:Int):Prop:=0<j/\j<1073741824
def Zzq(i j:Int):Prop:=0<=j/\j<=1000000/\i.natAbs<2^64
def Zvi:OpR X (binaryOp .Add) (rI0 λi j=>.int (i+j)):=Zxs λ_ _ _ _ _ _ _ q=>add_int q
def Zvc:OpR X (binaryOp .Sub) (rI0 λi j=>.int (i-j)):=Zxs λ_ _ _ _ _ _ _ q=>sub_int q
def Zsw:OpR X (binaryOp .FloorDiv) (rI Zzr λi j=>.int (i/j)):=opI λi j _ _ _ _ _ hc q=>by have R:(0:Int)<j:=hc.1;have h2:j<1073741824:=hc.2;exact floordiv_int (by lia) (by rw[Int.fdiv_eq_ediv_of_nonneg i (by lia)];exact q) (.inl (PyProof.noPylong_small (by lia)))
def Zve:OpR X (binaryOp .Mod) (rI (λ_ j=>0<j) λi j=>.int (i%j)):=opI λi j _ _ _ _ _ hc q=>by have R:(0:Int)<j:=hc;exact mod_int' (by lia) (by rw[Int.fmod_eq_emod_of_nonneg i (by lia)];exact q)
def Zvd:OpR X (binaryOp .Pow) (rI Zzq λi j=>.int (i^j.toNat)):=opI λ_ _ _ _ _ _ _ hc q=>pow_int_small hc.1 hc.2.1 hc.2.2 q
def unI{g:Int->Int}
 (rule:∀(i:Int) (t:Tok) (s:Yb) (Q:Yj->Yb->Prop) (E:Yj->Yb->Prop),Q (.int (g i) s.toks) {s with toks:=s.toks+1}->YB (model X.prog X.w) X.A (f (.int i t)) Q E s) :
 UnR X f (rU λi=>.int (g i)):=by
 intro aa s Z H x v Q I rx h;obtain⟨i,rfl,q⟩:=h;obtain⟨t,rfl⟩:=rx;exact rule i t s _ _ ⟨.int (g i),H,I.tok _,⟨_,rfl⟩,q⟩
def Zuh:UnR X (unaryOp .USub) (rU λi=>.int (-i)):=unI λ_ _ _ _ _ q=>neg_int q
def Zmp(I:Inv X aa Z H s)(q:Q (.bl k) H)(e:k=k'):EP X aa Z Q (.bool k') s:=by subst e;exact⟨.bl k,H,I,rfl,q⟩
def Zxm:OpR X (YM .Lt) (rI0 λi j=>.bl (Wz (i<j))):=ZsH λ_ _ _ _ _ _ _ q=>lt_int q
def Zxn:OpR X (YM .LtE) (rI0 λi j=>.bl (Wz (i<=j))):=ZsH λ_ _ _ _ _ _ _ q=>le_int q
def Zxo:OpR X (YM .Gt) (rI0 λi j=>.bl (Wz (j<i))):=ZsH λ_ _ _ _ _ _ _ q=>gt_int q
def Zxp:OpR X (YM .GtE) (rI0 λi j=>.bl (Wz (j<=i))):=ZsH λ_ _ _ _ _ _ _ q=>ge_int q
def Zvf:OpR X (YM .Is) (λx y H Q=>y=.non/\Q (.bl (Wz (x=.non))) H):=by
 intro aa s Z H x y v u Q I rx ry h;obtain⟨rfl,q⟩:=h;cases ry;refine is_none_gen (Zmp I q ?_);cases x<;>first
  |(cases rx;rfl)
  |(obtain⟨t,rfl⟩:=rx;rfl)
def Zsu:OpR X (YM .IsNot) (λx y H Q=>y=.non/\Q (.bl (!Wz (x=.non))) H):=by
 intro aa s Z H x y v u Q I rx ry h;obtain⟨rfl,q⟩:=h;cases ry;refine isnot_none_gen (Zmp I q ?_);cases x<;>first
  |(cases rx;rfl)
  |(obtain⟨t,rfl⟩:=rx;rfl)
def Znj{op:CmpOp}{r:R2}(ho:OpR X (YM op) r)(ha:PE X a ta)(hb:PE X b tb)(hm:behindInMarks op b=Wy):PE X (.Compare a [op] [b] pos) (tOp r ta tb):=by intro aa s Z H Q I h;exact wpAny_Compare1 (Zwc ha hb I h λv u s2 x y H2 I2 rx ry q=>ho aa s2 Z H2 x y v u Q I2 rx ry q) hm
noncomputable def ZwF(t:TE):TT:=λZ H Q=>t Z H λx H'=>∃k,x=.bl k/\Q k H'
def Zne{op:CmpOp}{r:R2}(ho:OpR X (YM op) r)(ha:PE X a ta)(hb:PE X b tb)(hm:behindInMarks op b=Wy):PT X (.Compare a [op] [b] pos) (ZwF (tOp r ta tb)):=by
 intro aa s Z H Q I h;refine wpAny_isTrue_Compare1 (thn (ha aa s Z H _ I h) λv s1 ⟨x,H1,I1,r1,q1⟩=>thn (hb aa s1 Z H1 _ I1 q1) λu s2 ⟨y,H2,I2,r2,q2⟩=>thn (ho aa s2 Z H2 x y v u _ I2 r1 r2 q2) λc s3 ⟨z,H3,I3,r3,k,e,q3⟩=>?_) hm
 subst e;cases r3;exact wpAny_truthy_bool ⟨H3,I3,q3⟩
def Zwh(K:Yk)(x:V)(H:Hp)(k:Bool):Prop:=
 match x with
 |.non=>k=Wy
 |.bl b=>k=b
 |.int i=>k=(i != 0)
 |.str y=>y.length<=sizeLine/\k=((y.length:Int) != 0)
 |.byt y=>y.size<=sizeLine/\k=((y.size:Int) != 0)
 |.ref p=>(∃xs,SqL K H p xs/\k=!xs.isEmpty)\/(∃xs,SqT K H p xs/\k=!xs.isEmpty)\/∃kvs,H p=J (.dK kvs)/\k=!kvs.isEmpty
 |_=>False
def Zmm(r:KV kvs vs):(!vs.isEmpty)=!kvs.isEmpty:=by cases r<;>rfl
def Zh1(r:Zs xs its):(!its.toArray.isEmpty)=!xs.isEmpty:=by cases r<;>simp
def Zcm:(sizeLine:Nat)<2^63:=by rw[YC];decide
def Zuo:Zzp X (λx H Q=>∃k,Zwh X.K x H k/\Q k H):=by
 intro aa s Z H x v Q I rx h;obtain⟨k,e,q⟩:=h;have hl:=Zcm;have hs:sizeLine=16777216:=YC;cases x with
 |non=>cases rx;have e':k=Wy:=e;subst e';exact truthy_none ⟨H,I,q⟩
 |bl b=>cases rx;have e':k=b:=e;subst e';exact wpAny_truthy_bool ⟨H,I,q⟩
 |int i=>obtain⟨t,rfl⟩:=rx;have e':k=(i != 0):=e;subst e';exact PySem.P.truthy_int ⟨H,I,q⟩
 |str y=>obtain⟨t,rfl⟩:=rx;obtain⟨hy,e'⟩:y.length<=sizeLine/\k=((y.length:Int) != 0):=e;subst e';exact PySem.P.truthy_str (by lia) ⟨H,I.tok _,q⟩
 |byt y=>obtain⟨t,rfl⟩:=rx;obtain⟨hy,e'⟩:y.size<=sizeLine/\k=((y.size:Int) != 0):=e;subst e';exact PySem.W.truthy_bytes (by lia) ⟨H,I.tok _,q⟩
 |ref p=>
  cases rx;have e':(∃xs,SqL X.K H p xs/\k=!xs.isEmpty)\/(∃xs,SqT X.K H p xs/\k=!xs.isEmpty)\/∃kvs,H p=J (.dK kvs)/\k=!kvs.isEmpty:=e;rcases e' with⟨xs,hx,e'⟩|⟨xs,hx,e'⟩|⟨kvs,hx,e'⟩
  . subst e';obtain⟨its,r,pl,hz⟩:=I.list hx;have ak:=r.length;exact wpAny_truthy_list pl.isList (by simp only[Of];lia) ⟨H,I.tok _,by rw[Zh1 r];exact q⟩
  . subst e';obtain⟨its,r,pl,hz⟩:=I.tuple hx;have ak:=r.length;exact truthy_tuple pl (by simp only[Of];lia) ⟨H,I.tok _,by rw[Zh1 r];exact q⟩
  . subst e';obtain⟨hz,hS,vs,r,m⟩:kvs.length<=sizeLine/\(p==Ye)=Wy/\∃vs,KV kvs vs/\s.heap.DictOf (ZZ X.prog X.w) p vs:=I.hok p _ hx;have ak:kvs.length=vs.length:=Paired.length r;exact wpAny_truthy_dict hS m (by lia) ⟨H,I.tok _,by rw[Zmm r];exact q⟩
 |_=>exact(show False from e).elim
def Zp6(ha:PE X a ta)(he:∀aJ,isTrue a X.env aJ=(do let v <- aJ;standAt a.pos;holding [v] (truthy v))):
 PT X a (λZ H Q=>ta Z H λx H'=>∃k,Zwh X.K x H' k/\Q k H'):=by
 intro aa s Z H Q I h;exact isTrue_plain (thn (ha aa s Z H _ I h) λv s1 ⟨x,H1,I1,r1,q1⟩=>Zuo aa s1 Z H1 x v Q I1 r1 q1) (he _)
def Zl3:OpR X (binaryOp .Add) (λx y H Q=>∃i j,x=.str i/\y=.str j/\i.length+j.length<=sizeLine/\Q (.str (i++j)) H):=by intro aa s Z H x y v u Q I rx ry h;obtain⟨i,j,rfl,rfl,hz,q⟩:=h;obtain⟨t,rfl⟩:=rx;obtain⟨t',rfl⟩:=ry;exact add_str (λt' tk=>⟨.str (i++j),H,I.tok _,⟨_,rfl⟩,q⟩) hz
def vals1{x:V}{us:List Yj}(r:Zs [x] us):∃u,us=[u]/\RelV x u:=by
 cases r with
 |cons r1 r2=>cases r2;exact⟨_,rfl,r1⟩
def vals2{x y:V}{us:List Yj}(r:Zs [x,y] us):∃u w',us=[u,w']/\RelV x u/\RelV y w':=by
 cases r with
 |cons r1 r2=>
  cases r2 with
  |cons r3 r4=>cases r4;exact⟨_,_,rfl,r1,r3⟩
def Zjm:Zb5 X (.type "int") (λxs H Q=>(∃i,xs=[.int i]/\Q (.int i) H)\/∃k,xs=[.bl k]/\Q (.int (if k then 1 else 0)) H):=by
 intro aa s Z H xs us Q I r h;rcases h with⟨i,rfl,q⟩|⟨k,rfl,q⟩
 . obtain⟨u,rfl,t,rfl⟩:=vals1 r;exact call_int_int ⟨.int i,H,I,⟨_,rfl⟩,q⟩
 . obtain⟨u,rfl,r1⟩:=vals1 r;cases r1;exact call_int_bool ⟨.int (if k then 1 else 0),H,I.tok _,⟨_,rfl⟩,q⟩
end
structure ObjM(h:YG)(x dx C:Yi)(mA:Str->Option Yj):Prop where
 obj:h.get? x=J (Wj C dx)
 ns:h.Ns1 dx mA
 ne:dx≠x
def ZoO{h:YG}(n:h.Ns1 dx mA):∃od,h.get? dx=J od/\∀name,PySem.W.lookIn name od=J (mA name):=by
 obtain⟨o,es,ep,ho,hd,hk,_,hm⟩:=n;refine⟨o,ho,λname=>?_⟩;have e:=hm name;unfold nsFind findBy at e;rw[<-Array.find?_toList]at e;unfold PySem.W.lookIn;rw[hd];dsimp only;split
 . rename_i y q;rw[q]at e;exact congrArg J e
 . rename_i q;rw[q]at e;have a:es.toList.any (·.refKey)=Wy:=by rw[List.any_eq_false];intro y hy;obtain⟨z,t,dN⟩:=hk y (Array.mem_toList_iff.mp hy);simp[DictEntry.refKey,dN]
   have a':¬ es.toList.any (·.refKey)=Wx:=by rw[a];exact Ow
   rw[if_neg a'];exact congrArg J e
def ObjM.look(I:ObjM h x dx C mA):∃od,PySem.W.InstAt h x (Wj C dx) C (J od)/\∀name,PySem.W.lookIn name od=J (mA name):=
 let⟨od,ho,hl⟩:=ZoO I.ns
 ⟨od,⟨I.obj,rfl,rfl,ho⟩,hl⟩
section
variable {prog:Yh}{w:Yg}{A:YH}{E:Yj->Yb->Prop}{s:Yb}{K:Yk}{x dx C f:Yi}{mA:Str->Option Yj}{name:Str}{v:Yj}
def Zs7(X:K.In s.heap)(I:ObjM s.heap x dx C mA)(hg:PySem.W.plainGet K C name=Wx)(hh:PySem.W.hasDictIn K C=Wx)
 (ha:YJ K (.ref C) name=J M) (hv:mA name=J v) (gE:PySem.W.handedIn v=Wx) (h:Q v {s with toks:=s.toks+1}) :
 YB (model prog w) A (getAttr (.ref x) name expr) Q E s:=by
 obtain⟨od,qb,hl⟩:=I.look;exact PySem.W.get_value X qb (PySem.W.plainGet_of hg).1 (PySem.W.findObj_own hh ha rfl (by rw[hl,hv])) gE h
def ZqW(X:K.In s.heap)(I:ObjM s.heap x dx C mA)(hg:PySem.W.plainGet K C name=Wx)
 (hf:YJ K (.ref C) name=J (J (.ref f))) (ht:PySem.W.isFn K (.ref f)=Wx) (hv:mA name=M) (h:Q (.ref f,[.ref x]) s) :
 YB (model prog w) A (getMethod (.ref x) name pl) Q E s:=by
 obtain⟨od,qb,hl⟩:=I.look;exact PySem.W.method_fn X qb (PySem.W.plainGet_of hg).1 (PySem.W.plainGet_of hg).2 hf (beq_iff_eq.mp ht) (by show(PySem.W.lookIn name od).map (·.isSome)=J Wy;rw[hl,hv];rfl) h
def ZrV(X:K.In s.heap)(I:ObjM s.heap x dx C mA)
 (hs:YJ K (.ref C) "__setattr__"=J (J (.builtin "object.__setattr__"))) (hp:PySem.W.plainOver K C=Wx) (ht:PySem.W.takerIn K C name=J M) (hh:PySem.W.hasDictIn K C=Wx)
 (hw:PySem.Within mA ns) (hsz:ns.length<=sizeLine)
 (h:∀h',ObjM h' x dx C (λy=>if y=name then J v else mA y)->Heap.SameBut dx s.heap h'->Q () {s with heap:=h',toks:=s.toks+2}) :
 YB (model prog w) A (setAttr (.ref x) name v) Q E s:=by
 obtain⟨od,qb,hl⟩:=I.look;refine PySem.W.set_plain X qb hs (PySem.W.osa_open (s:={s with toks:=s.toks+1}) (r:=M) X qb hp ht λb=>?_);obtain⟨cd,hc,iW⟩:=PySem.W.any_some hh;have hx:s.heap.get? x=J ⟨.ref C,J dx,.plain,#[]⟩:=I.obj;refine Ya (Yc (Ya (Ya (wpAny_loadPart hx (Ya (PySem.W.Looks.here (s:={s with toks:=s.toks+1}) (PySem.W.looks_clsIn X hc) ?_))))));rw[iW];refine Yc (a:=J dx) (Ya (Yc (Ya ?_)));refine wpAny_nsSet1 (s:={s with toks:=s.toks+1}) I.ns λh' gI gF=>?_;obtain⟨oD,mX,mY,k4,lF,lH⟩:=gI.count (PySem.Within.cons name v hw);refine Ya (wpAny_lookBehind k4 (by rw[lF];exact pastItsLine_dict (OE lH (by rw[Os];lia))) ?_);exact Yc (h _ ⟨(gF.2 _ (YL I.ne)).trans I.obj,gI,I.ne⟩ gF)
def ZqE(X:K.In s.heap)(hm:PySem.W.makesIn K C=Wx)
 (hi:YJ K (.ref C) "__init__"=J (J (.ref f))) (hf:PySem.W.typeIn K (.ref f)=J (.type "function"))
 (h:codeAny (model prog w) (A.under (.builtin "type.__call__" ⟨.ref C::vs,kw⟩)) (.call (.ref f) ⟨.ref (s.heap.objs.size+1)::vs,kw⟩) (PySem.W.InitBack (s.heap.objs.size+1) qe)
  {s with heap:=(s.heap.push YT).push (Wj C s.heap.objs.size)}) :
 codeAny (model prog w) A (.call (.ref C) ⟨vs,kw⟩) qe s:=by
 obtain⟨hh,g,d,t,os⟩:=s;exact PySem.W.make_core (PySem.W.makes_of X hm) (PySem.W.looks_findIn X hi) (λself=>PySem.W.bind_fn X self hf) (.inl rfl) h
end
noncomputable def ZcP(f:Str)(v:V):List (Str×V)->List (Str×V)
 |[]=>[(f,v)]
 |(g,x)::r=>if g=f then(g,v)::r else(g,x)::ZcP f v r
theorem ZgP(f g:Str)(v:V):∀fs:List (Str×V),(ZcP f v fs).lookup g=if g=f then J v else fs.lookup g
 |[]=>by
  show Wm g [(f,v)]=_;by_cases h:g=f
  . have hb:(g==f)=Wx:=beq_iff_eq.mpr h;simp only[Wm,hb,if_pos h]
  . have hb:(g==f)=Wy:=beq_eq_false_iff_ne.mpr h;simp only[Wm,hb,if_neg h]
 |(k,x)::r=>by
  have ih:=ZgP f g v r;rw[show ZcP f v ((k,x)::r)=(if k=f then(k,v)::r else(k,x)::ZcP f v r)from rfl];by_cases hk:k=f
  . rw[if_pos hk];by_cases h:g=k
    . have hb:(g==k)=Wx:=beq_iff_eq.mpr h;simp only[Wm,hb,if_pos (h.trans hk)]
    . have hb:(g==k)=Wy:=beq_eq_false_iff_ne.mpr h;simp only[Wm,hb,if_neg (λe:g=f=>h (e.trans hk.symm))]
  . rw[if_neg hk];by_cases h:g=k
    . have hb:(g==k)=Wx:=beq_iff_eq.mpr h;simp only[Wm,hb,if_neg (λe:g=f=>hk (h.symm.trans e))]
    . have hb:(g==k)=Wy:=beq_eq_false_iff_ne.mpr h;simp only[Wm,hb];exact ih
theorem Zgz(f:Str)(v:V):∀fs:List (Str×V),f∈(ZcP f v fs).map (·.1)/\∀g,g∈fs.map (·.1)->g∈(ZcP f v fs).map (·.1)
 |[]=>⟨by simp[ZcP],λg h=>by simp at h⟩
 |(k,x)::r=>by
  obtain⟨i1,i2⟩:=Zgz f v r;rw[show ZcP f v ((k,x)::r)=(if k=f then(k,v)::r else(k,x)::ZcP f v r)from rfl];by_cases hk:k=f
  . rw[if_pos hk];subst hk;exact⟨by simp,λg h=>by simpa using h⟩
  . rw[if_neg hk];refine⟨?_,λg h=>?_⟩
    . rw[Op];exact Oh _ i1
    . rw[Op]at h ⊢;rcases O3.mp h with e|e
      . exact O3.mpr (.inl e)
      . exact Oh _ (i2 g e)
theorem ZgR(f:Str)(v:V):∀fs:List (Str×V),(ZcP f v fs).length<=fs.length+1
 |[]=>by simp[ZcP]
 |(k,x)::r=>by
  have ih:=ZgR f v r;rw[show ZcP f v ((k,x)::r)=(if k=f then(k,v)::r else(k,x)::ZcP f v r)from rfl];by_cases hk:k=f
  . rw[if_pos hk,Os,Os];lia
  . rw[if_neg hk,Os,Os];lia
def Zgn.some_of(r:Zgn (J v) o):∃u,o=J u/\RelV v u:=by
 cases o with
 |none=>exact(show False from r).elim
 |some u=>exact⟨u,rfl,r⟩
def Zgn.none_of(r:Zgn M o):o=M:=by
 cases o with
 |none=>rfl
 |some u=>exact(show False from r).elim
def ZoV(r:RelV v u):PySem.W.handedIn u=Wx:=by
 cases v with
 |non=>cases (show u=Value.none from r);rfl
 |bl b=>cases (show u=Value.bool b from r);rfl
 |int i=>obtain⟨t,e⟩:=(show ∃t,u=Value.int i t from r);cases e;rfl
 |str x=>obtain⟨t,e⟩:=(show ∃t,u=Value.str x t from r);cases e;rfl
 |byt b=>obtain⟨t,e⟩:=(show ∃t,u=Value.bytes b t from r);cases e;rfl
 |flt b=>obtain⟨t,e⟩:=(show ∃t,u=Value.float b t from r);cases e;rfl
 |ref a=>cases (show u=YD a from r);rfl
 |ty n=>cases (show u=Value.type n from r);rfl
section
variable {P:Yh}{w:Yg}{H:Hp}{h:YG}{a C dx:Yi}{fs:List (Str×V)}
def ZjU(hok:HOk P w H h)(e:H a=J (.ins C dx fs)):∃mA,ObjM h a dx C mA/\(∀f,Zgn (fs.lookup f) (mA f))/\PySem.Within mA (fs.map (·.1))/\fs.length<=1000/\H dx=J (.own a):=by
 obtain⟨d,z,ne,ob,mA,n,r,q⟩:=(show Zat P w H h a (.ins C dx fs)from hok a _ e)
 exact⟨mA,⟨ob,n,ne⟩,r,q,z,d⟩
end
structure Cls(K:Yk)(C:Yi):Prop where
 pg:PySem.W.plainGet K C Str.empty=Wx
 hd:PySem.W.hasDictIn K C=Wx
 po:PySem.W.plainOver K C=Wx
 sa:YJ K (.ref C) "__setattr__"=J (J (.builtin "object.__setattr__"))
def Cls.get{K:Yk}(c:Cls K C)(f:Str):PySem.W.plainGet K C f=Wx:=c.pg
def ZbD(K:Yk)(C:Yi)(f:Str):Prop:=YJ K (.ref C) f=J M
def ZbD.taker{K:Yk}(n:ZbD K C f):PySem.W.takerIn K C f=J M:=by unfold PySem.W.takerIn;rw[show YJ K (.ref C) f=J M from n];rfl
structure Meth(K:Yk)(C:Yi)(m:Str)(f:Yi):Prop where
 at_:YJ K (.ref C) m=J (J (.ref f))
 fn:PySem.W.isFn K (.ref f)=Wx
 kp:Wg K (.ref f)=Wx
section
variable {X:Cx}{aa:List (Yi×Obj)}{Z:St}{H:Hp}{s:Yb}{a C dx:Yi}{fs:List (Str×V)}{f:Str}{v:V}{A:YH}{E:Yj->Yb->Prop}
def Zh5(I:Inv X aa Z H s)(e:H a=J (.ins C dx fs))(c:Cls X.K C)(n:ZbD X.K C f)(l:fs.lookup f=J v)
 (h:∀u s',Inv X aa Z H s'->RelV v u->Q u s'):YB (model X.prog X.w) A (getAttr (.ref a) f b) Q E s:=by
 obtain⟨mA,O_,r,_,_,_⟩:=ZjU I.hok e;obtain⟨u,hu,ru⟩:=Zgn.some_of (v:=v) (o:=mA f) (by rw[<-l];exact r f);exact Zs7 I.kIn O_ (c.get f) c.hd n hu (ZoV ru) (h u _ (I.tok _) ru)
def Zh4(I:Inv X aa Z H s)(e:H a=J (.ins C dx fs))(c:Cls X.K C)(k:Meth X.K C m g)(l:fs.lookup m=M)
 (h:Q (.ref g,[.ref a]) s):YB (model X.prog X.w) A (getMethod (.ref a) m pl) Q E s:=by
 obtain⟨mA,O_,r,_,_,_⟩:=ZjU I.hok e;have hn:mA m=M:=Zgn.none_of (by rw[<-l];exact r m);exact ZqW I.kIn O_ (c.get m) k.at_ k.fn hn h
def ZhN(I:Inv X aa Z H s)(e:H a=J (.ins C dx fs))(c:Cls X.K C)(n:ZbD X.K C f)(hl:fs.length<1000)(ry:RelV y u)
 (h:∀s',Inv X aa Z (upd H a (.ins C dx (ZcP f y fs))) s'->Q () s'):YB (model X.prog X.w) A (setAttr (.ref a) f u) Q E s:=by
 obtain⟨mA,O_,r,wi,_,ho⟩:=ZjU I.hok e;have hz:(fs.map (·.1)).length<=sizeLine:=by rw[Yt,YC];lia
 refine ZrV I.kIn O_ c.sa c.po n.taker c.hd wi hz λh' O' sb=>h _ ?_;have hd:∃o,h'.get? dx=J o:=let⟨o,_,_,e',_⟩:=O'.ns;⟨o,e'⟩;refine I.write (x:=a) (e:=dx) (by rw[e];exact True.intro) (.inr ho) (λb q hb z=>(sb.2 b hb).trans z) hd ?_;refine⟨by rw[Zr O_.ne];exact ho,?_,O_.ne,O'.obj,_,O'.ns,λg=>?_,λg hg=>?_⟩
 . have:=ZgR f y fs;lia
 . show Zgn ((ZcP f y fs).lookup g) (if g=f then J u else mA g);rw[ZgP];by_cases q:g=f
   . rw[if_pos q,if_pos q];exact ry
   . rw[if_neg q,if_neg q];exact r g
 . by_cases q:g=f
   . rw[q];exact(Zgz f y fs).1
   . refine(Zgz f y fs).2 g (wi g λz=>hg ?_);show(if g=f then J u else mA g)=M;rw[if_neg q];exact z
def Inv.made(I:Inv X aa Z H s):Inv X aa Z (upd (upd H s.heap.objs.size (.own (s.heap.objs.size+1))) (s.heap.objs.size+1) (.ins C s.heap.objs.size []))
 {s with heap:=(s.heap.push YT).push (Wj C s.heap.objs.size)}:=by
 have e1:(s.heap.push YT).get? s.heap.objs.size=J YT:=Oj s.heap rfl;have e2:((s.heap.push YT).push (Wj C s.heap.objs.size)).get? (s.heap.objs.size+1)=J (Wj C s.heap.objs.size):=by
  have:=Oj (s.heap.push YT) (o:=Wj C s.heap.objs.size) rfl
  rwa [Heap.size_push]at this
 have e3:(s.heap.push YT).Ns s.heap.objs.size (λ_=>M):=⟨YT,#[],_,e1,rfl,(λe he=>absurd he (by simp)),λ_=>rfl⟩
 have I1:=I.laid (a:=s.heap.objs.size) (o:=.own (s.heap.objs.size+1)) (h':=s.heap.push YT) (t':=s.toks) (λb u q=>Od _ q) (Oq _) ⟨_,e1⟩;refine I1.laid (a:=s.heap.objs.size+1) (o:=.ins C s.heap.objs.size []) (t':=s.toks) (λb u q=>Od _ q) (Nat.le_of_eq (Heap.size_push _ _)) ?_;have ne:s.heap.objs.size≠s.heap.objs.size+1:=Ou (OH _);refine⟨by rw[Zr ne,Zt],Yw _,ne,e2,λ_=>M,(Heap.Ns1.of_empty e3).at λo q=>Od _ q,λ_=>True.intro,λy hy=>absurd rfl hy⟩
def ZtD(hb:attributeBase e f env (eval e env)=eval e env)
 (h:YB (model prog w) A (eval e env) (λo s₁=>YB (model prog w) A (getAttr o f Wx) Q E s₁) E s):YB (model prog w) A (eval (.Attribute e f pos) env) Q E s:=
 Attribute_any_ h (by rw[arm_eval_Attribute,hb])
end
def ZyE(K:Yk)(ta:TE)(f:Str):TE:=λZ H Q=>ta Z H λx H1=>∃a C dx fs v,x=.ref a/\H1 a=J (.ins C dx fs)/\Cls K C/\ZbD K C f/\fs.lookup f=J v/\Q v H1
def ZyL(K:Yk)(ta tv:TE)(f:Str):TS:=λD Z H=>tv Z H λy H1=>ta Z H1 λx H2=>∃a C dx fs,x=.ref a/\H2 a=J (.ins C dx fs)/\Cls K C/\ZbD K C f/\fs.length<1000 /\
 D.nx Z (upd H2 a (.ins C dx (ZcP f y fs)))
def Zyi(X:Cx)(op:Operator)(rd:V->V->Hp->VK->Prop):Prop:=∀(aa:List (Yi×Obj)) (s:Yb) (Z:St) (H:Hp) (x y:V) (u v:Yj) (Q:VK),Inv X aa Z H s->RelV x u->RelV y v->rd x y H Q->YB (model X.prog X.w) X.A (inplaceOp op u v) (EP X aa Z Q) X.xe s
def ZrX(K:Yk)(ta tv:TE)(rd:V->V->Hp->VK->Prop)(f:Str):TS:=λD Z H=>ta Z H λx H1=>∃a C dx fs v,x=.ref a/\H1 a=J (.ins C dx fs)/\Cls K C/\ZbD K C f/\fs.lookup f=J v /\
 tv Z H1 λy H2=>rd v y H2 λz H3=>∃cV be,H3 a=J (.ins C cV be)/\be.length<1000/\D.nx Z (upd H3 a (.ins C cV (ZcP f z be)))
section
variable {X:Cx}{o e value:Expr}{f:Str}{pos bu hW:Pos}{ta tv:TE}
def Zu8(he:PE X e ta)(hb:attributeBase e f X.env (eval e X.env)=eval e X.env):PE X (.Attribute e f pos) (ZyE X.K ta f):=by intro aa s Z H Q I h;refine ZtD hb (thn (he aa s Z H _ I h) λu s1 ⟨x,H1,I1,rx,a,C,dx,fs,v,ex,ea,c,n,l,q⟩=>?_);subst ex;obtain rfl:u=YD a:=rx;exact Zh5 I1 ea c n l λu' s2 I2 ru=>⟨v,H1,I2,ru,q⟩
def ZuV(ha:PE X o ta)(hv:PE X value tv)(hs:swapsWith value (J (.Attribute o f bu)) pos.line X.env=pure Wy):PS X (.Assign [.Attribute o f bu] value pos) (ZyL X.K ta tv f):=by intro aa s Z H D I h;refine plainObj_wpAny_Assign_Attribute (thn (hv aa s Z H _ I h) λu s1 ⟨y,H1,I1,ry,q⟩=>thn (ha aa s1 Z H1 _ I1 q) λov s2 ⟨x,H2,I2,rx,a,C,dx,fs,ex,ea,c,n,l,q2⟩=>?_) hs;subst ex;obtain rfl:ov=YD a:=rx;exact ZhN I2 ea c n l ry λs3 I3=>⟨Z,_,I3,q2⟩
def Zow(ha:PE X o ta)(hv:PE X value tv)(hop:Zyi X op rd):PS X (.AugAssign (.Attribute o f hW) op value pos) (ZrX X.K ta tv rd f):=by intro aa s Z H D I h;refine wpAny_AugAssign_AttributeAny (thn (ha aa s Z H _ I h) λov s1 ⟨x,H1,I1,rx,a,C,dx,fs,v,ex,ea,c,n,l,q⟩=>?_);subst ex;obtain rfl:ov=YD a:=rx;refine Zh5 I1 ea c n l λu s2 I2 ru=>thn (hv aa s2 Z H1 _ I2 q) λw3 s3 ⟨y,H2,I3,ry,q3⟩=>thn (hop aa s3 Z H2 v y u w3 _ I3 ru ry q3) λw4 s4 ⟨z,H3,I4,rz,cV,be,lX,l',q4⟩=>?_;exact ZhN I4 lX c n l' rz λs5 I5=>⟨Z,_,I5,q4⟩
def Zw9:V->V->Hp->VK->Prop:=λx y H Q=>∃i j,x=.int i/\y=.int j/\Q (.int (i+j)) H
def ZvM:Zyi X .Add Zw9:=by
 rintro aa s Z H x y u v Q I rx ry ⟨i,j,rfl,rfl,q⟩;obtain⟨t,rfl⟩:=(show ∃t,u=Value.int i t from rx)
 obtain⟨t',rfl⟩:=(show ∃t',v=Value.int j t' from ry)
 exact PyProof.Rows.iadd_int ⟨.int (i+j),H,I.tok _,⟨_,rfl⟩,q⟩
end
structure Room(k:Nat)(A:YH):Prop where
 hd:A.handled=M
 dp:A.depth+k+5<recursionLimit
 un:A.units+4*k+1300<cLine
 gd:A.guards=J []
def Room.mono(r:Room k A)(h:j<=k):Room j A:=⟨r.hd,by have:=r.dp;lia,by have:=r.un;lia,r.gd⟩
theorem Room.deeper(r:Room (k+1) A)(env:Env):Room k (A.deeper env):=⟨r.hd,by have:=r.dp;show A.depth+1+k+5<_;lia,by have:=r.un;show A.units+3+4*k+1300<_;lia,r.gd⟩
def Zmd{A:YH}:(A.under (.builtin "type.__call__" ⟨.ref C::us,kw⟩)).depth=A.depth+1:=by first|rfl|simp[Around.under,Code.weight,Code.isCreation,Code.isGuard,Code.isCaller,Code.frames,Code.isFrame,guardIds]
def Zmc{A:YH}:(A.under (.builtin "type.__call__" ⟨.ref C::us,kw⟩)).units=A.units+1:=by first|rfl|simp[Around.under,Code.cUnits,Code.frames,Code.isFrame]
def Room.make(r:Room (k+1) A)(C:Yi)(us:List Yj)(kw:List (Str×Yj)):Room k (A.under (.builtin "type.__call__" ⟨.ref C::us,kw⟩)):=⟨r.hd,by have:=r.dp;rw[Zmd];lia,by have:=r.un;rw[Zmc];lia,by first|exact r.gd|simpa[Around.under,Code.weight,Code.isCreation,Code.isGuard,Code.isCaller,Code.frames,Code.isFrame,guardIds]using r.gd⟩
theorem Room.depth(r:Room k A):A.depth<recursionLimit:=by have:=r.dp;lia
noncomputable def Zob:TA:=λ_ H Q=>Q [] H
noncomputable def ZmU(ta:TE)(tr:TA):TA:=λZ H Q=>ta Z H λx H1=>tr Z H1 λxs H2=>Q (x::xs) H2
section
variable {X:Cx}{e:Expr}{es:List Expr}{te:TE}{t:TA}{pos:Pos}
def Zd9:PA X [] Zob:=λ_ _ _ _ H Q I h=>Calls.spliced_nil ⟨[],H,I,.nil,h⟩
def Zcz(ha:PE X e te)(hr:PA X es t)(hs:YA (e::es) X.env=(Wy,eval e X.env)::YA es X.env:=by rfl):PA X (e::es) (ZmU te t):=by intro pos aa s Z H Q I h;rw[hs];show YB _ _ (spliced ((Wy,eval e X.env)::YS pos (YA es X.env))) _ _ s;refine Calls.spliced_cons (thn (ha aa s Z H _ I h) λu s1 ⟨x,H1,I1,r1,q1⟩=>?_);exact thn (hr pos aa s1 Z H1 _ I1 q1) λus s2 ⟨xs,H2,I2,r2,q2⟩=>⟨x::xs,H2,I2,.cons r1 r2,q2⟩
def Zyv(t:TA):TE:=λZ H Q=>t Z H λxs H1=>xs.length<=sizeLine/\∀p,H1 p=M->Q (.ref p) (upd H1 p (.tup xs))
def ZyB(t:TA):TE:=λZ H Q=>t Z H λxs H1=>xs.length<=sizeLine/\∀p,H1 p=M->Q (.ref p) (upd H1 p (.lst xs))
def Zu2{x1}(h:PA X es t):PE X (.Tuple es x1 pos) (Zyv t):=by intro aa s Z H Q I hq;refine wpAny_Tuple_spliced (thn (h pos aa s Z H _ I hq) λus s1 ⟨xs,H1,I1,r,z,q⟩=>⟨by rw[<-r.length];exact z,?_⟩);have hf:H1 s1.heap.objs.size=M:=I1.hok.fresh (Oq _);refine⟨.ref s1.heap.objs.size,upd H1 s1.heap.objs.size (.tup xs),I1.laid (t':=s1.toks) (λb u e=>Od _ e) (Oq _) ?_,rfl,q _ hf⟩;exact⟨z,us,r,⟨_,Oj _ rfl,rfl,rfl,_,rfl⟩⟩
def Zu6(h:PA X es t):PE X (.List es pos) (ZyB t):=by intro aa s Z H Q I hq;refine wpAny_List_spliced (thn (h pos aa s Z H _ I hq) λus s1 ⟨xs,H1,I1,r,z,q⟩=>⟨by rw[<-r.length];exact z,?_⟩);have hf:H1 s1.heap.objs.size=M:=I1.hok.fresh (Oq _);refine⟨.ref s1.heap.objs.size,upd H1 s1.heap.objs.size (.lst xs),I1.laid (t':=s1.toks) (λb u e=>Od _ e) (Oq _) ?_,rfl,q _ hf⟩;exact⟨z,us,0,r,Oj _ rfl⟩
end
abbrev Sp:=List V->Hp->VK->XK->Prop
abbrev CXT:=List Env->Hp->Yb->XK->Yj->Yb->Prop
structure Env0(P:Yh)(w:Yg)(K:Yk)(mg:Str->Option Yj)(base:YG)(A:YH)(outer:List Env)(s:Yb)(H:Hp):Prop where
 frames:A.frames=J outer
 mod:Mod K mg base
 bs:∀b o,base.get? b=J o->s.heap.get? b=J o/\H b=M
 bsz:base.objs.size<=s.heap.objs.size
 funs:s.heap.FunFrames base outer
 frf:∀b∈frs outer,H b=M
 hok:HOk P w H s.heap
 bare:AllBare s.gens
def CE(outer:List Env)(P:Yh)(w:Yg)(H:Hp)(s:Yb)(Q:VK)(u:Yj)(s':Yb):Prop:=∃v H',s'.os=s.os/\AllBare s'.gens/\Un (frs outer) [] H H' s.heap s'.heap/\HOk P w H' s'.heap/\RelV v u/\Q v H'
def CR(CX:CXT)(outer:List Env)(P:Yh)(w:Yg)(H:Hp)(s:Yb)(Q:VK)(E:XK)(r:Result)(s':Yb):Prop:=
 match r with
 |.ok (.ret u)=>CE outer P w H s Q u s'
 |.ok _=>False
 |.error e=>CX outer H s E e s'
structure FnOk(P:Yh)(w:Yg)(K:Yk)(mg:Str->Option Yj)(base:YG)(CX:CXT)(k:Nat)(f:Yi)(fd:FuncData)(ps:List Str)(sp:Sp):Prop where
 len:∀vs H Q E,sp vs H Q E->vs.length=ps.length
 run:∀(A:YH) (outer:List Env) (s:Yb) (H:Hp) (args:Args) (us:List Yj) (vs:List V) (Q:VK) (E:XK),Room k A->Env0 P w K mg base A outer s H->BindsTo s fd args (ps.zip us)->Zs vs us->sp vs H Q E ->
  codeAny (model P w) A (.call (.ref f) args) (CR CX outer P w H s Q E) s
def FnOk.imp{P:Yh}{w:Yg}{K:Yk}{mg:Str->Option Yj}{base:YG}{CX:CXT}{k:Nat}{f:Yi}{fd:FuncData}{ps:List Str}{sp jm:Sp}(F:FnOk P w K mg base CX k f fd ps sp)
 (h:∀vs H Q E,jm vs H Q E->sp vs H Q E):FnOk P w K mg base CX k f fd ps jm:=
 ⟨λvs H Q E q=>F.len vs H Q E (h _ _ _ _ q),λA outer s H args us vs Q E hr he hb hv hs=>F.run A outer s H args us vs Q E hr he hb hv (h _ _ _ _ hs)⟩
def Env0.make{P:Yh}{w:Yg}{K:Yk}{mg:Str->Option Yj}{base:YG}{A:YH}{outer:List Env}{s:Yb}{H:Hp}(e:Env0 P w K mg base A outer s H)(C:Yi)(us:List Yj)(kw:List (Str×Yj)):
 Env0 P w K mg base (A.under (.builtin "type.__call__" ⟨.ref C::us,kw⟩)) outer s H:=⟨by first|exact e.frames|(simpa[Around.under,Code.envs,Code.isFrame,pushEnvs]using e.frames),e.mod,e.bs,e.bsz,e.funs,e.frf,e.hok,e.bare⟩
section
variable {X:Cx}{aa:List (Yi×Obj)}{Z:St}{H:Hp}{s s':Yb}
def Inv.env0(I:Inv X aa Z H s):Env0 X.prog X.w X.K X.mg X.base X.A X.stack s H:=⟨I.ok.frames,I.ok.mod,I.bs,OE I.ok.bsz I.sz,I.stack,I.stkFree,I.hok,I.bare⟩
def Inv.after(I:Inv X aa Z H s)(h:CE X.stack X.prog X.w H s Q u s'):EP X aa Z Q u s':=by obtain⟨v,H',os,bare,un,hok,r,q⟩:=h;obtain⟨hh,g,d,t,ku⟩:=s';obtain rfl:ku=s.os:=os;exact⟨v,H',I.call (h':=hh) (g':=g) (d':=d) (t':=t) (ch:=[]) un hok bare (λb z=>absurd z (by simp)),r,q⟩
end
def ZwM(sp:Sp)(aW:List V)(E:XK)(t:TA):TE:=λZ H Q=>t Z H λvs H1=>sp (vs++aW) H1 Q E
def ZtO(C:Yi)(m:Str)(sp:Sp)(aW:List V)(E:XK)(ta:TE)(t:TA):TE:=λZ H Q=>ta Z H λx H1=>∃a dx fs,x=.ref a/\H1 a=J (.ins C dx fs)/\fs.lookup m=M /\
 t Z H1 λvs H2=>sp (x::(vs++aW)) H2 Q E
def ZtP(C:Yi)(sp:Sp)(aW:List V)(E:XK)(t:TA):TE:=λZ H Q=>t Z H λvs H1=>∀x dx,H1 x=M->H1 dx=M->dx≠x ->
 sp (.ref x::(vs++aW)) (upd (upd H1 dx (.own x)) x (.ins C dx [])) (λv H2=>v=.non/\Q (.ref x) H2) E
def Binds(K:Yk)(fd:FuncData)(ps:List Str)(ds:List Yj):Prop:=∀(s:Yb) (us:List Yj),K.In s.heap->(us++ds).length=ps.length->BindsTo s fd ⟨us,[]⟩ (ps.zip (us++ds))
def Binds.all{K:Yk}(h:∀us:List Yj,us.length=ps.length->bindArgs fd ⟨us,[]⟩=pure (ps.zip us)):Binds K fd ps []:=λs us _ hl=>by rw[Ys]at hl ⊢;exact .of_eq (h us hl)
def Zbi(CX:CXT)(X:Cx)(E:XK):Prop:=∀(aa:List (Yi×Obj)) (Z:St) (H:Hp) (s:Yb) (e:Yj) (s':Yb),Inv X aa Z H s->CX X.stack H s E e s'->X.xe e s'
section
variable {X:Cx}{CX:CXT}{k:Nat}{f C:Yi}{fd:FuncData}{ps:List Str}{sp:Sp}{aW:List V}{ds:List Yj}{E:XK}{x m:Str}{p pos apos:Pos}{e o:Expr}{es:List Expr}{ta:TE}{t:TA}
def ZlQ(F:FnOk X.prog X.w X.K X.mg X.base CX k f fd ps sp)(hr:Room k X.A)(hb:Binds X.K fd ps ds)(hd:Zs aW ds)(hx:Zbi CX X E)
 (I:Inv X aa Z H s) (r:Zs vs us) (h:sp (vs++aW) H Q E):YB (model X.prog X.w) X.A (call (.ref f) us) (EP X aa Z Q) X.xe s:=by
 have r2:Zs (vs++aW) (us++ds):=r.append hd;have hl:(us++ds).length=ps.length:=by rw[<-r2.length];exact F.len _ _ _ _ h
 refine wpAny_call (codeAny_mono (F.run X.A X.stack s H ⟨us,[]⟩ (us++ds) (vs++aW) Q E hr I.env0 (hb s us I.kIn hl) r2 h) λr s' hq=>?_);cases r with
 |error e=>exact hx aa Z H s e s' I hq
 |ok fl=>
  cases fl with
  |ret u=>exact I.after hq
  |next=>exact False.elim hq
  |brk=>exact False.elim hq
  |cont=>exact False.elim hq
def Zsq(F:FnOk X.prog X.w X.K X.mg X.base CX k f fd ps sp)(hr:Room k X.A)(hg:Gl X x)(hm:X.mg x=J (.ref f))(hk:Wg X.K (.ref f)=Wx)(hb:Binds X.K fd ps ds)(hd:Zs aW ds)(hx:Zbi CX X E)
 (ha:PA X (e::es) t) (bv:(x==("__debug__" : Str))=Wy:=by decide) (he:YA (e::es) X.env=(Wy,eval e X.env)::YA es X.env:=by rfl) (aM:(YS pos (YA es X.env)).any (·.1)=Wy:=by rfl) :
 PE X (.Call (.Name x p) (e::es) [] pos) (ZwM sp aW E t):=by
 intro aa s Z H Q I h;refine YY (Zdt I hg hm ?_ bv);refine PySem.W.callWith_K (h₀:=X.base) I.ok.mod.kin hk (thn (ha pos aa s Z H _ I h) λus s1 ⟨vs,H1,I1,r,q⟩=>⟨I1.kIn,?_⟩) he aM;exact ZlQ F hr hb hd hx I1 r q
def Zsk(he:PE X o ta)(c:Cls X.K C)(hm:Meth X.K C m f)(F:FnOk X.prog X.w X.K X.mg X.base CX k f fd ps sp)(hr:Room k X.A)(hb:Binds X.K fd ps ds)(hd:Zs aW ds)(hx:Zbi CX X E)(ha:PA X (e::es) t)
 (hst:YA (e::es) X.env=(Wy,eval e X.env)::YA es X.env:=by rfl) (aM:(YS pos (YA es X.env)).any (·.1)=Wy:=by rfl)
 (ht:eval (.Call (.Attribute o m apos) (e::es) [] pos) X.env=(do
  let ov <- eval o X.env
  standAt apos.atName
  let (f,first) <- holding [ov] (getMethod ov m pl)
  callWith pos f first (YS pos (YA (e::es) X.env)) (backToKw pos (Wc [] X.env))):=by rfl) :
 PE X (.Call (.Attribute o m apos) (e::es) [] pos) (ZtO C m sp aW E ta t):=by
 intro aa s Z H Q I h;refine PySem.W.methodCall_KW (pl:=pl) (thn (he aa s Z H _ I h) λu s1 ⟨x,H1,I1,rx,a,dx,fs,ex,ea,l,q⟩=>?_) ht;subst ex;obtain rfl:u=YD a:=rx;refine Zh4 I1 ea c hm l ?_;refine PySem.W.callWith_K (first:=[.ref a]) (h₀:=X.base) I.ok.mod.kin hm.kp (thn (ha pos aa s1 Z H1 _ I1 q) λus s2 ⟨vs,H2,I2,r,q2⟩=>⟨I2.kIn,?_⟩) hst aM;exact ZlQ (us:=.ref a::us) (vs:=.ref a::vs) F hr hb hd hx I2 (.cons rfl r) q2
def Zqk(he:PE X o ta)(c:Cls X.K C)(hm:Meth X.K C m f)(F:FnOk X.prog X.w X.K X.mg X.base CX k f fd ps sp)(hr:Room k X.A)(hb:Binds X.K fd ps ds)(hd:Zs aW ds)(hx:Zbi CX X E)
 (ht:eval (.Call (.Attribute o m apos) [] [] pos) X.env=(do
  let ov <- eval o X.env
  standAt apos.atName
  let (f,first) <- holding [ov] (getMethod ov m pl)
  callWith pos f first (YS pos (YA [] X.env)) (backToKw pos (Wc [] X.env))):=by rfl) :
 PE X (.Call (.Attribute o m apos) [] [] pos) (ZtO C m sp aW E ta Zob):=by
 intro aa s Z H Q I h;refine PySem.W.methodCall_KW (pl:=pl) (thn (he aa s Z H _ I h) λu s1 ⟨x,H1,I1,rx,a,dx,fs,ex,ea,l,q⟩=>?_) ht;subst ex;obtain rfl:u=YD a:=rx;refine Zh4 I1 ea c hm l ?_;exact PySem.W.callWith_K0 (first:=[.ref a]) I1.kIn hm.kp (ZlQ (us:=[.ref a]) (vs:=[.ref a]) F hr hb hd hx I1 (.cons rfl .nil) q)
structure Mk(K:Yk)(C f:Yi):Prop where
 makes:PySem.W.makesIn K C=Wx
 init:YJ K (.ref C) "__init__"=J (J (.ref f))
 fn:PySem.W.isFn K (.ref f)=Wx
 kp:Wg K (.ref C)=Wx
def Zkw(qd:Mk X.K C f)(F:FnOk X.prog X.w X.K X.mg X.base CX k f fd ps sp)(hr:Room (k+1) X.A)(hb:Binds X.K fd ps ds)(hd:Zs aW ds)
 (hx:Zbi CX X E) (I:Inv X aa Z H s) (r:Zs vs us)
 (h:∀x dx,H x=M->H dx=M->dx≠x->sp (.ref x::(vs++aW)) (upd (upd H dx (.own x)) x (.ins C dx [])) (λv H2=>v=.non/\Q (.ref x) H2) E) :
 YB (model X.prog X.w) X.A (call (.ref C) us) (EP X aa Z Q) X.xe s:=by
 have hq:=h (s.heap.objs.size+1) s.heap.objs.size (I.hok.fresh (Nat.le_succ _)) (I.hok.fresh (Oq _)) (Ou (OH _));have I2:=Inv.made (C:=C) I;have r2:Zs (V.ref (s.heap.objs.size+1)::(vs++aW)) (YD (s.heap.objs.size+1)::(us++ds)):=.cons rfl (r.append hd);have hl:(YD (s.heap.objs.size+1)::us++ds).length=ps.length:=by have e:=r2.length;rw[F.len _ _ _ _ hq]at e;exact e.symm
 refine wpAny_call (ZqE (f:=f) I.kIn qd.makes qd.init (beq_iff_eq.mp qd.fn) (codeAny_mono (F.run _ X.stack _ _ ⟨YD (s.heap.objs.size+1)::us,[]⟩ (YD (s.heap.objs.size+1)::(us++ds)) _ _ E (hr.make C us [])
  (I2.env0.make C us []) (hb _ (YD (s.heap.objs.size+1)::us) I2.kIn hl) r2 hq) λr s' fM=>?_))
 cases r with
 |error e=>exact hx aa Z _ _ e s' I2 fM
 |ok fl=>
  cases fl with
  |ret u=>obtain⟨v,H',I3,rv,ev,q3⟩:=I2.after fM;subst ev;exact⟨rv,⟨V.ref (s.heap.objs.size+1),H',I3,rfl,q3⟩⟩
  |next=>exact False.elim fM
  |brk=>exact False.elim fM
  |cont=>exact False.elim fM
def Zsm(qd:Mk X.K C f)(F:FnOk X.prog X.w X.K X.mg X.base CX k f fd ps sp)(hr:Room (k+1) X.A)(hg:Gl X x)(hm:X.mg x=J (.ref C))(hb:Binds X.K fd ps ds)(hd:Zs aW ds)(hx:Zbi CX X E)
 (ha:PA X (e::es) t) (bv:(x==("__debug__" : Str))=Wy:=by decide) (he:YA (e::es) X.env=(Wy,eval e X.env)::YA es X.env:=by rfl) (aM:(YS pos (YA es X.env)).any (·.1)=Wy:=by rfl) :
 PE X (.Call (.Name x p) (e::es) [] pos) (ZtP C sp aW E t):=by
 intro aa s Z H Q I h;refine YY (Zdt I hg hm ?_ bv);refine PySem.W.callWith_K (h₀:=X.base) I.ok.mod.kin qd.kp (thn (ha pos aa s Z H _ I h) λus s1 ⟨vs,H1,I1,r,q⟩=>⟨I1.kIn,?_⟩) he aM;exact Zkw qd F hr hb hd hx I1 r q
def Zql(qd:Mk X.K C f)(F:FnOk X.prog X.w X.K X.mg X.base CX k f fd ps sp)(hr:Room (k+1) X.A)(hg:Gl X x)(hm:X.mg x=J (.ref C))(hb:Binds X.K fd ps ds)(hd:Zs aW ds)(hx:Zbi CX X E)
 (bv:(x==("__debug__" : Str))=Wy:=by decide):PE X (.Call (.Name x p) [] [] pos) (ZtP C sp aW E Zob):=by
 intro aa s Z H Q I h;refine YY (Zdt I hg hm ?_ bv);exact PySem.W.callWith_K0 I.kIn qd.kp (Zkw (us:=[]) qd F hr hb hd hx I .nil h)
end
structure FnScope(N P:List Str)(sc:Scope):Prop where
 kind:sc.kind=.function
 co:sc.isCoroutine=Wy
 gen:sc.isGenerator=Wy
 nd:N.Nodup
 pre:N.take P.length=P
 par:∀x∈P,sc.names.lookup x=J .local\/sc.names.lookup x=J .cell
 nofree:∀y∈sc.names,y.2≠.free
theorem Zjn{kindOf:Str->Option NameKind}:∀{binds:List (Str×Yj)}{m:Str->Option Yj},(∀v,(x,v) ∉ binds)->bindL kindOf binds m x=m x
 |[],_,_=>rfl
 |(n,v)::r,m,h=>by
  unfold bindL;rw[Zjn λw hw=>h w (Oh _ hw)];split
  . have:x≠n:=by rintro rfl;exact h v Oi
    simp[this]
  . rfl
theorem Zjp{kindOf:Str->Option NameKind}:∀{binds:List (Str×Yj)}{m:Str->Option Yj},(∀v,(x,v) ∉ binds)->bindC kindOf binds m x=m x
 |[],_,_=>rfl
 |(n,v)::r,m,h=>by
  unfold bindC;rw[Zjp λw hw=>h w (Oh _ hw)];split
  . rfl
  . have:x≠n:=by rintro rfl;exact h v Oi
    simp[this]
theorem Zjo{kindOf:Str->Option NameKind}:∀{P:List Str}{vs:List Yj}{i:Nat}{m:Str->Option Yj},P.Nodup->P[i]?=J x->vs[i]?=J v->kindOf x=J .local ->
 bindL kindOf (P.zip vs) m x=J v
 |[],_,_,_,_,h,_,_=>by simp at h
 |_::_,[],_,_,_,_,h,_=>by simp at h
 |p::P,w::vs,0,m,nd,R,h2,hk=>by simp at R h2;subst R;subst h2;show bindL kindOf ((p,w)::P.zip vs) m p=_;unfold bindL;rw[Zjn λv hv=>(List.nodup_cons.mp nd).1 (List.of_mem_zip hv).1,if_pos hk];simp
 |p::P,w::vs,i+1,m,nd,R,h2,hk=>by show bindL kindOf ((p,w)::P.zip vs) m x=_;unfold bindL;exact Zjo (i:=i) (List.nodup_cons.mp nd).2 (by simpa using R) (by simpa using h2) hk
theorem Zjq{kindOf:Str->Option NameKind}:∀{P:List Str}{vs:List Yj}{i:Nat}{m:Str->Option Yj},P.Nodup->P[i]?=J x->vs[i]?=J v->kindOf x≠J .local ->
 bindC kindOf (P.zip vs) m x=J v
 |[],_,_,_,_,h,_,_=>by simp at h
 |_::_,[],_,_,_,_,h,_=>by simp at h
 |p::P,w::vs,0,m,nd,R,h2,hk=>by simp at R h2;subst R;subst h2;show bindC kindOf ((p,w)::P.zip vs) m p=_;unfold bindC;rw[Zjp λv hv=>(List.nodup_cons.mp nd).1 (List.of_mem_zip hv).1,if_neg hk];simp
 |p::P,w::vs,i+1,m,nd,R,h2,hk=>by show bindC kindOf ((p,w)::P.zip vs) m x=_;unfold bindC;exact Zjq (i:=i) (List.nodup_cons.mp nd).2 (by simpa using R) (by simpa using h2) hk
noncomputable def start(N:List Str)(vs:List V):St:=vs.map J++YK (N.length-vs.length) M
def ZgG(CX:CXT)(P:Yh)(w:Yg)(K:Yk)(mg:Str->Option Yj)(base:YG)(N:List Str)(ah:Str)(scope:Scope)(f:Yi)(cd:Yj)(A:YH)(outer:List Env)(s:Yb)(H:Hp)(E:XK):Cx where
 prog:=P
 w:=w
 K:=K
 mg:=mg
 base:=base
 A:=A.deeper (envOfC ah scope s.heap.objs.size f cd)
 N:=N
 s₀:=s
 H₀:=H
 env:=envOfC ah scope s.heap.objs.size f cd
 outer:=outer
 stack:=envOfC ah scope s.heap.objs.size f cd::outer
 ex:=[]
 calm:=Wx
 fn:=λ_=>Wx
 pn:=[]
 xe:=λe s'=>YB (model P w) (A.deeper (envOfC ah scope s.heap.objs.size f cd)) (leaving (envOfC ah scope s.heap.objs.size f cd) e) (λ_ dj=>CX outer H s E e dj) (λe' dj=>CX outer H s E e' dj) s'
def Zlo{sc:Scope}(h:sc.names.lookup x=J .cell):∃c,(cellsFrom n sc.names []).lookup x=J c:=by have q:=PySem.W.cellsFrom_some sc.names n [] (.inl h);exact Option.isSome_iff_exists.mp q
def ZoT{CX:CXT}{P:Yh}{w:Yg}{K:Yk}{mg:Str->Option Yj}{base:YG}{N ps:List Str}{ah:Str}{scope:Scope}{f:Yi}{cd:Yj}{A:YH}{outer:List Env}{s s1:Yb}{H:Hp}{E:XK}{us:List Yj}{vs:List V}
 (S_:FnScope N ps scope) (hd:A.handled=M) (e0:Env0 P w K mg base A outer s H) (hl:vs.length=ps.length) (r:Zs vs us)
 (x:InCallC s s.heap.objs.size (bindL (envOfC ah scope s.heap.objs.size f cd).kindOf (ps.zip us) λ_=>M) (cellsFrom (s.heap.objs.size+1) scope.names []) (bindC (envOfC ah scope s.heap.objs.size f cd).kindOf (ps.zip us) λ_=>M) s1) :
 Inv (ZgG CX P w K mg base N ah scope f cd A outer s H E) [] (start N vs) H s1:=by
 have aM:ps.length<=N.length:=by have:=congrArg List.length S_.pre;rw[List.length_take]at this;lia
 obtain⟨R,tk,rfl,hk⟩:=x.done;have fD:∀b:Yi,b ∉ (ZgG CX P w K mg base N ah scope f cd A outer s H E).ex:=λb z=>absurd (show b∈([]:List Yi)from z) (by simp);refine⟨⟨e0.mod,S_.kind,rfl,rfl,Oq _,λy z c R h2=>?_,λy hy=>?_,λy c _ h=>?_,λ_=>hd,Around.frames_deeper e0.frames,.inr ⟨rfl,rfl⟩,λb z=>absurd z (fD b),e0.bs,e0.bsz,λb _ _=>fD b,λb z=>absurd z (fD b),e0.funs,e0.frf⟩,
  rfl,e0.bare,Un.kept hk,⟨_,x.toInCall.ns,λi y v R h2 h3=>?_⟩,λy c h=>⟨_,x.cell y c h⟩,e0.hok.fresh (Oq _),λy c h=>?_,λp hp=>absurd (show p∈([]:List (Yi×Obj))from hp) (by simp),e0.hok.kept hk,?_⟩
 . exact name_of_addr x.apart (YI R) (YI h2)
 . have hy:scope.names.lookup y=J .cell\/scope.names.lookup y=J .free:=hy;rcases hy with hy|hy
   . exact Zlo hy
   . exact absurd rfl (S_.nofree _ (YI hy))
 . exact Yy (x.above y c (YI h))
 . have hi:i<vs.length:=by
    unfold start at h2;by_cases hi:i<vs.length
    . exact hi
    . rw[Om (by simpa using hi)]at h2;rw[List.getElem?_replicate]at h2;split at h2<;>cases h2
   have ha:vs[i]?=J v:=by
    unfold start at h2;rw[Oe (by simpa using hi),O2]at h2;cases e:vs[i]? with
    |none=>rw[e]at h2;cases h2
    |some a=>rw[e]at h2;cases h2;rfl
   obtain⟨u,hu,rv⟩:=r.get ha;have hp:ps[i]?=J y:=by rw[<-S_.pre,List.getElem?_take_of_lt (by lia)];exact R
   have jv:ps.Nodup:=by rw[<-S_.pre];exact S_.nd.sublist (List.take_sublist _ _)
   refine⟨u,rv,?_⟩;rcases S_.par y (O1 hp)with k|k
   . exact .inl ⟨k,Zjo jv hp hu k⟩
   . obtain⟨c,e⟩:=Zlo (n:=s.heap.objs.size+1) k;refine .inr ⟨.inl k,c,e,?_⟩;have q:=x.cell y c e;rw[Zjq jv hp hu (by show scope.names.lookup y≠_;rw[k];decide)]at q;exact q
 . exact e0.hok.fresh (Yy (x.above y c (YI h)))
 . unfold start;show _=N.length;rw[OA,Yt,List.length_replicate]
   lia
def ZxX{CX:CXT}{P:Yh}{w:Yg}{K:Yk}{mg:Str->Option Yj}{base:YG}{k:Nat}{f:Yi}{name ah:Str}{params:Arguments}{body:List Stmt}{scope:Scope}{dV kV aG pm aE ct oc:Yj}{an od:Option Yi}
 {bU:Array (Option Yj)}{N ps:List Str}{sp:Sp} (lk:K.lookup f=J ⟨oc,od,.func (PySem.W.fnOf name ah params body scope dV kV aG pm an aE ct),bU⟩) (cA:PySem.W.codeIn K aE ah=Wx) (S_:FnScope N ps scope)
 (len:∀vs H Q E,sp vs H Q E->vs.length=ps.length)
 (f7:∀(A:YH) (outer:List Env) (s:Yb) (H:Hp) (vs:List V) (Q:VK) (E:XK),Room k (A.deeper (envOfC ah scope s.heap.objs.size f aE))->sp vs H Q E ->
  ∃t,PSs (ZgG CX P w K mg base N ah scope f aE A outer s H E) body t/\t {nx:=λ_ H'=>Q .non H',rt:=Q} (start N vs) H) :
 FnOk P w K mg base CX (k+1) f (PySem.W.fnOf name ah params body scope dV kV aG pm an aE ct) ps sp:=by
 refine⟨len,λA outer s H args us vs Q E hr e0 hb r bJ=>?_⟩;have hl:=len _ _ _ _ bJ;have KX:K.In s.heap:=e0.mod.kin.keeps λb o e=>(e0.bs b o e).1;have kI:s.heap.NoLimit:=e0.mod.nolimit.keeps λb o e=>(e0.bs b o e).1;have fT:∀y∈ps.zip us,scope.names.lookup y.1=J .local\/(scope.names.lookup y.1=J .cell/\((cellsFrom (s.heap.objs.size+1) scope.names []).lookup y.1).isSome=Wx):=λ⟨n,v⟩ hy=>by
  rcases S_.par n (List.of_mem_zip hy).1 with q|q
  . exact .inl q
  . exact .inr ⟨q,PySem.W.cellsFrom_some _ _ _ (.inl q)⟩
 refine codeAny_call_function hr.depth (KX _ _ lk) rfl S_.co S_.gen rfl (PySem.W.codeRec_of KX cA) (hb _ _ _ _ ?_);refine wpAny_newFunctionEnv_cells S_.kind fT λenv he s1 x=>?_;subst he;refine⟨kI.keeps x.toInCall.keep,codeAny_func ?_⟩;obtain⟨t,ht,hq⟩:=f7 A outer s H vs Q E (hr.deeper _) bJ;have I:Inv (ZgG CX P w K mg base N ah scope f aE A outer s H E) [] (start N vs) H s1:=ZoT S_ hr.hd e0 hl r x;refine Yf (ht [] s1 (start N vs) H _ I hq) (λfl s' hs=>?_) λe s' hs=>hs;have fin:∀{σ':St}{H':Hp}{v:V}{u:Yj},Inv (ZgG CX P w K mg base N ah scope f aE A outer s H E) [] σ' H' s'->RelV v u->Q v H'->CE outer P w H s Q u s':=λ{σ' H' v u} qb rv q=>⟨v,H',qb.os,qb.bare,qb.base,qb.hok,rv,q⟩
 cases fl with
 |ret u=>obtain⟨v,σ',H',qb,rv,q⟩:=hs;exact fin qb rv q
 |next=>obtain⟨σ',H',qb,q⟩:=hs;exact fin (v:=V.non) (u:=Value.none) qb rfl q
 |brk=>obtain⟨_,_,_,q⟩:=hs;exact False.elim q
 |cont=>obtain⟨_,_,_,q⟩:=hs;exact False.elim q
section
variable {X:Cx}{x:Str}{p pos:Pos}{e:Expr}{es:List Expr}{t:TA}{id T:String}{r:List V->Hp->VK->Prop}
def tCB(r:List V->Hp->VK->Prop)(t:TA):TE:=λZ H Q=>t Z H λvs H1=>r vs H1 Q
def Zd7(hc:Zb5 X (.builtin id) r)(hg:Gl X x)(hm:X.mg x=M)(hv:bootBuiltins x=J (.builtin id))(ha:PA X (e::es) t)(hn:x ≠ "__name__" := by decide)(bv:(x==("__debug__" : Str))=Wy:=by decide)
 (he:YA (e::es) X.env=(Wy,eval e X.env)::YA es X.env:=by rfl) (aM:(YS pos (YA es X.env)).any (·.1)=Wy:=by rfl):PE X (.Call (.Name x p) (e::es) [] pos) (tCB r t):=by
 intro aa s Z H Q I h;refine YY (Zdu I hg hm hv ?_ hn bv);exact PyProof.Rows.callWith_builtin1 (thn (ha pos aa s Z H _ I h) λus s1 ⟨vs,H1,I1,r1,q1⟩=>hc aa s1 Z H1 vs us Q I1 r1 q1) he aM
def Zi3(hc:Zb5 X (.type T) r)(hg:Gl X x)(hm:X.mg x=M)(hv:bootBuiltins x=J (.type T))(ha:PA X (e::es) t)(hn:x ≠ "__name__" := by decide)(bv:(x==("__debug__" : Str))=Wy:=by decide)
 (he:YA (e::es) X.env=(Wy,eval e X.env)::YA es X.env:=by rfl) (aM:(YS pos (YA es X.env)).any (·.1)=Wy:=by rfl):PE X (.Call (.Name x p) (e::es) [] pos) (tCB r t):=by
 intro aa s Z H Q I h;refine YY (Zdu I hg hm hv ?_ hn bv);exact PyProof.Rows.callWith_type1 (thn (ha pos aa s Z H _ I h) λus s1 ⟨vs,H1,I1,r1,q1⟩=>hc aa s1 Z H1 vs us Q I1 r1 q1) he aM
end
end L2
namespace HT
open PySem PyProof.Rows
section
variable {prog:Yh}{w:Yg}{A:YH}{E:Yj->Yb->Prop}{s:Yb}
def Ztq(ht:IsTup s.heap t vs.toArray)(hb:IsTup s.heap b ws.toArray)(hv:vs≠[])
 (R:ws=[]->Q (.ref t) s) (h2:ws≠[]->Q (.ref s.heap.objs.size) {s with heap:=s.heap.push {cls:=.type "tuple",data:=.seq (vs++ws).toArray}})
 (hsz:vs.length+ws.length<=sizeLine):YB (model prog w) A (binaryOp .Add (.ref t) (.ref b)) Q E s:=by
 obtain⟨⟨cls,dd,data,sl⟩,ho,hc,n,hd⟩:=id ht;obtain⟨⟨cls2,gT,data2,gx⟩,dJ,f6,n2,fZ⟩:=id hb;simp only at hc hd f6 fZ;subst hc hd f6 fZ;have e:vs.toArray++ws.toArray=(vs++ws).toArray:=by simp
 by_cases hw:ws=[]
 . exact concat_meets ⟨_,ho,rfl⟩ ⟨_,dJ,rfl⟩ noFill_tuple_add seq_tuple_add PySem.F.slot_tuple_add PySem.F.entry_tuple_add (PySem.F.args_tuple_add_2 _ _)
    (tuple_addW1 t b vs.toArray ws.toArray n n2 dd gT sl gx (by simpa using hv) (by simp[hw])) ⟨ho,dJ,R hw⟩
 . refine concat_meets ⟨_,ho,rfl⟩ ⟨_,dJ,rfl⟩ noFill_tuple_add seq_tuple_add PySem.F.slot_tuple_add PySem.F.entry_tuple_add (PySem.F.args_tuple_add_2 _ _)
    (tuple_addW2 t b vs.toArray ws.toArray n n2 dd gT sl gx (by simpa using hv) (by simpa using hw) (by rw[Of,Of];exact hsz)) ⟨ho,dJ,?_⟩
   rw[e];exact h2 hw
noncomputable def sIx(n d:Nat):Option Int->Nat
 |none=>d
 |some v=>if v<0 then(v+(n:Int)).toNat else min v.toNat n
def ZuA(n d:Nat)(hd:d<=n)(o:Option Int):sIx n d o<=n:=by
 cases o with
 |none=>exact hd
 |some v=>
  show(if v<0 then(v+(n:Int)).toNat else min v.toNat n)<=n;by_cases hv:v<0
  . rw[if_pos hv];lia
  . rw[if_neg hv];exact Nat.min_le_right _ _
def ZnN(v:Int)(n d:Nat):(if v<0 then max (v+(n:Int)) 0 else min v (n:Int))=((sIx n d (J v):Nat):Int):=by
 show(if v<0 then max (v+(n:Int)) 0 else min v (n:Int))=(((if v<0 then(v+(n:Int)).toNat else min v.toNat n):Nat):Int)
 by_cases hv:v<0
 . simp only[if_pos hv];lia
 . simp only[if_neg hv];lia
def ZmG(lo hi:Option Int)(n:Nat):Builtin.Slice.sliceAdjust lo hi 1 (n:Int)=(((sIx n 0 lo:Nat):Int),((sIx n n hi:Nat):Int)):=by
 have R:¬ ((1:Int)<0):=by lia
 unfold Builtin.Slice.sliceAdjust;simp only[R,if_false];refine Prod.ext ?_ ?_
 . cases lo with
   |none=>rfl
   |some v=>exact ZnN v n 0
 . cases hi with
   |none=>rfl
   |some v=>exact ZnN v n n
def Zl2(i j:Nat):Builtin.Slice.slicePlaces (i:Int) (j:Int) 1=j-i:=by
 unfold Builtin.Slice.slicePlaces;have R:(1:Int) > 0:=by lia
 simp only[R,if_true,Int.ediv_one];split<;>lia
def ZhL(p:IsPart v o)(h:Q o s):YB (model prog w) A (Builtin.Slice.slicePartIndex v) Q E s:=by
 cases p with
 |none=>exact slicePart_none h
 |int i t=>exact slicePart_int h
def Zc9{sl:Yi}{vl vu:Yj}{lo hi:Option Int}{n:Nat}{Q:Int×Int×Nat->Yb->Prop}(hs:s.heap.IsSliceOf sl vl vu .none)(pl:IsPart vl lo)(pu:IsPart vu hi)
 (h:Q (((sIx n 0 lo:Nat):Int),1,sIx n n hi-sIx n 0 lo) s):YB (model prog w) A (Builtin.Slice.sliceApplied (.ref sl) (pure (n:Int))) Q E s:=by
 obtain⟨os,dF,gL,fV⟩:=id hs;unfold Builtin.Slice.sliceApplied Builtin.Slice.sliceFields;refine Ya (Ya (YR dF fV (x:=vl) rfl (Ya (YR dF fV (x:=vu) rfl (Ya (YR dF fV (x:=.none) rfl (Yc ?_)))))));refine Ya (slicePart_none ?_);show YB _ _ (if ((1:Int)==0)=Wx then _ else _) _ _ s;rw[if_neg (by decide)];refine Ya (ZhL pl (Ya (ZhL pu (Ya (Yc ?_)))));show YB _ _ (match Builtin.Slice.sliceAdjust lo hi 1 (n:Int)with|(lo,hi)=>pure (lo,(1:Int),Builtin.Slice.slicePlaces lo hi 1)) _ _ s;rw[ZmG lo hi n];show YB _ _ (pure (((sIx n 0 lo:Nat):Int),(1:Int),Builtin.Slice.slicePlaces ((sIx n 0 lo:Nat):Int) ((sIx n n hi:Nat):Int) 1)) _ _ s;rw[Zl2];exact Yc h
def Zqf(xs:Array Yj)(i k:Nat):((List.range k).filterMap λ(m:Nat)=>xs[((i:Int)+(m:Int)*1).toNat]?).toArray=((xs.toList.drop i).take k).toArray:=by
 have e:(λ(m:Nat)=>xs[((i:Int)+(m:Int)*1).toNat]?)=λm=>xs[i+m]? := by
  funext m;have:((i:Int)+(m:Int)*1).toNat=i+m:=by lia
  rw[this]
 rw[e];have:=pick_run xs i k;rw[List.filterMap_map]at this;have e2:((λx=>xs[x]?) ∘ λx=>i+x)=λm=>xs[i+m]? := rfl;rw[e2]at this;rw[this]
def ZfQ{t sl:Yi}{items:Array Yj}{vl vu:Yj}{lo hi:Option Int}{Q:Yj->Yb->Prop}(ht:IsTup s.heap t items)(hs:s.heap.IsSliceOf sl vl vu .none)(pl:IsPart vl lo)(pu:IsPart vu hi)
 (hw:¬ (sIx items.size 0 lo=0/\sIx items.size items.size hi=items.size))
 (h:Q (.ref s.heap.objs.size) {s with heap:=s.heap.push {cls:=.type "tuple",data:=.seq ((items.toList.drop (sIx items.size 0 lo)).take (sIx items.size items.size hi-sIx items.size 0 lo)).toArray}})
 (hsz:items.size<=sizeLine):YB (model prog w) A (getItem (.ref t) (.ref sl)) Q E s:=by
 have bA:sizeOk (.seq ((items.toList.drop (sIx items.size 0 lo)).take (sIx items.size items.size hi-sIx items.size 0 lo)).toArray):=by
  show((items.toList.drop (sIx items.size 0 lo)).take (sIx items.size items.size hi-sIx items.size 0 lo)).toArray.size<=sizeLine;rw[Of,List.length_take,List.length_drop,Array.length_toList]
  lia
 have hj:sIx items.size items.size hi<=items.size:=ZuA _ _ (Oq _) hi;obtain⟨os,dF,gL,fV⟩:=id hs;have i7:s.TypeIs (.ref sl) "slice" := ⟨os,dF,gL⟩
 unfold getItem
 try with_reducible refine Wh ?_
 first|refine Ya (Yc ?_)|skip
 refine Ya (wpAny_sequenceKey ht.typeIs (by decide) ?_);refine Ya (We (name:=O "__getitem__") ht.typeIs Wo
  (Wi Wo ht.typeIs entry_tuple_getitem ?_ (args_tuple_getitem _ _)))
 show YB _ _ (Builtin.Tuple.tupleItemsOf (.ref t) >>= _) _ _ s;refine Ya (tupleItemsOf_ ht ?_);refine Ya (wpAny_typeOf i7 ?_);rw[if_pos (by decide)];refine Ya (Zc9 hs pl pu ?_);have k7:¬ ((((sIx items.size 0 lo:Nat):Int)==0&&(1:Int)==1&&(sIx items.size items.size hi-sIx items.size 0 lo)==items.size)=Wx):=by intro q;rw[Oa,Oa]at q;have q1:((sIx items.size 0 lo:Nat):Int)=0:=eq_of_beq q.1.1;have q2:sIx items.size items.size hi-sIx items.size 0 lo=items.size:=eq_of_beq q.2;exact hw ⟨by lia,by lia⟩
 show YB _ _ (if (((sIx items.size 0 lo:Nat):Int)==0&&(1:Int)==1&&(sIx items.size items.size hi-sIx items.size 0 lo)==items.size)=Wx then _ else _) _ _ s;rw[if_neg k7,Zqf]
 first
  |exact Ya (m:=Builtin.Tuple.tupleExact _) (Yq (Yc ⟨_,rfl,Yc h⟩) bA)
  |exact Ya (m:=Builtin.Tuple.tupleExact _) (Yq (Ya (Yc (Yc ⟨_,rfl,Yc h⟩))) bA)
  |exact Ya (Ya (m:=Builtin.Tuple.tupleExact _) (Yq (Yc (Yc ⟨_,rfl,Yc h⟩)) bA))
  |exact Ya (Ya (m:=Builtin.Tuple.tupleExact _) (Yq (Yc ⟨_,rfl,Yc h⟩) bA))
end
end HT
namespace L2
open PySem PySem.Spec PyProof.Rows
abbrev TO:=St->Hp->(Option Int->Hp->Prop)->Prop
def PO(X:Cx)(e:Option Expr)(t:TO):Prop:=
 ∀(aa:List (Yi×Obj)) (s:Yb) (Z:St) (H:Hp) (Q:Option Int->Hp->Prop),Inv X aa Z H s->t Z H Q ->
  YB (model X.prog X.w) X.A (evalPart e X.env) (λu s'=>∃o H',Inv X aa Z H' s'/\IsPart u o/\Q o H') X.xe s
noncomputable def ZrQ:TO:=λ_ H Q=>Q M H
noncomputable def ZwG(t:TE):TO:=λZ H Q=>t Z H λx H1=>∃i,x=.int i/\Q (J i) H1
section
variable {X:Cx}{e:Expr}{te:TE}{lo hi:Option Expr}{tl th:TO}{pos p2:Pos}
def Zsf:PO X M ZrQ:=by intro aa s Z H Q I h;rw[evalPart_none];exact Yc ⟨M,H,I,.none,h⟩
def Zse(h:PE X e te):PO X (J e) (ZwG te):=by intro aa s Z H Q I hw;rw[evalPart_some];refine thn (h aa s Z H _ I hw) λu s1 ⟨x,H1,I1,r1,q1⟩=>?_;obtain⟨i,rfl,q⟩:=q1;obtain⟨t,rfl⟩:=r1;exact⟨J i,H1,I1,.int i t,q⟩
def SlR(X:Cx)(r:V->Option Int->Option Int->Hp->VK->Prop):Prop:=
 ∀(aa:List (Yi×Obj)) (s:Yb) (Z:St) (H:Hp) (x:V) (v vl vu:Yj) (lo hi:Option Int) (sl:Yi) (Q:VK),Inv X aa Z H s->RelV x v->s.heap.IsSliceOf sl vl vu .none->IsPart vl lo->IsPart vu hi->r x lo hi H Q ->
  ∃T id,typeLookup (.type T) "__getitem__"=pure (J (.builtin id))/\s.TypeIs v T/\YB (model X.prog X.w) X.A (getItem v (.ref sl)) (EP X aa Z Q) X.xe s
noncomputable def tSl(r:V->Option Int->Option Int->Hp->VK->Prop)(te:TE)(tl th:TO):TE:=λZ H Q=>te Z H λx H1=>tl Z H1 λl H2=>th Z H2 λu H3=>r x l u H3 Q
def Zqh(hr:SlR X r)(he:PE X e te)(hl:PO X lo tl)(hu:PO X hi th):PE X (.Subscript e (.Slice lo hi M p2) pos) (tSl r te tl th):=by intro aa s Z H Q I h;refine Subscript_ (thn (he aa s Z H _ I h) λv s1 ⟨x,H1,I1,r1,q1⟩=>?_);refine wpAny_Slice (thn (hl aa s1 Z H1 _ I1 q1) λvl s2 ⟨l,H2,I2,pl,q2⟩=>thn (hu aa s2 Z H2 _ I2 q2) λvu s3 ⟨u,H3,I3,pu,q3⟩=>?_);rw[evalPart_none];refine Yc ?_;have I4:Inv X aa Z H3 {s3 with heap:=s3.heap.push {cls:=.type "slice",data:=.fields #[vl,vu,.none]}}:=I3.kept (t':=s3.toks) λb ob q=>Od _ q;obtain⟨T,id,hT,ht,hg⟩:=hr aa {s3 with heap:=s3.heap.push {cls:=.type "slice",data:=.fields #[vl,vu,.none]}} Z H3 x v vl vu l u s3.heap.objs.size Q I4 r1 (Heap.IsSliceOf.new ..) pl pu q3;show YB (model X.prog X.w) X.A (subscriptTail e (.Slice lo hi M p2) v (.ref s3.heap.objs.size)) (EP X aa Z Q) X.xe {s3 with heap:=s3.heap.push {cls:=.type "slice",data:=.fields #[vl,vu,.none]}};exact tail_any (ops:=[.ref s3.heap.objs.size,v]) ht hT hg (by with_unfolding_all rfl)
def Zlh(xs:List V)(lo hi:Option Int):List V:=(xs.drop (HT.sIx xs.length 0 lo)).take (HT.sIx xs.length xs.length hi-HT.sIx xs.length 0 lo)
def ZgX(xs:List V)(lo hi:Option Int):(Zlh xs lo hi).length<=xs.length:=by
 unfold Zlh;rw[List.length_take,List.length_drop]
 lia
def ZyP(K:Yk):V->Option Int->Option Int->Hp->VK->Prop:=λx lo hi H Q=>∃a xs,x=.ref a/\SqT K H a xs /\
 ¬ (HT.sIx xs.length 0 lo=0/\HT.sIx xs.length xs.length hi=xs.length)/\∀p,H p=M->Q (.ref p) (upd H p (.tup (Zlh xs lo hi)))
def Zuw:SlR X (ZyP X.K):=by
 intro aa s Z H x v vl vu lo hi sl Q I rx hs pl pu h;obtain⟨a,xs,rfl,hx,hw,q⟩:=h;cases rx;obtain⟨its,r,ht,hz⟩:=I.tuple hx;have ak:its.toArray.size=xs.length:=by rw[Of];exact r.length.symm
 refine⟨"tuple",_,PyProof.Rows.slot_tuple_getitem.lookup,ht.typeIs,?_⟩;refine HT.ZfQ ht hs pl pu (by rw[ak];exact hw) ?_ (by rw[ak];exact hz);rw[ak];refine⟨.ref s.heap.objs.size,_,I.laid (t':=s.toks) (o:=.tup (Zlh xs lo hi)) (λb ob q=>Od _ q) (Oq _) ?_,rfl,q _ (I.hok.fresh (Oq _))⟩;exact⟨OE (ZgX xs lo hi) hz,_,(r.drop (HT.sIx xs.length 0 lo)).take (HT.sIx xs.length xs.length hi-HT.sIx xs.length 0 lo),Zb2.fresh _ _⟩
def Zw7(K:Yk):R2:=λx y H Q=>∃a b xs ys,x=.ref a/\y=.ref b/\SqT K H a xs/\SqT K H b ys/\xs≠[]/\xs.length+ys.length<=sizeLine /\
 (ys=[]->Q (.ref a) H)/\(ys≠[]->∀p,H p=M->Q (.ref p) (upd H p (.tup (xs++ys))))
def Zs.nil_iff(r:Zs xs us):us=[]↔xs=[]:=by
 cases r with
 |nil=>simp
 |cons _ _=>simp
def Zsx:OpR X (binaryOp .Add) (Zw7 X.K):=by intro aa s Z H x y v u Q I rx ry h;obtain⟨a,b,xs,ys,rfl,rfl,ha,hb,hx,hz,q1,q2⟩:=h;cases rx;cases ry;obtain⟨its,r1,p1,_⟩:=I.tuple ha;obtain⟨aw,r2,p2,_⟩:=I.tuple hb;refine HT.Ztq p1 p2 (λz=>hx (r1.nil_iff.mp z)) (λz=>⟨.ref a,H,I,rfl,q1 (r2.nil_iff.mp z)⟩) (λz=>?_) (by rw[<-r1.length,<-r2.length];exact hz);refine⟨.ref s.heap.objs.size,_,I.laid (t':=s.toks) (o:=.tup (xs++ys)) (λb ob q=>Od _ q) (Oq _) ?_,rfl,q2 (λw=>z (r2.nil_iff.mpr w)) _ (I.hok.fresh (Oq _))⟩;exact⟨by rw[OA];exact hz,_,r1.append r2,Zb2.fresh _ _⟩
end
noncomputable def ixN(n:Nat)(i:Int):Option Nat:=if 0<=i then(if i<n then J i.toNat else M)else if -(n:Int)<=i then J (i+n).toNat else M
def atI(xs:List α)(i:Int):Option α:=(ixN xs.length i).bind λj=>xs[j]?
def ZnA(h:ixN n i=J j):seqIndex? i n=J j/\j<n/\-(n:Int)<=i/\i<n:=by
 unfold ixN at h;by_cases h0:0<=i
 . rw[if_pos h0]at h;by_cases R:i<n
   . rw[if_pos R]at h;have e:i.toNat=j:=YF h;exact⟨by rw[seqIndex_of h0 R,e],by lia,by lia,R⟩
   . rw[if_neg R]at h;cases h
 . rw[if_neg h0]at h;by_cases R:-(n:Int)<=i
   . rw[if_pos R]at h;have e:(i+n).toNat=j:=YF h;exact⟨by rw[seqIndex_neg (by lia) R,e],by lia,R,by lia⟩
   . rw[if_neg R]at h;cases h
def Zkm(h:atI xs i=J v):∃j,seqIndex? i xs.length=J j/\xs[j]?=J v/\j<xs.length/\-(xs.length:Int)<=i/\i<xs.length:=by
 unfold atI at h;cases e:ixN xs.length i with
 |none=>rw[e]at h;cases h
 |some j=>rw[e]at h;obtain⟨R,h2,h3,h4⟩:=ZnA e;exact⟨j,R,h,h2,h3,h4⟩
def Zko(b:Expr):Prop:=∀o i,subscripted b Wy o i=operate [o,i] (getItem o i)
def IxR(X:Cx)(r:R2):Prop:=
 ∀(value slice:Expr) (aa:List (Yi×Obj)) (s:Yb) (Z:St) (H:Hp) (x y:V) (v u:Yj) (Q:VK),Inv X aa Z H s->RelV x v->RelV y u->r x y H Q ->
  subscripted slice Wy v u=operate [v,u] (getItem v u)->YB (model X.prog X.w) X.A (subscriptTail value slice v u) (EP X aa Z Q) X.xe s
def MtR(X:Cx)(id:String)(r:V->List V->Hp->VK->Prop):Prop:=
 ∀(aa:List (Yi×Obj)) (s:Yb) (Z:St) (H:Hp) (x:V) (xs:List V) (v:Yj) (us:List Yj) (Q:VK),Inv X aa Z H s->RelV x v->Zs xs us->r x xs H Q ->
  YB (model X.prog X.w) X.A (call (.builtin id) (v::us)) (EP X aa Z Q) X.xe s
section
variable {X:Cx}{a b:Expr}{ta tb:TE}{pos:Pos}
def Zxi{r:R2}(hr:IxR X r)(ha:PE X a ta)(hb:PE X b tb)(hs:Zko b):PE X (.Subscript a b pos) (tOp r ta tb):=by intro aa s Z H Q I h;exact Subscript_ (Zwc ha hb I h λv u s2 x y H2 I2 rx ry q=>hr a b aa s2 Z H2 x y v u Q I2 rx ry q (hs _ _))
def ZyV(K:Yk):R2:=λx y H Q=>∃p xs i v,x=.ref p/\y=.int i/\SqL K H p xs/\atI xs i=J v/\Q v H
def ZyT(K:Yk):R2:=λx y H Q=>∃p xs i v,x=.ref p/\y=.int i/\SqT K H p xs/\atI xs i=J v/\Q v H
def ZyU:R2:=λx y H Q=>∃z i c,x=.str z/\y=.int i/\z.length<=sizeLine/\atI z.cps.toList i=J c/\Q (.str ⟨#[c]⟩) H
def Zs0:IxR X (ZyV X.K):=by
 intro value slice aa s Z H x y v u Q I rx ry h hs;obtain⟨p,xs,i,z,rfl,rfl,hq,he,q⟩:=h;cases rx;obtain⟨t,rfl⟩:=ry;obtain⟨its,r,pl,hz⟩:=I.list hq;obtain⟨j,R,h2,h3,h4,h5⟩:=Zkm he;obtain⟨w,ew,az⟩:=r.get h2;have hl:=r.length;have hn:=Zcm;have fin:EP X aa Z Q w s:=⟨z,H,I,az,q⟩
 by_cases h0:0<=i
 . have hj:i.toNat=j:=by rw[seqIndex_of h0 h5]at R;exact YF R
   exact item_listR pl.isList h0 (by lia) (by rw[hj];simpa using ew) fin hs
 . have hj:(i+(its.toArray.size:Int)).toNat=j:=by rw[seqIndex_neg (by lia) h4]at R;rw[Of,<-hl];exact YF R
   exact subscriptTail_builtinR (x:=w) pl.isList.typeIs slot_list_getitem.lookup
    (wpAny_getItem_list_neg (Q:=λr s'=>r=w/\EP X aa Z Q r s') pl.isList (by lia) (by rw[Of]<;>lia) (by lia) (by rw[hj];simpa using ew) ⟨rfl,fin⟩) hs
def ZcR:IxR X (ZyT X.K):=by
 intro value slice aa s Z H x y v u Q I rx ry h hs;obtain⟨p,xs,i,z,rfl,rfl,hq,he,q⟩:=h;cases rx;obtain⟨t,rfl⟩:=ry;obtain⟨its,r,pl,hz⟩:=I.tuple hq;obtain⟨j,R,h2,h3,h4,h5⟩:=Zkm he;obtain⟨w,ew,az⟩:=r.get h2;have hl:=r.length;have hn:=Zcm;have fin:EP X aa Z Q w s:=⟨z,H,I,az,q⟩
 exact subscriptTail_builtinR (x:=w) pl.typeIs slot_tuple_getitem.lookup
  (getItem_tuple (j:=j) (Q:=λr s'=>r=w/\EP X aa Z Q r s') pl (by lia) (by lia) (by rw[Of,<-hl];exact R) (by simpa using ew) ⟨rfl,fin⟩) hs
theorem ZvJ:IxR X ZyU:=by
 intro value slice aa s Z H x y v u Q I rx ry h hs;obtain⟨z,i,c,rfl,rfl,hz,he,q⟩:=h;obtain⟨t,rfl⟩:=rx;obtain⟨t',rfl⟩:=ry;obtain⟨j,R,h2,h3,h4,h5⟩:=Zkm he;have hl:z.cps.toList.length=z.length:=by simp [Str.length]
 rw [hl] at R h4 h5;have hn:=Zcm;exact tail_any (typeIs_str s z t) slot_str_getitem.lookup (getItem_str (c:=c) (by
   have e1:Wz (i < -(2^63:Int))=Wy:=decide_eq_false (by lia);have e2:Wz (i ≥ 2^63)=Wy:=decide_eq_false (by lia);rw [e1,e2,Bool.or_false]) (by rw [R];simpa using h2) ⟨.str ⟨#[c]⟩,H,I.tok _,⟨_,rfl⟩,q⟩) hs
def Zmb(its:List Yj)(n j:Nat)(u:Yj):Obj.mapSeq (·.setIfInBounds j u) {cls:=.type "list",data:=.seq its.toArray n}={cls:=.type "list",data:=.seq (its.set j u).toArray n}:=by simp[Obj.mapSeq]
theorem Inv.lst(I:Inv X aa Z H s)(h:H p=J (.lst xs)):
 ∃(its:List Yj) (n:Nat),Zs xs its/\s.heap.get? p=J {cls:=.type "list",data:=.seq its.toArray n}/\xs.length<=sizeLine:=by
 obtain⟨z,its,n,r,e⟩:=I.hok p _ h;exact⟨its,n,r,e,z⟩
def Inv.lstUpd{aa:List (Yi×Obj)}{Z:St}{H:Hp}{s:Yb}{p:Yi}{xs ys:List V}{its its':List Yj}{n n':Nat}{f:Obj->Obj}(I:Inv X aa Z H s)(h:H p=J (.lst xs))
 (ho:s.heap.get? p=J {cls:=.type "list",data:=.seq its.toArray n}) (hf:f {cls:=.type "list",data:=.seq its.toArray n}={cls:=.type "list",data:=.seq its'.toArray n'}) (r:Zs ys its') (hz:ys.length<=sizeLine) (t:Nat) :
 Inv X aa Z (upd H p (.lst ys)) {s with heap:=s.heap.update p f,toks:=t}:=by
 have e:(s.heap.update p f).get? p=J {cls:=.type "list",data:=.seq its'.toArray n'}:=by rw[YX f ho (by rw[hf]<;>rfl),hf]
 refine I.write (x:=p) (e:=p) (by rw[h];trivial) (.inl rfl) (λb u hb q=>(YN _ _ (YL hb)).trans q) ⟨_,e⟩ ?_;exact⟨hz,its',n',r,e⟩
def Zw4:V->V->V->Hp->(Hp->Prop)->Prop:=λo i v H Q=>∃p xs k j,o=.ref p/\i=.int k/\H p=J (.lst xs)/\ixN xs.length k=J j/\Q (upd H p (.lst (xs.set j v)))
def set_list:ZtH X Zw4:=by
 intro aa s Z H o i v ov iv u Q I ro ri rv h;obtain⟨p,xs,k,j,rfl,rfl,hp,hj,q⟩:=h;cases ro;obtain⟨t,rfl⟩:=ri;obtain⟨its,n,r,ho,hz⟩:=I.lst hp;obtain⟨R,h2,h3,h4⟩:=ZnA hj;have hl:=r.length;have hn:=Zcm;have I':Inv X aa Z (upd H p (.lst (xs.set j v))) {s with heap:=s.heap.update p (Obj.mapSeq (·.setIfInBounds j u))}:=I.lstUpd hp ho (Zmb its n j u) (r.set rv j) (by rw[List.length_set];exact hz) s.toks
 by_cases h0:0<=k
 . have hk:k.toNat=j:=by rw[seqIndex_of h0 h4]at R;exact YF R
   exact PySem.W.ki_setAt ho h0 (by lia) (by rw[Of,<-hl];exact h4) (by rw[hk];exact⟨_,I',q⟩)
 . have hk:(k+(its.toArray.size:Int)).toNat=j:=by rw[seqIndex_neg (by lia) h3]at R;rw[Of,<-hl];exact YF R
   exact PySem.W.ki_setBack ho (by lia) (by rw[Of,<-hl];exact h3) (by lia) (by rw[hk];exact⟨_,I',q⟩)
def Zjz(lo hi:Option Int)(n:Nat):(sliceBounds lo hi M n).1=((HT.sIx n 0 lo:Nat):Int)/\(sliceBounds lo hi M n).2.1=((HT.sIx n n hi:Nat):Int)/\(sliceBounds lo hi M n).2.2=1:=by
 refine⟨?_,?_,rfl⟩
 . cases lo with
   |none=>simp[sliceBounds,HT.sIx]
   |some i=>
    simp only[sliceBounds,HT.sIx,Option.getD_none,show(1:Int) > 0 by decide,if_true];by_cases h:i<0
    . simp only[h,if_true]<;>lia
    . simp only[h,if_false]<;>lia
 . cases hi with
   |none=>simp[sliceBounds,HT.sIx]
   |some i=>
    simp only[sliceBounds,HT.sIx,Option.getD_none,show(1:Int) > 0 by decide,if_true];by_cases h:i<0
    . simp only[h,if_true]<;>lia
    . simp only[h,if_false]<;>lia
def ZiD(its:List Yj)(lo hi:Option Int):slicePick its.toArray lo hi M=((its.drop (HT.sIx its.length 0 lo)).take (HT.sIx its.length its.length hi-HT.sIx its.length 0 lo)).toArray:=by obtain⟨R,h2,h3⟩:=Zjz lo hi its.toArray.size;unfold slicePick;rw[R,h2,h3];simp only[sliceRange_one,pick_run,Of]<;>rfl
def ZyR(K:Yk):V->Option Int->Option Int->Hp->VK->Prop:=λx lo hi H Q=>∃a xs,x=.ref a/\SqL K H a xs/\∀p,H p=M->Q (.ref p) (upd H p (.lst (Zlh xs lo hi)))
def ZrU:SlR X (ZyR X.K):=by intro aa s Z H x v vl vu lo hi sl Q I rx hs pl pu h;obtain⟨a,xs,rfl,hx,q⟩:=h;cases rx;obtain⟨its,r,ht,hz⟩:=I.list hx;have ak:=r.length;refine⟨"list",_,slot_list_getitem.lookup,ht.isList.typeIs,?_⟩;refine wpAny_getItem_list_slice ht.isList hs pl pu .none (by simp) ?_ (by rw[Of]<;>lia);rw[ZiD,<-ak];refine⟨.ref s.heap.objs.size,_,I.laid (t':=s.toks) (o:=.lst (Zlh xs lo hi)) (λb ob q=>Od _ q) (Oq _) ?_,rfl,q _ (I.hok.fresh (Oq _))⟩;exact⟨OE (ZgX xs lo hi) hz,_,0,(r.drop (HT.sIx xs.length 0 lo)).take (HT.sIx xs.length xs.length hi-HT.sIx xs.length 0 lo),Oj _ rfl⟩
noncomputable def Ze9:V->Bool
 |.non=>Wx
 |.bl _=>Wx
 |.int _=>Wx
 |.str _=>Wx
 |_=>Wy
noncomputable def eqV:V->V->Bool
 |.non,.non=>Wx
 |.bl a,.bl b=>a==b
 |.bl a,.int b=>(if a then 1 else 0)==b
 |.int a,.bl b=>a==(if b then 1 else 0)
 |.int a,.int b=>a==b
 |.str a,.str b=>a==b
 |_,_=>Wy
def Zv2(ry:RelV y u)(rx:RelV x v)(fy:Ze9 y=Wx)(fx:Ze9 x=Wx):SeqAt.EqAt A s u v (eqV y x):=by
 cases y with
 |non=>
  cases ry;cases x with
  |non=>cases rx;exact SeqAt.EqAt.same _
  |bl b=>cases rx;exact SeqAt.EqAt.none_bool b
  |int b=>obtain⟨t,rfl⟩:=rx;exact SeqAt.EqAt.none_int b t
  |str b=>obtain⟨t,rfl⟩:=rx;exact SeqAt.EqAt.none_str b t
  |_=>exact absurd (show Wy=Wx from fx) Ow
 |bl a=>
  cases ry;cases x with
  |non=>cases rx;exact SeqAt.EqAt.bool_none a
  |bl b=>cases rx;exact SeqAt.EqAt.bool_bool a b
  |int b=>obtain⟨t,rfl⟩:=rx;exact SeqAt.EqAt.bool_int a b t
  |str b=>obtain⟨t,rfl⟩:=rx;exact SeqAt.EqAt.bool_str a b t
  |_=>exact absurd (show Wy=Wx from fx) Ow
 |int a=>
  obtain⟨t',rfl⟩:=ry;cases x with
  |non=>cases rx;exact SeqAt.EqAt.int_none a t'
  |bl b=>cases rx;exact SeqAt.EqAt.int_bool a t' b
  |int b=>obtain⟨t,rfl⟩:=rx;exact SeqAt.EqAt.int_int a t' b t
  |str b=>obtain⟨t,rfl⟩:=rx;exact SeqAt.EqAt.int_str a t' b t
  |_=>exact absurd (show Wy=Wx from fx) Ow
 |str a=>
  obtain⟨t',rfl⟩:=ry;cases x with
  |non=>cases rx;exact SeqAt.EqAt.str_none a t'
  |bl b=>cases rx;exact SeqAt.EqAt.str_bool a t' b
  |int b=>obtain⟨t,rfl⟩:=rx;exact SeqAt.EqAt.str_int a t' b t
  |str b=>obtain⟨t,rfl⟩:=rx;exact SeqAt.EqAt.str_str a t' b t
  |_=>exact absurd (show Wy=Wx from fx) Ow
 |_=>exact absurd (show Wy=Wx from fy) Ow
def eqU(x:V)(u:Yj):Bool:=match u with
 |.none=>eqV .non x
 |.bool b=>eqV (.bl b) x
 |.int i _=>eqV (.int i) x
 |.str z _=>eqV (.str z) x
 |_=>Wy
def Zq9(r:RelV y u)(f:Ze9 y=Wx):eqU x u=eqV y x:=by
 cases y with
 |non=>cases r;rfl
 |bl b=>cases r;rfl
 |int i=>obtain⟨t,rfl⟩:=r;rfl
 |str z=>obtain⟨t,rfl⟩:=r;rfl
 |_=>exact absurd (show Wy=Wx from f) Ow
theorem Zgm:∀{xs:List V}{us:List Yj},Zs xs us->xs.all Ze9=Wx->us.any (eqU x)=xs.any λy=>eqV y x
 |_,_,.nil,_=>rfl
 |y::xs,u::us,.cons r t,f=>by rw[List.all_cons,Oa]at f;rw[Wf,Wf,Zq9 r f.1,Zgm t f.2]
theorem Zeb(rx:RelV x v)(fx:Ze9 x=Wx):∀{xs:List V}{us:List Yj},Zs xs us->xs.all Ze9=Wx->∀u∈us,SeqAt.EqAt A s u v (eqU x u)
 |_,_,.nil,_=>λu hu=>by cases hu
 |y::xs,u::us,.cons r t,f=>λu' hu=>by
  rw[List.all_cons,Oa]at f;rcases O3.mp hu with rfl|hu
  . rw[Zq9 r f.1];exact Zv2 r rx f.1 fx
  . exact Zeb rx fx t f.2 u' hu
def inV(x:V)(xs:List V):Bool:=xs.any λy=>eqV y x
def rIn(K:Yk)(neg:Bool):R2:=λx y H Q=>∃p xs,y=.ref p/\(SqL K H p xs\/SqT K H p xs)/\Ze9 x=Wx/\xs.all Ze9=Wx/\Q (.bl (if neg then !inV x xs else inV x xs)) H
def ZoG:OpR X (YM .In) (rIn X.K Wy):=by
 intro aa s Z H x y v u Q I rx ry h;obtain⟨p,xs,rfl,hq,fx,fs,q⟩:=h;cases ry;rcases hq with hq|hq
 . obtain⟨its,r,pl,hz⟩:=I.list hq;refine SeqAt.in_listAt (eqU x) pl.isList (λw hw=>Zeb rx fx r fs w (by simpa using hw)) ⟨.bl _,H,I,rfl,?_⟩;rw[show its.toArray.any (eqU x)=its.any (eqU x) by simp,Zgm r fs];exact q
 . obtain⟨its,r,pl,hz⟩:=I.tuple hq;refine SeqAt.in_tupleAt (eqU x) pl (λw hw=>Zeb rx fx r fs w (by simpa using hw)) ⟨.bl _,H,I,rfl,?_⟩;rw[show its.toArray.any (eqU x)=its.any (eqU x) by simp,Zgm r fs];exact q
def ZjE:OpR X (YM .NotIn) (rIn X.K Wx):=by
 intro aa s Z H x y v u Q I rx ry h;obtain⟨p,xs,rfl,hq,fx,fs,q⟩:=h;cases ry;rcases hq with hq|hq
 . obtain⟨its,r,pl,hz⟩:=I.list hq;refine SeqAt.notIn_listAt (eqU x) pl.isList (λw hw=>Zeb rx fx r fs w (by simpa using hw)) ⟨.bl _,H,I,rfl,?_⟩;rw[show its.toArray.any (eqU x)=its.any (eqU x) by simp,Zgm r fs];exact q
 . obtain⟨its,r,pl,hz⟩:=I.tuple hq;refine SeqAt.notIn_tupleAt (eqU x) pl (λw hw=>Zeb rx fx r fs w (by simpa using hw)) ⟨.bl _,H,I,rfl,?_⟩;rw[show its.toArray.any (eqU x)=its.any (eqU x) by simp,Zgm r fs];exact q
def Zj6:Zb5 X (.builtin "len") (λxs H Q=>∃p ys,xs=[.ref p]/\(SqL X.K H p ys\/SqT X.K H p ys)/\Q (.int ys.length) H):=by
 intro aa s Z H xs us Q I r h;obtain⟨p,ys,rfl,hq,q⟩:=h;obtain⟨u,rfl,rx⟩:=vals1 r;cases rx;have hn:=Zcm;rcases hq with hq|hq
 . obtain⟨its,r',pl,hz⟩:=I.list hq;have ak:=r'.length;exact Calls.call_len_list pl.isList (by simp only[Of]<;>lia) ⟨.int ys.length,H,I.tok _,⟨s.toks+1,by rw[Of,ak]⟩,q⟩
 . obtain⟨its,r',pl,hz⟩:=I.tuple hq;have ak:=r'.length;exact len_tuple pl (by simp only[Of]<;>lia) ⟨.int ys.length,H,I.tok _,⟨s.toks+1,by rw[Of,ak]⟩,q⟩
def Zj5:Zb5 X (.builtin "len") (λxs H Q=>∃z,xs=[.str z]/\z.length<=sizeLine/\Q (.int z.length) H):=by intro aa s Z H xs us Q I r h;obtain⟨z,rfl,hz,q⟩:=h;obtain⟨u,rfl,t,rfl⟩:=vals1 r;have hn:=Zcm;exact len_str (by lia) ⟨.int z.length,H,I.tok _,⟨_,rfl⟩,q⟩
def Zfg:Zb5 X (.type "tuple") (λxs H Q=>∃p ys,xs=[.ref p]/\((SqL X.K H p ys/\∀l,H l=M->Q (.ref l) (upd H l (.tup ys)))\/(SqT X.K H p ys/\Q (.ref p) H))):=by
 intro aa s Z H xs us Q I r h;obtain⟨p,ys,rfl,h⟩:=h;obtain⟨u,rfl,rx⟩:=vals1 r;cases rx;rcases h with⟨hq,q⟩|⟨hq,q⟩
 . obtain⟨its,r',pl,hz⟩:=I.list hq;have ak:=r'.length;refine call_tuple_list pl.isList (λh' kp=>?_) (by simp only[Of]<;>lia);have I1:Inv X aa Z H {s with heap:=h'}:=I.kept (t':=s.toks) kp;have I2:Inv X aa Z (upd H h'.objs.size (.tup ys)) {s with heap:=h'.push {cls:=.type "tuple",data:=.seq its.toArray}}:=I1.laid (t':=s.toks) (λb o e=>Od _ e) (Oq _) (show Zat X.prog X.w _ _ _ (.tup ys)from⟨hz,its,r',Zb2.fresh _ _⟩)
   exact⟨.ref h'.objs.size,_,I2,rfl,q _ (I1.hok.fresh (Oq _))⟩
 . obtain⟨its,r',pl,hz⟩:=I.tuple hq;exact call_tuple_same pl ⟨.ref p,H,I,rfl,q⟩
def tyV(K:Yk)(T:String)(x:V)(H:Hp):Prop:=match x with
 |.str _=>T="str"
 |.int _=>T="int"
 |.ref p=>(T="list" /\ ∃xs,SqL K H p xs)\/(T="tuple" /\ ∃o,K.lookup p=J o/\o.cls=.type "tuple" /\ o.dict=M) \/
  (T="dict" /\ ((∃kvs,H p=J (.dK kvs))\/∃kvs,H p=J (.dT kvs)))\/(T="set" /\ ∃S_ n,H p=J (.set S_ n))
 |_=>False
def Zpu(I:Inv X aa Z H s)(r:RelV x v)(ty:tyV X.K T x H):
 s.TypeIs v T/\∀a,v=.ref a->∃ob,s.heap.get? a=J ob/\ob.dict=M:=by
 cases x with
 |str z=>obtain⟨t,rfl⟩:=r;cases (show T="str" from ty);exact⟨typeIs_str s z t,λ_ e=>nomatch e⟩
 |int i=>obtain⟨t,rfl⟩:=r;cases (show T="int" from ty);exact⟨typeIs_int s i t,λ_ e=>nomatch e⟩
 |ref p=>
  cases r;rcases ty with⟨rfl,xs,hq⟩|⟨rfl,o,hk,hc,hd⟩|⟨rfl,hk⟩|⟨rfl,S_,n,hk⟩
  . obtain⟨its,_,pl,_⟩:=I.list hq;refine⟨pl.isList.typeIs,λa e=>?_⟩;cases e;obtain⟨o,n,e,c,hd,_⟩:=pl;exact⟨o,e,hd⟩
  . refine⟨⟨o,I.kIn p o hk,hc⟩,λa e=>?_⟩;cases e;exact⟨o,I.kIn _ o hk,hd⟩
  . have z:∃o,s.heap.get? p=J o/\o.ExactDict:=by
     rcases hk with⟨kvs,hk⟩|⟨kvs,hk⟩
     . obtain⟨_,_,_,_,o,_,_,e,ex,_⟩:=I.hok p _ hk;exact⟨o,e,ex⟩
     . obtain⟨_,_,_,_,o,_,_,e,ex,_⟩:=I.hok p _ hk;exact⟨o,e,ex⟩
    obtain⟨o,e,ex⟩:=z;refine⟨⟨o,e,ex.1⟩,λa e2=>?_⟩;cases e2;exact⟨o,e,ex.2.1⟩
  . obtain⟨o,_,_,_,e,ex,_⟩:=I.hok p _ hk;refine⟨⟨o,e,ex.1⟩,λa e2=>?_⟩;cases e2;exact⟨o,e,ex.2.1⟩
 |_=>exact False.elim ty
noncomputable def ZyG(K:Yk)(T:String)(r:V->List V->Hp->VK->Prop)(to:TE):TE:=λZ H Q=>to Z H λx H1=>tyV K T x H1/\r x [] H1 Q
noncomputable def tBM(K:Yk)(T:String)(r:V->List V->Hp->VK->Prop)(to:TE)(t:TA):TE:=λZ H Q=>to Z H λx H1=>tyV K T x H1/\t Z H1 λxs H2=>r x xs H2 Q
variable {o e:Expr}{es:List Expr}{to:TE}{t:TA}{name:Str}{apos ao:Pos}{T id:String}{r:V->List V->Hp->VK->Prop}
def Zva(pa:PlainAttrs T)(slot:Slot T name id)(iF:typeOf (.builtin id)=pure (.type "method_descriptor"))(hm:MtR X id r)(ho:PE X o to)
 (aV:attributeBase o name X.env (eval o X.env)=eval o X.env:=by rfl) (aP:(apos.endLine==ao.line)=Wx:=by rfl):PE X (.Call (.Attribute o name apos) [] [] ao) (ZyG X.K T r to):=by
 intro aa s Z H Q I h;refine wpAny_Call_method0_late aV aP (thn (ho aa s Z H _ I h) λv s1 ⟨x,H1,I1,r1,ty,q1⟩=>?_);obtain⟨R,h2⟩:=Zpu I1 r1 ty;exact⟨T,id,pa,slot,iF,R,h2,Calls.callWith_builtin rfl (PySem.evalArgs_none (hm aa s1 Z H1 x [] v [] Q I1 r1 .nil q1))⟩
def Zxj(pa:PlainAttrs T)(slot:Slot T name id)(iF:typeOf (.builtin id)=pure (.type "method_descriptor"))(hm:MtR X id r)(ho:PE X o to)(ha:PA X (e::es) t)
 (aV:attributeBase o name X.env (eval o X.env)=eval o X.env:=by rfl)
 (dR:((YS ao (YA (e::es) X.env)).all (λx=>!x.1)&&(backToKw ao (Wc [] X.env)).all (λx=>x.1.isSome)
  && Wz ((e::es).length+([]:List Keyword).length+(if ([]:List Keyword).isEmpty then 0 else 1)<30))=Wx:=by rfl)
 (aP:(apos.endLine==ao.line)=Wx:=by rfl) (hs:YA (e::es) X.env=(Wy,eval e X.env)::YA es X.env:=by rfl) (dD:(YS ao (YA es X.env)).any (·.1)=Wy:=by rfl) :
 PE X (.Call (.Attribute o name apos) (e::es) [] ao) (tBM X.K T r to t):=by
 intro aa s Z H Q I h;refine wpAny_Call_method_late aV dR aP rfl (thn (ho aa s Z H _ I h) λv s1 ⟨x,H1,I1,r1,ty,q1⟩=>?_);obtain⟨R,h2⟩:=Zpu I1 r1 ty;refine⟨T,id,pa,slot,iF,R,h2,?_⟩;have hA:=ha ao aa s1 Z H1 _ I1 q1;rw[hs]at hA ⊢;refine Calls.callWith_builtin (by show(Wy||(YS ao (YA es X.env)).any (·.1))=Wy;rw[dD]<;>rfl) (Calls.evalArgs_plain ?_);exact thn hA λus s2 ⟨vs,H2,I2,r2,q2⟩=>hm aa s2 Z H2 x vs v us Q I2 r1 r2 q2
end
def MtM(X:Cx)(id:String)(r:V->List V->Hp->VK->Prop):Prop:=
 ∀(aa:List (Yi×Obj)) (s:Yb) (Z:St) (H:Hp) (x:V) (xs:List V) (v:Yj) (us:List Yj) (Q:VK),Inv X aa Z H s->RelV x v->Zs xs us->r x xs H Q ->
  YB (model X.prog X.w) X.A (call (.builtin id) (v::us)) (EP X aa Z Q) X.xe s
def Zs.one:∀{x:V}{us:List Yj},Zs [x] us->∃u,us=[u]/\RelV x u
 |_,_,.cons r .nil=>⟨_,rfl,r⟩
def Zs.zero:∀{us:List Yj},Zs [] us->us=[]
 |_,.nil=>rfl
theorem Zs.dropLast(h:Zs xs us):Zs xs.dropLast us.dropLast:=by
 induction h with
 |nil=>exact .nil
 |cons r t ih=>
  cases t with
  |nil=>exact .nil
  |cons q t'=>exact .cons r ih
theorem Zs.reverse(h:Zs xs us):Zs xs.reverse us.reverse:=by
 induction h with
 |nil=>exact .nil
 |cons r t ih=>rw[List.reverse_cons,List.reverse_cons];exact Zs.append ih (.cons r .nil)
def Zmv(l:List α):l.eraseIdx (l.length-1)=l.dropLast:=by
 induction l with
 |nil=>rfl
 |cons a r ih=>
  cases r with
  |nil=>rfl
  |cons b r=>
   have e:(a::b::r).length-1=((b::r).length-1)+1:=by
    have R:(a::b::r).length=r.length+2:=rfl;have h2:(b::r).length=r.length+1:=rfl
    lia
   rw[e,List.eraseIdx_cons_succ,ih]
   all_goals rfl
section
variable {X:Cx}{aa:List (Yi×Obj)}{Z:St}{H:Hp}{s:Yb}{l:Yi}{xs ys:List V}
def Inv.lset{its its':List Yj}{n:Nat}{f:Array Yj->Array Yj}{t':Nat}(I:Inv X aa Z H s)(hH:H l=J (.lst xs))
 (e:s.heap.get? l=J {cls:=.type "list",data:=.seq its.toArray n}) (hf:f its.toArray=its'.toArray) (hv:Zs ys its') (hz:ys.length<=sizeLine) :
 Inv X aa Z (upd H l (.lst ys)) {s with heap:=s.heap.update l (Obj.mapSeq f),toks:=t'}:=by
 have q:=PySem.IsL.update e f;rw[hf]at q;refine I.write (x:=l) (e:=l) (by rw[hH];exact trivial) (.inl rfl) (λb' u hb hu=>(YN s.heap (Obj.mapSeq f) (YL hb)).trans hu) ⟨_,q⟩ ?_;exact⟨hz,its',_,hv,q⟩
def Inv.lnew(I:Inv X aa Z H s)(hv:Zs ys its)(hz:ys.length<=sizeLine):
 Inv X aa Z (upd H s.heap.objs.size (.lst ys)) {s with heap:=s.heap.push {cls:=.type "list",data:=.seq its.toArray},toks:=t'}:=
 I.laid (λ_ _ q=>Od _ q) (Oq _) ⟨hz,its,0,hv,Oj _ rfl⟩
theorem Inv.fresh(I:Inv X aa Z H s):H s.heap.objs.size=M:=I.hok.fresh (Oq _)
def Inv.lstM(I:Inv X aa Z H s)(hH:H l=J (.lst xs)):xs.length<=sizeLine/\∃(its:List Yj) (n:Nat),Zs xs its/\xs.length=its.length/\s.heap.get? l=J {cls:=.type "list",data:=.seq its.toArray n}:=by obtain⟨z,its,n,r,e⟩:=I.hok l _ hH;exact⟨z,its,n,r,r.length,e⟩
def ZkN{n:Nat}(h:n<=sizeLine):Wq n=Wy:=by unfold Wq;exact decide_eq_false (by lia)
end
section
variable {X:Cx}
def Zr6:V->List V->Hp->VK->Prop:=λx vs H Q=>∃l xs y,x=.ref l/\vs=[y]/\H l=J (.lst xs)/\xs.length<sizeLine/\Q .non (upd H l (.lst (xs++[y])))
def Zi6:MtM X "list.append" Zr6:=by
 intro aa s Z H x vs v us Q I rx rv h;obtain⟨l,xs,y,rfl,rfl,hH,hz,q⟩:=h;cases rx;obtain⟨u,rfl,ru⟩:=rv.one;obtain⟨z,its,n,r,hl,e⟩:=I.lstM hH;refine call_meets F.slot_list_append ⟨_,e,rfl⟩ F.entry_list_append (F.args_list_append_2 _ _) (PySem.list_append l its.toArray n u (by rw[Of];lia)) ⟨e,?_⟩;refine⟨.non,_,I.lset (its':=its++[u]) hH e (by simp) (r.append (.cons ru .nil)) ?_,rfl,q⟩;rw[OA,List.length_singleton]
 lia
def Zr5:V->List V->Hp->VK->Prop:=λx vs H Q=>∃l b xs zs,x=.ref l/\vs=[.ref b]/\H l=J (.lst xs)/\H b=J (.lst zs)/\xs.length+zs.length<=sizeLine/\Q .non (upd H l (.lst (xs++zs)))
def ZoM:MtM X "list.extend" Zr5:=by
 intro aa s Z H x vs v us Q I rx rv h;obtain⟨l,b,xs,zs,rfl,rfl,hH,hB,hz,q⟩:=h;cases rx;obtain⟨u,rfl,ru⟩:=rv.one;cases ru;obtain⟨z,its,n,r,hl,e⟩:=I.lstM hH;obtain⟨z2,aw,n2,r2,bN,e2⟩:=I.lstM hB;have hsz:its.toArray.size+aw.toArray.size<=sizeLine:=by rw[Of,Of];lia
 have bY:¬ (!its.toArray.isEmpty&&Wq (its.toArray.size+aw.toArray.size))=Wx:=by rw[ZkN hsz,Bool.and_false];exact Ow
 refine call_meets F.slot_list_extend ⟨_,e,rfl⟩ F.entry_list_extend (F.args_list_extend_2 _ _)
  (AutoSeq1.list_extend_list_list_0 l its.toArray n b aw.toArray n2 bY (by rw[Of];lia) (by lia)) ⟨e,e2,?_⟩
 refine⟨.non,_,I.lset (its':=its++aw) hH e (by simp) (r.append r2) ?_,rfl,q⟩;rw[OA]
 lia
def ZyS:V->List V->Hp->VK->Prop:=λx vs H Q=>∃l xs y,x=.ref l/\vs=[]/\H l=J (.lst xs)/\xs[xs.length-1]?=J y/\Q y (upd H l (.lst xs.dropLast))
def Zvo:MtM X "list.pop" ZyS:=by
 intro aa s Z H x vs v us Q I rx rv h;obtain⟨l,xs,y,rfl,rfl,hH,hy,q⟩:=h;cases rx;have fK:=rv.zero;subst fK;obtain⟨z,its,n,r,hl,e⟩:=I.lstM hH;obtain⟨u,hu,ru⟩:=r.get hy;have cI:its.toArray[its.toArray.size-1]?=J u:=by show its.toArray[its.length-1]?=J u;rw[<-Array.getElem?_toList,<-hl];exact hu
 refine call_meets F.slot_list_pop ⟨_,e,rfl⟩ F.entry_list_pop (F.args_list_pop_1 _) (MeetsSeq.list_pop_last l its.toArray n u cI (by rw[Of];lia)) ⟨e,?_⟩;refine⟨y,_,I.lset (its':=its.dropLast) hH e ?_ r.dropLast ?_,ru,q⟩
 . show its.toArray.eraseIdxIfInBounds (its.toArray.size-1)=its.dropLast.toArray;rw[Of,List.eraseIdxIfInBounds_toArray,Zmv]
 . rw[List.length_dropLast]
   lia
def Zp1:V->List V->Hp->VK->Prop:=λx vs H Q=>∃l xs,x=.ref l/\vs=[]/\H l=J (.lst xs)/\Q .non (upd H l (.lst xs.reverse))
def Zl9:MtM X "list.reverse" Zp1:=by
 intro aa s Z H x vs v us Q I rx rv h;obtain⟨l,xs,rfl,rfl,hH,q⟩:=h;cases rx;have fK:=rv.zero;subst fK;obtain⟨z,its,n,r,hl,e⟩:=I.lstM hH;refine call_meets F.slot_list_reverse ⟨_,e,rfl⟩ F.entry_list_reverse (F.args_list_reverse_1 _) (AutoSeq1.list_reverse_list_0 l its.toArray n (by rw[Of];lia)) ⟨e,?_⟩;refine⟨.non,_,I.lset (its':=its.reverse) hH e (by simp) r.reverse ?_,rfl,q⟩;rw[List.length_reverse]
 lia
def ZuO:V->List V->Hp->VK->Prop:=λx vs H Q=>∃l xs,x=.ref l/\vs=[]/\H l=J (.lst xs)/\Q .non (upd H l (.lst []))
def ZqB:MtM X "list.clear" ZuO:=by intro aa s Z H x vs v us Q I rx rv h;obtain⟨l,xs,rfl,rfl,hH,q⟩:=h;cases rx;have fK:=rv.zero;subst fK;obtain⟨z,its,n,r,hl,e⟩:=I.lstM hH;refine call_meets F.slot_list_clear ⟨_,e,rfl⟩ F.entry_list_clear (F.args_list_clear_1 _) (AutoSeq1.list_clear_list_0 l its.toArray n (by rw[Of];lia)) ⟨e,?_⟩;exact⟨.non,_,I.lset (its':=[]) (ys:=[]) hH e rfl .nil (Yw _),rfl,q⟩
def ZyX:R2:=λx y H Q=>∃l b xs zs,x=.ref l/\y=.ref b/\H l=J (.lst xs)/\H b=J (.lst zs)/\xs.length+zs.length<=sizeLine/\∀p,H p=M->Q (.ref p) (upd H p (.lst (xs++zs)))
def Zvh:OpR X (binaryOp .Add) ZyX:=by
 intro aa s Z H x y v u Q I rx ry h;obtain⟨l,b,xs,zs,rfl,rfl,hH,hB,hz,q⟩:=h;cases rx;cases ry;obtain⟨z,its,n,r,hl,e⟩:=I.lstM hH;obtain⟨z2,aw,n2,r2,bN,e2⟩:=I.lstM hB;refine PySem.P.add_list e e2 ?_ (by rw[Of,Of];lia);have ea:its.toArray++aw.toArray=(its++aw).toArray:=by simp
 rw[ea];exact⟨.ref _,_,I.lnew (t':=s.toks) (r.append r2) (by rw[OA];lia),rfl,q _ I.fresh⟩
end
end L2
namespace Att
open PySem PySem.W PySem.Calls PyProof.Rows
def Zhb:∀(ns:List Int) (vs:List Yj),WellAll P h vs (ns.map WData.int)->IntsAre vs ns:=by
 intro ns;induction ns with
 |nil=>intro vs w;rw[Oy]at w;cases w;exact .nil
 |cons n ns ih=>
  intro vs w;rw[Op]at w;cases w with
  |cons a b=>cases a;exact .cons _ _ (ih _ b)
def Zoj{l:OpenLaw}{n:Nat}(hn:l.most=J n){P:Params}{h:YG}{args:List WData}{bp:List Yj}
 (cL:l.row.toRowW.claim.pre args=Wx) (iA:WellAll P h bp args) :
 ∃a vs ns,bp=[YD a]/\args=[WData.list (ns.map WData.int)]/\h.get? a=J {cls:=.type "list",data:=.seq vs.toArray}/\IntsAre vs ns/\ns.length<=n:=by
 have kS:WShape.hasAll [] args [.list .int]=Wx:=(pre_splitW cL).1;have hc:l.pre.holds [] {args:=args}=Wx:=(pre_splitW cL).2;obtain⟨d,r,rfl,R,h2⟩:=hasAllW_cons kS;obtain rfl:=hasAllW_nil h2;obtain⟨xs,rfl,h3⟩:=hasW_list R;obtain⟨ns,rfl⟩:=items_int h3;have ak:ns.length<=n:=by
  unfold OpenLaw.pre at hc;have h4:(WTm.not (.lt (.lit (.int (n:Int))) (.len (.arg 0)))).holds [] {args:=[.list (ns.map .int)]}=Wx:=by have h4:=(holds_andW hc).1;rw[hn]at h4;exact h4
  have h5:=condW_of h4 (w_not (w_lt w_lit (w_len_list (w_arg rfl))));rw[Yt]at h5;refine Nat.le_of_not_lt λq=>?_;have q':(n:Int)<((ns.length:Nat):Int):=by lia
  first
   |(rw[decide_eq_true q']at h5;exact absurd h5 (by decide))
   |(simp at h5;lia)
 cases iA with
 |cons w1 w2=>
  cases w2;cases w1 with
  |list ho cj=>exact⟨_,_,ns,rfl,rfl,ho,Zhb ns _ cj,ak⟩
def Zox(l:OpenLaw)(args:List WData):l.row.toRowW.claim.post args (.bool Wx) args=Wx:=
 postW_of (r:=l.row.toRowW) (X:=(Wx==Wx))
  (show WShape.has [] (.bool Wx) .bool=Wx by first|rfl|decide|simp[WShape.has,WShape.arms,WShape.armsAll])
  (show(WTm.eq .res (.lit (.bool Wx))).value [] {args:=args,res:=J (.bool Wx),after:=args}=J (.bool (Wx==Wx))from w_eq_bool (w_res rfl) w_lit) rfl
def ZlB{l:OpenLaw}{n:Nat}{q:Yh}{ba:List Str}{XP:(Str->Option Yj)->YG->Prop}{YP:Yg->YG->Prop}{d:DefRec}
 (hn:l.most=J n) (fX:d.params.defaults=[])
 (call:∀(w:Yg) (s₀ s₁:Yb) (mg mb:Str->Option Yj) (fa:Yi) (o:Obj) (pm cd aG:Yj) (a:Yi) (vs:List Yj) (ns:List Int),
  Ground q ba [] XP w s₀ mg mb s₁.heap->YP w s₁.heap ->
  s₁.heap.get? fa=J o->o.data=.func (docDef d.name d.params d.body d.scope pm cd aG)->s₁.heap.CodeRec cd d.name->mg d.name=J (.ref fa) ->
  s₁.heap.get? a=J {cls:=.type "list",data:=.seq vs.toArray}->IntsAre vs ns->ns.length<=n->s₁.gens=#[] ->
  codeAny (model l.prog w) callerA (.call (.ref fa) ⟨[.ref a],[]⟩) (λr s'=>r=.ok (.ret (.bool Wx))/\OldK s₁.heap s'.heap/\s'.os=s₁.os/\AllBare s'.gens) s₁) :
 WalkO q ba XP YP l.row.toRowW d [] (λf vs=>PySem.call f vs):=by
 intro w s₀ s₁ mg mb G Y fa o pm cd aG dV kV ho hd cA hD eX hg args bp as cL lq mF iA mJ;obtain rfl:dV=.none:=Dflts.none hD fX;obtain rfl:kV=.none:=Dflts.noKw hD;obtain⟨a,vs,ns,rfl,rfl,dI,bZ,ak⟩:=Zoj hn cL iA;refine enter_call (codeAny_mono (call w s₀ s₁ mg mb fa o pm cd aG a vs ns G Y ho (fd_plain hd) cA eX dI bZ ak hg) λr s' hq=>?_);obtain⟨rfl,h2,h3,h4⟩:=hq;exact⟨.inl ⟨.bool Wx,.bool Wx,[],rfl,λ_=>rfl,.bool Wx,Zox l _,λ_=>⟨List.Pairwise.nil,λ_ hm=>(nomatch hm)⟩⟩,h2,h3,h4⟩
end Att
namespace L2
open PySem PySem.Spec PyProof.Rows
theorem ZiT:∀{vs:List Yj}{ns:List Int},IntsAre vs ns->Zs (ns.map V.int) vs
 |_,_,.nil=>.nil
 |_,_,.cons n t h=>.cons ⟨t,rfl⟩ (ZiT h)
def ZtI(H:Hp):Prop:=∀b,H b=M\/∃o xs,H b=J (.frz o (.lst xs))
theorem ZqJ{P:Yh}{w:Yg}{K:Yk}{mg mb:Str->Option Yj}{CX:CXT}{k:Nat}{fa a:Yi}{fd:FuncData}{x:Str}{sp:Sp}{s₁:Yb}{vs:List Yj}{ns:List Int}
   (KX:K.In s₁.heap) (bM:s₁.heap.Ns Yd mg) (hb:s₁.heap.Ns builtinsNs mb) (iY:∀ x:Str,x ≠ "__name__" -> mb x=bootBuiltins x) (iP:s₁.heap.NoLimit) (hg:s₁.gens=#[])
   (ha:s₁.heap.get? a=J {cls:=.type "list",data:=.seq vs.toArray}) (hi:IntsAre vs ns) (hl:ns.length<=sizeLine) (hr:Room k callerA)
   (F:∀ base:YG,K.In base->base.Ns Yd mg->FnOk P w K mg base CX k fa fd [x] sp) (f8:∀ (s:Yb) (u:Yj),BindsTo s fd ⟨[u],[]⟩ [(x,u)])
   (bJ:∀ H:Hp,ZtI H->SqL K H a (ns.map V.int)->sp [.ref a] H (λv _=>v=.bl Wx) λ_ _ _=>False)
   (ja:∀ H e s',CX [] H s₁ (λ_ _ _=>False) e s'->False) :
   codeAny (model P w) callerA (.call (.ref fa) ⟨[.ref a],[]⟩) (λr s'=>r=.ok (.ret (.bool Wx))/\OldK s₁.heap s'.heap/\s'.os=s₁.os/\AllBare s'.gens) s₁:=by
 have rv:=ZiT hi;have iu:=hi.length;have gh:∀ H:Hp,ZtI H->SqL K H a (ns.map V.int)->HOk P w H s₁.heap->(∀ b,H b≠M->b=a)->(H a≠M->K.lookup a=M) ->
     codeAny (model P w) callerA (.call (.ref fa) ⟨[.ref a],[]⟩) (λr s'=>r=.ok (.ret (.bool Wx))/\OldK s₁.heap s'.heap/\s'.os=s₁.os/\AllBare s'.gens) s₁:=by
   intro H hO hS hok hA hK;have bC:∀ {b:Yi}{o:Obj},s₁.heap.get? b=J o->H b=M->(ZjV s₁.heap H).get? b=J o:=λe n=>ZqU e n;have fD:∀ {b:Yi}{o:Obj}{es:Array DictEntry}{ep:Nat},s₁.heap.get? b=J o->o.data=.dict es ep->H b=M:=λ{b o es ep} e d=>by
     cases q:H b with
     |none=>rfl
     |some u =>
       have e':b=a:=hA b (by rw [q];simp);subst e';rw [ha] at e;cases e;have d':Data.seq vs.toArray _=Data.dict es ep:=d;cases d'
   have gA:∀ {b:Yi}{m:Str->Option Yj},s₁.heap.Ns b m->(ZjV s₁.heap H).Ns b m:=λ{b m} ⟨o,es,ep,e,d,r⟩=>⟨o,es,ep,bC e (fD e d),d,r⟩
   have jS:K.In (ZjV s₁.heap H):=λb o e=>bC (KX b o e) (by
     cases q:H b with
     |none=>rfl
     |some u =>
       have e':b=a:=hA b (by rw [q];simp);subst e';rw [hK (by rw [q];simp)] at e;cases e)
   have hM:Mod K mg (ZjV s₁.heap H):=⟨jS,gA bM,⟨mb,gA hb,iY⟩,let⟨mc,R,h2⟩:=iP;⟨mc,gA R,h2⟩⟩
   have e0:Env0 P w K mg (ZjV s₁.heap H) callerA [] s₁ H:=⟨rfl,hM,λb o e=>ZsI e,Nat.le_of_eq (ZoU _ _),trivial,λb hb=>absurd (show b∈([]:List Yi) from hb) (by simp),hok,.of_eq hg⟩
   refine codeAny_mono ((F _ jS (gA bM)).run callerA [] s₁ H ⟨[.ref a],[]⟩ [.ref a] [.ref a] _ _ hr e0 (f8 s₁ (.ref a)) (.cons rfl .nil) (bJ H hO hS)) λr s' h=>?_;cases r with
   |error e=>exact(ja H e s' h).elim
   |ok fl =>
     cases fl with
     |next=>exact False.elim h
     |brk=>exact False.elim h
     |cont=>exact False.elim h
     |ret u =>
       obtain⟨v,H',os,bare,un,iL,r',q⟩:=h;have q':v=.bl Wx:=q;subst q';obtain rfl:u=Value.bool Wx:=r';refine⟨rfl,OldK.of_keep λb o e=>?_,os,bare⟩;cases q:H b with
       |none=>exact un.keep b o e q (by intro z;exact absurd (show b∈([]:List Yi) from z) (by simp)) (by simp)
       |some u =>
         rcases hO b with z|⟨ob,xs,z⟩
         . rw [q] at z;cases z
         . have z2:=un.frzs b ob _ z;obtain⟨e1,_⟩:=hok b _ z;obtain⟨e2,_⟩:=iL b _ z2;rw [e] at e1;cases e1;exact e2
 cases hk:K.lookup a with
 |some o =>
   have e:=KX a o hk;rw [ha] at e;cases e;refine gh (λ_=>M) (λ_=>.inl rfl) (.inr ⟨_,vs.toArray,_,hk,rfl,rfl,rfl,by rw [Of,iu];exact hl,by simpa using rv⟩) (λb u z=>by have z':(M:Option HO)=J u:=z;cases z') (λb z=>absurd rfl z) λz=>absurd rfl z
 |none =>
   refine gh (λb=>if b=a then J (.frz {cls:=.type "list",data:=.seq vs.toArray} (.lst (ns.map V.int))) else M) (λb=>?_) (.inl (.inr ⟨{cls:=.type "list",data:=.seq vs.toArray},if_pos rfl⟩)) (λb u z=>?_) (λb z=>?_) λ_=>hk
   . by_cases hb:b=a
     . exact .inr ⟨_,_,if_pos hb⟩
     . exact .inl (if_neg hb)
   . by_cases hb:b=a
     . have z':=(if_pos hb).symm.trans z;cases z';subst hb;exact⟨ha,by rw [Yt];exact hl,vs,_,rv,ha⟩
     . have z':=(if_neg hb).symm.trans z;cases z'
   . by_cases hb:b=a
     . exact hb
     . exact absurd (if_neg hb) z
def ZrI{l:PySem.W.OpenLaw}{n k:Nat}{q:Yh}{ba:List Str}{XP:(Str->Option Yj)->YG->Prop}{YP:Yg->YG->Prop}{d:DefRec}{K:Params->Yk}{CX:Yg->CXT}{sp:Yg->Sp}{x:Str}
 (hn:l.most=J n) (gI:n<=sizeLine) (fX:d.params.defaults=[]) (hr:Room k callerA)
 (hY:∀(w:Yg) (h:YG),YP w h->(K w.params).In h)
 (F:∀(w:Yg) (mg:Str->Option Yj) (fa:Yi) (h:YG),(K w.params).In h->h.Ns Yd mg->mg d.name=J (.ref fa) ->
  ∃fd:FuncData,(∀(s:Yb) (u:Yj),BindsTo s fd ⟨[u],[]⟩ [(x,u)]) /\
   ∀base:YG,(K w.params).In base->base.Ns Yd mg->FnOk l.prog w (K w.params) mg base (CX w) k fa fd [x] (sp w))
 (bJ:∀(w:Yg) (H:Hp) (a:Yi) (ns:List Int),ns.length<=n->ZtI H->SqL (K w.params) H a (ns.map V.int)->sp w [.ref a] H (λv _=>v=.bl Wx) λ_ _ _=>False)
 (ja:∀(w:Yg) (H:Hp) (s:Yb) (e:Yj) (s':Yb),CX w [] H s (λ_ _ _=>False) e s'->False) :
 PySem.W.WalkO q ba XP YP l.row.toRowW d [] (λf vs=>PySem.call f vs):=by
 refine Att.ZlB hn fX λw s₀ s₁ mg mb fa o pm cd aG a vs ns G Y ho hd cA eX dI bZ ak hg=>?_;have KX:=hY w _ Y;obtain⟨fd,hb,hF⟩:=F w mg fa _ KX G.T.g eX;exact ZqJ KX G.T.g G.T.b G.T.builtins G.T.nolimit hg dI bZ (OE ak gI) hr hF hb (λH hO hS=>bJ w H a ns ak hO hS) λH e s'=>ja w H s₁ e s'
noncomputable def inClass(s:Stmt)(j:Nat):Stmt:=match s with
 |.ClassDef _ _ _ body _ _ _ _ _ _ _=>body.getD j (.Pass ⟨0,0,0,0⟩)
 |_=>.Pass ⟨0,0,0,0⟩
noncomputable def ZeU(s:Stmt):Arguments:=match s with
 |.FunctionDef _ a _ _ _ _ _ _ _ _=>a
 |_=>{posonlyargs:=[],args:=[],vararg:=M,kwonlyargs:=[],kw_defaults:=[],kwarg:=M,defaults:=[]}
noncomputable def ZcG(s:Stmt):List Stmt:=match s with
 |.FunctionDef _ _ b _ _ _ _ _ _ _=>b
 |_=>[]
def Z1(s:Stmt):Scope:=match s with
 |.FunctionDef _ _ _ _ _ _ sc _ _ _=>sc
 |_=>{kind:=.function,names:=[],isGenerator:=false,isCoroutine:=false}
noncomputable abbrev E0:XK:=λ_ _ _=>False
structure Fun(K:Yk)(x ah:Str)(st:Stmt)(f:Yi)(fd:FuncData):Prop where
 ex:∃(oc:Yj) (od:Option Yi) (kV aG pm:Yj) (an:Option Yi) (aE ct:Yj) (bU:Array (Option Yj)),
  fd=PySem.W.fnOf x ah (ZeU st) (ZcG st) (Z1 st) .none kV aG pm an aE ct/\K.lookup f=J ⟨oc,od,.func fd,bU⟩/\PySem.W.codeIn K aE ah=Wx
 kp:Wg K (.ref f)=Wx
section
variable {K:Yk}
def Fun.binds{x ah:Str}{st:Stmt}{f:Yi}{fd:FuncData}{ps:List Str}(F:Fun K x ah st f fd)
 (h:∀(kV aG pm:Yj) (an:Option Yi) (aE ct:Yj) (us:List Yj),us.length=ps.length->bindArgs (PySem.W.fnOf x ah (ZeU st) (ZcG st) (Z1 st) .none kV aG pm an aE ct) ⟨us,[]⟩=pure (ps.zip us)):Binds K fd ps []:=by
 obtain⟨oc,od,kV,aG,pm,an,aE,ct,bU,rfl,lk,cA⟩:=F.ex;exact .all (h kV aG pm an aE ct)
def ZqY{x ah:Str}{st:Stmt}{f:Yi}{oc:Yj}{od an:Option Yi}{bU:Array (Option Yj)}{kV aG pm aE ct:Yj}(l:K.lookup f=J ⟨oc,od,.func (PySem.W.fnOf x ah (ZeU st) (ZcG st) (Z1 st) .none kV aG pm an aE ct),bU⟩)
 (c:PySem.W.codeIn K aE ah=Wx) (k:Wg K (.ref f)=Wx):Fun K x ah st f (PySem.W.fnOf x ah (ZeU st) (ZcG st) (Z1 st) .none kV aG pm an aE ct):=⟨⟨oc,od,kV,aG,pm,an,aE,ct,bU,rfl,l,c⟩,k⟩
end
def Zmk{A B_:Prop}(h:B_):if Wy=Wx then A else B_:=by rw[if_neg Ow];exact h
def Zmj{A B_:Prop}(h:A):if Wx=Wx then A else B_:=by rw[if_pos rfl];exact h
set_option tactic.hygienic false
section
variable {κ:Type}[DecidableEq κ]
noncomputable def ZfA(kvs:List (κ×V))(k:κ):Option V:=(kvs.find? λkv=>Wz (kv.1=k)).map (·.2)
noncomputable def putK(kvs:List (κ×V))(k:κ)(v:V):List (κ×V):=if (kvs.any λkv=>Wz (kv.1=k))=Wx then kvs.map (λkv=>if kv.1=k then(kv.1,v)else kv)else kvs++[(k,v)]
def Zpp{p:κ×V}{r:List (κ×V)}{k:κ}(e:p.1=k):ZfA (p::r) k=J p.2:=by simp[ZfA,Ws,e]
def Zpq{p:κ×V}{r:List (κ×V)}{k:κ}(e:¬ p.1=k):ZfA (p::r) k=ZfA r k:=by simp[ZfA,Ws,e]
def ZgQ(kvs:List (κ×V))(k:κ)(v:V):(putK kvs k v).length<=kvs.length+1:=by
 unfold putK;split
 . rw[Yt];lia
 . rw[OA,Os,List.length_nil];lia
def Zgn.isSome_eq{o:Option V}{u:Option Yj}(r:Zgn o u):o.isSome=u.isSome:=by
 cases o with
 |none=>cases u with
  |none=>rfl
  |some _=>exact(show False from r).elim
 |some _=>cases u with
  |none=>exact(show False from r).elim
  |some _=>rfl
def KV.val{kvs:List (κ×V)}{vs:List (κ×Yj)}(r:KV kvs vs)(k:κ):Zgn (ZfA kvs k) (valueAt vs k):=by
 unfold KV at r;induction r with
 |nil=>exact True.intro
 |@cons p q ps qs h t ih=>
  obtain⟨R,h2⟩:=h;by_cases e:p.1=k
  . have e':q.1=k:=R.symm.trans e;have b:valueAt (q::qs) k=J q.2:=by simp[valueAt,Ws,e']
    rw[Zpp e,b];exact h2
  . have e':¬ q.1=k:=λz=>e (R.trans z);have b:valueAt (q::qs) k=valueAt qs k:=by simp[valueAt,Ws,e']
    rw[Zpq e,b];exact ih
theorem KV.any{kvs:List (κ×V)}{vs:List (κ×Yj)}(r:KV kvs vs)(k:κ):(kvs.any λkv=>Wz (kv.1=k))=vs.any λkv=>Wz (kv.1=k):=by
 unfold KV at r;induction r with
 |nil=>rfl
 |cons h t ih=>rw[Wf,Wf,ih,h.1]
def KV.repl{kvs:List (κ×V)}{vs:List (κ×Yj)}(r:KV kvs vs)(k:κ){y:V}{u:Yj}(ry:RelV y u):
 KV (kvs.map λkv=>if kv.1=k then(kv.1,y)else kv) (vs.map λkv=>if kv.1=k then(kv.1,u)else kv):=by
 unfold KV at r ⊢;induction r with
 |nil=>exact .nil
 |@cons p q ps qs h t ih=>
  rw[Op,Op];refine .cons ?_ ih;obtain⟨R,h2⟩:=h;by_cases e:p.1=k
  . rw[if_pos e,if_pos (R.symm.trans e)];exact⟨R,ry⟩
  . rw[if_neg e,if_neg (λz=>e (R.trans z))];exact⟨R,h2⟩
def KV.put{kvs:List (κ×V)}{vs:List (κ×Yj)}(r:KV kvs vs)(k:κ){y:V}{u:Yj}(ry:RelV y u):KV (putK kvs k y) (stored vs k u):=by
 unfold putK stored;rw[r.any k];by_cases e:(vs.any λkv=>Wz (kv.1=k))=Wx
 . rw[if_pos e,if_pos e];exact r.repl k ry
 . rw[if_neg e,if_neg e];exact Paired.snoc r ⟨rfl,ry⟩
theorem KV.length(r:KV kvs vs):kvs.length=vs.length:=Paired.length r
end
def ZkZ(r:RelV (kV k) u):(ZZ P w).is k u=Wx:=by
 cases k with
 |inl i=>obtain⟨t,e⟩:=(show ∃t,u=Value.int i t from r);subst e;exact ZkR P w i t
 |inr x=>obtain⟨t,e⟩:=(show ∃t,u=Value.str x t from r);subst e;exact ZkQ P w x t
section
variable {P:Yh}{w:Yg}{H:Hp}{h:YG}{a:Yi}
def ZwW(ok:HOk P w H h)(e:Rd H a u):Zat P w H h a u:=e.ok ok
def Zt6(ok:HOk P w H h)(e:Rd H a (.dK kvs)):kvs.length<=sizeLine/\(a==Ye)=Wy/\∃vs,KV kvs vs/\h.DictOf (ZZ P w) a vs:=show Zat P w H h a (.dK kvs)from ZwW ok e
def Zt7(ok:HOk P w H h)(e:H a=J (.dK kvs)):kvs.length<=sizeLine/\(a==Ye)=Wy/\∃vs,KV kvs vs/\h.DictOf (ZZ P w) a vs:=Zt6 ok (.inl e)
end
section
variable {X:Cx}{aa:List (Yi×Obj)}{Z:St}{H:Hp}{s:Yb}{a:Yi}
def Inv.big(I:Inv X aa Z H s):Ye<s.heap.objs.size:=by have h:Yd<s.heap.objs.size:=(I.mod.glob.keeps I.bk).lt;exact Nat.lt_trans (by decide) h
def ZnL(I:Inv X aa Z H s)(mu:Mut (H a))(hs:Heap.SameBut a s.heap h')(he:∃q,h'.get? a=J q)(new:Zat X.prog X.w (upd H a ob) h' a ob):
 Inv X aa Z (upd H a ob) {s with heap:=h',toks:=t'}:=
 I.write (x:=a) (e:=a) mu (.inl rfl) (λb q hb z=>(hs.2 b hb).trans z) he new
def Zrb(z:kvs.length<=sizeLine)(hd:(a==Ye)=Wy)(rel:KV kvs vs)(dd:h'.DictOf (ZZ P w) a vs):
 Zat P w H' h' a (.dK kvs):=⟨z,hd,vs,rel,dd⟩
end
def Zle(h:YG)(hb:Ye<h.objs.size):Zat P w H (h.push {cls:=.type "dict",data:=.dict #[]}) h.objs.size (.dK []):=⟨Yw _,beq_eq_false_iff_ne.mpr (YL (Ou hb)),[],.nil,Heap.DictOf.new h⟩
def Zus:TE:=λ_ H Q=>∀p,H p=M->Q (.ref p) (upd H p (.dK []))
section
variable {X:Cx}{pos:Pos}
def Zqn:PE X (.Dict [] [] pos) Zus:=λaa s Z H Q I h=>wpAny_Dict_empty ⟨.ref s.heap.objs.size,_,I.laid (a:=s.heap.objs.size) (o:=.dK []) (t':=s.toks) (λ_ _ q=>Od _ q) (Oq _) (Zle s.heap I.big),rfl,h _ (I.hok.fresh (Oq _))⟩
end
def Zjy:List (TE×TE)->St->Hp->(List (V×V)->Hp->Prop)->Prop
 |[],_,H,Q=>Q [] H
 |(tk,tv)::r,Z,H,Q=>tk Z H λx H1=>tv Z H1 λy H2=>Zjy r Z H2 λps H3=>Q ((x,y)::ps) H3
abbrev VV:List (V×V)->List (Yj×Yj)->Prop:=Paired λp q=>RelV p.1 q.1/\RelV p.2 q.2
def PPs(X:Cx)(pos:Pos)(keys:List (Option Expr))(values:List Expr)(trs:List (TE×TE)):Prop:=
 ∀(aa:List (Yi×Obj)) (s:Yb) (Z:St) (H:Hp) (Q:List (V×V)->Hp->Prop),Inv X aa Z H s->Zjy trs Z H Q ->
  YB (model X.prog X.w) X.A (evalPairs (pairTrees keys values X.env pos)) (λvs s'=>∃ps H',Inv X aa Z H' s'/\VV ps vs/\Q ps H') X.xe s
def Zsd:PPs X pos [] [] []:=λaa s Z H Q I h=>pairTrees_nil_walk ⟨[],H,I,.nil,h⟩
def Zqc(hk:PE X k tk)(hv:PE X v tv)(hr:PPs X pos ks vs trs):
 PPs X pos (J k::ks) (v::vs) ((tk,tv)::trs):=λaa s Z H Q I h=>
 pairTrees_cons_walk (thn (hk aa s Z H _ I h) λu s1 ⟨x,H1,I1,rx,q1⟩=>thn (hv aa s1 Z H1 _ I1 q1) λw2 s2 ⟨y,H2,I2,ry,q2⟩=>thn (hr aa s2 Z H2 _ I2 q2) λws s3 ⟨ps,H3,I3,rel,q3⟩=>⟨(x,y)::ps,H3,I3,.cons ⟨rx,ry⟩ rel,q3⟩)
def Zgx(kvs more:List (Key×V)):List (Key×V):=more.foldl (λag kv=>putK ag kv.1 kv.2) kvs
def KV.merge:∀{more:List (Key×V)}{rs:List (Key×Yj)}{kvs:List (Key×V)}{vs:List (Key×Yj)},KV more rs->KV kvs vs->KV (Zgx kvs more) (merged vs rs):=by
 intro more rs kvs vs r;unfold KV at r;induction r generalizing kvs vs with
 |nil=>intro q;exact q
 |@cons p q ps qs h t ih=>
  intro r0;have e:KV (putK kvs p.1 p.2) (stored vs q.1 q.2):=by have:=r0.put p.1 h.2;rw[<-h.1];exact this
  exact ih e
theorem Ze8:∀(more kvs:List (Key×V)),(Zgx kvs more).length<=kvs.length+more.length
 |[],kvs=>by show kvs.length<=kvs.length+0;lia
 |p::r,kvs=>by have R:=Ze8 r (putK kvs p.1 p.2);have h2:=ZgQ kvs p.1 p.2;show(Zgx (putK kvs p.1 p.2) r).length<=_;rw[Os];lia
theorem Zis:∀{kvs:List (Key×V)}{ws:List (Yj×Yj)},VV (kvs.map λkv=>(kV kv.1,kv.2)) ws->∃rs,Carries (ZZ P w) ws rs/\KV kvs rs
 |[],_,r=>by rw[Oy]at r;cases r;exact⟨[],True.intro,.nil⟩
 |p::kvs,_,r=>by
  rw[Op]at r;cases r with
  |@cons a b as bs h t=>obtain⟨rs,c,q⟩:=Zis (P:=P) (w:=w) t;obtain⟨b1,b2⟩:=b;exact⟨(p.1,b2)::rs,⟨ZkZ h.1,rfl,c⟩,.cons ⟨rfl,h.2⟩ q⟩
def ZwK(trs:List (TE×TE)):TE:=λZ H Q=>∀p,H p=M->Zjy trs Z (upd H p (.dK [])) λps H2=>H2 p=J (.dK [])/\∃kvs:List (Key×V),ps=kvs.map (λkv=>(kV kv.1,kv.2))/\kvs.length<=15/\Q (.ref p) (upd H2 p (.dK (Zgx [] kvs)))
def Zso(h:PPs X pos keys values trs)(cj:keys.all (·.isSome)=Wx)(hl:keys.length=values.length)(h0:keys≠[])
 (jd:keys.length<=15):PE X (.Dict keys values pos) (ZwK trs):=by
 intro aa s Z H Q I q;have hn:=I.hok.fresh (Oq s.heap.objs.size);have I1:=I.laid (a:=s.heap.objs.size) (o:=.dK []) (h':=s.heap.push {cls:=.type "dict",data:=.dict #[]}) (t':=s.toks) (λ_ _ q=>Od _ q) (Oq _) (Zle s.heap I.big);refine wpAny_Dict_walk (knd:=ZZ X.prog X.w) cj hl h0 jd (thn (h aa _ Z _ _ I1 (q _ hn)) λws s2 ⟨ps,H2,I2,rel,e,kvs,ep,lk,q2⟩=>?_);subst ep;obtain⟨rs,c,rk⟩:=Zis (P:=X.prog) (w:=X.w) rel;obtain⟨z,hd,mw,r0,dd⟩:=Zt7 I2.hok e;cases r0;refine⟨rs,c,dd,λh' gg hs=>⟨.ref s.heap.objs.size,_,?_,rfl,q2⟩⟩;have hz:(Zgx [] kvs).length<=sizeLine:=by have R:=Ze8 kvs [];rw[List.length_nil]at R;rw[YC];lia
 have he:∃q,h'.get? s.heap.objs.size=J q:=let⟨q,_,_,hq,_⟩:=gg;⟨q,hq⟩;exact ZnL I2 (by rw[e];exact True.intro) hs he (Zrb hz hd (rk.merge .nil) gg)
set_option tactic.hygienic true
theorem Zed{env:Env}:∀(names:List (Str×NameKind)) (x:Str),
 (names.map λ(n,k)=>if (k==Yn&&env.scope.kind==.function&&env.kindOf n==J .cell)then(n,NameKind.cell)else(n,k)).lookup x =
  (names.lookup x).map λk=>if (k==Yn&&env.scope.kind==.function&&env.kindOf x==J .cell)then NameKind.cell else k
 |[],_=>rfl
 |(n,k)::r,x=>by
  have ih:=@Zed env r x;show Wm x ((if (k==Yn&&env.scope.kind==.function&&env.kindOf n==J .cell)=Wx then(n,NameKind.cell)else(n,k))::_)=_;cases hx:x==n with
  |true=>
   have e:x=n:=by simpa using hx
   subst e;by_cases hc:(k==Yn&&env.scope.kind==.function&&env.kindOf x==J .cell)=Wx
   . rw[if_pos hc];simp only[OF,hx,Yu,if_pos hc]
   . rw[if_neg hc];simp only[OF,hx,Yu,if_neg hc]
  |false=>
   by_cases hc:(k==Yn&&env.scope.kind==.function&&env.kindOf n==J .cell)=Wx
   . rw[if_pos hc];simp only[OF,hx];exact ih
   . rw[if_neg hc];simp only[OF,hx];exact ih
noncomputable def Zep(env:Env):List (Str×NameKind)->List (Str×Yi)->List (Str×Yi)
 |[],cs=>cs
 |(n,k)::r,cs=>Zep env r (if (k==.free)=Wx then(n,(env.cells.lookup n).getD 0)::cs else cs)
theorem Zlm{env:Env}:∀(l:List (Str×NameKind)) (cs:List (Str×Yi)),(∀y∈l,y.2=.free->∃c,env.cells.lookup y.1=J c) ->
 (∀x c,(x,c)∈cs->env.cells.lookup x=J c)->∀x c,(x,c)∈Zep env l cs->env.cells.lookup x=J c
 |[],cs,_,h2,x,c,hm=>h2 x c hm
 |(n,k)::r,cs,R,h2,x,c,hm=>by
  refine Zlm r _ (λy hy=>R y (Oh _ hy)) (λx c hm=>?_) x c hm;by_cases hk:(k==Yn)=Wx
  . rw[if_pos hk]at hm;rcases O3.mp hm with e|hm
    . cases e;have iS:k=.free:=by cases k<;>first|rfl|(exact absurd hk (by decide))
      obtain⟨c,e⟩:=R (n,k) Oi iS;rw[e];rfl
    . exact h2 x c hm
  . rw[if_neg hk]at hm;exact h2 x c hm
theorem Zjl:∀(l:List (Str×NameKind)) (cs:List (Str×Yi)) (p:Str×Yi),p∈cs->p∈Zep env l cs
 |[],_,_,h=>h
 |(n,k)::r,cs,p,h=>by
  refine Zjl r _ p ?_;by_cases hk:(k==Yn)=Wx
  . rw[if_pos hk];exact Oh _ h
  . rw[if_neg hk];exact h
theorem Zln:∀(l:List (Str×NameKind)) (cs:List (Str×Yi)) (y:Str×NameKind),y∈l->y.2=.free->∃c,(y.1,c)∈Zep env l cs
 |(n,k)::r,cs,y,h,hf=>by
  rcases O3.mp h with e|h
  . subst e;refine⟨(env.cells.lookup n).getD 0,Zjl r _ _ ?_⟩;have hk:(k==Yn)=Wx:=by have:k=.free:=hf;subst this;rfl
    rw[if_pos hk];exact Oi
  . exact Zln r _ y h hf
theorem Ze7:∀{l:List (Str×α)}{x:Str}{c:α},(x,c)∈l->∃c',l.lookup x=J c'/\(x,c')∈l
 |(n,d)::r,x,c,h=>by
  cases hx:x==n with
  |true=>
   have e:x=n:=by simpa using hx
   subst e;exact⟨d,by simp[OF],Oi⟩
  |false=>
   rcases O3.mp h with e|h
   . cases e;simp at hx
   . obtain⟨c',R,h2⟩:=Ze7 h;exact⟨c',by simp only[OF,hx];exact R,Oh _ h2⟩
def Zff(h:∀y∈scope.names,y.2=.free->∃c,env.cells.lookup y.1=J c):closureFor scope env=pure (Zep env scope.names []):=by
 have all:∀(l:List (Str×NameKind)) (cs:List (Str×Yi)),(∀y∈l,y.2=.free->∃c,env.cells.lookup y.1=J c) ->
  (forIn l cs λ(x:Str×NameKind) r=>match x with|(name,kind)=>if (kind==Yn)=Wx then(do let a <- cellOf env name;pure (ForInStep.yield ((name,a)::r)))else pure (ForInStep.yield r):Sem (List (Str×Yi)))=pure (Zep env l cs):=by
  intro l;induction l with
  |nil=>intro cs _;rfl
  |cons y r ih=>
   intro cs hl;obtain⟨n,k⟩:=y;rw[List.forIn_cons];have hr:=λcs=>ih cs λy hy=>hl y (Oh _ hy);by_cases hk:(k==Yn)=Wx
   . have iS:k=.free:=by cases k<;>first|rfl|(exact absurd hk (by decide))
     obtain⟨c,e⟩:=hl (n,k) Oi iS;have ec:cellOf env n=pure c:=by unfold cellOf;rw[e]
     simp only[hk,if_true,ec];show(forIn r ((n,c)::cs) _:Sem _)=_;rw[hr];show _=pure (Zep env r (if (k==Yn)=Wx then(n,(env.cells.lookup n).getD 0)::cs else cs));rw[if_pos hk,e];rfl
   . simp only[hk];show(forIn r cs _:Sem _)=_;rw[hr];show _=pure (Zep env r (if (k==Yn)=Wx then(n,(env.cells.lookup n).getD 0)::cs else cs));rw[if_neg hk]
 unfold closureFor;have z:=all scope.names [] h;dsimp only at z ⊢;rw[z];rfl
set_option tactic.hygienic false
def Zlj(I:Nat->Yb->Prop)
 (turn:∀n s,I n s->YB (model prog w) A (pyNext it) (λr s₁=>match r with
  |none=>qe (.ok .next) s₁
  |some v=>YB (model prog w) A (letOwnedTupleGo target it v) (λ_ s₁'=>YB (model prog w) A (assign target env v) (λ_ s₂=>
   YB (model prog w) A (forIn bb Wx λc r=>if r=Wx then do let ok <- isTrue c env (eval c env);pure (ForInStep.yield ok)else pure (ForInStep.yield r)) (λok s₃=>
    if ok=Wx then YB (model prog w) A (eval aC env) (λx s₄=>YB (model prog w) A (call (.builtin "list.append") [ag,x]) (λ_ s₅=>∃m,m<n/\I m s₅) (notedBy (model prog w) A env λe s'=>qe (.error e) s') s₄) (notedBy (model prog w) A env λe s'=>qe (.error e) s') s₃
    else ∃m,m<n/\I m s₃) (notedBy (model prog w) A env λe s'=>qe (.error e) s') s₂) (notedBy (model prog w) A env λe s'=>qe (.error e) s') s₁') (notedBy (model prog w) A env λe s'=>qe (.error e) s') s₁) (notedBy (model prog w) A env λe s'=>qe (.error e) s') s)
 (n:Nat) (h:I n s) :
 codeAny (model prog w) A (.compLoop (.ListComp aC [⟨target,iter,bb,0⟩] scope pos) 0 it ag env) qe s:=by
 refine codeAny_loop rfl I (λn s hI=>?_) n h;show YB _ A ((compTurn (.ListComp aC [⟨target,iter,bb,0⟩] scope pos) 0 it ag env).onRaise (λx=>do noteFrame x env;theTreesLotGoes x)) _ _ s;refine wpAny_noted ?_;rw[compTurn_list];refine Ya (wpAny_standAt (Ya (Yf (turn n s hI) (λr s₁ h₁=>?_) λ_ _ h'=>h')));cases r with
 |none=>exact Yc h₁
 |some v=>
  refine Ya (Yf h₁ (λ_ s₁' h₁'=>?_) λ_ _ h'=>h');refine Ya (Yf h₁' (λ_ s₂ h₂=>Ya (Yf h₂ (λok s₃ h₃=>?_) λ_ _ h'=>h')) λ_ _ h'=>h');cases ok with
  |false=>exact Yc ⟨rfl,h₃⟩
  |true=>exact Ya (Ya (Yf h₃ (λx s₄ h₄=>Ya (Yf h₄ (λ_ s₅ h₅=>Yc (Yc ⟨rfl,h₅⟩)) λ_ _ h'=>h')) λ_ _ h'=>h'))
structure CompSc(NC N:List Str)(js:List (Option Nat))(sc scope:Scope):Prop where
 kind:scope.kind=.function
 dkind:sc.kind=.function
 nocell:∀y∈scope.names,y.2≠.cell
 locs:∀y∈scope.names,y.2=.local->scope.names.lookup y.1=J .local
 free:∀y∈scope.names,y.2=.free->sc.names.lookup y.1=J .cell
 nd:NC.Nodup
 len:js.length=NC.length
 jok:((NC.zip js).all λp=>p.2.all λj=>Wz (N[j]?=J p.1)&&Wz (scope.names.lookup p.1=J .free))=Wx
theorem CompSc.at{NC N:List Str}{js:List (Option Nat)}(S_:CompSc NC N js sc scope){i j:Nat}{x:Str}(R:NC[i]?=J x)(h2:js[i]?=J (J j)):N[j]?=J x/\scope.names.lookup x=J .free:=by
 have h:=S_.jok;rw[OC]at h;have hm:(x,J j)∈NC.zip js:=by refine O1 (i:=i) ?_;rw[List.getElem?_zip_eq_some];exact⟨R,h2⟩
 have q:=h _ hm;simp only[Option.all_some,Oa,decide_eq_true_eq]at q;exact q
def capt(js:List (Option Nat))(Z:St):St:=js.map λo=>o.bind λj=>(Z[j]?).join
def xeC(X:Cx)(scope:Scope)(C:Yi):Yj->Yb->Prop:=notedBy (model X.prog X.w) X.A (compEnvC scope (Zep X.env scope.names []) C X.env) λe s'=>∃m,s'.heap.Ns C m/\∀h',Heap.SameBut C s'.heap h'->∀bE:Env,bE.locals=C->YB (model X.prog X.w) X.A (passOn "comprehension.variables-let-go" e bE:Sem Yj) (λ_ _=>False) X.xe {s' with heap:=h'}
def ZD(X:Cx)(NC:List Str)(scope:Scope)(C:Yi)(s3:Yb)(H3:Hp)(fp:List Yi):Cx:={X with N:=NC,s₀:=s3,H₀:=H3,env:=compEnvC scope (Zep X.env scope.names []) C X.env,outer:=X.stack,stack:=X.stack,ex:=fp,fn:=λ_=>Wy,calm:=true,pn:=[],xe:=xeC X scope C}
def Zpa(k:Nat)(g:TG):Prop:=∀x Z H Q,g x Z H Q->g x Z H λσ2 H2=>Q σ2 H2/\σ2.length=Z.length/\∀j,k<=j->σ2[j]?=Z[j]?
def ZlD(k:Nat)(g:TGs):Prop:=∀x Z H Q,g x Z H Q->g x Z H λσ2 H2=>Q σ2 H2/\σ2.length=Z.length/\∀j,k<=j->σ2[j]?=Z[j]?
def ZrO(h:i<k):Zpa k (ZdK i):=λx Z H Q q=>⟨q,List.length_set,λj hj=>by rw[Oc (by lia)]⟩
def ZmT:ZlD k Zs9:=λx Z H Q q=>⟨q.1,q.2,rfl,λ_ _=>rfl⟩
def ZhI(h:i<k)(hu:ZlD k u):ZlD k (Zk4 (ZdK i) u):=by
 rintro xs Z H Q ⟨v,r,e,q⟩;refine⟨v,r,e,?_⟩;have z:=hu r (Z.set i (J v)) H Q q;have z2:=hu r (Z.set i (J v)) H (λσ2 H2=>Q σ2 H2/\σ2.length=(Z.set i (J v)).length/\∀j,k<=j->σ2[j]?=(Z.set i (J v))[j]?) z;show u r (Z.set i (J v)) H _;have e1:(Z.set i (J v)).length=Z.length:=List.length_set;have e2:∀j,k<=j->(Z.set i (J v))[j]?=Z[j]? := λj hj=>Oc (by lia);have e3:(λσ2 H2=>Q σ2 H2/\σ2.length=Z.length/\∀j,k<=j->σ2[j]?=Z[j]?)=(λσ2 H2=>Q σ2 H2/\σ2.length=(Z.set i (J v)).length/\∀j,k<=j->σ2[j]?=(Z.set i (J v))[j]?):=by funext σ2 H2;rw[e1];refine propext ⟨λ⟨a,b,c⟩=>⟨a,b,λj hj=>(c j hj).trans (e2 j hj).symm⟩,λ⟨a,b,c⟩=>⟨a,b,λj hj=>(c j hj).trans (e2 j hj)⟩⟩
 rw[e3];exact z
def ZpB{K:Yk}(hu:ZlD k u):Zpa k (Zs8 K n u):=by rintro x Z H Q ⟨a,xs,e,R,h2,q⟩;exact⟨a,xs,e,R,h2,hu xs Z H Q q⟩
def PIf(X:Cx)(bb:List Expr)(t:TT):Prop:=
 ∀(aa:List (Yi×Obj)) (s:Yb) (Z:St) (H:Hp) (Q:Bool->Hp->Prop),Inv X aa Z H s->t Z H Q ->
  YB (model X.prog X.w) X.A (forIn bb Wx λc r=>if r=Wx then do let ok <- isTrue c X.env (eval c X.env);pure (ForInStep.yield ok)else pure (ForInStep.yield r)) (TP X aa Z Q) X.xe s
noncomputable def Zyt:TT:=λ_ H Q=>Q Wx H
def Zsh{X:Cx}:PIf X [] Zyt:=λ_ _ _ H _ I h=>wpAny_tests_nil ⟨H,I,h⟩
def Zsg{X:Cx}{c:Expr}{t:TT}(hc:PT X c t):PIf X [c] t:=λaa s Z H Q I h=>wpAny_tests_one (hc aa s Z H Q I h)
def ZtQ(wi:TI)(js:List (Option Nat))(g:TG)(tc:TT)(te:TE):TE:=λZ H Q=>wi Z H λqb H1=>∀D,H1 D=M->∃W:Nat->Nat->List V->Hp->Prop,(∃m,W 0 m [] (upd H1 D (.lst []))) /\
 ∀i m ys H,W i m ys H->H D=J (.lst ys)->(qb.stop i H/\Q (.ref D) H) \/
  (qb.go i H/\ys.length<sizeLine/\∀x H',qb.yld i H x H'->g x (capt js Z) H' λσ2 H2=>tc σ2 H2 λb H3=>
   if b=Wx then te σ2 H3 λy H4=>H4 D=J (.lst ys)/\∃m',m'<m/\W (i+1) m' (ys++[y]) (upd H4 D (.lst (ys++[y])))
   else H3 D=J (.lst ys)/\∃m',m'<m/\W (i+1) m' ys H3)
section
variable {X:Cx}{aa:List (Yi×Obj)}{Z:St}{H:Hp}{s:Yb}
def Zk1{NC:List Str}{js:List (Option Nat)}{sc scope:Scope}{C:Yi}{h4:YG}{tk:Nat}{fp:List Yi}{m:Str->Option Yj}(S_:CompSc NC X.N js sc scope)(bK:X.env.scope=sc)(hc:X.calm=Wx)
 (I:Inv X aa Z H s) (f:∀b∈fp,Zcg X aa H b) (fo:∀b∈fp,∃o,s.heap.get? b=J o) (hC:C=s.heap.objs.size) (bM:h4.Ns C m) (hk:∀b o,s.heap.get? b=J o->h4.get? b=J o) :
 Inv (ZD X NC scope C s H fp) [] (capt js Z) H {s with heap:=h4,toks:=tk}:=by
 have aQ:∀y∈scope.names,y.2=.free->∃c,X.env.cells.lookup y.1=J c:=λy hy hf=>I.ok.has y.1 (.inl (show X.env.scope.names.lookup y.1=J .cell by rw[bK];exact S_.free y hy hf));have eZ:∀x c,(Zep X.env scope.names []).lookup x=J c->X.env.cells.lookup x=J c:=λx c e=>Zlm scope.names [] aQ (λ_ _ z=>by cases z) x c (YI e);have jY:∀y∈scope.names,y.2=.free->∃c,(Zep X.env scope.names []).lookup y.1=J c:=λy hy hf=>by obtain⟨c,hm⟩:=Zln (env:=X.env) scope.names [] y hy hf;obtain⟨c',e,_⟩:=Ze7 hm;exact⟨c',e⟩
 have kinds:∀x,(ZD X NC scope C s H fp).env.kindOf x=(scope.names.lookup x).map λk=>if (k==Yn&&X.env.scope.kind==.function&&X.env.kindOf x==J .cell)then NameKind.cell else k:=λx=>Zed scope.names x;have gf:∀x,scope.names.lookup x=J .free->(ZD X NC scope C s H fp).env.kindOf x=J .cell:=λx e=>by
  rw[kinds,e];have R:X.env.kindOf x=J .cell:=show X.env.scope.names.lookup x=J .cell by rw[bK];exact S_.free (x,.free) (YI e) rfl
  have h2:X.env.scope.kind=.function:=I.ok.kind;simp only[Yu,R,h2];rfl
 have flt:∀b∈fp,b<s.heap.objs.size:=λb hb=>let⟨o,e⟩:=fo b hb;Ym e;refine⟨⟨I.ok.mod,S_.kind,I.ok.glob,I.ok.blt,Nat.le_of_eq hC.symm,λx y c R h2=>I.ok.inj x y c (eZ x c R) (eZ y c h2),λx hx=>?_,λx c hf _=>absurd (show Wy=Wx from hf) Ow,λ_=>I.ok.hd hc,I.ok.frames,.inl rfl,λb hb=>⟨?_,λx c e=>(f b hb).2.2.2.2.1 x c (eZ x c e)⟩,
  I.bs,OE I.ok.bsz I.sz,λb o e hb=>?_,λb hb hm=>?_,I.stack,I.stkFree⟩,
  rfl,I.bare,Un.kept hk,⟨m,bM,λi x v R h2 h3=>?_⟩,λx c e=>?_,?_,λx c e=>I.freeC x c (eZ x c e),λp hp=>absurd (show p∈([]:List (Yi×Obj))from hp) (by simp),I.hok.kept hk,?_⟩
 . rw[kinds]at hx;cases e:scope.names.lookup x with
   |none=>rw[e]at hx;rcases hx with hx|hx<;>cases hx
   |some k=>
    rw[e]at hx;have hm:=YI e;have hk:k=.free:=by
     by_cases hf:(k==Yn)=Wx
     . cases k<;>first|rfl|(exact absurd hf (by decide))
     . have lD:(k==Yn)=Wy:=Bool.eq_false_iff.mpr hf;simp only[Yu,lD,Bool.false_and,OG,if_false]at hx;rcases hx with hx|hx
       . exact absurd (YF hx) (S_.nocell _ hm)
       . exact YF hx
    exact jY (x,k) hm hk
 . show b≠C;rw[hC];exact Ou (flt b hb)
 . obtain⟨_,_,_,f3,_⟩:=f b hb;rcases f3 with z|z
   . exact I.ok.noex b o e z
   . exact absurd (Ot (Ym e) (OE I.ok.bsz z)) (Yv _)
 . obtain⟨_,f1,f2,_⟩:=f b hb;exact(O3.mp (I.stkSub b hm)).elim f1 f2
 . have hj:∃j,js[i]?=J (J j)/\Z[j]?=J (J v):=by
    unfold capt at h2;rw[O2]at h2;cases e:js[i]? with
    |none=>rw[e]at h2;cases h2
    |some o=>
     rw[e]at h2;have jc:(o.bind λj=>(Z[j]?).join)=J v:=YF h2;cases o with
     |none=>cases jc
     |some j=>
      refine⟨j,rfl,?_⟩;have ge:(Z[j]?).join=J v:=jc;cases q:Z[j]? with
      |none=>rw[q]at ge;cases ge
      |some r=>rw[q]at ge;rw[show r=J v from ge]
   obtain⟨j,hj,hσ⟩:=hj;obtain⟨hN,bB⟩:=S_.at (show NC[i]?=J x from R) hj;have aR:X.env.scope.names.lookup x=J .cell:=by rw[bK];exact S_.free (x,.free) (YI bB) rfl
   obtain⟨m0,_,hl⟩:=I.loc;obtain⟨u,r,l⟩:=hl j x v hN hσ (.inr (.inl aR));refine⟨u,r,?_⟩;rcases l with⟨k,_⟩|⟨_,c,e,z⟩
   . rw[show X.env.kindOf x=J .cell from aR]at k;cases k
   . obtain⟨c',e'⟩:=jY (x,.free) (YI bB) rfl;have ec:=eZ x c' e';rw[e]at ec;cases ec;obtain⟨o,ho,hd⟩:=z;exact .inr ⟨.inl (gf x bB),c,e',o,hk _ _ ho,hd⟩
 . obtain⟨v,o,ho,hd⟩:=I.cell x c (eZ x c e);exact⟨v,o,hk _ _ ho,hd⟩
 . show H C=M;rw[hC];exact I.hok.fresh (Oq _)
 . unfold capt;rw[Yt];exact S_.len
end
section
variable {X:Cx}{aC tg iter:Expr}{bb:List Expr}{scope sc:Scope}{pos:Pos}{NC:List Str}{js:List (Option Nat)}{k:Nat}{wi:TI}{g:TG}{tc:TT}{te:TE}
def Inv.comp_out{aa:List (Yi×Obj)}{Z σ':St}{H3 H':Hp}{s3 s1:Yb}{C:Yi}{fp:List Yi}{h'':YG}(I3:Inv X aa Z H3 s3)(f:∀b∈fp,Zcg X aa H3 b)(hC:C=s3.heap.objs.size)
 (I':Inv (ZD X NC scope C s3 H3 fp) [] σ' H' s1) (hs:Heap.SameBut C s1.heap h''):Inv X aa Z H' {s1 with heap:=h''}:=by
 have ne:∀b o,s3.heap.get? b=J o->b≠C:=λb o e=>by rw[hC];exact Ou (Ym e)
 have u:=I'.base;refine I3.call' (s':={s1 with heap:=h''}) (ch:=fp) I'.os ⟨λb o e n hb hx=>(hs.2 b (ne b o e)).trans (u.keep b o e n hb hx),λb o e n hb hx=>?_,u.free,λb o e hx=>?_,u.tups,u.frzs,u.tbls⟩ ?_ I'.bare λb hb=>?_
 . obtain⟨sl,q⟩:=u.slot b o e n hb hx;exact⟨sl,(hs.2 b (ne b o e)).trans q⟩
 . obtain⟨o',q⟩:=u.there b o e hx;exact⟨o',(hs.2 b (ne b o e)).trans q⟩
 . have bn:H' C=M:=I'.free;intro b ob e;refine(I'.hok b ob e).stay (λc w' hc q=>(hs.2 c ?_).trans q) (λ_ q=>q) λ_ _ q=>q;rintro rfl;rcases hc with rfl|hc
   . rw[bn]at e;cases e
   . rw[bn]at hc;cases hc
 . obtain⟨_,f1,_,f3,f4,f5⟩:=f b hb;exact⟨f3,f1,f4,f5⟩
def Zjk{aa:List (Yi×Obj)}{Z:St}{H3:Hp}{s3 s4:Yb}{C Dd it:Yi}{fp:List Yi}{tn:Nat->YG->Prop}{qb:It}{W:Nat->Nat->List V->Hp->Prop}{Q:VK}{m0:Nat}{post:Result->Yb->Prop}
 (hb:∀(aa:List (Yi×Obj)) (Z:St) (C:Yi) (s3:Yb) (H3:Hp) (fp:List Yi),Inv X aa Z H3 s3->(∀b∈fp,Zcg X aa H3 b)->C=s3.heap.objs.size->PG (ZD X NC scope C s3 H3 fp) tg g/\PIf (ZD X NC scope C s3 H3 fp) bb tc/\PE (ZD X NC scope C s3 H3 fp) aC te)
 (hk:Zpa k g) (fU:∀j,j<k->js[j]?=J M) (hC:C=s3.heap.objs.size) (I3:Inv X aa Z H3 s3) (f3:∀b∈fp,Zcg X aa H3 b) (eO:∀b∈fp,∃o,s3.heap.get? b=J o) (I4:Inv (ZD X NC scope C s3 H3 fp) [] (capt js Z) H3 s4) (T:Turn X.prog X.w X.K tg qb fp it tn) (di:tn 0 s4.heap) (lT:H3 Dd=J (.lst [])) (w0:W 0 m0 [] H3)
 (turn:∀i m ys H,W i m ys H->H Dd=J (.lst ys)->(qb.stop i H/\Q (.ref Dd) H)\/(qb.go i H/\ys.length<sizeLine/\∀x H',qb.yld i H x H'->g x (capt js Z) H' λσ2 H2=>tc σ2 H2 λb H3=>if b=Wx then te σ2 H3 λy H4=>H4 Dd=J (.lst ys)/\∃m',m'<m/\W (i+1) m' (ys++[y]) (upd H4 Dd (.lst (ys++[y])))else H3 Dd=J (.lst ys)/\∃m',m'<m/\W (i+1) m' ys H3))
 (stp:∀s6 H5,Inv (ZD X NC scope C s3 H3 fp) [] (capt js Z) H5 s6->Q (.ref Dd) H5->post (.ok .next) s6) (er:∀e s',(∃m,s'.heap.Ns C m/\∀h',Heap.SameBut C s'.heap h'->∀bE:Env,bE.locals=C->YB (model X.prog X.w) X.A (passOn "comprehension.variables-let-go" e bE:Sem Yj) (λ_ _=>False) X.xe {s' with heap:=h'})->post (.error e) s') :
 codeAny (model X.prog X.w) X.A (.compLoop (.ListComp aC [⟨tg,iter,bb,0⟩] scope pos) 0 (.ref it) (.ref Dd) (compEnvC scope (Zep X.env scope.names []) C X.env)) post s4:=by
 have bq:∀{H':Hp},(∀b∈fp,H' b=M)->∀b∈fp,Zcg (ZD X NC scope C s3 H3 fp) [] H' b:=λhn b hb=>⟨hn b hb,(by rw[hC];exact Ou (let⟨o,e⟩:=eO b hb;Ym e)),λhm=>I4.ok.exfs b hb hm,.inl hb,λx c e=>(I4.ok.exf b hb).2 x c e,λp hp=>absurd (show p∈([]:List (Yi×Obj))from hp) (by simp)⟩
 have gR:∀e s',xeC X scope C e s'->notedBy (model X.prog X.w) X.A (compEnvC scope (Zep X.env scope.names []) C X.env) (λe s'=>post (.error e) s') e s':=λe s' z=>Yf z (λ_ dj q=>er e dj q) λe' dj q=>er e' dj q;refine Zlj (λn s'=>∃i ys H',Inv (ZD X NC scope C s3 H3 fp) [] (capt js Z) H' s'/\tn i s'.heap/\(∀b∈fp,H' b=M)/\H' Dd=J (.lst ys)/\W i n ys H') ?_ m0
  ⟨0,[],_,I4,di,λb hb=>(f3 b hb).1,lT,w0⟩
 rintro n s5 ⟨i,ys,H5,I5,eR,gP,lS,w5⟩;rcases turn i n ys H5 w5 lS with⟨stop,qn⟩|⟨go,ak,step⟩
 . refine Yf (T.done (ZD X NC scope C s3 H3 fp) rfl rfl rfl rfl i [] s5 (capt js Z) H5 (λ_ _=>False) I5 (bq gP) eR stop) (λr s6 ⟨hr,I6⟩=>?_) λ_ _ z=>z.elim;subst hr;exact stp s6 H5 I6 qn
 . refine Yf (T.item (ZD X NC scope C s3 H3 fp) rfl rfl rfl rfl i [] s5 (capt js Z) H5 (λ_ _=>False) I5 (bq gP) eR go) (λr s6 ⟨u,hr,h6⟩=>?_) λ_ _ z=>z.elim;subst hr;refine Yf h6 (λ_ s7 ⟨x,H7,I7,r7,y7,h9,lV⟩=>?_) λ_ _ z=>z.elim;have mi:=I7.pinned (bq lV) (T.obj _ _ h9);obtain⟨pg,ko,pe⟩:=hb aa Z C s3 H3 fp I3 f3 hC;refine Yf (pg _ s7 (capt js Z) H7 x u _ mi r7 (hk _ _ _ _ (step x H7 y7))) (λ_ s8 ⟨σ8,H8,I8,q8,l8,k8⟩=>?_) gR;have back:∀{H9:Hp}{s9:Yb},Inv (ZD X NC scope C s3 H3 fp) ([]++ZhR fp s7.heap) σ8 H9 s9 ->
    Inv (ZD X NC scope C s3 H3 fp) [] (capt js Z) H9 s9/\tn (i+1) s9.heap/\∀b∈fp,H9 b=M:=λ{H9 s9} I9=>by
    refine⟨(I9.unpinned).weak l8.symm λj v e=>?_,T.keep _ _ _ h9 λb hb o e=>(I9.pin (b,o) (Ov _ (Ov _ (Zds hb e)))).1,λb hb=>?_⟩
    . by_cases hj:j<k
      . unfold capt at e;rw[O2,fU j hj]at e;cases e
      . rw[k8 j (Nat.le_of_not_lt hj)];exact e
    . obtain⟨o,e,d⟩:=T.obj _ _ h9 b hb;exact(I9.pin (b,o) (Ov _ (Ov _ (Zds hb e)))).2.1
   refine Yf (ko _ s8 σ8 H8 _ I8 q8) (λok s9 ⟨H9,I9,q9⟩=>?_) gR;cases ok with
   |false=>rw[if_neg Ow]at q9 ⊢;obtain⟨lR,m',hm,w9⟩:=q9;obtain⟨b1,b2,b3⟩:=back I9;exact⟨m',hm,i+1,ys,H9,b1,b2,b3,lR,w9⟩
   |true=>
    rw[if_pos rfl]at q9 ⊢;refine Yf (pe _ s9 σ8 H9 _ I9 q9) (λy ke ⟨v,j4,mq,kh,i9,m',hm,j7⟩=>?_) gR;refine Yf (Zi6 (X:=ZD X NC scope C s3 H3 fp) _ ke σ8 j4 (.ref Dd) [v] (.ref Dd) [y]
     (λ_ j2=>j2=upd j4 Dd (.lst (ys++[v]))) mq rfl (.cons kh .nil) ⟨_,ys,v,rfl,rfl,i9,ak,rfl⟩) (λ_ mB ⟨_,j2,mn,_,lY⟩=>?_) gR
    subst lY;obtain⟨b1,b2,b3⟩:=back mn;exact⟨m',hm,i+1,ys++[v],_,b1,b2,b3,Zt,j7⟩
theorem Zsp(S_:CompSc NC X.N js sc scope)(bK:X.env.scope=sc)(hc:X.calm=Wx)(hi:PI X tg iter wi)
   (hb:∀ (aa:List (Yi×Obj)) (Z:St) (C:Yi) (s3:Yb) (H3:Hp) (fp:List Yi),Inv X aa Z H3 s3->(∀ b∈fp,Zcg X aa H3 b)->C=s3.heap.objs.size->PG (ZD X NC scope C s3 H3 fp) tg g/\PIf (ZD X NC scope C s3 H3 fp) bb tc/\PE (ZD X NC scope C s3 H3 fp) aC te)
   (hk:Zpa k g) (fU:∀ j,j<k->js[j]?=J M) (hs:∀ x,foldedSetIterable iter X.env x=pure x:=by intro _;rfl) :
   PE X (.ListComp aC [⟨tg,iter,bb,0⟩] scope pos) (ZtQ wi js g tc te):=by
 intro aa s Z H Q I h;have aQ:∀ y∈scope.names,y.2=.free->∃ c,X.env.cells.lookup y.1=J c:=λy hy hf=>I.ok.has y.1 (.inl (show X.env.scope.names.lookup y.1=J .cell by rw [bK];exact S_.free y hy hf));rw [eval_ListComp];refine wpAny_comprehension_free (use:=M) rfl hs (Zff aQ) S_.kind S_.locs (thn (hi aa s Z H _ I h) λxv s1 R=>thn R λgC s2 h2=>?_);obtain⟨it,fp,tn,qb,H2,e,I2,T,bG,f2,rest⟩:=h2;subst e;have hD:H2 s2.heap.objs.size=M:=I2.hok.fresh (Oq _);obtain⟨W,⟨m0,w0⟩,turn⟩:=rest s2.heap.objs.size hD;refine Yq (wpAny_newFunctionEnv S_.nocell (by intro y hy;simp at hy) (λh4 bM dB=>?_) S_.kind);have I3:Inv X aa Z (upd H2 s2.heap.objs.size (.lst [])) {s2 with heap:=s2.heap.push {cls:=.type "list",dict:=M,data:=.seq ([]:List Yj).toArray}}:=I2.lnew (t':=s2.toks) (ys:=[]) (its:=[]) .nil (Yw _);dsimp only at bM dB ⊢;generalize hs3:({s2 with heap:=s2.heap.push {cls:=.type "list",dict:=M,data:=.seq ([]:List Yj).toArray}}:Yb)=s3 at I3;have eh:s2.heap.push {cls:=.type "list",dict:=M,data:=.seq ([]:List Yj).toArray}=s3.heap:=by rw [<-hs3]
 have eD:s2.heap.objs.size<s3.heap.objs.size:=by rw [<-eh,Heap.size_push];exact OH _
 rw [eh] at bM dB;have keep:∀ b o,s3.heap.get? b=J o->h4.get? b=J o:=λb o e=>(dB.2 b (Ou (Ym e))).trans (Od _ e);have eO:∀ b∈fp,∃ o,s3.heap.get? b=J o:=λb hb=>by
   obtain⟨o,e,_⟩:=T.obj 0 _ bG b hb;exact⟨o,by rw [<-eh];exact Od _ e⟩
 have iq:∀ b∈fp,b≠s2.heap.objs.size:=λb hb=>by
   obtain⟨o,e,_⟩:=T.obj 0 _ bG b hb;exact Ou (Ym e)
 have f3:∀ b∈fp,Zcg X aa (upd H2 s2.heap.objs.size (.lst [])) b:=λb hb=>⟨by rw [Zr (iq b hb)];exact(f2 b hb).1,(f2 b hb).2⟩
 have I4:=Zk1 (tk:=s2.toks+([]:List (Str×Yj)).length) S_ bK hc I3 f3 eO rfl bM keep;have di:tn 0 h4:=T.keep 0 _ _ bG λb hb o e=>keep b o (by rw [<-eh];exact Od _ e);have eC:(s2.heap.push {cls:=.type "list",dict:=M,data:=.seq ([]:List Yj).toArray}).objs.size=s3.heap.objs.size:=by rw [eh]
 have loop:∀ s4:Yb,s4={s3 with heap:=h4,toks:=s2.toks+([]:List (Str×Yj)).length} ->
     codeAny (model X.prog X.w) X.A (.compLoop (.ListComp aC [⟨tg,iter,bb,0⟩] scope pos) 0 (.ref it) (.ref s2.heap.objs.size) (compEnvC scope (Zep X.env scope.names []) s3.heap.objs.size X.env))
       (compPost (model X.prog X.w) X.A X.xe M (EP X aa Z Q) (.ref s2.heap.objs.size) s3.heap.objs.size) s4:=by
   rintro s4 rfl;exact Zjk hb hk fU rfl I3 f3 eO I4 T di Zt w0 turn (λs6 H5 I6 qn=>by
     obtain⟨m,hm,_⟩:=I6.loc;exact⟨m,hm,λh' eU=>⟨.ref s2.heap.objs.size,H5,I3.comp_out f3 rfl I6 eU,rfl,qn⟩⟩) (λ_ _ z=>z)
 have e4:({s2 with heap:=h4,toks:=s2.toks+([]:List (Str×Yj)).length}:Yb)={s3 with heap:=h4,toks:=s2.toks+([]:List (Str×Yj)).length}:=by rw [<-hs3]
 rw [eC];exact codeAny_compStart_list (loop _ e4) (T.self X.A 0 _ _ _ di (loop _ e4))
end
set_option tactic.hygienic true
section
variable {X:Cx}
def TyN(K:Yk)(x:V)(H:Hp)(t:String):Prop:=match x with
 |.int _=>t="int"
 |.str _=>t="str"
 |.bl _=>t="bool"
 |.non=>t="NoneType"
 |.ref p=>(t="list" /\ ∃xs,SqL K H p xs)\/(t="tuple" /\ ∃xs,SqT K H p xs)
 |_=>False
def Zro:Zb5 X (.builtin "isinstance") (λxs H Q=>∃x t T b,xs=[x,.ty T]/\TyN X.K x H t/\PySem.W.kitOne X.K (.type t) (.type T)=J b/\Q (.bl b) H):=by
 intro aa s Z H xs us Q I r h;obtain⟨x,t,T,b,rfl,ty,e,q⟩:=h;obtain⟨u,w',rfl,rx,rT⟩:=vals2 r;obtain rfl:w'=Value.type T:=rT;have fin:∀tk,EP X aa Z Q (.bool b) {s with toks:=tk}:=λtk=>⟨.bl b,H,I.tok tk,rfl,q⟩
 cases x with
 |int i=>obtain⟨tk,rfl⟩:=rx;obtain rfl:t="int" := ty;exact PySem.W.kia_one PySem.W.kitx_int I.kIn trivial e (by intro z;cases z) fin
 |str i=>obtain⟨tk,rfl⟩:=rx;obtain rfl:t="str" := ty;exact PySem.W.kia_one PySem.W.kitx_str I.kIn trivial e (by intro z;cases z) fin
 |bl i=>obtain rfl:u=Value.bool i:=rx;obtain rfl:t="bool" := ty;exact PySem.W.kia_one PySem.W.kitx_bool I.kIn trivial e (by intro z;cases z) fin
 |non=>obtain rfl:u=Value.none:=rx;obtain rfl:t="NoneType" := ty;exact PySem.W.kia_one PySem.W.kitx_none I.kIn trivial e (by intro z;cases z) fin
 |ref p=>
  obtain rfl:u=YD p:=rx;rcases ty with⟨rfl,xs,hx⟩|⟨rfl,xs,hx⟩
  . obtain⟨its,_,pl,_⟩:=I.list hx;exact PySem.W.kia_one PySem.W.kitx_list I.kIn pl.isList.typeIs e (by intro z;cases z) fin
  . obtain⟨its,_,pl,_⟩:=I.tuple hx;exact PySem.W.kia_one PySem.W.kitx_tuple I.kIn pl.typeIs e (by intro z;cases z) fin
 |_=>exact(show False from ty).elim
def ZoR{K:Yk}(h:PySem.W.kitOne [] (.type t) (.type T)=J b):PySem.W.kitOne K (.type t) (.type T)=J b:=h
def ZyQ:V->Option Int->Option Int->Hp->VK->Prop:=λx lo hi H Q=>∃y,x=.str y/\y.length<=sizeLine/\Q (.str (Yp y lo hi)) H
def Zux:SlR X ZyQ:=by
 intro aa s Z H x v vl vu lo hi sl Q I rx hs pl pu h;obtain⟨y,rfl,hz,q⟩:=h;obtain⟨t,rfl⟩:=rx;refine⟨"str",_,F.slot_str_getitem.lookup,typeIs_str _ _ _,?_⟩;have go:∀(l u:Option (Int×Tok)),vl=partValue l->vu=partValue u->lo=l.map (·.1)->hi=u.map (·.1)->YB (model X.prog X.w) X.A (getItem (.str y t) (.ref sl)) (EP X aa Z Q) X.xe s:=by rintro l u rfl rfl rfl rfl;refine wpAny_getItem_str_slice (l:=l) (u:=u) (st:=M) hs rfl ?_;refine post_val_or_str ⟨OE (Txt.slice_le y _ _) hz,λt' k=>⟨.str _,H,I.tok k,⟨t',rfl⟩,q⟩⟩
 cases pl with
 |none=>
  cases pu with
  |none=>exact go M M rfl rfl rfl rfl
  |int j tj=>exact go M (J (j,tj)) rfl rfl rfl rfl
 |int i ti=>
  cases pu with
  |none=>exact go (J (i,ti)) M rfl rfl rfl rfl
  |int j tj=>exact go (J (i,ti)) (J (j,tj)) rfl rfl rfl rfl
end
def Zat.there(x:Zat P w H h a o):∃ob,h.get? a=J ob:=by
 cases o with
 |lst xs=>obtain⟨_,_,_,_,e⟩:=x;exact⟨_,e⟩
 |tup xs=>obtain⟨_,_,_,ob,e,_⟩:=x;exact⟨_,e⟩
 |dK kvs=>obtain⟨_,_,_,_,o,_,_,e,_⟩:=x;exact⟨_,e⟩
 |dT kvs=>obtain⟨_,_,_,_,o,_,_,e,_⟩:=x;exact⟨_,e⟩
 |set S_ n=>obtain⟨o,_,_,_,e,_⟩:=x;exact⟨_,e⟩
 |ins C dx fs=>obtain⟨_,_,_,e,_⟩:=x;exact⟨_,e⟩
 |own y=>obtain⟨_,e⟩:=x;exact⟨_,e⟩
 |xd fs=>obtain⟨_,⟨_,_,_,e,_⟩,_⟩:=x;exact⟨_,e⟩
 |rng lo hi=>obtain⟨_,_,_,e⟩:=x;exact⟨_,e⟩
 |frz ob u=>obtain⟨e,_⟩:=x;exact⟨_,e⟩
 |tbl ps=>exact⟨_,(show h.get? a=J _ from x)⟩
 |met f y=>exact⟨_,(show h.get? a=J _ from x)⟩
 |ext φ=>obtain⟨_,⟨_,e⟩,_⟩:=x;exact⟨_,e⟩
def Kept(fs:List Yi)(H':Hp)(h R B_:YG):Prop:=∀b o,R.get? b=J o->(H' b≠M\/((∃o',h.get? b=J o')/\b ∉ fs))->B_.get? b=J o
def CXF(P:Yh)(w:Yg):CXT:=λouter H s E e s'=>
 ∃(a:Yi) (cls a0:Yj) (H':Hp) (B_:YG),e=.ref a/\s'.os=s.os/\AllBare s'.gens/\Un (frs outer) [] H H' s.heap s'.heap/\HOk P w H' s'.heap /\
  Heap.FlyingW B_ outer a cls a0 s'.heap/\Kept (frs outer) H' s.heap s'.heap B_/\H' a=M/\E cls M H'
def Zfk(un:Un fs [] H H' h R)(hok:HOk P w H' R)(kb:Kept fs H' h R B_)(stay:B_.StaysIn h2)(up:R.UpToSlots h2)
 (hf:∀b∈fs,∃o,R.get? b=J o/\∀vs,o.data≠.fields vs):Un fs [] H H' h h2/\HOk P w H' h2/\Kept fs H' h h2 B_:=by
 have tr:∀b u,H' b=J u->∃o,R.get? b=J o/\h2.get? b=J o/\B_.get? b=J o:=λb u e=>by obtain⟨o,q⟩:=(hok b u e).there;have z:=kb b o q (.inl (by rw[e];simp));exact⟨o,q,stay _ _ z,z⟩
 have old:∀b o,h.get? b=J o->b ∉ fs->∃o1,R.get? b=J o1/\h2.get? b=J o1/\B_.get? b=J o1:=λb o e hb=>by obtain⟨o1,q⟩:=un.there b o e (by simp);have z:=kb b o1 q (.inr ⟨⟨o,e⟩,hb⟩);exact⟨o1,q,stay _ _ z,z⟩
 refine⟨⟨λb o e n hb _=>?_,λb o e n hb _=>?_,λb o e n _=>un.free b o e n (by simp),λb o e _=>?_,un.tups,un.frzs,un.tbls⟩,λb u e=>?_,λb o e hb=>?_⟩
 . obtain⟨o1,q1,q2,_⟩:=old b o e hb;have z:=un.keep b o e n hb (by simp);rw[q1]at z;cases z;exact q2
 . obtain⟨sl,z⟩:=un.slot b o e n hb (by simp);obtain⟨o',z',nf⟩:=hf b hb;rw[z]at z';cases z';obtain⟨cr,q⟩:=up b _ z nf;exact⟨cr,q⟩
 . by_cases hb:b∈fs
   . obtain⟨o',z',nf⟩:=hf b hb;obtain⟨cr,q⟩:=up b _ z' nf;exact⟨_,q⟩
   . obtain⟨o1,_,q2,_⟩:=old b o e hb;exact⟨_,q2⟩
 . refine(hok b u e).stay (λc v hc q=>?_) (λ_ q=>q) λ_ _ q=>q;have cB:∃u',H' c=J u':=by
    rcases hc with rfl|hc
    . exact⟨u,e⟩
    . exact⟨_,hc⟩
   obtain⟨u',e'⟩:=cB;obtain⟨o,q1,q2,_⟩:=tr c u' e';rw[q]at q1;cases q1;exact q2
 . rcases hb with hb|⟨⟨o',e'⟩,hb⟩
   . cases q:H' b with
     |none=>exact absurd q hb
     |some u=>obtain⟨o1,q1,q2,q3⟩:=tr b u q;rw[e]at q2;cases q2;exact q3
   . obtain⟨o1,q1,q2,q3⟩:=old b o' e' hb;rw[e]at q2;cases q2;exact q3
def Zkn(X:Cx)(E:XK):Prop:=∀(aa:List (Yi×Obj)) (Z:St) (H:Hp) (s:Yb) (h':YG) (e:Yi) (cls:Yj) (vs:List Yj),Inv X aa Z H s->Heap.MadeExcOf s.heap h' e cls vs->E cls M H->X.xe (.ref e) {s with heap:=h'}
section
variable {P:Yh}{w:Yg}{K:Yk}{mg:Str->Option Yj}{base:YG}{N:List Str}{ah:Str}{scope:Scope}{f:Yi}{cd:Yj}{A:YH}{outer:List Env}{s0:Yb}{H0:Hp}{E:XK}
def ZpQ:Zkn (ZgG (CXF P w) P w K mg base N ah scope f cd A outer s0 H0 E) E:=by
 intro aa Z H s h' e cls vs I hx hE;have bB:(A.deeper (envOfC ah scope s0.heap.objs.size f cd)).frames=J (envOfC ah scope s0.heap.objs.size f cd::outer):=I.ok.frames;have cT:∀env∈(envOfC ah scope s0.heap.objs.size f cd::outer),∀b,env.frame=J b->b∈(envOfC ah scope s0.heap.objs.size f cd::outer).filterMap (·.frame):=λenv he b hb=>List.mem_filterMap.mpr ⟨env,he,hb⟩;have hst:s.heap.FunFrames base (envOfC ah scope s0.heap.objs.size f cd::outer):=I.stack;show YB (model P w) (A.deeper (envOfC ah scope s0.heap.objs.size f cd)) (leaving (envOfC ah scope s0.heap.objs.size f cd) (.ref e)) _ _ {s with heap:=h'};refine wpAny_leaves_madeW (s:={s with heap:=h'}) (base:=Wa s.heap (frs (envOfC ah scope s0.heap.objs.size f cd::outer))) bB rfl (λb o q=>PySem.W.of_hideAll _ q) (PySem.W.funFrames_hide hst cT) hx λh'' t x1 x2 x3 x4=>?_;have un:Un (frs outer) [] H0 H s0.heap h':=(I.base:Un (frs outer) [] H0 H s0.heap s.heap).trans (Un.kept hx.keeps);have hok:HOk P w H h':=I.hok.kept hx.keeps;have kb:Kept (frs outer) H s0.heap h' (Wa s.heap (frs (envOfC ah scope s0.heap.objs.size f cd::outer))):=λb o e1 hb=>by
  rcases hb with hb|⟨⟨o',e'⟩,hb⟩
  . cases q:H b with
    |none=>exact absurd q hb
    |some u=>
     obtain⟨o1,q1⟩:=(I.hok b u q).there;have q2:=hx.keeps b o1 q1;rw[e1]at q2;cases q2;exact PySem.W.hideAll_get _ q1 λhm=>by have z:H b=M:=I.stkFree b hm;rw[q]at z;cases z
  . obtain⟨o1,q1⟩:=(I.base:Un (frs outer) [] H0 H s0.heap s.heap).there b o' e' (show b ∉ ([]:List Yi)from List.not_mem_nil);have q2:=hx.keeps b o1 q1;rw[e1]at q2;cases q2;refine PySem.W.hideAll_get _ q1 λhm=>?_;have fR:b∈s0.heap.objs.size::frs outer:=I.stkSub b hm;rcases O3.mp fR with z|z
    . rw[z]at e';exact absurd (Ym e') (Yv _)
    . exact hb z
 have dP:∀b∈frs outer,∃o,h'.get? b=J o/\∀vs,o.data≠.fields vs:=λb hb=>by obtain⟨_,o,q,nf⟩:=I.funs.mem hb;exact⟨o,hx.keeps _ _ q,nf⟩
 obtain⟨r1,r2,r3⟩:=Zfk un hok kb x1.1 x4 dP;refine⟨e,cls,_,H,_,rfl,I.os,I.bare,r1,r2,x1,r3,?_,hE⟩;cases q:H e with
 |none=>rfl
 |some u=>obtain⟨o1,q1⟩:=(I.hok e u q).there;rw[hx.new]at q1;cases q1
def Zss(h:∀cls H',E1 cls M H'->E cls M H'):Zbi (CXF P w) (ZgG (CXF P w) P w K mg base N ah scope f cd A outer s0 H0 E) E1:=by
 intro aa Z H s e s' I hx;obtain⟨a,cls,a0,H',B_,rfl,os,bare,un,hok,fl,kb,ha,hE⟩:=hx;have I':=I.call' (ch:=[]) os un hok bare (λb z=>absurd z (by simp));have bB:(A.deeper (envOfC ah scope s0.heap.objs.size f cd)).frames=J (envOfC ah scope s0.heap.objs.size f cd::outer):=I.ok.frames;show YB (model P w) (A.deeper (envOfC ah scope s0.heap.objs.size f cd)) (leaving (envOfC ah scope s0.heap.objs.size f cd) (.ref a)) _ _ s';refine wpAny_leaves_onW bB rfl fl λh'' x1 x4=>?_;have iw:Kept (frs outer) H' s0.heap s'.heap B_:=λb o e1 hb=>by
  refine kb b o e1 ?_;rcases hb with hb|⟨⟨o',e'⟩,hb⟩
  . exact .inl hb
  . obtain⟨o1,q1⟩:=(I.base:Un (frs outer) [] H0 H s0.heap s.heap).there b o' e' (show b ∉ ([]:List Yi)from List.not_mem_nil);refine .inr ⟨⟨o1,q1⟩,λhm=>?_⟩;have fR:b∈s0.heap.objs.size::frs outer:=I.stkSub b hm;rcases O3.mp fR with z|z
    . rw[z]at e';exact absurd (Ym e') (Yv _)
    . exact hb z
 have dP:∀b∈frs outer,∃o,s'.heap.get? b=J o/\∀vs,o.data≠.fields vs:=λb hb=>by obtain⟨_,o,q,nf⟩:=I'.funs.mem hb;exact⟨o,q,nf⟩
 obtain⟨r1,r2,r3⟩:=Zfk (I'.base:Un (frs outer) [] H0 H' s0.heap s'.heap) hok iw x1.1 x4 dP;exact⟨a,cls,a0,H',B_,rfl,I'.os,bare,r1,r2,x1,r3,ha,h _ _ hE⟩
end
def Zi4:Zbi (CXF P w) X E0:=λ_ _ _ _ _ _ _ h=>by obtain⟨_,_,_,_,_,_,_,_,_,_,_,_,_,z⟩:=h;exact z.elim
def Ztc{K:Yk}{h:YG}{C:Yi}{gi:List Yj}{bj:String}(X:K.In h)(q:PySem.W.excIn K C gi bj=Wx):
 ∃bm N nm qn bs hdct sn sub ab col dd k0 k1 k2 k3 k5 mN,h.get? C=J (excClassObj nm qn C N bs bm hdct sn sub ab col dd k0 k1 k2 k3 k5 bj)/\h.Ns N mN/\mN "__init__"=M/\OwnTail h gi bm:=by
 unfold PySem.W.excIn at q;split at q
 . rename_i dd cd sl ho;split at q
   . rename_i C' bm k0 k1 k2 k3 n k5 hm hs;simp only[Oa,beq_iff_eq,Bool.not_eq_true']at q;obtain⟨⟨⟨⟨⟨rfl,rfl⟩,fY⟩,ht⟩,hok⟩,gH⟩:=q;obtain⟨nm,bs,mro,ns,qn,hd,sn,sub,ab,col,m6⟩:=cd;dsimp only at hm fY hok gH;subst hm fY;have jE:sl=#[k0,k1,k2,k3,J (.builtin n),k5]:=by obtain⟨l⟩:=sl;simp only at hs;rw[hs]
     subst jE;exact⟨bm,ns,nm,qn,bs,hd,sn,sub,ab,col,dd,k0,k1,k2,k3,k5,_,X _ _ ho,.of_isNs (PySem.W.isNs_of_in X hok),PySem.W.nsMap_none_of_in X hok gH,PySem.W.tail_of_in X ht⟩
   . cases q
 . cases q
section
variable {X:Cx}{x:Str}{C:Yi}{gi:List Yj}{B_ bj dr:String}{np ao pos:Pos}{e:Expr}{es:List Expr}{t:TA}{E:XK}
noncomputable def Zur(C:Yi)(E:XK)(t:TA):TS:=λ_ Z H=>t Z H λvs H1=>vs.length<=sizeLine/\E (.ref C) M H1
def Zp9(hR:Zkn X E)(hc:X.calm=Wx)(FB:ExcBaseFacts B_ bj dr gi)(hg:Gl X x)(hm:X.mg x=J (.ref C))(hq:PySem.W.excIn X.K C gi bj=Wx)(ha:PA X (e::es) t)
 (bv:(x==("__debug__" : Str))=Wy:=by decide) (he:YA (e::es) X.env=(Wy,eval e X.env)::YA es X.env:=by rfl) (aM:(YS ao (YA es X.env)).any (·.1)=Wy:=by rfl) :
 PS X (.Raise (J (.Call (.Name x np) (e::es) [] ao)) M pos) (Zur C E t):=by
 intro aa s Z H D I h;obtain⟨tl,N,nm,q,bs,hdct,sn,sub,ab,col,dd,k0,k1,k2,k3,k5,mN,hC,hN,gH,T⟩:=Ztc I.mod.kin hq;refine wpAny_Raise_call_subT (C:=C) (nm:=nm) (q:=q) (N:=N) (bs:=bs) (bm:=tl) (hdct:=hdct) (sn:=sn) (sub:=sub) (ab:=ab) (col:=col) (dd:=dd) (k0:=k0) (k1:=k1) (k2:=k2) (k3:=k3) (k5:=k5)
  FB (mN:=mN) (T.hasType FB.hasBase) (I.ok.hd hc) (by rw[he];show(Wy||(YS ao (YA es X.env)).any (·.1))=Wy;rw[aM];rfl) gH (Zdt I hg hm ⟨rfl,?_⟩ bv)
 have R:=ha ao aa s Z H _ I h;rw[he]at R ⊢;refine Calls.evalArgs_plain (thn R λus s2 ⟨vs,H2,I2,r2,hl,hE⟩=>?_);exact⟨rfl,by rw[<-r2.length];exact hl,I2.bk _ _ hC,hN.keeps I2.bk,T.keeps I2.bk,λh' a fQ=>hR aa Z H2 s2 h' a _ us I2 fQ hE⟩
end
def cxH(X:Cx)(a:Yi)(oe:Obj):Cx:={X with A:=X.A.mark (J (.ref a)),calm:=false,pn:=X.pn++[(a,oe)],xe:=λ_ _=>False}
abbrev cxM(X:Cx)(a:Yi):Cx:={X with A:=X.A.mark (J (.ref a)),calm:=false,xe:=λ_ _=>False}
section
variable {X:Cx}{aa:List (Yi×Obj)}{Z:St}{H:Hp}{s:Yb}{a:Yi}{oe:Obj}
def Inv.toM(I:Inv X aa Z H s)(a:Yi):Inv (cxM X a) aa Z H s:=⟨⟨I.ok.mod,I.ok.kind,I.ok.glob,I.ok.blt,I.ok.above,I.ok.inj,I.ok.has,I.ok.cab,λz=>absurd z Ow,I.ok.frames,I.ok.stk,I.ok.exf,I.ok.bs,I.ok.bsz,I.ok.noex,I.ok.exfs,I.ok.funs,I.ok.frf⟩,I.os,I.bare,I.base,I.loc,I.cell,I.free,I.freeC,I.pin,I.hok,I.len⟩
def Inv.toH(I:Inv X aa Z H s)(R:s.heap.get? a=J oe)(h2:H a=M)(h3:a≠X.env.locals)(h4:a ∉ X.fs)(h5:∀v,oe.data≠.cell v):Inv (cxH X a oe) aa Z H s:=
 ⟨⟨I.ok.mod,I.ok.kind,I.ok.glob,I.ok.blt,I.ok.above,I.ok.inj,I.ok.has,I.ok.cab,λz=>absurd z Ow,I.ok.frames,I.ok.stk,I.ok.exf,I.ok.bs,I.ok.bsz,I.ok.noex,I.ok.exfs,I.ok.funs,I.ok.frf⟩,I.os,I.bare,I.base,I.loc,I.cell,I.free,I.freeC,
  λp hp=>by
   rcases OD.mp (show p∈(X.pn++[(a,oe)])++aa from hp)with z|z
   . rcases OD.mp z with z|z
     . exact I.pin p (Yr _ z)
     . have e:p=(a,oe):=by simpa using z
       subst e;exact⟨R,h2,h3,h4,h5⟩
   . exact I.pin p (Ov _ z),I.hok,I.len⟩
theorem Inv.ofH(I:Inv (cxH X a oe) aa Z H s)(hd:X.calm=Wx->X.A.handled=M):Inv X aa Z H s :=
 ⟨⟨I.ok.mod,I.ok.kind,I.ok.glob,I.ok.blt,I.ok.above,I.ok.inj,I.ok.has,I.ok.cab,hd,I.ok.frames,I.ok.stk,I.ok.exf,I.ok.bs,I.ok.bsz,I.ok.noex,I.ok.exfs,I.ok.funs,I.ok.frf⟩,I.os,I.bare,I.base,I.loc,I.cell,I.free,I.freeC,
   λp hp=>I.pin p (by
     rcases OD.mp hp with z|z
     . exact Yr _ (Yr _ z)
     . exact Ov _ z),I.hok,I.len⟩
end
def Zla{K:Yk}(X:K.In s.heap)(R:PySem.W.typeIn K (.ref C2)=J (.type "type"))(h0:(PySem.W.clsIn K C2).isSome=Wx)
 (h2:YV K (.ref C2) (.type "BaseException")=J Wx) (h3:YV K (.ref C) (.ref C2)=J Wx) (he:s.heap.get? a=J oe) (hc:oe.cls=.ref C) (q:Q Wx s):YB qd A (excMatches (.ref a) (.ref C2)) Q E s:=by
 have i1:PySem.W.instIn K (.ref C2) (.type "tuple")=J Wy:=by unfold PySem.W.instIn;rw[R];show YV K (.type "type") (.type "tuple")=J Wy;show YV [] (.type "type") (.type "tuple")=J Wy;decide +kernel
 have L1:=PySem.W.looks_instIn (M:=qd) X i1;have L2:=PySem.W.looks_subIn (M:=qd) X h2;have L3:=PySem.W.looks_subIn (M:=qd) X h3;have L0:PySem.W.Looks qd s.heap (isType (.ref C2)) Wx:=by
  unfold PySem.W.clsIn at h0;split at h0
  . rename_i c' d' m9 cr ho;intro A' Q' E' s' k q;unfold isType loadHead;exact Ya (wpAny_loadPart (k _ _ (X _ _ ho)) (Yc q))
  . cases h0
 have LT:PySem.W.Looks qd s.heap (typeOf (.ref a)) (.ref C):=by rw[<-hc];exact(PySem.W.Looks.ld he).andThen .now
 unfold excMatches isExcClass
 repeat (any_goals (first|assumption|lk|wp_step))
structure ExcN(K:Yk)(C2:Yi):Prop where
 ty:PySem.W.typeIn K (.ref C2)=J (.type "type")
 cls:(PySem.W.clsIn K C2).isSome=Wx
 exc:YV K (.ref C2) (.type "BaseException")=J Wx
def Def(P:Yh)(w:Yg)(K:Yk)(mg:Str->Option Yj)(base:YG)(k:Nat)(x:Str)(ps:List Str)(sp:Sp):Prop:=∃f fd,mg x=J (.ref f)/\Wg K (.ref f)=Wx/\Binds K fd ps []/\FnOk P w K mg base (CXF P w) k f fd ps sp
section
variable {X:Cx}{k:Nat}{x:Str}{ps:List Str}{sp:Sp}{E:XK}{e:Expr}{es:List Expr}{t:TA}{p pos:Pos}
def ZyF(sp:Sp)(E:XK)(t:TA):TE:=λZ H Q=>t Z H λvs H1=>sp vs H1 Q E
def Zu9(D:Def X.prog X.w X.K X.mg X.base k x ps sp)(hr:Room k X.A)(hg:Gl X x)(hx:Zbi (CXF X.prog X.w) X E)(ha:PA X (e::es) t)
 (bv:(x==("__debug__" : Str))=Wy:=by decide) (he:YA (e::es) X.env=(Wy,eval e X.env)::YA es X.env:=by rfl) (aM:(YS pos (YA es X.env)).any (·.1)=Wy:=by rfl) :
 PE X (.Call (.Name x p) (e::es) [] pos) (ZyF sp E t):=by
 obtain⟨f,fd,R,h2,h3,h4⟩:=D;intro aa s Z H Q I h;refine Zsq h4 hr hg R h2 h3 .nil hx ha bv he aM aa s Z H Q I ?_;have z:t Z H λvs H1=>sp vs H1 Q E:=h;show t Z H λvs H1=>sp (vs++[]) H1 Q E;simpa only[Ys]using z
end
section
variable {X:Cx}{aa:List (Yi×Obj)}{Z:St}{H:Hp}{s:Yb}{h':YG}
def ZnC{ch:List Yi}(hf:∀b∈ch,Zcg X aa H b):∀b∈ch,(b∈X.ex\/X.s₀.heap.objs.size<=b)/\b≠X.env.locals/\(∀x c,X.env.cells.lookup x=J c->c≠b)/\∀p∈X.pn++aa,p.1≠b:=λb hb=>by obtain⟨_,f1,_,f3,f4,f5⟩:=hf b hb;exact⟨f3,f1,f4,f5⟩
def Inv.turnL{t':Nat}{ch:List Yi}(I:Inv X aa Z H s)(hf:∀b∈ch,Zcg X aa H b)(k:∀b o,b ∉ ch->s.heap.get? b=J o->h'.get? b=J o):Inv X aa Z H {s with heap:=h',toks:=t'}:=by
 have cR:∀b u,H b=J u->b ∉ ch:=λb u e z=>by rw[(hf b z).1]at e;cases e
 refine I.step (g':=s.gens) (d':=s.drawn) (ch:=ch) (ZnC hf) (λb o _ _ hc e _=>k b o hc e) (λb o _ _ hc e _=>⟨o.slots,k b o hc e⟩) (λ_ _ _ _ n=>n)
  (λb o hc e=>⟨o,k b o hc e⟩) (λ_ _ e=>e) (λ_ _ _ e=>e) (λb ps e=>⟨#[],by rw[e];simp⟩) (λm hm=>?_) (λb u e=>?_) I.bare
 . obtain⟨o,es,ep,ho,r⟩:=hm;exact⟨o,es,ep,k _ o (λz=>(hf _ z).2.1 rfl) ho,r⟩
 . refine(I.hok b u e).stay (λc v hc q=>k c v ?_ q) (λ_ q=>q) λ_ _ q=>q;rcases hc with z|z
   . rw[z];exact cR b u e
   . exact cR c _ z
def Inv.turnT{t':Nat}{ch:List Yi}{us:List Yj}(I:Inv X aa Z H s)(hf:∀b∈ch,Zcg X aa H b)(k:∀b o,b ∉ ch->s.heap.get? b=J o->h'.get? b=J o)
 (hT:s.heap.objs.size<=T) (tup:Zb2 h' T us.toArray) (rv:Zs vs us) (hz:vs.length<=sizeLine):Inv X aa Z (upd H T (.tup vs)) {s with heap:=h',toks:=t'}:=by
 have cR:∀b u,H b=J u->b ∉ ch:=λb u e z=>by rw[(hf b z).1]at e;cases e
 have neT:∀b o,s.heap.get? b=J o->b≠T:=λb o e=>Ou (Ot (Ym e) hT);have ga:H T=M:=I.hok.fresh hT;refine I.step (g':=s.gens) (d':=s.drawn) (ch:=ch) (ZnC hf) (λb o _ _ hc e _=>k b o hc e) (λb o _ _ hc e _=>⟨o.slots,k b o hc e⟩) (λb o _ e n=>by rw[Zr (neT b o e)];exact n)
  (λb o hc e=>⟨o,k b o hc e⟩) (λb xs e=>by rw[Zr (ZT e ga)];exact e) (λb o u e=>by rw[Zr (ZT e ga)];exact e) (λb ps e=>⟨#[],by rw[Zr (ZT e ga),e];simp⟩) (λm hm=>?_) (λb u e=>?_) I.bare
 . obtain⟨o,es,ep,ho,r⟩:=hm;exact⟨o,es,ep,k _ o (λz=>(hf _ z).2.1 rfl) ho,r⟩
 . by_cases hb:b=T
   . subst hb;rw[Zt]at e;cases e;exact⟨hz,us,rv,tup⟩
   . rw[Zr hb]at e;refine(I.hok b u e).stay (λc v hc q=>k c v ?_ q) (λc q=>by rw[Zr (ZT q ga)];exact q) λc xs q=>by rw[Zr (ZT q ga)];exact q
     rcases hc with z|z
     . rw[z];exact cR b u e
     . exact cR c _ z
end
def Ite(K:Yk)(a:Yi):It:=⟨λi H=>∃xs x,SqL K H a xs/\xs[i]?=J x,λi H v H'=>∃p,v=.ref p/\H p=M/\∃x,(∀xs,SqL K H a xs->xs[i]?=J x)/\H'=upd H p (.tup [.int i,x]),λi H=>∃xs,SqL K H a xs/\xs.length=i⟩
def Zn9{P:Yh}{w:Yg}{K:Yk}{es:List Expr}{kk:Nat}{tp:Pos}(a it e:Yi)(iV:e≠it)(i6:a≠e)(i5:a≠it):
 Turn P w K (.Tuple es kk tp) (Ite K a) [e,it] e (λi h=>(∃old,IsEnum h e it i old)/\h.IsListIter it a i) where
 mem:=by simp
 obj:=λi h st b hb=>by
  obtain⟨⟨old,he⟩,o,e1,c,d⟩:=st;rcases O3.mp hb with rfl|hb
  . exact⟨_,he,λv z=>by cases z⟩
  . have e2:b=it:=by simpa using hb
    subst e2;exact⟨o,e1,λv z=>by rw[d]at z;cases z⟩
 keep:=λi h h' st k=>by obtain⟨⟨old,he⟩,st⟩:=st;exact⟨⟨old,k e (by simp) _ he⟩,st.at λo z=>k it (by simp) o z⟩
 item:=by
  intro X hP hw hK hc i aa s Z H E I hf st hg;subst hP hw hK;obtain⟨xs,x,hq,hx⟩:=hg;obtain⟨its,rv,p,hz⟩:=I.list hq;have hl:=rv.length;have hi:i<xs.length:=(Ob.mp hx).1;have W:=WalksT.enumerate (prog:=X.prog) (w:=X.w) (I.ok.hd hc) e it a iV i6 i5 its.toArray;have kK:∀(Q':Option Yj->Yb->Prop) (E':Yj->Yb->Prop),(∀T bp h' tk,(∃t x,its.toArray[i]?=J x/\bp=#[.int i t,x])->s.heap.objs.size<=T->Zb2 h' T bp ->
   ((∃x,IsEnumOut h' e it ((i:Int)+1) x T)/\h'.IsListIter it a (i+1)/\h'.IsList a its.toArray/\T≠e/\T≠it)->(∀b o,b ∉ [e,it]->s.heap.get? b=J o->h'.get? b=J o)->Q' (J (.ref T)) {s with heap:=h',toks:=tk}) ->
   YB (model X.prog X.w) X.A (pyNext (.ref e)) Q' E' s:=by
   intro Q' E' hQ;obtain⟨⟨old,he⟩,av⟩:=st;have jC:its.toArray[i]?=J (its.toArray[i]'(by simp;lia)):=Array.getElem?_eq_getElem (by simp;lia);refine wpAny_pyNext_enum_item he av p.isList jC iV λh' ho cM hT hsz hk=>?_;have e1:e<s.heap.objs.size:=Ym he;have e2:it<s.heap.objs.size:=by obtain⟨_,z,_⟩:=av;exact Ym z
   exact hQ s.heap.objs.size _ h' (s.toks+1) ⟨_,_,jC,rfl⟩ (Oq _) ⟨_,hT,rfl,rfl,_,rfl⟩ ⟨⟨_,ho⟩,cM,p.isList.at λo z=>hk a o i6 i5 z,Nat.ne_of_gt e1,Nat.ne_of_gt e2⟩
    λb o hb z=>hk b o (λe'=>hb (by simp[e'])) (λe'=>hb (by simp[e'])) z
  refine kK _ _ λT bp R tk hP hT tup mid kk=>?_;refine⟨_,rfl,W.go _ _ _ i T {s with heap:=R,toks:=tk} _ _ mid λh2 bG kk2=>?_⟩;obtain⟨t,y,hy,rfl⟩:=hP;have cI:its[i]?=J y:=by simpa using hy
  obtain⟨u,hu,ru⟩:=rv.get hx;rw[cI]at hu;cases hu;have jO:T ∉ [e,it]:=W.apart i T R mid;have hJ:Zb2 h2 T #[.int i t,y]:=by obtain⟨o,q,r⟩:=tup;exact⟨o,kk2 T o jO q,r⟩
  have I2:Inv X aa Z (upd H T (.tup [.int i,x])) {s with heap:=h2,toks:=tk}:=I.turnT hf (λb o hb q=>kk2 b o hb (kk b o hb q)) hT (us:=[.int i t,y]) hJ (.cons ⟨t,rfl⟩ (.cons ru .nil)) (by show 2<=sizeLine;decide);refine⟨.ref T,_,I2,rfl,⟨T,rfl,I.hok.fresh hT,x,λys hy=>by rw[I.list_inj hy hq];exact hx,rfl⟩,⟨bG.1,bG.2.1⟩,λb hb=>?_⟩;have kE:b≠T:=λz=>jO (by rw[<-z];exact hb);rw[Zr kE];exact(hf b hb).1
 done:=by
  intro X hP hw hK hc i aa s Z H E I hf st hg;subst hP hw hK;obtain⟨xs,hq,hx⟩:=hg;obtain⟨its,rv,p,hz⟩:=I.list hq;have hl:=rv.length;have W:=WalksT.enumerate (prog:=X.prog) (w:=X.w) (I.ok.hd hc) e it a iV i6 i5 its.toArray;have e1:its.toArray.size=i:=by simp;lia
  refine W.done s _ _ ?_ λR tk kk=>⟨rfl,I.turnL hf kk⟩
  rw[e1];exact⟨st.1,st.2,p.isList⟩
 self:=λA i s Q E st h=>by obtain⟨⟨old,he⟩,_⟩:=st;exact wpAny_pyIter_enum he h
def ZxT(K:Yk)(ta:TA):TI:=λZ H qe=>ta Z H λvs H1=>∃a,vs=[.ref a]/\(∃xs,SqL K H1 a xs)/\qe (Ite K a) H1
def Zsj{X:Cx}{es:List Expr}{kk:Nat}{tp:Pos}{l:Expr}{ta:TA}{p pos:Pos}(hg:Gl X "enumerate")(hm:X.mg "enumerate"=M)(ha:PA X [l] ta)(hs:YA [l] X.env=[(Wy,eval l X.env)]:=by rfl):
 PI X (.Tuple es kk tp) (.Call (.Name "enumerate" p) [l] [] pos) (ZxT X.K ta):=by
 intro aa s Z H qe I h;refine Call_ (Zdu I hg hm boot_enumerate (PyProof.Rows.callWith_type1 (thn (ha pos aa s Z H _ I h) λus s1 ⟨vs,H1,I1,r1,q1⟩=>?_) hs rfl));obtain⟨a,rfl,⟨xs,hq⟩,q⟩:=q1;obtain⟨u,rfl,ru⟩:=vals1 r1;obtain rfl:u=YD a:=ru;obtain⟨its,rv,pl,hz⟩:=I1.list hq;have au:a<s1.heap.objs.size:=by obtain⟨_,_,e,_⟩:=pl;exact Ym e
 refine call_enumerate_list pl.isList λh' he hi hsz kk=>?_;refine wpAny_pyIter_enum he ?_;refine⟨s1.heap.objs.size+1,[s1.heap.objs.size+1,s1.heap.objs.size],_,_,H1,rfl,I1.kept (t':=s1.toks) kk,Zn9 a s1.heap.objs.size (s1.heap.objs.size+1) (Nat.succ_ne_self _) (Ou (Nat.lt_succ_of_lt au)) (Ou au),⟨⟨_,he⟩,hi⟩,λb hb=>?_,q⟩;rcases O3.mp hb with rfl|hb
 . exact I1.fpOk (Nat.le_succ _) (I1.hok.fresh (Nat.le_succ _))
 . have e:b=s1.heap.objs.size:=by simpa using hb
   subst e;exact I1.fpOk (Oq _) (I1.hok.fresh (Oq _))
def Ztr(h:PSs X b t)(r:t D Z H):∃t,PSs X b t/\t D Z H:=⟨t,h,r⟩
def ZbI:RelV (.str x) (.str x t):=⟨t,rfl⟩
def ZfI:RelV (.int x) (.int x t):=⟨t,rfl⟩
def Zai:RelV (.ref a) (.ref a):=rfl
def isSome_of{K:Yk}(h:PySem.W.isClsIn K C=Wx):(PySem.W.clsIn K C).isSome=Wx:=h
def DkK(P:Yh)(w:Yg)(K:Yk)(a:Yi)(kvs:List (Key×V)):Prop:=∃(o:Obj) (es:Array DictEntry) (ep:Nat) (vs:List (Key×Yj)),K.lookup a=J o/\o.ExactDict/\o.data=.dict es ep/\KeysOf (ZZ P w) es/\Pairs (ZZ P w) es.toList vs/\(vs.map (·.1)).Nodup/\KV kvs vs/\kvs.length<=sizeLine/\(a==Ye)=Wy
def Dk(P:Yh)(w:Yg)(K:Yk)(H:Hp)(a:Yi)(kvs:List (Key×V)):Prop:=Rd H a (.dK kvs)\/DkK P w K a kvs
section
variable {X:Cx}{aa:List (Yi×Obj)}{Z:St}{H:Hp}{s:Yb}{a:Yi}
def Inv.dk(I:Inv X aa Z H s)(h:Dk X.prog X.w X.K H a kvs):kvs.length<=sizeLine/\(a==Ye)=Wy/\∃vs,KV kvs vs/\s.heap.DictOf (ZZ X.prog X.w) a vs:=by
 rcases h with h|⟨o,es,ep,vs,lk,ex,da,ks,ps,nd,kv,z,hm⟩
 . exact Zt6 I.hok h
 . exact⟨z,hm,vs,kv,o,es,ep,I.kIn a o lk,ex,da,ks,ps,nd⟩
def Zw6(P:Yh)(w:Yg)(K:Yk)(neg:Bool):R2:=λx y H Q=>∃a kvs k,y=.ref a/\x=kV k/\Dk P w K H a kvs/\Q (.bl (if neg then !(ZfA kvs k).isSome else(ZfA kvs k).isSome)) H
def Zvg:OpR X (YM .In) (Zw6 X.prog X.w X.K Wy):=by intro aa s Z H x y v u Q I rx ry h;obtain⟨a,kvs,k,rfl,rfl,hd,q⟩:=h;cases ry;obtain⟨z,hm,vs,rel,dd⟩:=I.dk hd;refine wpAny_in_of (ZkZ rx) hm dd.mapOf ?_;rw[<-(rel.val k).isSome_eq];exact⟨.bl _,H,I.tok _,rfl,q⟩
def ZoE:OpR X (YM .NotIn) (Zw6 X.prog X.w X.K Wx):=by intro aa s Z H x y v u Q I rx ry h;obtain⟨a,kvs,k,rfl,rfl,hd,q⟩:=h;cases ry;obtain⟨z,hm,vs,rel,dd⟩:=I.dk hd;refine wpAny_notIn_of (ZkZ rx) hm dd.mapOf ?_;rw[<-(rel.val k).isSome_eq];exact⟨.bl _,H,I.tok _,rfl,q⟩
def ZyW(P:Yh)(w:Yg)(K:Yk):R2:=λx y H Q=>∃a kvs k v,x=.ref a/\y=kV k/\Dk P w K H a kvs/\ZfA kvs k=J v/\Q v H
def Zs1:IxR X (ZyW X.prog X.w X.K):=by intro value slice aa s Z H x y v u Q I rx ry h hs;obtain⟨a,kvs,k,z,rfl,rfl,hd,hv,q⟩:=h;cases rx;obtain⟨_,hm,vs,rel,dd⟩:=I.dk hd;obtain⟨w',hw,az⟩:=Zgn.some_of (v:=z) (o:=valueAt vs k) (by rw[<-hv];exact rel.val k);exact subscriptTail_builtinR (x:=w') dd.typeIs PySem.F.slot_dict_getitem.lookup (wpAny_getItem_of (ZkZ ry) dd.mapOf hw ⟨rfl,z,H,I.tok _,az,q⟩) hs
def Zx6(I:Inv X aa Z H s)(e:H a=J (.dK kvs))(l:kvs.length<sizeLine)(ry:RelV (kV k) u)(rv:RelV v r)
 (h:∀s',Inv X aa Z (upd H a (.dK (putK kvs k v))) s'->Q () s'):YB (model X.prog X.w) A (setItem (.ref a) u r) Q E s:=by
 obtain⟨z,hd,vs,rel,dd⟩:=Zt7 I.hok e;have hz:vs.length<=sizeLine:=by rw[<-rel.length];exact z
 have hl:(putK kvs k v).length<=sizeLine:=by have:=ZgQ kvs k v;lia
 refine wpAny_setItem_pairs (hsz:=hz) (ZkZ ry) dd λh' gg hs=>h _ ?_;have he:∃q,h'.get? a=J q:=let⟨q,_,_,hq,_⟩:=gg;⟨q,hq⟩;exact ZnL I (by rw[e];exact True.intro) hs he (Zrb hl hd (rel.put k rv) gg)
def ZwT:ZtG:=λo i v H Q=>∃a kvs k,o=.ref a/\i=kV k/\H a=J (.dK kvs)/\kvs.length<sizeLine/\Q (upd H a (.dK (putK kvs k v)))
def set_dict:ZtH X ZwT:=by intro aa s Z H o i v ov iv u Q I ro ri rv h;obtain⟨a,kvs,k,rfl,rfl,e,l,q⟩:=h;cases ro;exact Zx6 I e l ri rv λs' I'=>⟨_,I',q⟩
end
set_option tactic.hygienic false
section
variable {X:Cx}{aC tg iter:Expr}{bb:List Expr}{scope sc:Scope}{pos:Pos}{NC:List Str}{js:List (Option Nat)}{k:Nat}{wi:TI}{g:TG}{tc:TT}{te:TE}
def ZlZ(hN:X.N.Nodup)(hy:X.N[i0]?=J y)(hx:Loc X.env.scope y)(hf:X.fn y=Wx\/X.env.scope.names.lookup y=J .local)(S_:CompSc NC X.N js sc scope)(bK:X.env.scope=sc)(hc:X.calm=Wx)(hi:PI X tg iter wi)
 (hb:∀(aa:List (Yi×Obj)) (Z:St) (C:Yi) (s3:Yb) (H3:Hp) (fp:List Yi),Inv X aa Z H3 s3->(∀b∈fp,Zcg X aa H3 b)->C=s3.heap.objs.size->PG (ZD X NC scope C s3 H3 fp) tg g/\PIf (ZD X NC scope C s3 H3 fp) bb tc/\PE (ZD X NC scope C s3 H3 fp) aC te)
 (hk:Zpa k g) (fU:∀j,j<k->js[j]?=J M) (hs:∀x,foldedSetIterable iter X.env x=pure x:=by intro _;rfl) (iG:swapsWith (.ListComp aC [⟨tg,iter,bb,0⟩] scope pos) (J (.Name y py)) spos.line X.env=pure Wx:=by rfl) :
 PS X (.Assign [.Name y py] (.ListComp aC [⟨tg,iter,bb,0⟩] scope pos) spos) (ZlJ (ZtQ wi js g tc te) (ZdK i0)):=by
 intro aa s Z H D0 I h;have aQ:∀y∈scope.names,y.2=.free->∃c,X.env.cells.lookup y.1=J c:=λy hy hf=>I.ok.has y.1 (.inl (show X.env.scope.names.lookup y.1=J .cell by rw[bK];exact S_.free y hy hf));rw[exec_Assign_Name_used _ _ _ _ iG];refine Ya (wpAny_standAt (Ya ?_));show YB _ X.A (do let _ <- comprehension (.ListComp aC [⟨tg,iter,bb,0⟩] scope pos) scope X.env _ (newList []) Wy (eval iter X.env) (J (assign (.Name y py) X.env))) _ _ s;refine Ya (Yf (wpAny_comprehension_free (use:=J (assign (.Name y py) X.env)) (Q:=λ_ s'=>SP X aa D0 .next s') rfl hs (Zff aQ) S_.kind S_.locs (thn (hi aa s Z H _ I h) λxv s1 R=>thn R λgC s2 h2=>?_)) (λ_ s' hq=>Yc (Yc hq)) λ_ _ e=>e);obtain⟨it,fp,tn,qb,H2,e,I2,T,bG,f2,rest⟩:=h2;subst e;have hD:H2 s2.heap.objs.size=M:=I2.hok.fresh (Oq _);obtain⟨W,⟨m0,w0⟩,turn⟩:=rest s2.heap.objs.size hD;refine Yq (wpAny_newFunctionEnv S_.nocell (by intro y hy;simp at hy) (λh4 bM dB=>?_) S_.kind);have I3:Inv X aa Z (upd H2 s2.heap.objs.size (.lst [])) {s2 with heap:=s2.heap.push {cls:=.type "list",dict:=M,data:=.seq ([]:List Yj).toArray}}:=I2.lnew (t':=s2.toks) (ys:=[]) (its:=[]) .nil (Yw _);dsimp only at bM dB ⊢;generalize hs3:({s2 with heap:=s2.heap.push {cls:=.type "list",dict:=M,data:=.seq ([]:List Yj).toArray}}:Yb)=s3 at I3;have eh:s2.heap.push {cls:=.type "list",dict:=M,data:=.seq ([]:List Yj).toArray}=s3.heap:=by rw[<-hs3]
 have eD:s2.heap.objs.size<s3.heap.objs.size:=by rw[<-eh,Heap.size_push];exact OH _
 rw[eh]at bM dB;have keep:∀b o,s3.heap.get? b=J o->h4.get? b=J o:=λb o e=>(dB.2 b (Ou (Ym e))).trans (Od _ e);have eO:∀b∈fp,∃o,s3.heap.get? b=J o:=λb hb=>by obtain⟨o,e,_⟩:=T.obj 0 _ bG b hb;exact⟨o,by rw[<-eh];exact Od _ e⟩
 have iq:∀b∈fp,b≠s2.heap.objs.size:=λb hb=>by obtain⟨o,e,_⟩:=T.obj 0 _ bG b hb;exact Ou (Ym e)
 have f3:∀b∈fp,Zcg X aa (upd H2 s2.heap.objs.size (.lst [])) b:=λb hb=>⟨by rw[Zr (iq b hb)];exact(f2 b hb).1,(f2 b hb).2⟩
 have I4:=Zk1 (tk:=s2.toks+([]:List (Str×Yj)).length) S_ bK hc I3 f3 eO rfl bM keep;have di:tn 0 h4:=T.keep 0 _ _ bG λb hb o e=>keep b o (by rw[<-eh];exact Od _ e);have eC:(s2.heap.push {cls:=.type "list",dict:=M,data:=.seq ([]:List Yj).toArray}).objs.size=s3.heap.objs.size:=by rw[eh]
 have loop:∀s4:Yb,s4={s3 with heap:=h4,toks:=s2.toks+([]:List (Str×Yj)).length} ->
  codeAny (model X.prog X.w) X.A (.compLoop (.ListComp aC [⟨tg,iter,bb,0⟩] scope pos) 0 (.ref it) (.ref s2.heap.objs.size) (compEnvC scope (Zep X.env scope.names []) s3.heap.objs.size X.env))
   (compPost (model X.prog X.w) X.A X.xe (J (assign (.Name y py) X.env)) (λ_ s'=>SP X aa D0 .next s') (.ref s2.heap.objs.size) s3.heap.objs.size) s4:=by
  rintro s4 rfl;refine Zjk (Q:=λx H1=>ZdK i0 x Z H1 D0.nx) hb hk fU rfl I3 f3 eO I4 T di Zt w0 turn (λs6 H5 I6 qn=>?_) (λ_ _ z=>z);obtain⟨m,hm,_⟩:=I6.loc;have Io:Inv X aa Z H5 s6:=I3.comp_out (h'':=s6.heap) f3 rfl I6 ⟨rfl,λ_ _=>rfl⟩;have fC:Zcg X aa H5 s3.heap.objs.size:=I3.fpOk (Oq _) I6.free;show YB _ X.A (assign (.Name y py) X.env (.ref s2.heap.objs.size)) _ _ _;refine wpAny_assign_Name (ZiU Io hN hy hx (v:=.ref s2.heap.objs.size) rfl (λs8 I8 ⟨a8,ka,lJ⟩=>?_) hf);have kF:s3.heap.objs.size≠a8:=λz=>by
   rcases lJ with e|e
   . exact fC.2.1 (z.trans e)
   . exact fC.2.2.2.2.1 _ _ e z.symm
  refine⟨m,hm.sameBut ka kF,λh' eU=>?_⟩;exact⟨_,H5,I8.turnL (t':=s8.toks) (ch:=[s3.heap.objs.size]) (λb hb=>by rw[Ox.mp hb];exact fC) (λb o hb e=>(eU.2 b (λz=>hb (by rw[z];exact List.mem_singleton_self _))).trans e),qn⟩
 have e4:({s2 with heap:=h4,toks:=s2.toks+([]:List (Str×Yj)).length}:Yb)={s3 with heap:=h4,toks:=s2.toks+([]:List (Str×Yj)).length}:=by rw[<-hs3]
 rw[eC];exact codeAny_compStart_list (loop _ e4) (T.self X.A 0 _ _ _ di (loop _ e4))
end
set_option tactic.hygienic true
mutual
inductive Dp(K:Yk)(H:Hp):V->PyData->Prop
 |non:Dp K H .non .none
 |bl (b:Bool):Dp K H (.bl b) (.bool b)
 |int (i:Int):Dp K H (.int i) (.int i)
 |str (x:Str) (ok:Yo x=Wx):Dp K H (.str x) (.str x)
 |lst {a:Yi}{xs:List V}{ds:List PyData}:SqL K H a xs->Dps K H xs ds->Dp K H (.ref a) (.list ds)
 |tup {a:Yi}{xs:List V}{ds:List PyData}:SqT K H a xs->Dps K H xs ds->Dp K H (.ref a) (.tuple ds)
inductive Dps(K:Yk)(H:Hp):List V->List PyData->Prop
 |nil:Dps K H [] []
 |cons {v:V}{vs:List V}{d:PyData}{ds:List PyData}:Dp K H v d->Dps K H vs ds->Dps K H (v::vs) (d::ds)
end
section
variable {K:Yk}{H:Hp}
mutual
theorem Dp.lay:∀{v:V}{d:PyData},Dp K H v d->d.canLay0=Wx
 |_,_,.non=>rfl
 |_,_,.bl b=>rfl
 |_,_,.int i=>rfl
 |_,_,.str x ok=>ok
 |_,_,.lst h r=>Dps.lay r
 |_,_,.tup h r=>Dps.lay r
theorem Dps.lay:∀{v:List V}{d:List PyData},Dps K H v d->PyData.canLayAll0 d=Wx
 |_,_,.nil=>rfl
 |_,_,.cons h r=>by rw[PyData.canLayAll0,Dp.lay h,Dps.lay r];rfl
end
end
section
variable {X:Cx}{aa:List (Yi×Obj)}{Z:St}{H:Hp}{s:Yb}
mutual
theorem Inv.reads(I:Inv X aa Z H s):∀{v:V}{d:PyData}{u:Yj},Dp X.K H v d->RelV v u->∃as,Reads s.heap u d as
 |_,_,_,.non,r=>by cases r;exact⟨_,.none⟩
 |_,_,_,.bl b,r=>by cases r;exact⟨_,.bool b⟩
 |_,_,_,.int i,r=>by obtain⟨t,rfl⟩:=r;exact⟨_,.int i t⟩
 |_,_,_,.str x ok,r=>by obtain⟨t,rfl⟩:=r;exact⟨_,.str x t⟩
 |_,_,_,.lst h rs,r=>by cases r;obtain⟨its,rv,⟨o,n,e,c,_,dd⟩,_⟩:=I.list h;obtain⟨as,q⟩:=Inv.readsAll I rs rv;exact⟨_,.list e c dd (by simpa using q)⟩
 |_,_,_,.tup h rs,r=>by cases r;obtain⟨its,rv,⟨o,e,c,n,dd⟩,_⟩:=I.tuple h;obtain⟨as,q⟩:=Inv.readsAll I rs rv;exact⟨_,.tuple e c dd (by simpa using q)⟩
theorem Inv.readsAll(I:Inv X aa Z H s):∀{v:List V}{d:List PyData}{u:List Yj},Dps X.K H v d->Zs v u->∃as,ReadsAll s.heap u d as
 |_,_,_,.nil,r=>by cases r;exact⟨_,.nil⟩
 |_,_,_,.cons h rs,r=>by
  cases r with
  |cons r1 r2=>obtain⟨as,q⟩:=Inv.reads I h r1;obtain⟨bs,q2⟩:=Inv.readsAll I rs r2;exact⟨_,.cons q q2⟩
end
end
set_option tactic.hygienic false
namespace Rv
def own:Manifest.owners.lookup (String.ofList ['d','e','s','r','e','v','e','r'].reverse)=J Manifest.sig_reversed:=by kernel_rfl
def next:Slot "reversed" "__next__" "reversed.__next__" :=
 .of (owner := "reversed") (n := "__next__") (by rw[typeLookup_type,builtinLookup_eq_fast]<;>kernel_rfl) (by decide +kernel) (by decide +kernel) (by decide +kernel) (by first|exact .inl (by decide +kernel)|exact .inr (by decide +kernel)) (by rw[isSubtype_type]<;>kernel_rfl)
def Zt5:entryFor table "reversed.__next__"=J Builtin.«reversed.__next__»:=entryFor_of_tree (by kernel_rfl)
def Zuc(a:Yj):argsOk "reversed.__next__" ⟨[a],[]⟩:=by unfold argsOk;rw[signature?_of (id := "reversed.__next__") (n:=['_','_','t','x','e','n','_','_']) (o:=['d','e','s','r','e','v','e','r']) (by kernel_rfl) own];kernel_rfl
def iter:Slot "reversed" "__iter__" "reversed.__iter__" :=
 .of (owner := "reversed") (n := "__iter__") (by rw[typeLookup_type,builtinLookup_eq_fast]<;>kernel_rfl) (by decide +kernel) (by decide +kernel) (by decide +kernel) (by first|exact .inl (by decide +kernel)|exact .inr (by decide +kernel)) (by rw[isSubtype_type]<;>kernel_rfl)
def Zyg(a:Yj):argsOk "reversed.__iter__" ⟨[a],[]⟩:=by unfold argsOk;rw[signature?_of (id := "reversed.__iter__") (n:=['_','_','r','e','t','i','_','_']) (o:=['d','e','s','r','e','v','e','r']) (by kernel_rfl) own];kernel_rfl
def Zx4:entryFor table "reversed.__iter__"=J Builtin.«dict_keyiterator.__iter__» :=entryFor_alias (id' := "dict_keyiterator.__iter__") (by kernel_rfl) (by first|rfl|decide +kernel|(unfold String.splitOn;simp +decide [String.splitOnAux])) (by decide +kernel) (by kernel_rfl)
def Zxu:typeLookup (.type "tuple") "__reversed__"=pure M:=by rw[typeLookup_type,builtinLookup_eq_fast]<;>kernel_rfl
def ZmV:isSubtype (.type "reversed") (.type "reversed")=pure Wx:=by rw[isSubtype_type]<;>kernel_rfl
def init:Slot "reversed" "__init__" "object.__init__" :=
 .of (owner := "object") (n := "__init__") (by rw[typeLookup_type,builtinLookup_eq_fast]<;>kernel_rfl) (by decide +kernel) (by decide +kernel) (by decide +kernel) (by first|exact .inl (by decide +kernel)|exact .inr (by decide +kernel)) (by rw[isSubtype_type]<;>kernel_rfl)
def called:TypeCalled "reversed" "reversed.__new__" "object.__init__" := ⟨by decide +kernel,F.create_reversed,⟨_,_,F.mro_reversed⟩,F.made_reversed,by decide +kernel,ZmV,init⟩
noncomputable def obj(l:Yi)(i:Int):Obj:={cls:=.type "reversed",data:=.fields #[.ref l,rawInt i]}
def Is(h:YG)(a l:Yi)(i:Int):Prop:=∃o,h.get? a=J o/\o.cls=.type "reversed" /\ o.data=.fields #[.ref l,rawInt i]
section
variable {prog:Yh}{w:Yg}{A:YH}{E:Yj->Yb->Prop}{s:Yb}
def Is.typeIs(x:Is s.heap a l i):s.TypeIs (.ref a) "reversed" := let⟨o,ho,hc,_⟩:=x;⟨o,ho,hc⟩
def Is.at(x:Is h a l i)(e:∀o,h.get? a=J o->h'.get? a=J o):Is h' a l i:=let⟨o,ho,r⟩:=x;⟨o,e _ ho,r⟩
def new(hl:IsTup s.heap l items)(hz:items.size<=sizeLine)
 (h:Q (.ref s.heap.objs.size) {s with heap:=s.heap.push (obj l ((items.size:Int)-1)),toks:=s.toks+1+1}) :
 codeAny (model prog w) A (.call (.builtin "reversed.__new__") ⟨[.type "reversed",.ref l],[]⟩) (wants Q E) s:=by
 have dQ:(items.size:Int)<2^63:=by have:=Zcm;lia
 refine codeAny_of_tree ?_;show YB _ A.in1 (do checkBuiltinCall "reversed.__new__" ⟨[.type "reversed",.ref l],[]⟩;again (.builtin "reversed.__new__" ⟨[.type "reversed",.ref l],[]⟩)) _ _ s;refine Ya (Wp (F.newCall_reversed_1 _) (Yc ⟨plainId_quiet F.plain_reversed_new _,codeAny_builtin F.entry_reversed_new ?_⟩));rw[Around.under_plainId F.plain_reversed_new _];unfold Builtin.«reversed.__new__»;refine Ya (Wp (newClass_reversed _) ?_)
 try dsimp only
 refine Ya (Wp (a:=()) (by first|rfl|kernel_rfl) (Ya (Wp (a:=()) (by first|rfl|kernel_rfl) ?_)))
 try dsimp only
 refine Ya (wpAny_specialOf hl.typeIs Zxu ?_)
 try dsimp only
 refine Ya ?_;show YB _ _ (isInstance (.ref l) (.type "dict") >>= λb=>_) _ _ s;refine Ya (wpAny_isInstance hl.typeIs F.sub_tuple_dict ?_);show YB _ _ (specialOf (.ref l) "__getitem__" >>= λb=>_) _ _ s;refine Ya (wpAny_specialOf hl.typeIs slot_tuple_getitem.lookup ?_);refine Wp (a:=true) (by rfl) ?_;show YB _ _ (call (.builtin "len") [.ref l] >>= λb=>_) _ _ s;refine Ya (len_tuple hl dQ ?_);show YB _ _ (asInt? (.int _ _) >>= λb=>_) _ _ _;refine Ya (Yc ?_);show YB _ _ (newObj (.type "reversed") (.fields #[.ref l,rawInt ((items.size:Int)-1)]) >>= λb=>_) _ _ _;exact Ya (Yq (Yc h))
theorem call(hl:IsTup s.heap l items)(hz:items.size<=sizeLine)
 (h:Q (.ref s.heap.objs.size) {s with heap:=s.heap.push (obj l ((items.size:Int)-1)),toks:=s.toks+1+1}):YB (model prog w) A (PySem.call (.type "reversed") [.ref l]) Q E s:=by
 refine callType_codes called (F.typeCall_reversed_1 _) F.entry_object_init (new (Q:=λo s1=>o=.ref s.heap.objs.size/\s1={s with heap:=s.heap.push (obj l ((items.size:Int)-1)),toks:=s.toks+1+1}) hl hz ⟨rfl,rfl⟩) ?_;rintro _ _ ⟨rfl,rfl⟩;have hT:Shared.TypeIs {s with heap:=s.heap.push (obj l ((items.size:Int)-1)),toks:=s.toks+1+1} (.ref s.heap.objs.size) "reversed" := ⟨_,Oj _ rfl,rfl⟩
 refine⟨hT,F.args_object_init_2 _ _,?_⟩;exact object_init_meets init.lookup F.made_reversed (by decide) prog w _ _ _ ⟨hT,rfl,h⟩
def next_item{it l:Yi}{i:Nat}{Q:Option Yj->Yb->Prop}(av:Is s.heap it l (i:Int))(hl:IsTup s.heap l items)(hz:items.size<=sizeLine)(hx:items[i]?=J x)
 (hQ:∀h' t',Is h' it l ((i:Int)-1)->Heap.SameBut it s.heap h'->Q (J x) {s with heap:=h',toks:=t'}):YB (model prog w) A (pyNext (.ref it)) Q E s:=by
 obtain⟨o,ho,hc,hd⟩:=id av;have hi:i<items.size:=by have:=(Array.getElem?_eq_some_iff.mp hx).1;exact this
 have mC:=Zcm;unfold pyNext;refine Ya (wpAny_attempt (We (name:=O "__next__") av.typeIs next (Wi next av.typeIs Zt5 ?_ (Zuc _))));unfold Builtin.«reversed.__next__»;refine Ya (Wp (a:=(YD it,[])) rfl ?_)
 try dsimp only
 refine Ya (YR ho hd (x:=.ref l) rfl (Ya (YR ho hd (x:=rawInt (i:Int)) rfl ?_)));show YB _ _ (if (i:Int)<0 then _ else _) _ _ s;rw[if_neg (by lia)];show YB _ _ (specialOf (.ref l) "__getitem__" >>= λb=>_) _ _ s;refine Ya (wpAny_specialOf hl.typeIs slot_tuple_getitem.lookup ?_);show YB _ _ (mkInt (i:Int) >>= λb=>_) _ _ s;refine Ya (wpAny_mkInt ?_);refine Ya (wpAny_attempt (getItem_tuple (s:={s with toks:=s.toks+1}) (j:=i) (x:=x) hl (by lia) (by lia) (seqIndex_of (by lia) (by lia)) hx ?_));show YB _ _ (field (.ref it) 1 >>= λb=>_) _ _ _;refine Ya (YR ho hd (x:=rawInt (i:Int)) rfl ?_);show YB _ _ (setField (.ref it) 1 (rawInt ((i:Int)-1)) >>= λb=>_) _ _ _;refine Ya (wpAny_setField ho hd (by simp) ?_);refine Yc ⟨x,rfl,Yc (hQ _ _ ?_ (Heap.SameBut.update ..))⟩;exact⟨_,YX _ ho (Obj.isFreed_of_fields (YZ hd _)),(Obj.cls_mapFields ..).trans hc,by rw[YZ hd]<;>simp⟩
def next_end(hh:A.handled=M)(av:Is s.heap it l (-1))(hQ:∀h',Heap.ExtBut it s.heap h'->Q M {s with heap:=h'}):YB (model prog w) A (pyNext (.ref it)) Q E s:=by
 obtain⟨o,ho,hc,hd⟩:=id av;unfold pyNext;refine Ya (wpAny_attempt (We (name:=O "__next__") av.typeIs next (Wi next av.typeIs Zt5 ?_ (Zuc _))));unfold Builtin.«reversed.__next__»;refine Ya (Wp (a:=(YD it,[])) rfl ?_)
 try dsimp only
 refine Ya (YR ho hd (x:=.ref l) rfl (Ya (YR ho hd (x:=rawInt (-1)) rfl ?_)));show YB _ _ (if (-1:Int)<0 then _ else _) _ _ s;rw[if_pos (by decide)];refine Ya (wpAny_rule ?_);show YB _ _ ((setField (.ref it) 1 (rawInt (-1)) >>= λ_=>setField (.ref it) 0 .none) >>= λb=>_) _ _ _;have e1:=YX (Obj.mapFields (·.setIfInBounds 1 (rawInt (-1)))) ho (Obj.isFreed_of_fields (YZ hd _));refine Ya (Ya (wpAny_setField ho hd (by simp) (wpAny_setField e1 (YZ hd _) (by simp) ?_)));refine Ya ?_;show YB _ _ (newExc (.type "StopIteration") [] >>= λb=>_) _ _ _;refine Ya ?_;simp only[newExc,newTuple];refine Ya (Yq ?_ (by size_fits));refine Ya (m:=firstArgMember _ _) (Wp (a:=Value.none) (by first|rfl|(simp only[firstArgMember]<;>rfl)) (Yq ?_ (by size_fits)));simp only[raiseNew];refine Ya (wpAny_handled ?_);rw[show A.in1.handled=M from hh];refine Ya (Yc (wpAny_throw ?_));refine Ya (wpAny_isInstance (T := "StopIteration") (b:=true) ⟨_,Oj _ rfl,rfl⟩ isSubtype_stop (Yc (hQ _ ?_)));exact((((Heap.ExtBut.refl _ _).trans (Heap.SameBut.update ..).extBut).trans (Heap.SameBut.update ..).extBut).push _).push _
def ZgA(av:Is s.heap it l i)(h:Q (.ref it) s):YB (model prog w) A (pyIter (.ref it)) Q E s:=by refine wpAny_pyIter_slot av.typeIs iter (Wi iter av.typeIs Zx4 ?_ (Zyg _));exact Yc ⟨_,rfl, "reversed",_,av.typeIs,next.lookup,h⟩
end
end Rv
noncomputable def Itv(K:Yk)(a:Yi)(n:Nat):It:=⟨λi H=>∃xs x,SqT K H a xs/\xs.length=n/\xs.reverse[i]?=J x,λi H x H'=>H'=H/\∀xs,SqT K H a xs->xs.reverse[i]?=J x,λi H=>∃xs,SqT K H a xs/\xs.length=n/\n=i⟩
def Zpw{P:Yh}{w:Yg}{K:Yk}{tg:Expr}(a it:Yi)(n:Nat):Turn P w K tg (Itv K a n) [it] it (λi h=>i<=n/\Rv.Is h it a ((n:Int)-1-i)) where
 mem:=by simp
 obj:=λi h st b hb=>by
  have e:b=it:=by simpa using hb
  subst e;obtain⟨_,o,e,c,d⟩:=st;exact⟨o,e,λv z=>by rw[d]at z;cases z⟩
 keep:=λi h h' st k=>⟨st.1,st.2.at λo e=>k it (by simp) o e⟩
 item:=by
  intro X hP hw hK hc i aa s Z H E I hf st hg;subst hP hw hK;obtain⟨cT,st⟩:=st;obtain⟨xs,x,hq,fJ,hx⟩:=hg;obtain⟨its,rv,p,hz⟩:=I.tuple hq;have hl:=rv.length;have hi:i<xs.length:=by have:=(Ob.mp hx).1;simpa using this
  have bI:xs[n-1-i]?=J x:=by rw[List.getElem?_reverse hi]at hx;rw[<-fJ];exact hx
  obtain⟨u,hu,ru⟩:=rv.get bI;obtain⟨f0,f1,f2,f3,f4,f5⟩:=hf it (by simp);have e1:(n:Int)-1-(i:Nat)=((n-1-i:Nat):Int):=by lia
  rw[e1]at st;refine Rv.next_item st p (by simp;lia) (x:=u) (by simpa using hu) λh' t' bf sb=>?_;have I1:Inv X aa Z H {s with heap:=h',toks:=t'}:=I.turned (t':=t') (λb o hb e=>(sb.2 b hb).trans e) f0 f1 f3 f4 f5;obtain⟨o,e,c,d⟩:=id bf;have e2:((n-1-i:Nat):Int)-1=(n:Int)-1-((i+1:Nat):Int):=by lia
  refine⟨u,rfl,Zk2 (s:={s with heap:=h',toks:=t'}) e c d (by decide) ⟨x,H,I1,ru,⟨rfl,λys hy=>by rw[I.tuple_inj hy hq];exact hx⟩,⟨by lia,by rw[<-e2];exact bf⟩,λb hb=>(hf b hb).1⟩⟩
 done:=by intro X hP hw hK hc i aa s Z H E I hf st hg;subst hP hw hK;obtain⟨xs,hq,fJ,hx⟩:=hg;obtain⟨f0,f1,f2,f3,f4,f5⟩:=hf it (by simp);have st1:=st.2;rw[show(n:Int)-1-(i:Nat)=-1 by lia]at st1;exact Rv.next_end (I.ok.hd hc) st1 λh' eb=>⟨rfl,I.turned (t':=s.toks) (λb o hb e=>eb b o hb e) f0 f1 f3 f4 f5⟩
 self:=λ_ _ _ _ _ st h=>Rv.ZgA st.2 h
theorem Zgp:∀{vs:List Yj}{ss:List Str},StrsAre vs ss->Zs (ss.map V.str) vs
 |_,_,.nil=>.nil
 |_,_,.cons y t h=>.cons ⟨t,rfl⟩ (Zgp h)
section
variable {prog:Yh}{w:Yg}{A:YH}{E:Yj->Yb->Prop}{s:Yb}
def ZlK
 (iX:∀qe:List Yj->Yb->Prop,(∀(h':YG) (tk:Nat) (vs:List Yj),s.heap.objs.size<=h'.objs.size->(∀b o,s.heap.get? b=J o->h'.get? b=J o)->StrsAre vs ss->qe vs {s with heap:=h',toks:=tk})->YB (model prog w) A.in1 (collect (.ref r)) qe E s)
 (jT:ss.length<64)
 (h:∀(D:Yi) (h':YG) (tk:Nat) (out:List Yj) (bi:List Str) (n:Nat),(∀b o,s.heap.get? b=J o->h'.get? b=J o)->s.heap.objs.size<=D->h'.get? D=J {cls:=.type "list",data:=.seq out.toArray n}->StrsAre out bi->bi.Perm ss->sortedS bi=Wx ->
  Q (.ref D) {s with heap:=h',toks:=tk}):YB (model prog w) A (call (.builtin "sorted") [.ref r]) Q E s:=by
 refine Calls.call_function_entry kind_sorted plain_sorted entry_sorted (args_sorted1 _) ?_;unfold Builtin.«sorted»;refine Ya (m:=checkCount "sorted" 1 1 _) (Yc (Ya (iX _ λh' tk vs hsz hk hS=>?_)));have ak:vs.length=ss.length:=by have:=(Zgp hS).length;simpa using this.symm
 have hz:vs.length<=sizeLine:=by rw[YC];lia
 refine Ya (wpAny_newList ?_ hz);have fO:(h'.push (seqObj "list" vs.toArray 0)).get? h'.objs.size=J (seqObj "list" vs.toArray 0):=Oj _ rfl;refine Ya (Wh (Wi slot_list_sort ⟨_,fO,rfl⟩ entry_list_sort (list_sort_treeK strKind_oneLt fO hS.keysOf (λv₁ v₂ rest e=>keyKind_strs (by rw[<-e];exact hS)) (by lia) λbf a1 a2=>⟨_,rfl,?_⟩) (args_list_sort _)));refine Yc ⟨_,rfl,?_⟩;obtain⟨bi,R,h2,h3⟩:=sorted_out_str hS a1 a2;obtain⟨e,he⟩:=sortedHeap_at (out:=(arrOf bf).map (·.2)) fO;have e2:((arrOf bf).map (·.2))=((arrOf bf).map (·.2)).toList.toArray:=Array.toArray_toList.symm;refine h h'.objs.size _ tk ((arrOf bf).map (·.2)).toList bi e (λb o q=>?_) hsz (by rw[<-e2];exact he) R h2 h3;have q':=hk b o q;have au:=Ym q';rw[sortedHeap_old (Ou au) (by rw[size_push'];exact Nat.lt_succ_of_lt au)];exact Od _ q'
def Zlk(K:PySem.W.KdlSrc prog w T r d n P OK)(hh:A.handled=M)(hok:OK s.heap)(hn:n<=sizeLine)
 (h:∀(h':YG) (tk:Nat) (ag:Array Yj),s.heap.objs.size<=h'.objs.size->(∀b o,s.heap.get? b=J o->h'.get? b=J o)->ItemsOf P ag n->qe ag.toList {s with heap:=h',toks:=tk}) :
 YB (model prog w) A (collect (.ref r)) qe E s:=by
 have lt:=K.there _ hok;unfold collect;refine Ya (wpAny_runValue (codeAny_builtin entry_proto_collect' ?_));rw[Around.under_plainId PySem.F.plain_proto_collect _];show YB _ A.in1 (newList [] >>= λx=>again (.builtin "list.__iadd__" ⟨[x,.ref r],[]⟩)) _ _ s;refine Ya (Yq (Yc ⟨plainId_quiet PySem.F.plain_list_iadd _,codeAny_builtin entry_list_iadd' ?_⟩));rw[Around.under_plainId PySem.F.plain_list_iadd _];have e0:(s.heap.push {cls:=.type "list",data:=.seq ([]:List Yj).toArray}).get? s.heap.objs.size=J {cls:=.type "list",data:=.seq #[]}:=Oj _ rfl;show YB _ A.in1 (Builtin.List.listExtendWith (.ref s.heap.objs.size) (.ref r) (.ref s.heap.objs.size)) _ _ _;have key:=PySem.W.kdl_extend (A:=A) (s:={s with heap:=s.heap.push {cls:=.type "list",data:=.seq ([]:List Yj).toArray}})
  (R:=λ(q:Result) (s':Yb)=>∃(h':YG) (tk:Nat) (ag:Array Yj) (c:Nat),q=.ok (.ret (.ref s.heap.objs.size))/\s'={s with heap:=h',toks:=tk}/\(∀b o,s.heap.get? b=J o->h'.get? b=J o)/\h'.get? s.heap.objs.size=J {cls:=.type "list",dict:=M,data:=.seq ag c,slots:=#[]}/\ItemsOf P ag n)
  K hh (K.keep _ _ hok λb _ o e=>Od _ e) s.heap.objs.size (Nat.ne_of_gt lt.1) (Nat.ne_of_gt lt.2) (.ref s.heap.objs.size) 0 e0 (λh' tk ag c hk hS aq=>⟨h',tk,ag,c,rfl,rfl,λb o e=>hk b o (Ou (Ym e)) (Od _ e),hS,aq⟩) hn
 refine Yf key (λfin s' x=>?_) λe s' x=>?_
 . cases fin with
   |done f=>obtain⟨h',tk,ag,c,e,rfl,hk,hS,aq⟩:=x;cases e;exact Ya (wpAny_load hS (Yc (h h' tk ag (Yy (Ym hS)) hk aq)))
   |again c₁=>refine⟨x.1,codeAny_mono x.2 λq s₂ y=>?_⟩;obtain⟨h',tk,ag,c,rfl,rfl,hk,hS,aq⟩:=y;exact Ya (wpAny_load hS (Yc (h h' tk ag (Yy (Ym hS)) hk aq)))
 . obtain⟨_,_,_,_,z,_⟩:=x;cases z
end
theorem ZhT:∀{xs:List α}{ys:List β},Paired qe xs ys->∀{i:Nat}{x:α},xs[i]?=J x->∃y,ys[i]?=J y/\qe x y
 |_,_,.nil,i,x,e=>by simp at e
 |_,_,.cons h r,0,x,e=>by cases e;exact⟨_,rfl,h⟩
 |_,_,.cons h r,i+1,x,e=>by obtain⟨y,R,h2⟩:=ZhT r (i:=i) (x:=x) (by simpa using e);exact⟨y,by simpa using R,h2⟩
theorem ZhJ:∀(ss:List Str) (vs:List Yj),vs.length=ss.length->(∀(j:Nat) (v:Yj),vs[j]?=J v->∃x,ss[j]?=J x/\(ZZ P w).is (YE x) v=Wx)->StrsAre vs ss
 |[],[],_,_=>.nil
 |s::ss,v::vs,hl,h=>by obtain⟨x,e,hx⟩:=h 0 v rfl;cases e;obtain⟨t,rfl⟩:=Value.isStrOf_shape (x:=s) (v:=v) hx;exact .cons s t (ZhJ ss vs (by simpa using hl) λj u hu=>h (j+1) u (by simpa using hu))
section
variable {X:Cx}
def Zp0(P:Yh)(w:Yg)(K:Yk):List V->Hp->VK->Prop:=λxs H Q=>∃a kvs ss,xs=[.ref a]/\Dk P w K H a kvs/\kvs.map (·.1)=ss.map YE/\ss.length<64/\∀p bi,H p=M->bi.Perm ss->sortedS bi=Wx->Q (.ref p) (upd H p (.lst (bi.map V.str)))
def Zj4(hc:X.A.handled=M):Zb5 X (.builtin "sorted") (Zp0 X.prog X.w X.K):=by
 intro aa s Z H xs us Q I r h;obtain⟨a,kvs,ss,rfl,hd,iR,jT,q⟩:=h;obtain⟨u,rfl,ru⟩:=vals1 r;cases ru;obtain⟨z,hm,vs,rel,dd⟩:=I.dk hd;obtain⟨ep,iZ⟩:=dd.dictAt;have hl:vs.length=kvs.length:=(Paired.length rel).symm;have bN:kvs.length=ss.length:=by have:=congrArg List.length iR;simpa using this
 have dN:∀(j:Nat) k x,vs[j]?=J (k,x)->∃y,ss[j]?=J y/\k=YE y:=λj k x e=>by
  have hj:j<vs.length:=(Ob.mp e).1;have R:kvs[j]?=J kvs[j]:=Og (by lia);obtain⟨u,hu,bV⟩:=ZhT rel R;rw[e]at hu;cases hu;have h3:(kvs.map (·.1))[j]?=J kvs[j].1:=by rw[O2,R];rfl
  rw[iR,O2]at h3;obtain⟨y,hy,e3⟩:=Oo.mp h3;exact⟨y,hy,bV.1.symm.trans e3.symm⟩
 refine ZlK (ss:=ss) (λqe hR=>Zlk (PySem.W.kdl_dict (knd:=ZZ X.prog X.w) (kvs:=vs) (ep:=ep) hm) hc iZ (by lia) λh' tk ag hsz hk aq=>?_) jT λD h' tk out bi n hk hD ho hS hp hs=>?_
 . refine hR h' tk ag.toList hsz hk (ZhJ (P:=X.prog) (w:=X.w) ss ag.toList (by rw[Array.length_toList,aq.1];lia) λj v hv=>?_);obtain⟨k,x,e,lr⟩:=aq.2 j v (by rw[<-Array.getElem?_toList];exact hv);obtain⟨y,hy,rfl⟩:=dN j k x e;exact⟨y,hy,lr⟩
 . have ak:bi.length<=sizeLine:=by rw[hp.length_eq];lia
   refine⟨.ref D,_,I.laid (a:=D) (o:=.lst (bi.map V.str)) (t':=tk) hk hD ⟨by simpa using ak,out,n,Zgp hS,ho⟩,rfl,q D bi (I.hok.fresh hD) hp hs⟩
end
set_option tactic.hygienic true
theorem Ze6:∀{ns:List Int}{vs:List Yj},Zs (ns.map V.int) vs->IntsAre vs ns
 |[],vs,h=>by cases h;exact .nil
 |s::ss,vs,h=>by
  rw[Op]at h;cases h with
  |cons R h2=>obtain⟨t,rfl⟩:=R;exact .cons s t (Ze6 h2)
noncomputable def Zgs(z:Str)(n:Nat):Str:=⟨(YK n z.cps).foldl (·++·) #[]⟩
theorem Zh7(a:Array Nat):∀(n:Nat) (i:Array Nat),((YK n a).foldl (·++·) i).size=i.size+n*a.size
 |0,i=>by simp
 |n+1,i=>by
  rw[List.replicate_succ,Wr,Zh7 a n (i++a),Array.size_append,Nat.succ_mul]
  lia
def ZfH(z:Str)(n:Nat):(Zgs z n).length=n*z.length:=by show((YK n z.cps).foldl (·++·) #[]).size=_;rw[Zh7];simp;rfl
section
variable {X:Cx}
def Zo0(hc:X.A.handled=M):Zb5 X (.builtin "sum") (λxs H Q=>∃(a:Yi) (ns:List Int),xs=[.ref a]/\SqL X.K H a (ns.map V.int)/\Q (.int ns.sum) H):=by
 intro aa s Z H xs us Q I r h;obtain⟨a,ns,rfl,hq,q⟩:=h;obtain⟨u,rfl,ru⟩:=vals1 r;cases ru;obtain⟨its,rv,pl,hz⟩:=I.list hq;have hi:=Ze6 rv;obtain⟨ys,e⟩:=hi.allInts.items;refine sum_intListG (xs:=ys) hc (by rw[<-e];exact pl.isList) λh' tk t' hk=>?_;refine⟨.int ns.sum,H,I.kept (t':=tk) hk,⟨t',?_⟩,q⟩;have e2:=hi.numsOf;have e3:numsOf (intItems ys).toList=ns:=by rw[<-e];exact e2
 rw[nums_intItems]at e3;rw[preSum_eq,List.take_of_length_le (by simp),e3]
def Zsv:OpR X (binaryOp .Mult) (λx y H Q=>∃z n,x=.str z/\y=.int n/\0<=n/\n<=1000/\z.length<=1000/\Q (.str (Zgs z n.toNat)) H):=by
 intro aa s Z H x y v u Q I rx ry h;obtain⟨z,n,rfl,rfl,h0,R,h2,q⟩:=h;obtain⟨t,rfl⟩:=rx;obtain⟨t2,rfl⟩:=ry;have hl:z.length*n.toNat<=1000000:=Nat.mul_le_mul h2 (by lia:n.toNat<=1000);have hs:(1000000:Nat)<=sizeLine:=by decide
 refine PySem.P.mul_str (by rw[decide_eq_false (by lia:¬ n < -(2^63:Int)),decide_eq_false (by lia:¬ n ≥ 2^63)]<;>rfl) (λ_ _=>?_) (λ_ _=>?_) ?_
 . have h3:1<=n:=by lia
   have h4:(9223372036854775807:Int)/n ≥ 1000:=by have:1000<=9223372036854775807/n:=(Int.le_ediv_iff_mul_le (by lia)).mpr (by lia);exact this
   show ¬ ((z.length:Int) > (2^63-1)/n);rw[show(2^63-1:Int)=9223372036854775807 by decide]
   lia
 . unfold Builtin.Str.tooLong;exact decide_eq_false (by lia)
 . by_cases hn:n<1
   . rw[if_pos hn];refine⟨by decide,.str _,H,I.tok _,⟨_,rfl⟩,?_⟩;rw[show n.toNat=0 by lia]at q;exact q
   . rw[if_neg hn];by_cases h5:(n==1||z.length==0)=Wx
     . rw[if_pos h5];refine⟨.str _,H,I,⟨_,rfl⟩,?_⟩;have e:Zgs z n.toNat=z:=by
        rw[Wu]at h5;rcases h5 with h5|h5
        . have e1:n.toNat=1:=by have:=eq_of_beq h5;lia
          rw[e1];unfold Zgs;simp
        . have e1:z.length=0:=eq_of_beq h5;have e2:(Zgs z n.toNat).length=0:=by rw[ZfH,e1];simp
          have f:∀y:Str,y.length=0->y=⟨#[]⟩:=λy hy=>by cases y with|mk c=>rw[show c=#[]from Array.eq_empty_of_size_eq_zero hy]
          exact(f _ e2).trans (f z e1).symm
       rw[e]at q;exact q
     . rw[if_neg h5];refine⟨?_,.str _,H,I.tok _,⟨_,rfl⟩,q⟩;show(Zgs z n.toNat).length<=sizeLine;rw[ZfH,Nat.mul_comm]
       lia
def ZjI(hi:i.natAbs<2^2000)(hj:j.natAbs<2^2000):IntMulOk i j:=by
 have gj:∀k:Int,k.natAbs<2^2000->Builtin.Int.intBits k<=2000:=λk hk=>by
  unfold Builtin.Int.intBits;split
  . lia
  . rename_i h;have h0:k.natAbs≠0:=by simpa using h
    have:=(Nat.log2_lt h0).mpr hk
    lia
 unfold IntMulOk;have R:=gj i hi;have h2:=gj j hj;have h3:Builtin.Int.intTooBig (Builtin.Int.intBits i+Builtin.Int.intBits j:Nat)=Wy:=by
  unfold Builtin.Int.intTooBig;rw[decide_eq_false_iff_not];have:(bitsLine:Nat)=134217728:=by decide
  rw[this]
  lia
 intro q;simp only[Oa]at q;have q2:=q.2;rw[show((Builtin.Int.intBits i:Int)+(Builtin.Int.intBits j:Int))=((Builtin.Int.intBits i+Builtin.Int.intBits j:Nat):Int) by simp]at q2;rw[h3]at q2;cases q2
def ZoF:OpR X (binaryOp .Mult) (rI (λi j=>i.natAbs<2^2000/\j.natAbs<2^2000) λi j=>.int (i*j)):=opI λ_ _ _ _ _ _ _ hc q=>mul_int q (ZjI hc.1 hc.2)
noncomputable def Zw8(K:Yk):R2:=λx y H Q=>∃a b ys,x=.ref a/\y=.ref b/\SqT K H a []/\SqT K H b ys/\Q (.ref b) H
def Zsy:OpR X (binaryOp .Add) (Zw8 X.K):=by
 intro aa s Z H x y v u Q I rx ry h;obtain⟨a,b,ys,rfl,rfl,ha,hb,q⟩:=h;cases rx;cases ry;obtain⟨its,r1,ht,_⟩:=I.tuple ha;obtain⟨aw,r2,hb,_⟩:=I.tuple hb;cases r1;obtain⟨⟨cls,dd,data,sl⟩,ho,hc,n,hd⟩:=id ht;obtain⟨⟨cls2,gT,data2,gx⟩,dJ,f6,n2,fZ⟩:=id hb;simp only at hc hd f6 fZ;subst hc hd f6 fZ;exact concat_meets ⟨_,ho,rfl⟩ ⟨_,dJ,rfl⟩ noFill_tuple_add seq_tuple_add PySem.F.slot_tuple_add PySem.F.entry_tuple_add (PySem.F.args_tuple_add_2 _ _)
  (tuple_addW0 a b _ _ n n2 dd gT sl gx (by simp)) ⟨ho,dJ,⟨.ref b,H,I,rfl,q⟩⟩
end
end L2
namespace HT
open PySem PyProof.Rows
section
variable {prog:Yh}{w:Yg}{A:YH}{E:Yj->Yb->Prop}{s:Yb}
def ZeY{t sl:Yi}{items:Array Yj}{lo hi:Option Int}{Q:Yj->Yb->Prop}(ht:IsTup s.heap t items)(hs:s.heap.IsSliceOf sl vl vu .none)(pl:IsPart vl lo)(pu:IsPart vu hi)
 (hw:sIx items.size 0 lo=0/\sIx items.size items.size hi=items.size) (h:Q (.ref t) s):YB (model prog w) A (getItem (.ref t) (.ref sl)) Q E s:=by
 obtain⟨os,dF,gL,fV⟩:=id hs;have i7:s.TypeIs (.ref sl) "slice" := ⟨os,dF,gL⟩
 unfold getItem
 try with_reducible refine Wh ?_
 first|refine Ya (Yc ?_)|skip
 refine Ya (wpAny_sequenceKey ht.typeIs (by decide) ?_);refine Ya (We (name:=O "__getitem__") ht.typeIs Wo
  (Wi Wo ht.typeIs entry_tuple_getitem ?_ (args_tuple_getitem _ _)))
 show YB _ _ (Builtin.Tuple.tupleItemsOf (.ref t) >>= _) _ _ s;refine Ya (tupleItemsOf_ ht ?_);refine Ya (wpAny_typeOf i7 ?_);rw[if_pos (by decide)];refine Ya (Zc9 hs pl pu ?_);have iy:(((sIx items.size 0 lo:Nat):Int)==0&&(1:Int)==1&&(sIx items.size items.size hi-sIx items.size 0 lo)==items.size)=Wx:=by rw[hw.1,hw.2];simp
 show YB _ _ (if (((sIx items.size 0 lo:Nat):Int)==0&&(1:Int)==1&&(sIx items.size items.size hi-sIx items.size 0 lo)==items.size)=Wx then _ else _) _ _ s;rw[if_pos iy];unfold Builtin.Tuple.tupleIsExact;refine Ya (Ya (wpAny_typeOf ht.typeIs (Yc ?_)));rw[if_pos (by decide)];exact Ya (wpAny_rule (Yc ⟨_,rfl,Yc h⟩))
end
end HT
namespace L2
open PySem PySem.Spec PyProof.Rows
section
variable {X:Cx}
def ZyO(K:Yk):V->Option Int->Option Int->Hp->VK->Prop:=λx lo hi H Q=>∃a xs,x=.ref a/\SqT K H a xs /\
 (HT.sIx xs.length 0 lo=0/\HT.sIx xs.length xs.length hi=xs.length)/\Q (.ref a) H
def ZpJ:SlR X (ZyO X.K):=by
 intro aa s Z H x v vl vu lo hi sl Q I rx hs pl pu h;obtain⟨a,xs,rfl,hx,hw,q⟩:=h;cases rx;obtain⟨its,r,ht,hz⟩:=I.tuple hx;have ak:its.toArray.size=xs.length:=by rw[Of];exact r.length.symm
 refine⟨"tuple",_,PyProof.Rows.slot_tuple_getitem.lookup,ht.typeIs,?_⟩;exact HT.ZeY ht hs pl pu (by rw[ak];exact hw) ⟨.ref a,H,I,rfl,q⟩
end
end L2
namespace L2
set_option tactic.hygienic false
namespace Mx
open PySem PyProof.Rows
def nm:(toString "max" ++ toString ".loop" : String)="max.loop" := by decide
section
variable {prog:Yh}{w:Yg}{A:YH}{Z_:Result->Yb->Prop}{qb:Yi}{fo wo:List Yi}{m:Nat}{P:Nat->Yj->Prop}{S_:Nat->YG->Prop}
theorem loop(W:Walks prog w A.in1 qb fo wo m P S_)(bt:Nat->Nat->Bool)(hb:CmpOf prog w A.in1 .Gt P bt)(C:Yi)(hC:C ∉ fo)(kw:List (Str×Yj)):∀(d j:Nat) (s:Yb) (u:Yj) (c:Nat),
 m-(j+1)=d->j+1<=m->S_ (j+1) s.heap->P (argBest bt j) u->s.heap.get? C=J {cls:=.type "list",dict:=M,data:=.seq #[u,u] c,slots:=#[]} ->
 (∀v hp tk,P (argBest bt (m-1)) v->(∀b o,b ∉ wo->b≠C->s.heap.get? b=J o->hp.get? b=J o)->Z_ (.ok (.ret v)) {s with heap:=hp,toks:=tk}) ->
 codeAny (model prog w) A (.builtin "max.loop" ⟨[.ref qb,.none,.ref C],kw⟩) Z_ s:=by
 have gO:C ∉ wo:=λz=>hC (W.sub _ z);intro d;induction d with
 |zero=>
  intro j s u c e1 e2 st pu hc hz;have em:j+1=m:=by omega
  refine codeAny_builtin PySem.F.entry_max_loop ?_;rw[Around.under_plainId YU _];show YB (model prog w) A.in1 (seqItems? (YD C) >>= _) _ _ s;refine Ya (wpAny_seqItems hc rfl ?_);show YB (model prog w) A.in1 (tryCatch (pyNext (YD qb)) _ >>= _) _ _ s;refine Ya (wpAny_tryCatch (W.done s _ _ (em▸st) λhp tk kp=>?_));have cU:=kp C _ gO hc;show YB (model prog w) A.in1 (updateSeq C (λ_=>#[]) >>= _) _ _ _;exact Ya (wpAny_updateSeq cU rfl (Ya (wpAny_letGo (Yc (hz u _ tk (by rw[<-em];exact pu) λb o b1 b2 e=>(YN _ _ (YL b2)).trans (kp b o b1 e))))))
 |succ d ih=>
  intro j s u c e1 e2 st pu hc hz;have lt:j+1<m:=by omega
  refine codeAny_builtin PySem.F.entry_max_loop ?_;rw[Around.under_plainId YU _];show YB (model prog w) A.in1 (seqItems? (YD C) >>= _) _ _ s;refine Ya (wpAny_seqItems hc rfl ?_);show YB (model prog w) A.in1 (tryCatch (pyNext (YD qb)) _ >>= _) _ _ s;refine Ya (wpAny_tryCatch (W.item (j+1) s _ _ lt st λv hp tk pv st1 kp=>?_));have cU:=kp C _ gO hc;show YB (model prog w) A.in1 (tryCatch (holding [v,v] (richCompare CmpOp.Gt v u >>= _)) _ >>= _) _ _ _;refine Ya (wpAny_tryCatch (Wh (Ya (hb (j+1) (argBest bt j) v u _ _ _ pv pu (Ya (Wh (wpAny_truthy_bool (Ya (wpAny_letGo (Yc ?_))))))))));cases q:bt (j+1) (argBest bt j)with
  |true=>
   simp only[if_true];refine Ya (wpAny_updateSeq cU rfl (Ya (wpAny_letGo ?_)));rw[nm];refine Yc ⟨plainId_quiet YU _,ih (j+1) _ v _ (by omega) lt (W.frame _ _ _ st1 λb b1 o e=>?_) (by simp only[argBest,q,if_true];exact pv) (YX _ cU rfl) λv2 fN fm fv fF=>?_⟩
   . exact(YN _ _ (λz:C=b=>hC (by rw[z];exact b1))).trans e
   . exact hz v2 fN fm fv λb o b1 b2 e=>fF b o b1 b2 ((YN _ _ (YL b2)).trans (kp b o b1 e))
  |false=>simp only[OG,if_false];refine Ya (wpAny_letGo ?_);rw[nm];exact Yc ⟨plainId_quiet YU _,ih (j+1) _ u c (by omega) lt st1 (by simp only[argBest,q,OG,if_false];exact pu) cU λv2 fN fm fv fF=>hz v2 fN fm fv λb o b1 b2 e=>fF b o b1 b2 (kp b o b1 e)⟩
def first(W:Walks prog w A.in1 qb fo wo m P S_)(bt:Nat->Nat->Bool)(hb:CmpOf prog w A.in1 .Gt P bt)(C:Yi)(hC:C ∉ fo)(dn:Str)(dv:Yj)(st:S_ 0 s.heap)
 (hc:s.heap.get? C=J {cls:=.type "list",dict:=M,data:=.seq #[] c,slots:=#[]})
 (hz:∀v hp tk,(m=0->v=dv)->(0<m->P (argBest bt (m-1)) v)->(∀b o,b ∉ wo->b≠C->s.heap.get? b=J o->hp.get? b=J o)->Z_ (.ok (.ret v)) {s with heap:=hp,toks:=tk}) :
 codeAny (model prog w) A (.builtin "max.loop" ⟨[.ref qb,.none,.ref C],[(dn,dv)]⟩) Z_ s:=by
 have gO:C ∉ wo:=λz=>hC (W.sub _ z);refine codeAny_builtin PySem.F.entry_max_loop ?_;rw[Around.under_plainId YU _];show YB (model prog w) A.in1 (seqItems? (YD C) >>= _) _ _ s;refine Ya (wpAny_seqItems hc rfl ?_);show YB (model prog w) A.in1 (tryCatch (pyNext (YD qb)) _ >>= _) _ _ s;by_cases hm:0<m
 . refine Ya (wpAny_tryCatch (W.item 0 s _ _ hm st λv hp tk pv st1 kp=>?_));have cU:=kp C _ gO hc;show YB (model prog w) A.in1 (updateSeq C (λ_=>#[v,v]) >>= _) _ _ _;refine Ya (wpAny_updateSeq cU rfl ?_);rw[nm];refine Yc ⟨plainId_quiet YU _,loop W bt hb C hC _ _ 0 _ v _ rfl hm (W.frame _ _ _ st1 λb b1 o e=>?_) pv (YX _ cU rfl) λv2 fN fm fv fF=>?_⟩
   . exact(YN _ _ (λz:C=b=>hC (by rw[z];exact b1))).trans e
   . exact hz v2 fN fm (λz=>by omega) (λ_=>fv) λb o b1 b2 e=>fF b o b1 b2 ((YN _ _ (YL b2)).trans (kp b o b1 e))
 . have h0:m=0:=by omega
   refine Ya (wpAny_tryCatch (W.done s _ _ (h0▸st) λhp tk kp=>?_));exact Ya (wpAny_rule (Yc (hz dv hp tk (λ_=>rfl) (λz=>absurd z hm) λb o b1 _ e=>kp b o b1 e)))
end
section
variable {prog:Yh}{w:Yg}{A:YH}{E:Yj->Yb->Prop}{s:Yb}
def args(a d:Yj):argsOk "max" ⟨[a],[("default",d)]⟩:=by unfold argsOk;kernel_rfl
theorem call
 (h:YB (model prog w) A.in1 (pyIter x) (λit s2=>∃qb fo wo m P S_ bt,it=.ref qb/\Walks prog w A.in1 qb fo wo m P S_/\S_ 0 s2.heap/\(∀b∈fo,b<s2.heap.objs.size)/\CmpOf prog w A.in1 .Gt P bt /\
  ∀v hp tk,(m=0->v=dv)->(0<m->P (argBest bt (m-1)) v)->(∀b o,b ∉ wo->s2.heap.get? b=J o->hp.get? b=J o)->Q v {s2 with heap:=hp,toks:=tk}) E s) :
 YB (model prog w) A (PySem.call (.builtin "max") [x] [("default",dv)]) Q E s:=by
 refine wpAny_call (codeAny_call_builtin PySem.F.plain_max PySem.F.entry_max ?_);simp only[checkBuiltinCall,PySem.F.kind_max];have go:YB (model prog w) A.in1 (Builtin.«max» ⟨[x],[("default",dv)]⟩) (λfin s'=>match fin with
  |.done f=>(match (Except.ok f:Result)with|.ok (.ret v)=>Q v s'|.ok _=>False|.error e=>E e s')
  |.again c'=>c'.quiet=Wx/\codeAny (model prog w) A c' (λr s'=>match r with|.ok (.ret v)=>Q v s'|.ok _=>False|.error e=>E e s') s') E s:=by
  show YB (model prog w) A.in1 (Builtin.Builtins.bindParams "max" ["key", "default"] 0 ⟨[],[("default",dv)]⟩ >>= _) _ _ s;refine Ya (Wp (show Builtin.Builtins.bindParams "max" ["key", "default"] 0 ⟨[],[("default",dv)]⟩=pure [M,J dv]from rfl) (Ya (Yc (Ya (Yf h (λit s2 q=>?_) λ_ _ e=>e)))));obtain⟨qb,fo,wo,m,P,S_,bt,rfl,W,st,dP,hb,hQ⟩:=q;refine Ya (Yq ?_);have hC:s2.heap.objs.size ∉ fo:=λz=>Yv _ (dP _ z);rw[nm];exact Yc ⟨plainId_quiet YU _,first W bt hb s2.heap.objs.size hC _ dv (W.frame _ _ _ st λb _ o e=>Od _ e) (Oj _ rfl) λv hp tk a1 a2 kp=>hQ v hp tk a1 a2 λb o b1 e=>kp b o b1 (Ou (Ym e)) (Od _ e)⟩
 cases hs:Manifest.signature? "max" with
 |none=>exact Yc go
 |some sig=>have ha:=args x dv;simp only[argsOk,hs]at ha;have h2:Bind.checkArgs "max" sig ⟨[x],[("default",dv)]⟩=pure ():=ha;show YB _ A.in1 (Bind.checkArgs "max" sig ⟨[x],[("default",dv)]⟩) _ _ s;rw[h2];exact Yc go
end
end Mx
end L2
namespace L2
open PySem PySem.Spec PyProof.Rows
set_option tactic.hygienic false
noncomputable def Zec:List Int->Int->Int
 |[],d=>d
 |x::r,_=>r.foldl (λm y=>if y > m then y else m) x
theorem Zjr(ns:List Int):∀k,k<ns.length->(argBest (λi j=>Wz (ns.getD i 0 > ns.getD j 0)) k)<ns.length/\ns.getD (argBest (λi j=>Wz (ns.getD i 0 > ns.getD j 0)) k) 0=Zec (ns.take (k+1)) 0
 |0,h=>by
  cases ns with
  |nil=>simp at h
  |cons x r=>exact⟨by simp[argBest],by simp[argBest,Zec]⟩
 |k+1,h=>by
  obtain⟨R,h2⟩:=Zjr ns k (by omega);have e:Zec (ns.take (k+1+1)) 0=if ns.getD (k+1) 0 > Zec (ns.take (k+1)) 0 then ns.getD (k+1) 0 else Zec (ns.take (k+1)) 0:=by
   cases ns with
   |nil=>simp at h
   |cons x r=>
    have hk:k<r.length:=by simpa using h
    show((r.take (k+1)).foldl _ x)=_;rw[List.take_succ_eq_append_getElem hk,List.foldl_append];simp only[Wr,List.foldl_nil];have:(x::r).getD (k+1) 0=r[k]:=by simp[List.getD_eq_getElem?_getD,Og hk]
    rw[this];rfl
  rw[e,<-h2];have ea:argBest (λi j=>Wz (ns.getD i 0 > ns.getD j 0)) (k+1)=if Wz (ns.getD (k+1) 0 > ns.getD (argBest (λi j=>Wz (ns.getD i 0 > ns.getD j 0)) k) 0)=Wx then k+1 else argBest (λi j=>Wz (ns.getD i 0 > ns.getD j 0)) k:=rfl;rw[ea];by_cases q:ns.getD (k+1) 0 > ns.getD (argBest (λi j=>Wz (ns.getD i 0 > ns.getD j 0)) k) 0
  . rw[if_pos (decide_eq_true q),if_pos q];exact⟨h,rfl⟩
  . rw[if_neg (by simpa using q),if_neg q];exact⟨R,rfl⟩
section
variable {X:Cx}
def ZqD(hc:X.calm=Wx)(I:Inv X aa Z H s)(hx:SqL X.K H a (ns.map V.int))(q:Q (.int (Zec ns d)) H):
 YB (model X.prog X.w) X.A (PySem.call (.builtin "max") [.ref a] [("default",.int d t)]) (EP X aa Z Q) X.xe s:=by
 obtain⟨its,rv,pl,hz⟩:=I.list hx;have au:a<s.heap.objs.size:=by obtain⟨_,_,e,_⟩:=pl;exact Ym e
 have hl:its.length=ns.length:=by have:=rv.length;rw[Yt]at this;exact this.symm
 have val:∀{i:Nat}{v:Yj},its.toArray[i]?=J v->i<ns.length/\∃t,v=.int (ns.getD i 0) t:=λ{i v} hv=>by
  have gE:its[i]?=J v:=by simpa using hv
  have hi:i<ns.length:=by rw[<-hl];exact(Ob.mp gE).1
  have hb:(ns.map V.int)[i]?=J (.int ns[i]):=by rw[O2,Og hi]<;>rfl
  obtain⟨u',e',r'⟩:=rv.get hb;rw[gE]at e';cases e';obtain⟨t,rfl⟩:=r';exact⟨hi,t,by simp[List.getD_eq_getElem?_getD,Og hi]⟩
 refine Mx.call (wpAny_pyIter_list pl.isList ?_);refine⟨s.heap.objs.size,_,_,_,_,_,λi j=>Wz (ns.getD i 0 > ns.getD j 0),rfl,Walks.list (A:=X.A.in1) (show X.A.in1.handled=M from I.ok.hd hc) s.heap.objs.size a (Ou au) its.toArray,⟨⟨_,Oj _ rfl,rfl,rfl⟩,pl.isList.push _⟩,?_,?_,λv hp tk a1 a2 kp=>?_⟩
 . intro b hb;have kX:b<s.heap.objs.size+1:=by
    simp at hb;rcases hb with rfl|rfl
    . exact OH _
    . exact Nat.lt_succ_of_lt au
   simpa[Heap.push]using kX
 . exact CmpOf.ints_gt (λi=>ns.getD i 0) λi v hv=>(val hv).2
 . refine⟨.int (Zec ns d),H,I.kept λb o e=>kp b o (λz=>?_) (Od _ e),?_,q⟩
   . have:b=s.heap.objs.size:=by simpa using z
     subst this;exact absurd (Ym e) (Yv _)
   . have hsz:its.toArray.size=ns.length:=by rw[Of,hl]
     by_cases h0:ns=[]
     . subst h0;have:=a1 (by rw[hsz];rfl);subst this;exact⟨t,rfl⟩
     . have kY:0<ns.length:=List.length_pos_iff.mpr h0;obtain⟨_,t3,ev⟩:=val (a2 (by rw[hsz];exact kY));refine⟨t3,?_⟩;rw[ev,hsz,(Zjr ns (ns.length-1) (by omega)).2,List.take_of_length_le (by omega)];cases ns with
       |nil=>exact absurd rfl h0
       |cons x r=>rfl
def ZwI(K:Yk)(ta tb:TE):TE:=λZ H Q=>ta Z H λv H1=>tb Z H1 λu H2=>∃a ns d,v=.ref a/\u=.int d/\SqL K H2 a (ns.map V.int)/\Q (.int (Zec ns d)) H2
def Zsl(hg:Gl X "max")(hm:X.mg "max"=M)(hc:X.calm=Wx)(ha:PE X x ta)(hb:PE X y tb)(he:YA [x] X.env=[(Wy,eval x X.env)]):
 PE X (.Call (.Name "max" p) [x] [⟨J "default",y,kp⟩] pos) (ZwI X.K ta tb):=by
 intro aa s Z H Q I h;refine YY (Zdu I hg hm boot_max ?_);refine PyProof.Rows.callWith_kw ?_ (by rw[he];rfl) (by rw[he];rfl);rw[he];refine Calls.spliced_cons (thn (ha aa s Z H _ I h) λv s1 ⟨vv,H1,I1,r1,q1⟩=>Calls.spliced_nil ?_);refine kws_cons (thn (hb aa s1 Z H1 _ I1 q1) λu s2 ⟨uu,H2,I2,r2,q2⟩=>kws_nil ?_);obtain⟨a,ns,d,rfl,rfl,hq,q⟩:=q2;cases r1;obtain⟨t,rfl⟩:=r2;exact ZqD hc I2 hq q
end
end L2
namespace L2
open PySem PySem.Spec PyProof PyProof.Rows PySem.AutoSeq1
set_option maxRecDepth 8000 in
def Zmr(l:Yi)(items:Array Yj)(n:Nat)(b:Yi)(aL:Array Yj)(n2:Nat)(od:Option Yi)(sl:Array (Option Yj))(mE:¬(!items.isEmpty&&Wq (items.size+aL.size))=Wx)(kT:items.size<=sizeLine)(gF:items.size+aL.size<=sizeLine+1):
 Meets (Builtin.«list.extend» ⟨[.ref l,.ref b],[]⟩) (λ_ qe s=>s.heap.get? l=J {cls:=.type "list",dict:=M,data:=.seq items n,slots:=#[]}/\s.heap.get? b=J {cls:=.type "tuple",dict:=od,data:=.seq aL n2,slots:=sl}/\qe (.ok (.ret Value.none)) {s with heap:=s.heap.update l (Obj.mapSeq λx=>x++aL),toks:=s.toks}):=
 .of_wp λprog w A qe s h=>by
  obtain⟨hp,g,d,tk,os⟩:=s;obtain⟨hl,hb,h⟩:=h;have f1:=idx_int;have f2:=AutoSeq1.sub_tuple_tuple;have f3:=AutoSeq1.sub_list_list;have f4:=AutoSeq1.sub_tuple_list;have f5:=AutoSeq1.sub_list_tuple;have eT:(items++aL).size<=sizeLine+1:=by rw[Array.size_append];exact gF
  wp_walk using (wpAny_updateSeq hl rfl (hz:=kT) (_hz':=eT)),wpAny_loadPart' hl,wpAny_loadPart' hb;exact⟨_,rfl,h⟩
section
variable {X:Cx}
def Zp2(K:Yk):V->List V->Hp->VK->Prop:=λx vs H Q=>∃l b xs zs,x=.ref l/\vs=[.ref b]/\H l=J (.lst xs)/\SqT K H b zs/\xs.length+zs.length<=sizeLine/\Q .non (upd H l (.lst (xs++zs)))
def Zma:MtM X "list.extend" (Zp2 X.K):=by
 intro aa s Z H x vs v us Q I rx rv h;obtain⟨l,b,xs,zs,rfl,rfl,hH,hB,hz,q⟩:=h;cases rx;obtain⟨u,rfl,ru⟩:=rv.one;cases ru;obtain⟨z,its,n,r,hl,e⟩:=I.lstM hH;obtain⟨aw,r2,⟨o,e2,oc,n2,od⟩,z2⟩:=I.tuple hB;obtain⟨cls,dc,m7,sl⟩:=o;simp only at oc od;subst oc;subst od;have bN:=r2.length;have hsz:its.toArray.size+aw.toArray.size<=sizeLine:=by rw[Of,Of];lia
 have bY:¬ (!its.toArray.isEmpty&&Wq (its.toArray.size+aw.toArray.size))=Wx:=by rw[ZkN hsz,Bool.and_false];exact Ow
 refine call_meets F.slot_list_extend ⟨_,e,rfl⟩ F.entry_list_extend (F.args_list_extend_2 _ _)
  (Zmr l its.toArray n b aw.toArray n2 dc sl bY (by rw[Of];lia) (by lia)) ⟨e,e2,?_⟩
 refine⟨.non,_,I.lset (its':=its++aw) hH e (by simp) (r.append r2) ?_,rfl,q⟩;rw[OA]
 lia
end
end L2
namespace L2
open PySem PySem.Spec PyProof.Rows
noncomputable def Zwi(K:Yk)(a:Yi)(n:Nat):It:=⟨λi H=>∃xs x,SqL K H a xs/\xs.length=n/\xs.reverse[i]?=J x,λi H x H'=>H'=H/\∀xs,SqL K H a xs->xs.reverse[i]?=J x,λi H=>∃xs,SqL K H a xs/\xs.length=n/\n=i⟩
def Zn7{P:Yh}{w:Yg}{K:Yk}{tg:Expr}(a it:Yi)(n:Nat):Turn P w K tg (Zwi K a n) [it] it (λi h=>i<=n/\h.IsRevIter it a ((n:Int)-1-i)) where
 mem:=by simp
 obj:=λi h st b hb=>by
  have e:b=it:=by simpa using hb
  subst e;obtain⟨_,o,e,c,d⟩:=st;exact⟨o,e,λv z=>by rw[d]at z;cases z⟩
 keep:=λi h h' st k=>⟨st.1,st.2.at λo e=>k it (by simp) o e⟩
 item:=by
  intro X hP hw hK hc i aa s Z H E I hf st hg;subst hP hw hK;obtain⟨cT,st⟩:=st;obtain⟨xs,x,hq,fJ,hx⟩:=hg;obtain⟨its,rv,p,hz⟩:=I.list hq;have hl:=rv.length;have hi:i<xs.length:=by have:=(Ob.mp hx).1;simpa using this
  have bI:xs[n-1-i]?=J x:=by rw[List.getElem?_reverse hi]at hx;rw[<-fJ];exact hx
  obtain⟨u,hu,ru⟩:=rv.get bI;obtain⟨f0,f1,f2,f3,f4,f5⟩:=hf it (by simp);have e1:(n:Int)-1-(i:Nat)=((n-1-i:Nat):Int):=by lia
  rw[e1]at st;refine wpAny_pyNext_rev_item st p.isList (x:=u) (by simpa using hu) λh' bf sb=>?_;have I1:Inv X aa Z H {s with heap:=h'}:=I.turned (t':=s.toks) (λb o hb e=>(sb.2 b hb).trans e) f0 f1 f3 f4 f5;obtain⟨o,e,c,d⟩:=id bf;have e2:((n-1-i:Nat):Int)-1=(n:Int)-1-((i+1:Nat):Int):=by lia
  exact⟨u,rfl,Zk2 (s:={s with heap:=h'}) e c d (by decide) ⟨x,H,I1,ru,⟨rfl,λys hy=>by rw[I.list_inj hy hq];exact hx⟩,⟨by lia,by rw[<-e2];exact bf⟩,λb hb=>(hf b hb).1⟩⟩
 done:=by intro X hP hw hK hc i aa s Z H E I hf st hg;subst hP hw hK;obtain⟨xs,hq,fJ,hx⟩:=hg;obtain⟨f0,f1,f2,f3,f4,f5⟩:=hf it (by simp);have st1:=st.2;rw[show(n:Int)-1-(i:Nat)=-1 by lia]at st1;exact wpAny_pyNext_rev_end (I.ok.hd hc) st1 λh' eb=>⟨rfl,I.turned (t':=s.toks) (λb o hb e=>eb b o hb e) f0 f1 f3 f4 f5⟩
 self:=λ_ _ _ _ _ st h=>wpAny_pyIter_revIter st.2 h
def ZxS(K:Yk)(ta:TA):TI:=λZ H qe=>ta Z H λvs H1=>∃a xs,vs=[.ref a]/\((SqT K H1 a xs/\qe (Itv K a xs.length) H1)\/(SqL K H1 a xs/\qe (Zwi K a xs.length) H1))
def Zsi{X:Cx}{tg l:Expr}{ta:TA}{p pos:Pos}(hg:Gl X "reversed")(hm:X.mg "reversed"=M)(ha:PA X [l] ta)(hs:YA [l] X.env=[(Wy,eval l X.env)]:=by rfl):
 PI X tg (.Call (.Name "reversed" p) [l] [] pos) (ZxS X.K ta):=by
 intro aa s Z H qe I h;refine Call_ (Zdu I hg hm boot_reversed (PyProof.Rows.callWith_type1 (thn (ha pos aa s Z H _ I h) λus s1 ⟨vs,H1,I1,r1,q1⟩=>?_) hs rfl));obtain⟨a,xs,rfl,q⟩:=q1;obtain⟨u,rfl,ru⟩:=vals1 r1;obtain rfl:u=YD a:=ru;rcases q with⟨hq,q⟩|⟨hq,q⟩
 . obtain⟨its,rv,pl,hz⟩:=I1.tuple hq;have hl:=rv.length;refine Rv.call pl (by simp;lia) ?_;have e1:((its.toArray.size:Nat):Int)-1=(xs.length:Int)-1-((0:Nat):Int):=by simp;lia
   have st:Rv.Is (s1.heap.push (Rv.obj a (((its.toArray.size:Nat):Int)-1))) s1.heap.objs.size a ((xs.length:Int)-1-((0:Nat):Int)):=⟨_,Oj _ rfl,rfl,by rw[<-e1];rfl⟩
   refine Rv.ZgA st ?_;refine⟨s1.heap.objs.size,[s1.heap.objs.size],_,_,H1,rfl,I1.kept (t':=s1.toks+1+1) λb o e=>Od _ e,Zpw a _ xs.length,⟨Yw _,st⟩,λb hb=>?_,q⟩;have e:b=s1.heap.objs.size:=by simpa using hb
   subst e;exact I1.fpOk (Oq _) (I1.hok.fresh (Oq _))
 . obtain⟨its,rv,pl,hz⟩:=I1.list hq;have hl:=rv.length;refine call_reversed_list pl.isList ?_;have e1:((its.toArray.size:Nat):Int)-1=(xs.length:Int)-1-((0:Nat):Int):=by simp;lia
   have st:(s1.heap.push (revObj a (((its.toArray.size:Nat):Int)-1))).IsRevIter s1.heap.objs.size a ((xs.length:Int)-1-((0:Nat):Int)):=⟨_,Oj _ rfl,rfl,by rw[<-e1];rfl⟩
   refine wpAny_pyIter_revIter st ?_;refine⟨s1.heap.objs.size,[s1.heap.objs.size],_,_,H1,rfl,I1.kept (t':=s1.toks) λb o e=>Od _ e,Zn7 a _ xs.length,⟨Yw _,st⟩,λb hb=>?_,q⟩;have e:b=s1.heap.objs.size:=by simpa using hb
   subst e;exact I1.fpOk (Oq _) (I1.hok.fresh (Oq _))
set_option tactic.hygienic false
namespace Rv
def ZvO:Slot "reversed" "__length_hint__" "reversed.__length_hint__" :=
 .of (owner := "reversed") (n := "__length_hint__") (by rw[typeLookup_type,builtinLookup_eq_fast]<;>kernel_rfl) (by decide +kernel) (by decide +kernel) (by decide +kernel) (by first|exact .inl (by decide +kernel)|exact .inr (by decide +kernel)) (by rw[isSubtype_type]<;>kernel_rfl)
def Zx5:entryFor table "reversed.__length_hint__"=J Builtin.«reversed.__length_hint__»:=entryFor_of_tree (by kernel_rfl)
def Zyh(a:Yj):argsOk "reversed.__length_hint__" ⟨[a],[]⟩:=by unfold argsOk;rw[signature?_of (id := "reversed.__length_hint__") (n:=['_','_','t','n','i','h','_','h','t','g','n','e','l','_','_']) (o:=['d','e','s','r','e','v','e','r']) (by kernel_rfl) own];kernel_rfl
def Zxv:typeLookup (.type "reversed") "__len__"=pure M:=by rw[typeLookup_type,builtinLookup_eq_fast]<;>kernel_rfl
section
variable {prog:Yh}{w:Yg}{A:YH}{E:Yj->Yb->Prop}{s:Yb}
def walks(hh:A.handled=M)(I l:Yi)(dM:l≠I)(items:Array Yj)(hz:items.size<=sizeLine):
 Walks prog w A I [I,l] [I] items.size (λi v=>items[items.size-1-i]?=J v) (λi h=>i<=items.size/\Is h I l ((items.size:Int)-1-(i:Int))/\IsTup h l items) where
 sub:=λb hb=>by simp at hb;simp[hb]
 frame:=λ_ _ _ x hk=>⟨x.1,x.2.1.at λo e=>hk I (by simp) o e,let⟨o,e,r⟩:=x.2.2;⟨o,hk l (by simp) o e,r⟩⟩
 item:=λi s Q E hi x hQ=>by have av:=x.2.1;rw[show(items.size:Int)-1-(i:Int)=((items.size-1-i:Nat):Int) by lia]at av;have hx:items[items.size-1-i]?=J (items[items.size-1-i]'(by lia)):=Array.getElem?_eq_getElem (by lia);refine next_item av x.2.2 hz hx λh' t' cM eU=>?_;rw[show((items.size-1-i:Nat):Int)-1=(items.size:Int)-1-((i+1:Nat):Int) by lia]at cM;exact hQ _ h' t' hx ⟨hi,cM,let⟨o,e,r⟩:=x.2.2;⟨o,(eU.2 l dM).trans e,r⟩⟩ λb o hb eo=>eU.extBut b o (λh=>hb (by simp[h])) eo
 done:=λs Q E x hQ=>by have av:=x.2.1;rw[show(items.size:Int)-1-(items.size:Int)=-1 by lia]at av;exact next_end hh av λh' lE=>hQ h' s.toks λb o hb eo=>lE b o (λh=>hb (by simp[h])) eo
 self:=λ_ _ _ _ x hQ=>ZgA x.2.1 hQ
def Zs6(av:Is s.heap it l ((items.size:Int)-1))(hl:IsTup s.heap l items)(hz:items.size<=sizeLine)
 (hQ:∀u tk,s.toks<=tk->Q (.int (items.size:Int) u) {s with toks:=tk}):YB (model prog w) A (PySem.call (.builtin "reversed.__length_hint__") [.ref it]) Q E s:=by
 have dQ:(items.size:Int)<2^63:=by have:=Zcm;lia
 obtain⟨o,ho,hc,hd⟩:=id av;refine Wi ZvO av.typeIs Zx5 ?_ (Zyh _);unfold Builtin.«reversed.__length_hint__»;refine Ya (Wp (a:=YD it) rfl ?_);refine Ya (YR ho hd (x:=.ref l) rfl ?_);rw[if_neg (by simp)];refine Ya (len_tuple hl dQ ?_);refine Ya (m:=asInt? (.int _ _)) (Yc ?_);dsimp only;refine Ya (YR ho hd (x:=rawInt ((items.size:Int)-1)) rfl ?_);show YB _ _ (if (items.size:Int)<(items.size:Int)-1+1 then _ else _) _ _ _;rw[if_neg (by lia),show(items.size:Int)-1+1=items.size by lia];unfold retInt;refine Ya (wpAny_mkInt ?_);exact Yc ⟨_,rfl,hQ _ _ (by simp only;lia)⟩
def ZvN:typeLookup (.type "reversed") "__length_hint__"=pure (J (.builtin "reversed.__length_hint__")):=ZvO.lookup
def collects(hh:A.handled=M)(av:Is s.heap I l ((items.size:Int)-1))(hl:IsTup s.heap l items)(dM:l≠I)(hz:items.size<=sizeLine)(h0:0<items.size)
 (hQ:∀s' ag,Moved [I] (λa b=>b=a) s s'->ItemsOf (λi v=>items[items.size-1-i]?=J v) ag items.size->Q ag.toList s'):YB (model prog w) A (collect (.ref I)) Q E s:=by
 have W:=(walks (prog:=prog) (w:=w) (A:=A.in1) hh I l dM items hz).toS;have hst:0<=items.size/\Is s.heap I l ((items.size:Int)-1-((0:Nat):Int))/\IsTup s.heap l items:=⟨Yw _,by simpa using av,hl⟩
 have lB:∀b∈[I,l],b<s.heap.objs.size:=λb hb=>by
  rcases O3.mp hb with rfl|hb
  . obtain⟨o,ho,_⟩:=av;exact Ym ho
  . rw[Ox.mp hb];obtain⟨o,ho,_⟩:=hl;exact Ym ho
 have i8:s.heap.objs.size ∉ [I,l]:=λhm=>absurd (lB _ hm) (Yv _);have lL:s.heap.objs.size≠I:=λe=>i8 (by rw[e];simp);unfold collect;refine Ya (wpAny_runValue ?_);refine codeAny_builtin F.entry_proto_collect ?_;rw[Around.under_plainId F.plain_proto_collect _];show YB _ A.in1 (newList [] >>= λk=>again (.builtin "list.__iadd__" ⟨[k,.ref I],[]⟩)) _ _ s;refine Ya (Yq (Yc ⟨plainId_quiet F.plain_list_iadd _,?_⟩));refine codeAny_builtin F.entry_list_iadd ?_;rw[Around.under_plainId F.plain_list_iadd _];generalize hob:({cls:=.type "list",data:=.seq ([]:List Yj).toArray}:Obj)=ob;have bW:=W.frame 0 s (s.heap.push ob) s.toks hst (Oq _) λb _ o e=>Od _ e;have jQ:(s.heap.push ob).get? s.heap.objs.size=J ob:=Oj _ (by rw[<-hob];rfl);have e1:Builtin.List.listSameRef (.ref s.heap.objs.size) (.ref I)=Wy:=by simp[Builtin.List.listSameRef,lL]
 have hT:Shared.TypeIs {s with heap:=s.heap.push ob} (.ref I) "reversed" := bW.2.1.typeIs;show YB _ A.in1 (Builtin.List.listExtendWith (.ref s.heap.objs.size) (.ref I) (.ref s.heap.objs.size)) _ _ _;unfold Builtin.List.listExtendWith;refine Ya (wpAny_typeOf hT ?_);rw[if_neg (by rw[e1];decide)];refine Ya (W.self 0 _ _ _ bW (Ya (Wh ?_)));unfold Builtin.List.listLengthHint;refine Ya (wpAny_specialOf hT Zxv ?_);show YB _ A.in1 (specialOf (YD I) (O "__length_hint__") >>= _) _ _ _;refine Ya (wpAny_specialOf hT ZvN ?_);have bJ:splitId "reversed.__length_hint__"=J ("reversed", "__length_hint__"):=by decide +kernel
 dsimp only;rw[bJ];dsimp only;refine Ya (wpAny_isInstance (b:=true) hT ZmV ?_);rw[if_neg (by decide),if_neg (by decide +kernel)];refine Ya (wpAny_rule (Ya (Wp (ZvO.bind _) ?_)));dsimp only;refine Ya (wpAny_attempt (Zs6 (by simpa using bW.2.1) bW.2.2 hz λu tk jD=>?_));dsimp only;have ea:asInt? (Value.int (items.size:Int) u)=pure (J (items.size:Int)):=rfl;rw[ea];clear ea;generalize hk:(items.size:Int)=kk;refine Ya ?_;refine Yc ?_;dsimp only;have l1:Builtin.List.listFitsIndex kk=Wx:=by
  have:=Zcm;unfold Builtin.List.listFitsIndex;rw[Oa,decide_eq_true_iff,decide_eq_true_iff]
  lia
 have l2:Wq kk.toNat=Wy:=by
  unfold Wq;rw[decide_eq_false_iff_not]
  lia
 rw[if_neg (by rw[l1];decide),if_neg (by lia),if_neg (by rw[l2];decide)];refine Yc ?_;rw[if_pos (by rw[Wu];left;rw[bne_iff_ne];lia)];subst hob;refine Ya (wpAny_rule (Ya ?_));show YB _ A.in1 (updateSeq s.heap.objs.size (·.push .none) >>= λ_=>updateSeq s.heap.objs.size (·.pop)) _ _ _;refine Ya (wpAny_updateSeq jQ rfl ?_);have jP:=YX (Obj.mapSeq (·.push Value.none)) jQ rfl;refine wpAny_updateSeq jP rfl ?_;have lN:=YX (Obj.mapSeq (·.pop)) jP rfl;generalize hob:({cls:=.type "list",data:=.seq ([]:List Yj).toArray}:Obj)=ob at *;have jo:∀b o,b≠s.heap.objs.size->(s.heap.push ob).get? b=J o->(((s.heap.push ob).update s.heap.objs.size (Obj.mapSeq (·.push Value.none))).update s.heap.objs.size (Obj.mapSeq (·.pop))).get? b=J o:=λb o hb e=>(YN _ _ (YL hb)).trans ((YN _ _ (YL hb)).trans e)
 have iH:=W.frame 0 ({s with heap:=s.heap.push ob}:Yb) _ tk bW jD λb hb o e=>jo b o (λh=>i8 (h▸hb)) e;obtain⟨c,lM⟩:∃c,(((s.heap.push ob).update s.heap.objs.size (Obj.mapSeq (·.push Value.none))).update s.heap.objs.size (Obj.mapSeq (·.pop))).get? s.heap.objs.size=J {cls:=.type "list",dict:=M,data:=.seq #[] c,slots:=#[]}:=by subst hob;exact⟨_,lN⟩
 refine Yc ⟨plainId_quiet F.plain_extend_loop _,?_⟩;refine codeAny_extend_loopS W hz _ i8 _ items.size 0 _ #[] _ rfl (Yw _) iH lM (ItemsOf.nil _) λs' ji c' hm lO aq=>?_;show YB _ A (load s.heap.objs.size >>= _) _ _ s';refine Ya (wpAny_load lO (Yc (hQ s' ji ?_ aq)));refine Moved.drop_new (o:=ob) (tk:=tk) (Moved.trans W.gtrans ?_ hm) jD;exact⟨λb o hb e=>jo b o (λh=>hb (h▸Oi)) e,rfl,rfl,rfl,Oq _⟩
def Zuj(hh:A.handled=M)(av:Is s.heap I l ((items.size:Int)-1))(hl:IsTup s.heap l items)(dM:l≠I)(hz:items.size<=sizeLine)(h0:0<items.size)
 (h:∀s' ag,Moved [I] (λa b=>b=a) s s'->ItemsOf (λi v=>items[items.size-1-i]?=J v) ag items.size->Q (.ref s'.heap.objs.size) {s' with heap:=s'.heap.push {cls:=.type "tuple",data:=.seq ag}}) :
 codeAny (model prog w) A (.call (.builtin "tuple.__new__") ⟨[.type "tuple",.ref I],[]⟩) (wants Q E) s:=by
 refine codeAny_of_tree ?_;show YB _ A.in1 (checkBuiltinCall "tuple.__new__" ⟨[.type "tuple",.ref I],[]⟩ >>= λ_=>again (.builtin "tuple.__new__" ⟨[.type "tuple",.ref I],[]⟩)) _ _ s;refine Ya (Wp (F.newCall_tuple_1 _) (Yc ⟨plainId_quiet F.plain_tuple_new _,?_⟩));refine codeAny_builtin F.entry_tuple_new ?_;rw[Around.under_plainId F.plain_tuple_new _];have fL:=sub_tuple_self;have jL:=init_tuple_lookup;have mI:=madeHere_tuple;have lK:=av.typeIs
 wp_walk using wpAny_typeOf lK,collects (A:=A.in1) hh av hl dM hz h0
 intro s' ag hm aq;show YB _ _ (Builtin.Tuple.tupleExact ag.toList.toArray >>= λv=>ret v) _ _ _;have e:ag.toList.toArray=ag:=by simp
 rw[e];unfold Builtin.Tuple.tupleExact;refine Ya (Yq (Yc (h s' ag hm aq)) (by show ag.size<=sizeLine;rw[aq.1];exact hz))
def ZrL(hh:A.handled=M)(av:Is s.heap I l ((items.size:Int)-1))(hl:IsTup s.heap l items)(dM:l≠I)(hz:items.size<=sizeLine)(h0:0<items.size)
 (h:∀s' ag,Moved [I] (λa b=>b=a) s s'->ItemsOf (λi v=>items[items.size-1-i]?=J v) ag items.size->Q (.ref s'.heap.objs.size) {s' with heap:=s'.heap.push {cls:=.type "tuple",data:=.seq ag}}) :
 YB (model prog w) A (PySem.call (.type "tuple") [.ref I]) Q E s:=by
 refine callType_codes (Q₁:=λobj s1=>s1.TypeIs obj "tuple" /\ Q obj s1) F.called_tuple (F.typeCall_tuple_1 _) F.entry_object_init (Zuj hh av hl dM hz h0 λs' ag hm aq=>⟨⟨_,Oj _ rfl,rfl⟩,h s' ag hm aq⟩) λobj s1 R=>?_;exact⟨R.1,F.args_object_init_2 obj _,object_init_meets F.called_tuple.init.lookup F.called_tuple.made (by decide) prog w A.in1 _ s1 ⟨R.1,rfl,R.2⟩⟩
end
end Rv
def ZrP(K:Yk)(ta:TA):TE:=λZ H Q=>ta Z H λvs H1=>∃a xs,vs=[.ref a]/\SqT K H1 a xs/\xs≠[]/\∀p,H1 p=M->Q (.ref p) (upd H1 p (.tup xs.reverse))
theorem ZoB (hc:X.calm=Wx) (lz:Gl X "tuple") (lf:X.mg "tuple"=M) (lA:Gl X "reversed") (lg:X.mg "reversed"=M) (ha:PA X [l] ta)
   (hs:YA [l] X.env=[(Wy,eval l X.env)]:=by rfl):PE X (.Call (.Name "tuple" p) [.Call (.Name "reversed" p2) [l] [] pos2] [] pos) (ZrP X.K ta):=by
 intro aa s Z H Q I h;refine Call_ (Zdu I lz lf boot_tuple (PyProof.Rows.callWith_type1 ?_ rfl rfl));show YB _ _ (spliced ((Wy,eval (.Call (.Name "reversed" p2) [l] [] pos2) X.env)::[])) _ _ s;refine Calls.spliced_cons ?_;refine Call_ (Zdu I lA lg boot_reversed (PyProof.Rows.callWith_type1 (thn (ha pos2 aa s Z H _ I h) λus s1 ⟨vs,H1,I1,r1,q1⟩=>?_) hs rfl));obtain⟨a,xs,rfl,hq,kM,q⟩:=q1;obtain⟨u,rfl,ru⟩:=vals1 r1;obtain rfl:u=YD a:=ru;obtain⟨its,rv,pl,hz⟩:=I1.tuple hq;have lh:=rv.length;have hpos:0<its.toArray.size:=by
   cases xs with
   |nil=>exact absurd rfl kM
   |cons x r=>simp at lh ⊢;lia
 have jB:its.toArray.size<=sizeLine:=by simp;lia
 refine Rv.call pl jB (Calls.spliced_nil ?_);have au:a<s1.heap.objs.size:=by obtain⟨o,ho,_⟩:=pl;exact Ym ho
 refine Rv.ZrL (I.ok.hd hc) (l:=a) (items:=its.toArray) ⟨_,Oj _ rfl,rfl,rfl⟩ (pl.push _) (Ou au) jB hpos λs' ag hm aq=>?_;obtain⟨hk,hg,hd,ho,ht⟩:=hm;have kp:∀ b o,s1.heap.get? b=J o->s'.heap.get? b=J o:=λb o e=>hk b o (λhb=>by
   rw [Ox.mp hb] at e;exact absurd (Ym e) (Yv _)) (Od _ e)
 have es:s'={s1 with heap:=s'.heap,toks:=s'.toks}:=by
   obtain⟨a1,a2,a3,a4,a5⟩:=s';simp only at hg hd ho;simp only [hg,hd,ho]
 have ea:ag.toList=its.reverse:=by
   apply List.ext_getElem?;intro j;rcases Nat.lt_or_ge j its.length with hj|hj
   . have jK:j<ag.size:=by rw [aq.1];simpa using hj
     have e1:=aq.2 j ag[j] (Array.getElem?_eq_getElem jK);rw [List.getElem?_reverse hj,Array.getElem?_toList,Array.getElem?_eq_getElem jK,<-e1];simp
   . rw [List.getElem?_eq_none (by have:=aq.1;simp at this ⊢;lia),List.getElem?_eq_none (by simpa using hj)]
 have I2:Inv X aa Z H1 s':=by
   rw [es];exact I1.kept (t':=s'.toks) kp
 have ev:ag=its.reverse.toArray:=by rw [<-ea]
 have rr:Zs xs.reverse its.reverse:=rv.reverse;have I3:Inv X aa Z (upd H1 s'.heap.objs.size (.tup xs.reverse)) {s' with heap:=s'.heap.push {cls:=.type "tuple",data:=.seq ag}}:=by
   rw [ev];exact I2.laid (t':=s'.toks) (λb o e=>Od _ e) (Oq _) (show Zat X.prog X.w _ _ _ (.tup xs.reverse) from⟨by simpa using hz,its.reverse,rr,Zb2.fresh _ _⟩)
 exact⟨.ref s'.heap.objs.size,_,I3,rfl,q _ (I2.hok.fresh (Oq _))⟩
set_option tactic.hygienic true
namespace Tx
noncomputable def place(x:Str):List Str->Option Nat
 |[]=>M
 |y::r=>if y=x then J 0 else(place x r).map (·+1)
theorem ZkK:∀{ys:List Str}{j:Nat},place x ys=J j->ys[j]?=J x/\∀m,m<j->∀y,ys[m]?=J y->y≠x
 |[],j,h=>by cases h
 |y::r,j,h=>by
  unfold place at h;by_cases e:y=x
  . rw[if_pos e]at h;cases h;exact⟨by simp[e],λm hm=>absurd hm (Nat.not_lt_zero _)⟩
  . rw[if_neg e]at h;obtain⟨k,hk,rfl⟩:=Oo.mp h;obtain⟨R,h2⟩:=ZkK hk;refine⟨by simpa using R,λm hm z hz=>?_⟩;cases m with
    |zero=>simp at hz;rw[<-hz];exact e
    |succ m=>exact h2 m (by lia) z (by simpa using hz)
section
variable {prog:Yh}{w:Yg}{A:YH}{E:Yj->Yb->Prop}{s:Yb}
def Zmx(hl:IsTup s.heap t items)(hn:items.size=ys.length)(hi:∀(i:Nat) (y:Str),ys[i]?=J y->∃t,items[i]?=J (Value.str y t))(hj:place x ys=J j)
 (hQ:∀u tk,Q (.int (j:Int) u) {s with toks:=tk}):YB (model prog w) A (PySem.call (.builtin "tuple.index") [.ref t,.str x tx]) Q E s:=by
 obtain⟨o,ho,hc,n,hd⟩:=id hl;refine Wi F.slot_tuple_index hl.typeIs F.entry_tuple_index ?_ (F.args_tuple_index_2 _ _);unfold Builtin.«tuple.index»;refine Ya (Wp (a:=(YD t,[Value.str x tx])) rfl ?_);dsimp only;unfold Builtin.Tuple.tupleItemsOf;refine Ya (Ya (wpAny_seqItems ho hd (Yc ?_)))
 try dsimp only
 refine Ya (Yc ?_);refine Ya (Yc ?_);rw[Std.Legacy.Range.forIn_eq_forIn_range'];obtain⟨p1,p2⟩:=ZkK hj;have mL:j<ys.length:=(Ob.mp p1).1;have e0:List.range' [:min items.size items.size].start [:min items.size items.size].size [:min items.size items.size].step=List.range' 0 (items.size-0):=by show List.range' 0 ((min items.size items.size-0+1-1)/1) 1=_;simp
 rw[e0];refine Ya (wpAny_forIn_list _ (λl b s'=>∃i,l=List.range' i (items.size-i)/\b=(M,())/\s'=s/\i<=j) _ ?_ ?_ _ _ ⟨0,rfl,rfl,rfl,Yw _⟩)
 . rintro i rest b s' ⟨k,hk,rfl,rfl,hkj⟩;have iR:k<items.size:=by lia
   rw[show items.size-k=(items.size-(k+1))+1 by lia,List.range'_succ]at hk;obtain⟨rfl,rfl⟩:=List.cons.inj hk;obtain⟨y,hy⟩:∃y,ys[i]?=J y:=⟨ys[i]'(by lia),Og (by lia)⟩
   obtain⟨ty,ht⟩:=hi i y hy;rw[ht];dsimp only;refine Ya (eqBool_str ?_);by_cases e:i=j
   . subst e;rw[p1]at hy;cases hy;rw[if_pos (by simp)];unfold retInt;refine Ya (Ya (wpAny_mkInt (Yc (Yc ?_))));exact Yc ⟨_,rfl,hQ _ _⟩
   . rw[if_neg (by have:=p2 i (by lia) y hy;simpa using this)];exact Yc ⟨i+1,rfl,rfl,rfl,by lia⟩
 . rintro b s' ⟨k,hk,rfl,rfl,hkj⟩;have:=congrArg List.length hk;simp at this
   lia
end
end Tx
def ZlX(K:Yk):V->List V->Hp->VK->Prop:=λx vs H Q=>∃a ys y j,x=.ref a/\vs=[.str y]/\SqT K H a (ys.map .str)/\Tx.place y ys=J j/\Q (.int (j:Int)) H
def ZqA:MtR X "tuple.index" (ZlX X.K):=by
 intro aa s Z H x vs v us Q I rx rv h;obtain⟨a,ys,y,j,rfl,rfl,hq,hp,q⟩:=h;cases rx;obtain⟨u,rfl,ru⟩:=rv.one;obtain⟨t,rfl⟩:=ru;obtain⟨its,rs,pl,hz⟩:=I.tuple hq;have hl:=rs.length;refine Tx.Zmx pl (by simpa using hl.symm) (λi z hi=>?_) hp λu tk=>?_
 . obtain⟨u,hu,ru⟩:=rs.get (i:=i) (x:=.str z) (by simp[hi]);obtain⟨t2,rfl⟩:=ru;exact⟨t2,by simpa using hu⟩
 . exact⟨.int j,H,I.kept (h':=s.heap) (t':=tk) (λb o e=>e),⟨u,rfl⟩,q⟩
noncomputable def Zc7(K:Yk):Bool:=K.all λp=>!Wz (p.2.cls=.type "tuple")||p.2.dict.isNone
def ZtA{K:Yk}(h:Zc7 K=Wx)(e:K.lookup a=J o)(hc:o.cls=.type "tuple"):o.dict=M:=by
 have hm:∃b,(b,o)∈K:=by
  induction K with
  |nil=>cases e
  |cons p r ih=>
   rw[OF]at e;split at e
   . cases e;exact⟨p.1,Oi⟩
   . obtain⟨b,hb⟩:=ih (by unfold Zc7 at h ⊢;rw[List.all_cons,Oa]at h;exact h.2) e;exact⟨b,Oh _ hb⟩
 obtain⟨b,hb⟩:=hm;have:=OC.mp h _ hb;simp only[hc,decide_true,Bool.not_true,Bool.false_or]at this;simpa using this
noncomputable def Zyw(K:Yk)(to:TE)(t:TA):TE:=λZ H Q=>to Z H λx H1=>(∃a ys,x=.ref a/\SqT K H1 a ys)/\t Z H1 λxs H2=>ZlX K x xs H2 Q
def Zu3{X:Cx}(hK:Zc7 X.K=Wx)(ho:PE X o to)(ha:PA X [e] t)
 (aV:attributeBase o "index" X.env (eval o X.env)=eval o X.env)
 (dR:((YS ao (YA [e] X.env)).all (λx=>!x.1)&&(backToKw ao (Wc [] X.env)).all (λx=>x.1.isSome)&&Wz ([e].length+([]:List Keyword).length+(if ([]:List Keyword).isEmpty then 0 else 1)<30))=Wx)
 (aP:(apos.endLine==ao.line)=Wx) (hs:YA [e] X.env=[(Wy,eval e X.env)]) :
 PE X (.Call (.Attribute o "index" apos) [e] [] ao) (Zyw X.K to t):=by
 intro aa s Z H Q I h;refine wpAny_Call_method_late aV dR aP rfl (thn (ho aa s Z H _ I h) λv s1 ⟨x,H1,I1,r1,ty,q1⟩=>?_);obtain⟨a,ys,rfl,hq⟩:=ty;cases r1;have ht:∃ob,s1.heap.get? a=J ob/\ob.cls=.type "tuple" /\ ob.dict=M:=by
  rcases hq with hq|⟨ob,its,n,hk,hc,hs,hz,r⟩
  . obtain⟨z,its,r,ob,e1,e2,e3,_⟩:=hq.ok I1.hok;exact⟨ob,e1,e2,e3⟩
  . exact⟨ob,I1.kIn a ob hk,hc,ZtA hK hk hc⟩
 obtain⟨ob,e1,e2,e3⟩:=ht;refine⟨"tuple", "tuple.index",F.plainAttrs_tuple,F.slot_tuple_index,F.type_tuple_index,⟨ob,e1,e2⟩,λb hb=>by cases hb;exact⟨ob,e1,e3⟩,?_⟩;have hA:=ha ao aa s1 Z H1 _ I1 q1;rw[hs]at hA ⊢;refine Calls.callWith_builtin rfl (Calls.evalArgs_plain ?_);exact thn hA λus s2 ⟨vs,H2,I2,r2,q2⟩=>ZqA aa s2 Z H2 (.ref a) vs (.ref a) us Q I2 rfl r2 q2
def ZxI(X:Cx)(hs:List ExceptHandler)(Q:Flow->Yb->Prop):Yj->Yb->Prop:=λe s₁=>YB (model X.prog X.w) X.A (noteFrame e X.env) (λ_ s₂=>YB (model X.prog X.w) X.A (setFlight e M) (λ_ s₃=>YB (model X.prog X.w) X.A (handleBy e X.env hs) Q X.xe s₃) X.xe s₂) X.xe s₁
section
variable {X:Cx}{cx:Str}{np hpos:Pos}{C2:Yi}{b0:Stmt}{bh:List Stmt}
def ZoC(iT:Gl X cx)(iO:X.mg cx=J (.ref C2))(hC:ExcN X.K C2)(cK:X.stack=X.env::X.outer)(dO:X.env.frame=J X.env.locals)
 (dU:(cx==("__debug__" : Str))=Wy) (hE:∀cls H',E1 cls M H'->YV X.K cls (.ref C2)=J Wx/\∀C,cls=.ref C->∀a oe s',oe.cls=cls->Inv (cxH X a oe) aa Z H' s'->YB (model X.prog X.w) (cxH X a oe).A (execs (b0::bh) X.env) Q (λ_ _=>False) s')
 (dX:∀cls H',E1 cls M H'->∃C,cls=.ref C) (I1:Inv X aa Z H s) (hq:CXF X.prog X.w X.stack H s E1 e s'):ZxI X [.ExceptHandler (J (.Name cx np)) M (b0::bh) hpos] Q e s':=by
 obtain⟨a,cls,a0,H',B_,rfl,os,bare,un,hok,fl,kb,lb,R⟩:=hq;obtain⟨C,rfl⟩:=dX _ _ R;obtain⟨fL,kO⟩:=hE _ _ R;have bB:X.A.frames=J (X.env::X.outer):=by rw[<-cK];exact I1.ok.frames
 have lW:Heap.FlyingW B_ (X.env::X.outer) a (.ref C) a0 s'.heap:=by rw[<-cK];exact fl
 have I':=I1.call' (ch:=[]) os un hok bare (λb z=>absurd z (by simp));have dP:∀b∈frs X.stack,∃o,s'.heap.get? b=J o/\∀vs,o.data≠.fields vs:=λb hb=>by obtain⟨_,o,q,nf⟩:=I'.stack.mem hb;exact⟨o,q,nf⟩
 have j1:∀h2:YG,B_.StaysIn h2->s'.heap.UpToSlots h2->∀tk,Inv X aa Z H' {s' with heap:=h2,toks:=tk}:=λh2 st up tk=>by obtain⟨r1,r2,_⟩:=Zfk un hok kb st up dP;exact I1.call' (s':={s' with heap:=h2,toks:=tk}) (ch:=[]) os r1 r2 bare (λb z=>absurd z (by simp))
 refine wpAny_looks_onW bB dO lW λh4 bc fi=>?_;refine wpAny_landsW bc λh5 jg jk=>?_;have I5:Inv X aa Z H' {s' with heap:=h5}:=j1 h5 jg.1 (fi.trans jk) s'.toks;refine wpAny_handleBy_cons (codeAny_handlers_test (Zdt (X:=cxM X a) (I5.toM a) iT iO ?_ dU)) (by intro q;cases q);obtain⟨oe,kZ,gG⟩:=jg.there;refine Zla (s:={s' with heap:=h5}) I5.kIn hC.ty hC.cls hC.exc fL kZ gG (codeAny_handlers_suite ?_);refine lands_againW jg λh6 jW g9=>?_;have I6:Inv X aa Z H' {s' with heap:=h6}:=j1 h6 jW.1 ((fi.trans jk).trans g9) s'.toks;obtain⟨jt,ws,dG,iN,dH,_⟩:=jW.first;have k9:a≠X.env.locals:=λz=>by obtain⟨m,⟨o,gQ,ep,ho,hd,_⟩,_⟩:=I6.loc;rw[<-z,dG]at ho;cases ho;rw[dH]at hd;cases hd
 have la:a ∉ X.fs:=λz=>by obtain⟨_,o,q,nf⟩:=I6.funs.mem z;rw[dG]at q;cases q;exact nf _ dH
 have IH:Inv (cxH X a jt) aa Z H' {s' with heap:=h6}:=I6.toH dG lb k9 la (λv z=>by rw[dH]at z;cases z);exact Yf (kO C rfl a jt _ iN IH) (λ_ _ z=>z) λ_ _ z=>z.elim
end
def ZtM(K:Yk)(sp:Sp)(C2:Yi)(i:Nat)(ts:Yi->Obj->TS)(t:TA):TS:=λD Z H=>t Z H λvs H1=>sp vs H1 (λv H2=>D.nx (Z.set i (J v)) H2) (λcls _ H2=>∃C,cls=.ref C/\YV K (.ref C) (.ref C2)=J Wx/\∀a oe,ts a oe D Z H2)
section
variable {X:Cx}{k:Nat}{x cx n:Str}{ps:List Str}{sp:Sp}{e:Expr}{es:List Expr}{t:TA}{p np ao apos hpos pos px:Pos}{C2:Yi}{i:Nat}{b0:Stmt}{bh:List Stmt}{ts:Yi->Obj->TS}
def Zov(F:Def X.prog X.w X.K X.mg X.base k x ps sp)(hr:Room k X.A)(hg:Gl X x)(ha:PA X.nox (e::es) t)
 (iT:Gl X cx) (iO:X.mg cx=J (.ref C2)) (hC:ExcN X.K C2) (hN:X.N.Nodup) (hi:X.N[i]?=J n) (hx:Loc X.env.scope n) (hf:X.fn n=Wx\/X.env.scope.names.lookup n=J .local) (cK:X.stack=X.env::X.outer) (dO:X.env.frame=J X.env.locals)
 (dA:∀a oe,PSs (cxH X a oe) (b0::bh) (ts a oe)) (bv:(x==("__debug__" : Str))=Wy) (dU:(cx==("__debug__" : Str))=Wy) (he:YA (e::es) X.env=(Wy,eval e X.env)::YA es X.env) (aM:(YS ao (YA es X.env)).any (·.1)=Wy)
 (iG:swapsWith (.Call (.Name x p) (e::es) [] ao) (J (.Name n px)) apos.line X.env=pure Wy:=by rfl) :
 PS X (.Try [.Assign [.Name n px] (.Call (.Name x p) (e::es) [] ao) apos] [.ExceptHandler (J (.Name cx np)) M (b0::bh) hpos] [] [] pos) (ZtM X.K sp C2 i ts t):=by
 obtain⟨f,fd,hm,hk,hb,F⟩:=F;intro aa s Z H D I h;refine wpAny_Try_except (wpAny_execs_cons (wpAny_Assign_Name (YY (Zdt I hg hm ?_ bv)) iG));refine PySem.W.callWith_K (h₀:=X.base) I.ok.mod.kin hk (Yf (ha ao aa s Z H _ (I.wish _) h) (λus s1 ⟨vs,H1,mr,r,q⟩=>?_) λ_ _ z=>z.elim) he aM;have I1:Inv X aa Z H1 s1:=mr.unwish;refine⟨I1.kIn,?_⟩;have ak:(us++[]).length=ps.length:=by rw[Ys,<-r.length];exact F.len _ _ _ _ q
 have jM:=hb s1 us I1.kIn ak;rw[Ys]at jM;refine wpAny_call (codeAny_mono (F.run X.A X.stack s1 H1 ⟨us,[]⟩ us vs _ _ hr I1.env0 jM r q) λr s' hq=>?_);cases r with
 |ok fl=>
  cases fl with
  |ret u=>obtain⟨v,H',I',rv,q'⟩:=I1.after hq;exact ZfD I' hN hi hx rv (λs2 I2=>wpAny_execs_nil (wpAny_execs_nil ⟨_,H',I2,q'⟩)) hf
  |next=>exact False.elim hq
  |brk=>exact False.elim hq
  |cont=>exact False.elim hq
 |error ev=>
  have hq:CXF X.prog X.w X.stack H1 s1 (λcls _ H2=>∃C,cls=.ref C/\YV X.K (.ref C) (.ref C2)=J Wx/\∀a oe,ts a oe D Z H2) ev s':=hq;refine ZoC (np:=np) (hpos:=hpos) (Z:=Z) (Q:=SP X aa D) iT iO hC cK dO dU (λcls H' z=>?_) (λcls H' z=>?_) I1 hq
  . obtain⟨C,rfl,hs,ht⟩:=z;refine⟨hs,λ_ _ a oe s' _ I'=>?_⟩;refine Yf (dA a oe aa s' Z H' D I' (ht a oe)) (λfl s8 q8=>?_) λ_ _ z=>z;cases fl with
    |next=>obtain⟨σ',H8,I8,q8⟩:=q8;exact⟨σ',H8,I8.ofH I.ok.hd,q8⟩
    |brk=>obtain⟨σ',H8,I8,q8⟩:=q8;exact⟨σ',H8,I8.ofH I.ok.hd,q8⟩
    |cont=>obtain⟨σ',H8,I8,q8⟩:=q8;exact⟨σ',H8,I8.ofH I.ok.hd,q8⟩
    |ret v=>obtain⟨y,σ',H8,I8,r8,q8⟩:=q8;exact⟨y,σ',H8,I8.ofH I.ok.hd,r8,q8⟩
  . obtain⟨C,rfl,_⟩:=z;exact⟨C,rfl⟩
end
def ZoK(h:env.frame=env'.frame):noteFrame e env=noteFrame e env':=by unfold noteFrame PySem.frameOf;rw[h]
structure Fly(B_:YG)(l:List Env)(a:Yi)(cls a0 fl:Yj)(h:YG):Prop where
 stay:B_.StaysIn h
 new:B_.get? a=M
 fr:h.FunFrames B_ l
 tr:h.TracedAtW B_ a cls a0 fl
section
variable {qd:Model}{A:YH}{E:Yj->Yb->Prop}{s:Yb}{B_:YG}{l:List Env}{a:Yi}{cls a0 fl:Yj}{Q:Unit->Yb->Prop}
def Zps(x:Fly B_ l a cls a0 fl h)(t1:h.get? T=J oT)(t2:oT.data=.fields ts)(t3:B_.get? T=M):
 (∀b,b≠T->(h.update T (Obj.mapFields (·.setIfInBounds 3 v))).get? b=h.get? b)/\B_.StaysIn (h.update T (Obj.mapFields (·.setIfInBounds 3 v)))/\(h.update T (Obj.mapFields (·.setIfInBounds 3 v))).FunFrames B_ l/\h.UpToSlots (h.update T (Obj.mapFields (·.setIfInBounds 3 v))):=by
 have o:∀b,b≠T->(h.update T (Obj.mapFields (·.setIfInBounds 3 v))).get? b=h.get? b:=λb hb=>YN _ _ (YL hb);have nr:∀b ob,h.get? b=J ob->(∀vs,ob.data≠.fields vs)->b≠T:=λb ob hb hn z=>by subst z;cases t1.symm.trans hb;exact hn _ t2
 exact⟨o,λb ob hb=>(o b λz=>by subst z;cases t3.symm.trans hb).trans (x.stay b ob hb),x.fr.of_keeps λb ob hb hn=>⟨ob,(o b (nr b ob hb hn)).trans hb,rfl⟩,λb ob hb hn=>⟨ob.slots,(o b (nr b ob hb hn)).trans hb⟩⟩
def Zh8(x:Fly B_ l a cls a0 fl s.heap)(q:∀h',Fly B_ l a cls a0 (f.elim .none λz=>rawInt z) h'->s.heap.UpToSlots h'->Q () {s with heap:=h'}):YB qd A (setFlight (.ref a) f) Q E s:=by obtain⟨oe,us,T,oT,ts,b1,b2,b3,b4,b5,b6,b7,b8,b9⟩:=x.tr;have z3:3<ts.size:=(Array.getElem?_eq_some_iff.mp b9).1;obtain⟨o,k1,k2,k3⟩:=Zps (v:=f.elim .none λz=>rawInt z) x b7 b8 b5;unfold setFlight;refine Ya (YR b1 b3 b4 ?_);rw[if_pos (by simp)];refine wpAny_setField b7 b8 z3 (q _ ⟨k1,x.new,k2,oe,us,T,_,_,(o a (YL b6)).trans b1,b2,b3,b4,b5,b6,YX _ b7 (Obj.isFreed_of_fields (YZ b8 _)),YZ b8 _,by simp[z3]⟩ k3)
def Zmg(bB:A.frames=J (env::outer))(hf:env.frame=J L)(x:Fly B_ (env::outer) a cls a0 fl s.heap)(q:∀h',Heap.FlyingW B_ outer a cls a0 h'->s.heap.UpToSlots h'->Q () {s with heap:=h'}):YB qd A (leaving env (.ref a)) Q E s:=by
 have fin:∀(s1:Yb),Fly B_ (env::outer) a cls a0 (rawInt L) s1.heap->s.heap.UpToSlots s1.heap->(∀h',{s1 with heap:=h'}={s with heap:=h'})->YB qd A (setFlight (.ref a) M) Q E s1:=λs1 x1 u e=>Zh8 x1 λh' x2 u2=>by rw[e];exact q h' ⟨x2.stay,x2.new,x2.fr.2.2,x2.tr⟩ (u.trans u2)
 unfold leaving;refine Ya ?_;by_cases hL:fl=rawInt L
 . subst hL;exact wpAny_noteFrame_againW hf x.tr (fin s x (Heap.UpToSlots.refl _) λ_=>rfl)
 . obtain⟨oe,us,T,oT,ts,b1,b2,b3,b4,b5,b6,b7,b8,b9⟩:=x.tr;obtain⟨c1,c2⟩:=b2;subst c1;obtain⟨o,k1,k2,k3⟩:=Zps (v:=.none) x b7 b8 b5;unfold noteFrame;simp only[hf];refine Ya (YR b1 b3 b4 ?_);rw[if_pos (by simp)];refine Ya (YR b7 b8 b9 ?_);rw[if_neg (by simpa using hL)];refine Ya (wpAny_setField b7 b8 (Array.getElem?_eq_some_iff.mp b9).1 ?_);refine wpAny_entryW bB k2 hf ((o a (YL b6)).trans b1) k1 x.new b3 (Array.getElem?_eq_some_iff.mp b4).1 c2 λh' ⟨x1,x2,x3,x4⟩=>?_;exact fin _ ⟨x1,x.new,x2,x3⟩ (k3.trans x4) λ_=>rfl
end
def ZkY(un:Un fs [] H H' h R)(hok:HOk P w H' R)(kb:Kept fs H' h R B_)(stay:B_.StaysIn h2)
 (hf:∀b∈fs,∀o,R.get? b=J o->∃sl,h2.get? b=J {o with slots:=sl}):Un fs [] H H' h h2/\HOk P w H' h2/\Kept fs H' h h2 B_:=by
 have tr:∀b u,H' b=J u->∃o,R.get? b=J o/\h2.get? b=J o/\B_.get? b=J o:=λb u e=>by obtain⟨o,q⟩:=(hok b u e).there;have z:=kb b o q (.inl (by rw[e];simp));exact⟨o,q,stay _ _ z,z⟩
 have old:∀b o,h.get? b=J o->b ∉ fs->∃o1,R.get? b=J o1/\h2.get? b=J o1/\B_.get? b=J o1:=λb o e hb=>by obtain⟨o1,q⟩:=un.there b o e (by simp);have z:=kb b o1 q (.inr ⟨⟨o,e⟩,hb⟩);exact⟨o1,q,stay _ _ z,z⟩
 refine⟨⟨λb o e n hb _=>?_,λb o e n hb _=>?_,λb o e n _=>un.free b o e n (by simp),λb o e _=>?_,un.tups,un.frzs,un.tbls⟩,λb u e=>?_,λb o e hb=>?_⟩
 . obtain⟨o1,q1,q2,_⟩:=old b o e hb;cases (un.keep b o e n hb (by simp)).symm.trans q1;exact q2
 . obtain⟨sl,z⟩:=un.slot b o e n hb (by simp);obtain⟨cr,q⟩:=hf b hb _ z;exact⟨cr,q⟩
 . by_cases hb:b∈fs
   . obtain⟨o1,q1⟩:=un.there b o e (by simp);obtain⟨cr,q⟩:=hf b hb _ q1;exact⟨_,q⟩
   . obtain⟨o1,_,q2,_⟩:=old b o e hb;exact⟨_,q2⟩
 . refine(hok b u e).stay (λc v hc q=>?_) (λ_ q=>q) λ_ _ q=>q;have cB:∃u',H' c=J u':=by
    rcases hc with rfl|hc
    . exact⟨u,e⟩
    . exact⟨_,hc⟩
   obtain⟨u',e'⟩:=cB;obtain⟨o,q1,q2,_⟩:=tr c u' e';cases q.symm.trans q1;exact q2
 . rcases hb with hb|⟨⟨o',e'⟩,hb⟩
   . cases q:H' b with
     |none=>exact absurd q hb
     |some u=>obtain⟨o1,q1,q2,q3⟩:=tr b u q;cases e.symm.trans q2;exact q3
   . obtain⟨o1,q1,q2,q3⟩:=old b o' e' hb;cases e.symm.trans q2;exact q3
def Fly.hide(x:Fly B_ l a cls a0 fl h)(hn:h.Ns C m)(sb:Heap.SameBut C h h')(hl:∀b∈l.filterMap (·.frame),b≠C):Fly (Wa B_ [C]) l a cls a0 fl h':=by
 obtain⟨oC,es,ep,k6,lG,_⟩:=hn;have nf:∀b o vs,h.get? b=J o->o.data=.fields vs->b≠C:=λb o vs e d z=>by subst z;cases k6.symm.trans e;rw[lG]at d;cases d
 have bP:∀b,B_.get? b=M->(Wa B_ [C]).get? b=M:=λb e=>by
  cases q:(Wa B_ [C]).get? b with
  |none=>rfl
  |some o=>rw[PySem.W.of_hideAll _ q]at e;cases e
 obtain⟨oe,us,T,oT,ts,b1,b2,b3,b4,b5,b6,b7,b8,b9⟩:=x.tr;refine⟨λb o e=>?_,bP _ x.new,?_,oe,us,T,oT,ts,(sb.2 a (nf _ _ _ b1 b3)).trans b1,b2,b3,b4,bP _ b5,b6,(sb.2 T (nf _ _ _ b7 b8)).trans b7,b8,b9⟩
 . have hb:b≠C:=λz=>by rw[z,PySem.W.hideAll_none [C] (by simp)]at e;cases e
   exact(sb.2 b hb).trans (x.stay b o (PySem.W.of_hideAll _ e))
 . have go:∀l:List Env,h.FunFrames B_ l->(∀b∈l.filterMap (·.frame),b≠C)->h'.FunFrames (Wa B_ [C]) l:=by
    intro l;induction l with
    |nil=>exact λ_ _=>trivial
    |cons e r ih=>rintro ⟨k,⟨L,o,f1,f2,f3,f4⟩,k2⟩ hb;have hL:L≠C:=hb L (List.mem_filterMap.mpr ⟨e,Oi,f1⟩);refine⟨k,⟨L,o,f1,bP _ f2,(sb.2 L hL).trans f3,f4⟩,ih k2 λb gN=>hb b ?_⟩;obtain⟨y,hy,ey⟩:=List.mem_filterMap.mp gN;exact List.mem_filterMap.mpr ⟨y,Oh _ hy,ey⟩
   exact go l x.fr hl
section
variable {P:Yh}{w:Yg}{K:Yk}{mg:Str->Option Yj}{base:YG}{N:List Str}{ah:Str}{scope:Scope}{f:Yi}{cd:Yj}{A:YH}{outer:List Env}{s0:Yb}{H0:Hp}{E:XK}
def ZoD(I3:Inv (ZgG (CXF P w) P w K mg base N ah scope f cd A outer s0 H0 E) pins3 σ3 H3 s3)
 (f3:∀b∈fp,Zcg (ZgG (CXF P w) P w K mg base N ah scope f cd A outer s0 H0 E) pins3 H3 b) (hC:C=s3.heap.objs.size) (hE:∀cls H',E1 cls M H'->E cls M H'):Zbi (CXF P w) (ZD (ZgG (CXF P w) P w K mg base N ah scope f cd A outer s0 H0 E) NC sc C s3 H3 fp) E1:=by
 intro aa Z H s e s' I hx;obtain⟨a,cls,a0,H',B_,rfl,os,bare,un,hok,fl,kb,ha,lQ⟩:=hx;have I':=I.call' (ch:=[]) os un hok bare (λb z=>absurd z (by simp));have I0:Inv (ZD (ZgG (CXF P w) P w K mg base N ah scope f cd A outer s0 H0 E) NC sc C s3 H3 fp) [] Z H' s':=I'.pins_of λp hp=>by cases hp
 have Io:=I3.comp_out (h'':=s'.heap) f3 hC I0 ⟨rfl,λ_ _=>rfl⟩;have bB:(A.deeper (envOfC ah scope s0.heap.objs.size f cd)).frames=J (envOfC ah scope s0.heap.objs.size f cd::outer):=I3.ok.frames;have jz:s0.heap.objs.size<s3.heap.objs.size:=I3.lt;have jU:∀b∈frs (envOfC ah scope s0.heap.objs.size f cd::outer),b≠C:=λb hb z=>by
  have hm:b∈s0.heap.objs.size::frs outer:=I3.stkSub b hb;subst z;rw[hC]at hm;rcases O3.mp hm with q|q
  . exact absurd q (Nat.ne_of_gt jz)
  . obtain⟨_,o,q1,_⟩:=I3.funs.mem q;exact absurd (Ym q1) (Yv _)
 show YB (model P w) (A.deeper (envOfC ah scope s0.heap.objs.size f cd)) (noteFrame (.ref a) _) _ _ s';rw[ZoK (env:=compEnvC sc (Zep (ZgG (CXF P w) P w K mg base N ah scope f cd A outer s0 H0 E).env sc.names []) C (ZgG (CXF P w) P w K mg base N ah scope f cd A outer s0 H0 E).env) (env':=envOfC ah scope s0.heap.objs.size f cd) rfl];refine wpAny_looks_onW bB rfl fl λh4 bc fi=>?_;obtain⟨m,hn,_⟩:=I'.loc;have jG:h4.Ns C m:=fi.ns hn;refine⟨m,jG,λh5 sb bE hc=>?_⟩;have x5:Fly (Wa B_ [C]) (envOfC ah scope s0.heap.objs.size f cd::outer) a cls a0 (rawInt s0.heap.objs.size) h5:=Fly.hide ⟨bc.1,bc.2.1,bc.2.2.1,bc.2.2.2⟩ jG sb jU;have ht:=x5.tr;obtain⟨oe,us,T,oT,ts,b1,b2,b3,b4,b5,b6,b7,b8,b9⟩:=ht;unfold PySem.passOn;refine Ya (YR b1 b3 b4 ?_);rw[if_neg (by simp)];refine Ya (Zh8 (s:={s' with heap:=h5}) x5 λh6 x6 g9=>wpAny_throw ?_);show YB (model P w) (A.deeper (envOfC ah scope s0.heap.objs.size f cd)) (leaving (envOfC ah scope s0.heap.objs.size f cd) (.ref a)) _ _ {s' with heap:=h6};refine Zmg bB rfl x6 λh7 x7 j8=>?_;have iw:Kept (frs outer) H' s0.heap s'.heap (Wa B_ [C]):=λb o e1 hb=>by
  have nC:b≠C:=λz=>by
   subst z;rcases hb with hb|⟨⟨o',e'⟩,hb⟩
   . exact hb I'.free
   . rw[hC]at e';exact absurd (Ym e') (Nat.not_lt.mpr (Yy jz))
  refine PySem.W.hideAll_get _ (kb b o e1 ?_) (by simpa using nC);rcases hb with hb|⟨⟨o',e'⟩,hb⟩
  . exact .inl hb
  . obtain⟨o1,q1⟩:=(I3.base:Un (frs outer) [] H0 H3 s0.heap s3.heap).there b o' e' (show b ∉ ([]:List Yi)from List.not_mem_nil);have kD:b ∉ fp:=λhm=>by
     rcases(f3 b hm).2.2.2.1 with z|z
     . cases z
     . exact absurd (Ym e') (Nat.not_lt.mpr z)
    obtain⟨o2,q2⟩:=I.base.there b o1 q1 kD;refine .inr ⟨⟨o2,q2⟩,λhm=>?_⟩;have fR:b∈s0.heap.objs.size::frs outer:=I3.stkSub b hm;rcases O3.mp fR with z|z
    . rw[z]at e';exact absurd (Ym e') (Yv _)
    . exact hb z
 have lC:∀b∈frs outer,∀o,s'.heap.get? b=J o->∃sl,h7.get? b=J {o with slots:=sl}:=λb hb o e1=>by
  obtain⟨_,o',q1,nf⟩:=Io.funs.mem hb;cases e1.symm.trans q1;obtain⟨mz,q4⟩:=fi b o e1 nf;have hm:b∈frs (envOfC ah scope s0.heap.objs.size f cd::outer):=by obtain⟨y,hy,ey⟩:=List.mem_filterMap.mp hb;exact List.mem_filterMap.mpr ⟨y,Oh _ hy,ey⟩
  have q5:=(sb.2 b (jU b hm)).trans q4;obtain⟨my,q6⟩:=g9 b _ q5 nf;obtain⟨j9,q7⟩:=j8 b _ q6 nf;exact⟨j9,q7⟩
 obtain⟨r1,r2,r3⟩:=ZkY (Io.base:Un (frs outer) [] H0 H' s0.heap s'.heap) hok iw x7.1 lC;exact⟨a,cls,a0,H',_,rfl,Io.os,bare,r1,r2,x7,r3,ha,hE _ _ lQ⟩
end
noncomputable def Zog(d:PyData):Bool:=isDisplay d&&(PyData.showable d&&(PyData.intsShort 13 d&&(Wz (PyData.weight d<=2^20)&&Wz (PyData.depth d<=1000))))
def Znb(K:Yk):List V->Hp->VK->Prop:=λvs H Q=>∃v d,vs=[v]/\Dp K H v d/\Zog d=Wx/\Q (.str d.shown) H
def Zo1(hr:Room k X.A):Zb5 X (.builtin "repr") (Znb X.K):=by
 intro aa s Z H vs us Q I r h;obtain⟨v,d,rfl,hd,ho,q⟩:=h;obtain⟨u,rfl,ru⟩:=vals1 r;obtain⟨as,r1⟩:=I.reads hd ru;unfold Zog at ho;simp only[Oa,decide_eq_true_eq]at ho;obtain⟨R,h2,h3,h4,h5⟩:=ho;obtain⟨a,rfl⟩:=isRef_of_reads r1 R;have hz:d.shown.length<=sizeLine:=by
  have:=PyData.shown_le 13 (by decide) d (PyData.leavesShort_of_canLay0 13 d hd.lay h3);have e:(2:Nat)^20=1048576:=by decide
  rw[YC]
  lia
 have:=hr.un;refine repr_of_reads' r1 h2 (PyData.noDict_hsm (PyData.hasDict_of_canLay d hd.lay)) hr.gd (by lia) (λ_ _ e=>e) (λh' t tk hk=>?_) hz;exact⟨.str d.shown,H,I.kept hk,⟨t,rfl⟩,q⟩
noncomputable def Zw5:R2:=λx y H Q=>∃a b,x=.str a/\y=.str b/\Q (.bl (!Wz (a=b))) H
def Zqq:OpR X (YM .NotEq) Zw5:=by intro aa s Z H x y v u Q I rx ry h;obtain⟨a,b,rfl,rfl,q⟩:=h;obtain⟨t,rfl⟩:=rx;obtain⟨t',rfl⟩:=ry;exact ne_str (Zmp I q (congrArg not (by by_cases e:a=b<;>simp[e])))
end L2
namespace IV
open PySem PySem.Spec PyProof.Rows L2
set_option tactic.hygienic false
inductive D where
 |non|bl (b:Bool)|int (i:Int)|str (x:Str)|tup (xs:List D)|ref (i:Nat)|ty (n:String)
 |ro (xs:List D)|kd (x:Str)
inductive DO where
 |lst (xs:List D)|dic (kvs:List (Key×D))|ins (C:Str) (fs:List (Str×D))
 |fdic (kvs:List (Key×D))
noncomputable abbrev Hd:=List DO
inductive qe(α:Type) where
 |bad|ok (a:α) (h:Hd)|exc (c:Str) (h:Hd)
noncomputable def qe.bind(r:qe α)(k:α->Hd->qe β):qe β:=match r with
 |.bad=>.bad
 |.ok a h=>k a h
 |.exc c h=>.exc c h
def qe.bind_ok:(qe.ok a h).bind k=k a h:=rfl
def qe.bind_bad:(qe.bad:qe α).bind k=.bad:=rfl
noncomputable def qe.ofO(o:Option α)(h:Hd):qe α:=match o with
 |some a=>.ok a h
 |none=>.bad
def qe.ofO_some:qe.ofO (J a) h=.ok a h:=rfl
noncomputable abbrev Ev:=List (Option D)
inductive Bf where
 |len|isi|int|tup|lst|sum|all|srt|mx
 deriving DecidableEq
inductive Mf where
 |app|ext|pop|rev|clr
 deriving DecidableEq
mutual
inductive Ex where
 |var (i:Nat)|cst (d:D)|glo (x:Str)
 |bin (op:Operator) (a b:Ex)|cmp (op:CmpOp) (a b:Ex)|cmp2 (op jp:CmpOp) (a b c:Ex)
 |neg (a:Ex)|nt (a:Ex)|ands (es:Exs)|ors (es:Exs)|ite (c:Tx) (a b:Ex)
 |tupl (es:Exs)|lstl (es:Exs)|ix (a i:Ex)|sl (a:Ex) (lo hi:Option Ex)
 |blt (f:Bf) (es:Exs)|call (f:Str) (es:Exs)|meth (m:Mf) (o:Ex) (es:Exs)
 |comp (NC:List Str) (js:List (Option Nat)) (it:Ix) (g:Tg) (c:Option Tx) (e:Ex)
 |sorts (e:Ex)|dictl (ps:Exs)|maxd (e d:Ex)
 |att (Cs:List Str) (o:Ex) (f:Str)|mk (C:Str) (es:Exs)|mcl (C m:Str) (o:Ex) (es:Exs)|any
 |trev (e:Ex)|tix (o e:Ex)|lrv (e:Ex)|lix (o e:Ex)|lin (a b:Ex)
 |rpn (a b:Ex)
inductive Exs where
 |nil|cons (e:Ex) (es:Exs)
inductive Ix where
 |pl (e:Ex)|rng (e:Ex)|rng2 (a b:Ex)|enu (e:Ex)|rev (e:Ex)
 |en1 (e:Ex)|en0 (e:Ex)|dk (e:Ex)
inductive Tg where
 |nm (i:Nat)|two (i j:Nat)|many (is:List Nat)
inductive Tx where
 |ex (e:Ex)|ands (ts:Txs)|ors (ts:Txs)|nt (a:Tx)
inductive Txs where
 |one (t:Tx)|cons (t:Tx) (ts:Txs)
end
noncomputable abbrev Ex.ci(i:Int):Ex:=.cst (.int i)
noncomputable abbrev Ex.Ci_(x:String):Ex:=.cst (.str (O x))
mutual
inductive Sx where
 |ret (e:Ex)|set (g:Tg) (e:Ex)|put (o i e:Ex)|aug (i:Nat) (op:Operator) (e:Ex)|drp (e:Ex)
 |iff (c:Tx) (a b:Sxs)|whl (c:Tx) (b:Sxs)|forr (g:Tg) (it:Ix) (b:Sxs)|pas|brk|cnt
 |seta (Cs:List Str) (o:Ex) (f:Str) (e:Ex)|auga (Cs:List Str) (o:Ex) (f:Str) (e:Ex)|any
 |rai (C:Str) (e:Ex)|trs (i:Nat) (f:Str) (es:Exs) (C:Str)
 |unl (i j:Nat) (e:Ex)
inductive Sxs where
 |nil|cons (s:Sx) (r:Sxs)
end
noncomputable abbrev Ex.v:=Ex.var
noncomputable abbrev Exs.c:=Exs.cons
noncomputable abbrev Exs.n:=Exs.nil
noncomputable abbrev Sxs.c:=Sxs.cons
noncomputable abbrev Sxs.n:=Sxs.nil
noncomputable abbrev Txs.c:=Txs.cons
noncomputable abbrev K0:=Ex.ci 0
noncomputable abbrev K1:=Ex.ci 1
noncomputable abbrev K10:=Ex.ci 10
noncomputable abbrev K12:=Ex.ci 12
noncomputable abbrev K15:=Ex.ci 15
noncomputable abbrev K2:=Ex.ci 2
noncomputable abbrev K20:=Ex.ci 20
noncomputable abbrev K26:=Ex.ci 26
noncomputable abbrev K29:=Ex.ci 29
noncomputable abbrev K3:=Ex.ci 3
noncomputable abbrev K30:=Ex.ci 30
noncomputable abbrev K4:=Ex.ci 4
noncomputable abbrev K5:=Ex.ci 5
noncomputable abbrev K6:=Ex.ci 6
noncomputable abbrev K7:=Ex.ci 7
noncomputable abbrev K8:=Ex.ci 8
noncomputable abbrev V0:=Ex.var 0
noncomputable abbrev V1:=Ex.var 1
noncomputable abbrev V2:=Ex.var 2
noncomputable abbrev V3:=Ex.var 3
noncomputable abbrev V4:=Ex.var 4
noncomputable abbrev V5:=Ex.var 5
noncomputable abbrev V6:=Ex.var 6
noncomputable abbrev V7:=Ex.var 7
noncomputable abbrev V8:=Ex.var 8
noncomputable abbrev V9:=Ex.var 9
noncomputable abbrev Exs.o(a:Ex):Exs:=.cons a .nil
noncomputable abbrev Sxs.o(a:Sx):Sxs:=.cons a .nil
noncomputable abbrev Exs.w(a b:Ex):Exs:=.cons a (.cons b .nil)
noncomputable abbrev Sxs.w(a b:Sx):Sxs:=.cons a (.cons b .nil)
noncomputable abbrev Exs.u(a b c:Ex):Exs:=.cons a (.cons b (.cons c .nil))
noncomputable abbrev Sxs.u(a b c:Sx):Sxs:=.cons a (.cons b (.cons c .nil))
noncomputable abbrev Exs.z(a b c d:Ex):Exs:=.cons a (.cons b (.cons c (.cons d .nil)))
noncomputable abbrev Sxs.z(a b c d:Sx):Sxs:=.cons a (.cons b (.cons c (.cons d .nil)))
noncomputable abbrev Exs.y(a b c d e:Ex):Exs:=.cons a (.cons b (.cons c (.cons d (.cons e .nil))))
noncomputable abbrev Sxs.y(a b c d e:Sx):Sxs:=.cons a (.cons b (.cons c (.cons d (.cons e .nil))))
noncomputable abbrev Tx.q(a b:Ex):Tx:=.ex (.cmp .Eq a b)
noncomputable abbrev Tx.nq(a b:Ex):Tx:=.ex (.cmp .NotEq a b)
noncomputable abbrev Tx.x(o:PySem.CmpOp)(a b:Ex):Tx:=.ex (.cmp o a b)
noncomputable abbrev Sx.s(i:Nat)(e:Ex):Sx:=.set (.nm i) e
noncomputable abbrev Ex.f(f:String)(e:Exs):Ex:=.call (O f) e
noncomputable abbrev Ex.a(c:String)(x:Ex)(f:String):Ex:=.att [O c] x (O f)
noncomputable abbrev Ex.m(c f:String)(x:Ex)(e:Exs):Ex:=.mcl (O c) (O f) x e
noncomputable abbrev Sx.sa(c:String)(x:Ex)(f:String)(e:Ex):Sx:=.seta [O c] x (O f) e
noncomputable instance:DecidableEq D:=λa b=>Classical.propDecidable (a=b)
noncomputable instance:DecidableEq DO:=λa b=>Classical.propDecidable (a=b)
mutual
def D.py(rd:Nat->Option PyData):D->Option PyData
 |.non=>J .none
 |.bl b=>J (.bool b)
 |.int i=>J (.int i)
 |.str x=>J (.str x)
 |.tup xs=>(D.pys rd xs).map .tuple
 |.ro xs=>(D.pys rd xs).map .list
 |.ref i=>rd i
 |_=>M
def D.pys(rd:Nat->Option PyData):List D->Option (List PyData)
 |[]=>J []
 |x::xs=>(D.py rd x).bind λd=>(D.pys rd xs).map λds=>d::ds
end
def ZiF(h:Hd):Nat->Nat->Option PyData
 |0,_=>M
 |n+1,i=>match h[i]? with
  |some (.lst xs)=>(D.pys (ZiF h n) xs).map .list
  |_=>M
def ZiG(h:Hd)(d:D):Option PyData:=D.py (ZiF h 4) d
noncomputable def Zdr(o:DO)(h:Hd):qe D:=.ok (.ref h.length) (h++[o])
noncomputable def lstOf(d:D)(h:Hd):Option (List D):=match d with
 |.ref i=>match h[i]? with
  |some (.lst xs)=>J xs
  |_=>M
 |.ro xs=>J xs
 |_=>M
noncomputable def dicOf(GD:Str->Option (List (Key×D)))(d:D)(h:Hd):Option (List (Key×D)):=match d with
 |.ref i=>match h[i]? with
  |some (.dic kvs)=>J kvs
  |some (.fdic kvs)=>J kvs
  |_=>M
 |.kd x=>GD x
 |_=>M
noncomputable def keyOf:D->Option Key
 |.int i=>J (.inl i)
 |.str x=>J (.inr x)
 |_=>M
noncomputable def Zbp(kvs:List (Key×D))(k:Key):Option D:=(kvs.find? λp=>Wz (p.1=k)).map (·.2)
noncomputable def putD(kvs:List (Key×D))(k:Key)(v:D):List (Key×D):=if (kvs.any λkv=>Wz (kv.1=k))=Wx then kvs.map (λkv=>if kv.1=k then(kv.1,v)else kv)else kvs++[(k,v)]
def cutD(xs:List D)(lo hi:Option Int):List D:=(xs.drop (HT.sIx xs.length 0 lo)).take (HT.sIx xs.length xs.length hi-HT.sIx xs.length 0 lo)
noncomputable def D.flat:D->Bool
 |.int _|.str _|.bl _|.non=>Wx
 |_=>Wy
noncomputable def eqF:D->D->Bool
 |.int i,.int j=>i==j
 |.str i,.str j=>i==j
 |.non,.non=>Wx
 |.bl i,.bl j=>i==j
 |.int i,.bl j=>i==(if j then 1 else 0)
 |.bl i,.int j=>(if i then 1 else 0)==j
 |_,_=>Wy
noncomputable def Zgo(GD:Str->Option (List (Key×D)))(d:D)(h:Hd):Option Bool:=match d with
 |.non=>J Wy
 |.bl b=>J b
 |.int i=>J (i != 0)
 |.str x=>if x.length<=sizeLine then J (!(x.length==0))else M
 |.tup xs=>J (!xs.isEmpty)
 |.ref i=>match h[i]? with
  |some (.lst xs)=>J (!xs.isEmpty)
  |some (.dic xs)=>J (!xs.isEmpty)
  |_=>M
 |.ro xs=>J (!xs.isEmpty)
 |_=>M
noncomputable def int2(x y:D)(k:Int->Int->qe D):qe D:=match x with
 |.int i=>match y with
  |.int j=>k i j
  |_=>.bad
 |_=>.bad
def ZtE(x y:D)(h:Hd):qe D:=match x with
 |.int i=>match y with
  |.int j=>.ok (.int (i+j)) h
  |_=>.bad
 |.str i=>match y with
  |.str j=>if i.length+j.length<=sizeLine then .ok (.str (i++j)) h else .bad
  |_=>.bad
 |.tup xs=>match y with
  |.tup ys=>if xs.length+ys.length<=sizeLine then .ok (.tup (xs++ys)) h else .bad
  |_=>.bad
 |.ref i=>match y with
  |.ref j=>match h[i]? with
   |some (.lst xs)=>match h[j]? with
    |some (.lst ys)=>if xs.length+ys.length<=sizeLine then Zdr (.lst (xs++ys)) h else .bad
    |_=>.bad
   |_=>.bad
  |_=>.bad
 |_=>.bad
def Zxz(x y:D)(h:Hd):qe D:=match x with
 |.str z=>match y with
  |.int n=>if 0<=n/\n<=1000/\z.length<=1000 then .ok (.str (Zgs z n.toNat)) h else .bad
  |_=>.bad
 |x=>int2 x y λi j=>if i.natAbs<2^2000/\j.natAbs<2^2000 then .ok (.int (i*j)) h else .bad
def opB(op:Operator)(x y:D)(h:Hd):qe D:=match op with
 |.Add=>ZtE x y h
 |.Sub=>int2 x y λi j=>.ok (.int (i-j)) h
 |.Mult=>Zxz x y h
 |.Mod=>int2 x y λi j=>if 0<j then .ok (.int (i%j)) h else .bad
 |.FloorDiv=>int2 x y λi j=>if 0<j/\j<1073741824 then .ok (.int (i/j)) h else .bad
 |.Pow=>int2 x y λi j=>if 0<=j/\j<=1000000/\i.natAbs<2^64 then .ok (.int (i^j.toNat)) h else .bad
 |_=>.bad
def Zdb(neg:Bool)(x y:D)(h:Hd):qe D:=match ZiG h x,ZiG h y with
 |some a,J b=>if min a.depth b.depth<=1100 then .ok (.bl (if neg then !YQ a b else YQ a b)) h else .bad
 |_,_=>.bad
def seqOf(d:D)(h:Hd):Option (List D):=match d with
 |.tup xs=>J xs
 |d=>lstOf d h
def ZcA(GD:Str->Option (List (Key×D)))(neg:Bool)(x y:D)(h:Hd):qe D:=match seqOf y h with
 |some xs=>if x.flat&&xs.all D.flat then .ok (.bl (if neg then !xs.any (λz=>eqF z x)else xs.any λz=>eqF z x)) h else .bad
 |none=>match dicOf GD y h,keyOf x with
  |some kvs,J k=>.ok (.bl (if neg then !(Zbp kvs k).isSome else(Zbp kvs k).isSome)) h
  |_,_=>.bad
noncomputable def ZjF(f:Int->Int->Bool)(x y:D)(h:Hd):qe D:=match x,y with
 |.int i,.int j=>.ok (.bl (f i j)) h
 |_,_=>.bad
noncomputable def opN(neg:Bool)(x y:D)(h:Hd):qe D:=match y with
 |.non=>.ok (.bl (if neg then !Wz (x=.non)else Wz (x=.non))) h
 |_=>.bad
def opC(GD:Str->Option (List (Key×D)))(op:CmpOp)(x y:D)(h:Hd):qe D:=match op with
 |.Eq=>Zdb Wy x y h
 |.NotEq=>Zdb Wx x y h
 |.Lt=>ZjF (λi j=>Wz (i<j)) x y h
 |.LtE=>ZjF (λi j=>Wz (i<=j)) x y h
 |.Gt=>ZjF (λi j=>Wz (j<i)) x y h
 |.GtE=>ZjF (λi j=>Wz (j<=i)) x y h
 |.In=>ZcA GD Wy x y h
 |.NotIn=>ZcA GD Wx x y h
 |.Is=>opN Wy x y h
 |.IsNot=>opN Wx x y h
def Zbq(GD:Str->Option (List (Key×D)))(x y:D)(h:Hd):qe D:=match y with
 |.int i=>match seqOf x h with
  |some xs=>qe.ofO (atI xs i) h
  |none=>match x with
   |.str z=>if z.length<=sizeLine then qe.ofO ((atI z.cps.toList i).map λc=>.str ⟨#[c]⟩) h else .bad
   |_=>match dicOf GD x h with
    |some kvs=>qe.ofO (Zbp kvs (.inl i)) h
    |none=>.bad
 |.str z=>match dicOf GD x h with
  |some kvs=>qe.ofO (Zbp kvs (.inr z)) h
  |none=>.bad
 |_=>.bad
def ZfK(x:D)(l u:Option Int)(h:Hd):qe D:=match x with
 |.tup xs=>.ok (.tup (cutD xs l u)) h
 |.str y=>if y.length<=sizeLine then .ok (.str (Yp y l u)) h else .bad
 |d=>match lstOf d h with
  |some xs=>Zdr (.lst (cutD xs l u)) h
  |none=>.bad
def Zwy(d:D)(h:Hd):Option String:=match d with
 |.int _=>J "int"
 |.str _=>J "str"
 |.bl _=>J "bool"
 |.non=>J "NoneType"
 |.tup _=>J "tuple"
 |d=>(lstOf d h).map λ_ => "list"
noncomputable def Zml(t T:String):Option Bool:=if T∈["int", "str", "bool", "tuple", "list"]/\t∈["int", "str", "bool", "tuple", "list", "NoneType"]then J (t==T||(t == "bool" && T == "int"))else M
noncomputable def intsOf:List D->Option (List Int)
 |[]=>J []
 |.int i::r=>(intsOf r).map λz=>i::z
 |_=>M
noncomputable def Zua:List D->Option (List Bool)
 |[]=>J []
 |.bl i::r=>(Zua r).map λz=>i::z
 |_=>M
noncomputable def strsOf:List D->Option (List Str)
 |[]=>J []
 |.str i::r=>(strsOf r).map λz=>i::z
 |_=>M
noncomputable def ZeQ:List (Key×D)->Option (List Str)
 |[]=>J []
 |(.inr x,_)::r=>(ZeQ r).map λz=>x::z
 |_=>M
noncomputable def Zou(x:Str):List Str->List Str
 |[]=>[x]
 |y::r=>if ltCps y.cps.toList x.cps.toList then y::Zou x r else x::y::r
def Zc8:List Str->List Str
 |[]=>[]
 |x::r=>Zou x (Zc8 r)
def ZmF(xs:List D)(h:Hd):qe D:=match xs with
 |[.str y]=>if y.length<=sizeLine then .ok (.int y.length) h else .bad
 |[d]=>qe.ofO ((seqOf d h).map λxs=>.int xs.length) h
 |_=>.bad
def Zwd(xs:List D)(h:Hd):qe D:=match xs with
 |[d,.ty T]=>qe.ofO ((Zwy d h).bind λt=>(Zml t T).map .bl) h
 |_=>.bad
noncomputable def Zwe(xs:List D)(h:Hd):qe D:=match xs with
 |[.int i]=>.ok (.int i) h
 |[.bl b]=>.ok (.int (if b then 1 else 0)) h
 |_=>.bad
def ZtC(xs:List D)(h:Hd):qe D:=match xs with
 |[.tup xs]=>.ok (.tup xs) h
 |[d]=>qe.ofO ((lstOf d h).map .tup) h
 |_=>.bad
def Zzg(xs:List D)(h:Hd):qe D:=match xs with
 |[d]=>match seqOf d h with
  |some xs=>Zdr (.lst xs) h
  |none=>.bad
 |_=>.bad
def Zry(xs:List D)(h:Hd):qe D:=match xs with
 |[d]=>qe.ofO (((lstOf d h).bind intsOf).map λns=>.int ns.sum) h
 |_=>.bad
def Zzk(xs:List D)(h:Hd):qe D:=match xs with
 |[d]=>qe.ofO (((lstOf d h).bind Zua).map λbs=>.bl (bs.all id)) h
 |_=>.bad
def Zgl(GD:Str->Option (List (Key×D)))(xs:List D)(h:Hd):qe D:=match xs with
 |[d]=>match (dicOf GD d h).bind ZeQ with
  |some ss=>if ss.length<64/\ss.all Yo=Wx then Zdr (.lst ((Zc8 ss).map .str)) h else .bad
  |none=>.bad
 |_=>.bad
def Zn1(x d:D)(h:Hd):qe D:=match d with
 |.int d=>qe.ofO (((lstOf x h).bind intsOf).map λns=>.int (Zec ns d)) h
 |_=>.bad
def bMx(xs:List D)(h:Hd):qe D:=match xs with
 |[.int i,.int j]=>.ok (.int (if j > i then j else i)) h
 |[d]=>match (lstOf d h).bind intsOf with
  |some ns=>if ns≠[]then .ok (.int (Zec ns 0)) h else .bad
  |none=>.bad
 |_=>.bad
def ZcV(GD:Str->Option (List (Key×D))):Bf->List D->Hd->qe D
 |.len=>ZmF
 |.isi=>Zwd
 |.int=>Zwe
 |.tup=>ZtC
 |.lst=>Zzg
 |.sum=>Zry
 |.all=>Zzk
 |.srt=>Zgl GD
 |.mx=>bMx
noncomputable def Zrx(x:D)(h:Hd):qe D:=match x with
 |.tup (y::ys)=>.ok (.tup (y::ys).reverse) h
 |_=>.bad
def Zzh(x:D)(h:Hd):qe D:=match x with
 |.tup ys=>Zdr (.lst ys.reverse) h
 |_=>.bad
noncomputable def ZxO:D->Bool
 |.tup _=>Wx
 |_=>Wy
def Zo9(x y:D)(h:Hd):qe D:=match x,y with
 |.tup xs,.str z=>match strsOf xs with
  |some ss=>qe.ofO ((Tx.place z ss).map λ(j:Nat)=>.int (j:Int)) h
  |none=>.bad
 |_,_=>.bad
def Zzi(x y:D)(h:Hd):qe D:=match lstOf x h,y with
 |some xs,.str z=>match strsOf xs with
  |some ss=>qe.ofO ((Tx.place z ss).map λ(j:Nat)=>.int (j:Int)) h
  |none=>.bad
 |_,_=>.bad
def Zzj(x y:D)(h:Hd):qe D:=match ZiG h x,ZiG h y with
 |some a,J (.list bs)=>if min (PyData.depthAll bs) a.depth<=1000 then .ok (.bl (bs.any λb=>YQ b a)) h else .bad
 |_,_=>.bad
def Zd8:List D->Option (List (Key×D))
 |[]=>J []
 |k::v::r=>match keyOf k,Zd8 r with
  |some k,J r=>J ((k,v)::r)
  |_,_=>M
 |_=>M
def Zfi(kvs more:List (Key×D)):List (Key×D):=more.foldl (λag kv=>putD ag kv.1 kv.2) kvs
noncomputable def Zvs(i:Nat)(ys xs:List D)(h:Hd):qe D:=match xs with
 |[d]=>if ys.length<sizeLine then .ok .non (h.set i (.lst (ys++[d])))else .bad
 |_=>.bad
noncomputable def ZsR(i:Nat)(ys xs:List D)(h:Hd):qe D:=match xs with
 |[.ref j]=>match h[j]? with
  |some (.lst zs)=>if ys.length+zs.length<=sizeLine then .ok .non (h.set i (.lst (ys++zs)))else .bad
  |_=>.bad
 |[.tup zs]=>if ys.length+zs.length<=sizeLine then .ok .non (h.set i (.lst (ys++zs)))else .bad
 |_=>.bad
noncomputable def Zvr(i:Nat)(ys xs:List D)(h:Hd):qe D:=match xs with
 |[]=>match ys[ys.length-1]? with
  |some y=>.ok y (h.set i (.lst ys.dropLast))
  |none=>.bad
 |_=>.bad
noncomputable def ZxC(i:Nat)(ys xs:List D)(h:Hd):qe D:=match xs with
 |[]=>.ok .non (h.set i (.lst ys.reverse))
 |_=>.bad
noncomputable def ZxD(i:Nat)(ys xs:List D)(h:Hd):qe D:=match xs with
 |[]=>.ok .non (h.set i (.lst []))
 |_=>.bad
def shD(x:D)(h:Hd):qe Str:=match ZiG h x with
 |some d=>if L2.Zog d=Wx then .ok d.shown h else .bad
 |none=>.bad
def ZiI:Mf->Nat->List D->List D->Hd->qe D
 |.app=>Zvs
 |.ext=>ZsR
 |.pop=>Zvr
 |.rev=>ZxC
 |.clr=>ZxD
def ZcB(m:Mf)(o:D)(xs:List D)(h:Hd):qe D:=match o with
 |.ref i=>match h[i]? with
  |some (.lst ys)=>ZiI m i ys xs h
  |_=>.bad
 |_=>.bad
noncomputable def Zh0(o:D)(h:Hd):Bool:=match o with
 |.ref i=>match h[i]? with
  |some (.lst _)=>Wx
  |_=>Wy
 |_=>Wy
def Zb3(o i v:D)(h:Hd):qe Unit:=match o with
 |.ref a=>match h[a]? with
  |some (.lst xs)=>match i with
   |.int k=>match ixN xs.length k with
    |some j=>.ok () (h.set a (.lst (xs.set j v)))
    |none=>.bad
   |_=>.bad
  |some (.dic kvs)=>match keyOf i with
   |some k=>if kvs.length<sizeLine then .ok () (h.set a (.dic (putD kvs k v)))else .bad
   |none=>.bad
  |_=>.bad
 |_=>.bad
structure Wk where
 src:Option (Nat×List D)
 xs:List D
noncomputable def Wk.stays(src:Option (Nat×List D))(h:Hd):Bool:=match src with
 |none=>Wx
 |some (i,xs)=>Wz (h[i]?=J (.lst xs))
noncomputable def ZaV(d:D)(h:Hd):Option Wk:=match d with
 |.tup xs=>J ⟨M,xs⟩
 |.ro xs=>J ⟨M,xs⟩
 |.ref i=>match h[i]? with
  |some (.lst xs)=>J ⟨J (i,xs),xs⟩
  |_=>M
 |_=>M
noncomputable def ZiS(d:D)(h:Hd):Option Wk:=match d with
 |.ro xs=>J ⟨M,xs⟩
 |.ref i=>match h[i]? with
  |some (.lst xs)=>J ⟨J (i,xs),xs⟩
  |_=>M
 |_=>M
noncomputable def Zpo(d:D)(h:Hd):Option Wk:=match d with
 |.tup xs=>J ⟨M,xs⟩
 |.ref i=>match h[i]? with
  |some (.lst xs)=>J ⟨J (i,xs),xs⟩
  |_=>M
 |_=>M
noncomputable def Zci(lo:Int)(n:Nat):List D:=(List.range n).map λ(k:Nat)=>.int (lo+(k:Int))
noncomputable def Zeo(xs:List D):List D:=xs.mapIdx λk x=>.tup [.int (k:Int),x]
noncomputable def Zv3(xs:List D):List D:=xs.mapIdx λk x=>.tup [.int ((k+1:Nat):Int),x]
noncomputable def ZxK:Key->D
 |.inl i=>.int i
 |.inr x=>.str x
def Zy8(x:D)(h:Hd):qe Wk:=match x with
 |.ref i=>match h[i]? with
  |some (.dic kvs)=>.ok ⟨M,kvs.map λp=>ZxK p.1⟩ (h.set i (.fdic kvs))
  |some (.fdic kvs)=>.ok ⟨M,kvs.map λp=>ZxK p.1⟩ h
  |_=>.bad
 |_=>.bad
noncomputable def Zdo(i:Int):Bool:=Wz (-(2^62)<=i)&&Wz (i<2^62)
noncomputable def ZlN:List Nat->List D->Ev->Ev
 |i::is,x::xs,S=>ZlN is xs (S.set i (J x))
 |_,_,S=>S
def ZbL(g:Tg)(d:D)(S:Ev):Option Ev:=match g with
 |.nm i=>J (S.set i (J d))
 |.two i j=>match d with
  |.tup [a,b]=>J ((S.set i (J a)).set j (J b))
  |_=>M
 |.many is=>match d with
  |.tup xs=>if xs.length=is.length then J (ZlN is xs S)else M
  |_=>M
def Zdj(js:List (Option Nat))(S:Ev):Ev:=js.map λo=>o.bind λj=>(S[j]?).join
inductive Fl where
 |nx|bk|ct|rt (d:D)
def ZQ(src:Option (Nat×List D))(g:Tg)(body:Ev->Hd->qe (Fl×Ev)):List D->Ev->Hd->qe (Fl×Ev)
 |[],S,h=>if Wk.stays src h then .ok (.nx,S) h else .bad
 |d::ds,S,h=>if Wk.stays src h then match ZbL g d S with
  |none=>.bad
  |some ρ1=>(body ρ1 h).bind λp h2=>match p with
   |(.nx,ρ2)=>ZQ src g body ds ρ2 h2
   |(.ct,ρ2)=>ZQ src g body ds ρ2 h2
   |(.bk,ρ2)=>.ok (.nx,ρ2) h2
   |(.rt d,ρ2)=>.ok (.rt d,ρ2) h2
  else .bad
noncomputable def Z4(test:Ev->Hd->qe Bool)(body:Ev->Hd->qe (Fl×Ev)):Nat->Ev->Hd->qe (Fl×Ev)
 |0,_,_=>.bad
 |n+1,S,h=>(test S h).bind λb R=>if b then(body S R).bind λp h2=>match p with
  |(.nx,ρ2)=>Z4 test body n ρ2 h2
  |(.ct,ρ2)=>Z4 test body n ρ2 h2
  |(.bk,ρ2)=>.ok (.nx,ρ2) h2
  |(.rt d,ρ2)=>.ok (.rt d,ρ2) h2
  else .ok (.nx,S) R
noncomputable def qe.plain:qe α->qe α
 |.exc _ _=>.bad
 |r=>r
def ZG(src:Option (Nat×List D))(g:Tg)(test:Ev->Hd->qe Bool)(aC:Ev->Hd->qe D):List D->Ev->List D->Hd->qe (List D)
 |[],_,ag,h=>if Wk.stays src h then .ok ag h else .bad
 |d::ds,S,ag,h=>if Wk.stays src h/\ag.length<sizeLine then match ZbL g d S with
  |none=>.bad
  |some ρ1=>(test ρ1 h).bind λb R=>if b then(aC ρ1 R).bind λx h2=>ZG src g test aC ds S (ag++[x]) h2 else ZG src g test aC ds S ag R
  else .bad
noncomputable def Zir(C:Str)(i:Nat)(S:Ev)(r:qe D):qe (Fl×Ev):=match r with
 |.bad=>.bad
 |.ok v h=>.ok (.nx,S.set i (J v)) h
 |.exc c h=>if c=C then .ok (.nx,S.set i (J .non)) h else .bad
noncomputable def mnm(C m:Str):Str:=C++(O "." ++ m)
def Zah(d:D)(h:Hd):Option (Str×List (Str×D)):=match d with
 |.ref i=>match h[i]? with
  |some (.ins C fs)=>J (C,fs)
  |_=>M
 |_=>M
def ZgB(Cs:List Str)(f:Str)(x:D)(h:Hd):qe D:=match Zah x h with
 |some (C,fs)=>if C∈Cs then qe.ofO (fs.lookup f) h else .bad
 |none=>.bad
noncomputable def ZhQ(f:Str)(v:D):List (Str×D)->List (Str×D)
 |[]=>[(f,v)]
 |(g,x)::r=>if g=f then(g,v)::r else(g,x)::ZhQ f v r
def Zgr(Cs:List Str)(f:Str)(x d:D)(h:Hd):qe D:=match x with
 |.ref i=>match h[i]? with
  |some (.ins C fs)=>if C∈Cs/\fs.length<1000 then .ok .non (h.set i (.ins C (ZhQ f d fs)))else .bad
  |_=>.bad
 |_=>.bad
def Zg5(Cf:Str->List D->Hd->qe D)(C:Str)(xs:List D)(h:Hd):qe D:=(Cf (mnm C (O "__init__")) (.ref h.length::xs) (h++[.ins C []])).bind λd h2=>match d with
 |.non=>.ok (.ref h.length) h2
 |_=>.bad
structure Tb where
 G:Str->Option D
 GD:Str->Option (List (Key×D))
 C:Str->List D->Hd->qe D
 L:Nat
mutual
def ev(T:Tb):Ex->Ev->Hd->qe D
 |.var i,S,h=>qe.ofO (S[i]?).join h
 |.cst d,_,h=>.ok d h
 |.glo x,_,h=>qe.ofO (T.G x) h
 |.bin op a b,S,h=>(ev T a S h).bind λx R=>(ev T b S R).bind λy h2=>opB op x y h2
 |.cmp op a b,S,h=>(ev T a S h).bind λx R=>(ev T b S R).bind λy h2=>opC T.GD op x y h2
 |.cmp2 op jp a b c,S,h=>(ev T a S h).bind λx R=>(ev T b S R).bind λy h2=>(opC T.GD op x y h2).bind λr h3=>match r with
  |.bl Wx=>(ev T c S h3).bind λz h4=>opC T.GD jp y z h4
  |.bl Wy=>.ok (.bl Wy) h3
  |_=>.bad
 |.neg a,S,h=>(ev T a S h).bind λx R=>match x with
  |.int i=>.ok (.int (-i)) R
  |_=>.bad
 |.nt a,S,h=>(ev T a S h).bind λx R=>match x with
  |.bl b=>.ok (.bl (!b)) R
  |_=>.bad
 |.ands es,S,h=>evAnd T es S h
 |.ors es,S,h=>evOr T es S h
 |.ite c a b,S,h=>(tst T c S h).bind λc R=>if c then ev T a S R else ev T b S R
 |.tupl es,S,h=>(evs T es S h).bind λxs R=>if xs.length<=sizeLine then .ok (.tup xs) R else .bad
 |.lstl es,S,h=>(evs T es S h).bind λxs R=>if xs.length<=sizeLine then Zdr (.lst xs) R else .bad
 |.ix a i,S,h=>(ev T a S h).bind λx R=>(ev T i S R).bind λy h2=>Zbq T.GD x y h2
 |.sl a lo hi,S,h=>(ev T a S h).bind λx R=>(evo T lo S R).bind λl h2=>(evo T hi S h2).bind λu h3=>ZfK x l u h3
 |.blt f es,S,h=>(evs T es S h).bind λxs R=>ZcV T.GD f xs R
 |.call f es,S,h=>(evs T es S h).bind λxs R=>T.C f xs R
 |.meth m o es,S,h=>(ev T o S h).bind λx R=>if Zh0 x R then(evs T es S R).bind λxs h2=>ZcB m x xs h2 else .bad
 |.comp _ js it g c e,S,h=>(evi T it S h).bind λw R=>(ZG w.src g (tsto T c) (ev T e) w.xs (Zdj js S) [] R).bind λxs h2=>Zdr (.lst xs) h2
 |.sorts e,S,h=>(ev T e S h).bind λx R=>match (lstOf x R).bind strsOf with
  |some ss=>if ss.length<64 then Zdr (.lst ((Zc8 ss.eraseDups).map .str)) R else .bad
  |none=>.bad
 |.maxd e d,S,h=>(ev T e S h).bind λx R=>(ev T d S R).bind λy h2=>Zn1 x y h2
 |.dictl ps,S,h=>(evs T ps S h).bind λxs R=>match Zd8 xs with
  |some kvs=>if kvs.length<=15 then Zdr (.dic (Zfi [] kvs)) R else .bad
  |none=>.bad
 |.att Cs o f,S,h=>(ev T o S h).bind λx R=>ZgB Cs f x R
 |.mk C es,S,h=>(evs T es S h).bind λxs R=>Zg5 T.C C xs R
 |.mcl C m o es,S,h=>(ev T o S h).bind λx R=>match Zah x R with
  |some (C',fs)=>if C'=C/\fs.lookup m=M then(evs T es S R).bind λxs h2=>T.C (mnm C m) (x::xs) h2 else .bad
  |none=>.bad
 |.any,_,_=>.bad
 |.trev e,S,h=>(ev T e S h).bind λx R=>Zrx x R
 |.lrv e,S,h=>(ev T e S h).bind λx R=>Zzh x R
 |.tix o e,S,h=>(ev T o S h).bind λx R=>if ZxO x then(ev T e S R).bind λy h2=>Zo9 x y h2 else .bad
 |.lix o e,S,h=>(ev T o S h).bind λx R=>if Zh0 x R then(ev T e S R).bind λy h2=>Zzi x y h2 else .bad
 |.lin a b,S,h=>(ev T a S h).bind λx R=>(ev T b S R).bind λy h2=>Zzj x y h2
 |.rpn a b,S,h=>(ev T a S h).bind λx R=>(shD x R).bind λp R=>(ev T b S R).bind λy h2=>(shD y h2).bind λq h3=>.ok (.bl (!Wz (p=q))) h3
def evs(T:Tb):Exs->Ev->Hd->qe (List D)
 |.nil,_,h=>.ok [] h
 |.cons e es,S,h=>(ev T e S h).bind λx R=>(evs T es S R).bind λxs h2=>.ok (x::xs) h2
def evAnd(T:Tb):Exs->Ev->Hd->qe D
 |.nil,_,_=>.bad
 |.cons e es,S,h=>match es with
  |.nil=>ev T e S h
  |.cons _ _=>(ev T e S h).bind λx R=>match x with
   |.bl Wx=>evAnd T es S R
   |.bl Wy=>.ok (.bl Wy) R
   |_=>.bad
def evOr(T:Tb):Exs->Ev->Hd->qe D
 |.nil,_,_=>.bad
 |.cons e es,S,h=>match es with
  |.nil=>ev T e S h
  |.cons _ _=>(ev T e S h).bind λx R=>match x with
   |.bl Wx=>.ok (.bl Wx) R
   |.bl Wy=>evOr T es S R
   |_=>.bad
def evo(T:Tb):Option Ex->Ev->Hd->qe (Option Int)
 |none,_,h=>.ok M h
 |some e,S,h=>(ev T e S h).bind λx R=>match x with
  |.int i=>.ok (J i) R
  |_=>.bad
def tst(T:Tb):Tx->Ev->Hd->qe Bool
 |.ex e,S,h=>(ev T e S h).bind λx R=>qe.ofO (Zgo T.GD x R) R
 |.ands ts,S,h=>tstAnd T ts S h
 |.ors ts,S,h=>tstOr T ts S h
 |.nt a,S,h=>(tst T a S h).bind λc R=>.ok (!c) R
def tstAnd(T:Tb):Txs->Ev->Hd->qe Bool
 |.one t,S,h=>tst T t S h
 |.cons t ts,S,h=>(tst T t S h).bind λc R=>if c then tstAnd T ts S R else .ok Wy R
def tstOr(T:Tb):Txs->Ev->Hd->qe Bool
 |.one t,S,h=>tst T t S h
 |.cons t ts,S,h=>(tst T t S h).bind λc R=>if c then .ok Wx R else tstOr T ts S R
def tsto(T:Tb):Option Tx->Ev->Hd->qe Bool
 |none,_,h=>.ok Wx h
 |some e,S,h=>tst T e S h
def evi(T:Tb):Ix->Ev->Hd->qe Wk
 |.pl e,S,h=>(ev T e S h).bind λx R=>qe.ofO (ZaV x R) R
 |.rng e,S,h=>(ev T e S h).bind λx R=>match x with
  |.int j=>if Zdo j then .ok ⟨M,Zci 0 j.toNat⟩ R else .bad
  |_=>.bad
 |.rng2 a b,S,h=>(ev T a S h).bind λx R=>(ev T b S R).bind λy h2=>match x,y with
  |.int i,.int j=>if Zdo i&&Zdo j then .ok ⟨M,Zci i (j-i).toNat⟩ h2 else .bad
  |_,_=>.bad
 |.enu e,S,h=>(ev T e S h).bind λx R=>qe.ofO ((ZiS x R).map λw=>⟨w.src,Zeo w.xs⟩) R
 |.rev e,S,h=>(ev T e S h).bind λx R=>qe.ofO ((Zpo x R).map λw=>⟨w.src,w.xs.reverse⟩) R
 |.en1 e,S,h=>(ev T e S h).bind λx R=>match x with
  |.tup xs=>.ok ⟨M,Zv3 xs⟩ R
  |_=>.bad
 |.en0 e,S,h=>(ev T e S h).bind λx R=>match x with
  |.tup xs=>.ok ⟨M,Zeo xs⟩ R
  |_=>.bad
 |.dk e,S,h=>(ev T e S h).bind λx R=>Zy8 x R
end
def Zys(i j:Nat)(S:Ev)(x:D)(h:Hd):qe (Fl×Ev):=match lstOf x h with
 |some [a,b]=>.ok (.nx,(S.set i (J a)).set j (J b)) h
 |_=>.bad
mutual
def xs1(T:Tb):Sx->Ev->Hd->qe (Fl×Ev)
 |.ret e,S,h=>(ev T e S h).bind λx R=>.ok (.rt x,S) R
 |.set g e,S,h=>(ev T e S h).bind λx R=>(qe.ofO (ZbL g x S) R).bind λρ1 h2=>.ok (.nx,ρ1) h2
 |.put o i e,S,h=>(ev T e S h).bind λx R=>(ev T o S R).bind λy h2=>(ev T i S h2).bind λz h3=>(Zb3 y z x h3).bind λ_ h4=>.ok (.nx,S) h4
 |.aug i op e,S,h=>(qe.ofO (S[i]?).join h).bind λx R=>(ev T e S R).bind λy h2=>match op,x,y with
  |.Add,.int a,.int b=>.ok (.nx,S.set i (J (.int (a+b)))) h2
  |_,_,_=>.bad
 |.drp e,S,h=>(ev T e S h).bind λ_ R=>.ok (.nx,S) R
 |.iff c a b,S,h=>(tst T c S h).bind λt R=>if t then xs2 T a S R else xs2 T b S R
 |.whl c b,S,h=>Z4 (tst T c) (xs2 T b) T.L S h
 |.forr g it b,S,h=>(evi T it S h).bind λw R=>ZQ w.src g (xs2 T b) w.xs S R
 |.pas,S,h=>.ok (.nx,S) h
 |.brk,S,h=>.ok (.bk,S) h
 |.cnt,S,h=>.ok (.ct,S) h
 |.seta Cs o f e,S,h=>(ev T e S h).bind λd R=>(ev T o S R).bind λx h2=>(Zgr Cs f x d h2).bind λ_ h3=>.ok (.nx,S) h3
 |.auga Cs o f e,S,h=>(ev T o S h).bind λx R=>(ZgB Cs f x R).bind λv h2=>(ev T e S h2).bind λy h3=>match v,y with
  |.int a,.int b=>if (Zah x R).map (·.1)=(Zah x h3).map (·.1)then(Zgr Cs f x (.int (a+b)) h3).bind λ_ h4=>.ok (.nx,S) h4 else .bad
  |_,_=>.bad
 |.any,_,_=>.bad
 |.rai C e,S,h=>(ev T e S h).bind λ_ R=>.exc C R
 |.trs i f es C,S,h=>(evs T es S h).plain.bind λxs R=>Zir C i S (T.C f xs R)
 |.unl i j e,S,h=>(ev T e S h).bind λx R=>Zys i j S x R
def xs2(T:Tb):Sxs->Ev->Hd->qe (Fl×Ev)
 |.nil,S,h=>.ok (.nx,S) h
 |.cons s r,S,h=>(xs1 T s S h).bind λp R=>match p with
  |(.nx,ρ1)=>xs2 T r ρ1 R
  |p=>.ok p R
end
structure Fd where
 ps:List Str
 N:List Str
 body:Sxs
noncomputable abbrev fd_(n:Nat)(l:List String)(b:Sxs):Fd:=⟨(l.map O).take n,l.map O,b⟩
structure Pg where
 tb:List (Str×Fd)
 G:Str->Option D
 GD:Str->Option (List (Key×D))
 L:Nat
 ms:List (Str×Fd):=[]
noncomputable def Pg.look(P:Pg)(f:Str):Option Fd:=match P.tb.lookup f with
 |some fd=>J fd
 |none=>P.ms.lookup f
noncomputable def ZF(N:List Str)(ds:List D):Ev:=ds.map J++YK (N.length-ds.length) M
noncomputable def Ze:qe (Fl×Ev)->qe D
 |.ok (.rt d,_) h=>.ok d h
 |.ok (.nx,_) h=>.ok .non h
 |.exc c h=>.exc c h
 |_=>.bad
def run(P:Pg):Nat->Str->List D->Hd->qe D
 |0,_,_,_=>.bad
 |n+1,f,ds,h=>match P.look f with
  |none=>.bad
  |some fd=>if ds.length=fd.ps.length then Ze (xs2 ⟨P.G,P.GD,run P n,P.L⟩ fd.body (ZF fd.N ds) h)else .bad
def Pg.tbl(P:Pg)(n:Nat):Tb:=⟨P.G,P.GD,run P n,P.L⟩
def FzL(K:Yk)(H:Hp)(a:Yi)(xs:List V):Prop:=(∃o,H a=J (.frz o (.lst xs)))\/∃(o:Obj) (its:Array Yj) (n:Nat),K.lookup a=J o/\o.cls=.type "list" /\ o.dict=M/\o.data=.seq its n/\its.size<=sizeLine/\Zs xs its.toList
def FzL.sq{K:Yk}(h:FzL K H a xs):SqL K H a xs:=h.elim (λ⟨o,h⟩=>.inl (.inr ⟨o,h⟩)) .inr
structure Yx where
 K:Yk
 mg:Str->Option Yj
mutual
inductive RD(Y:Yx)(H:Hp)(B:List Yi):D->V->Prop
 |non:RD Y H B .non .non
 |bl (b:Bool):RD Y H B (.bl b) (.bl b)
 |int (i:Int):RD Y H B (.int i) (.int i)
 |str (x:Str) (ok:Yo x=Wx):RD Y H B (.str x) (.str x)
 |tup {a:Yi}{vs:List V}{ds:List D}:SqT Y.K H a vs->RDs Y H B ds vs->RD Y H B (.tup ds) (.ref a)
 |ref {i:Nat}{a:Yi}:B[i]?=J a->RD Y H B (.ref i) (.ref a)
 |ty (n:String):RD Y H B (.ty n) (.ty n)
 |ro {a:Yi}{vs:List V}{ds:List D}:FzL Y.K H a vs->RDs Y H B ds vs->RD Y H B (.ro ds) (.ref a)
 |kd {x:Str}{a:Yi}:Y.mg x=J (.ref a)->RD Y H B (.kd x) (.ref a)
inductive RDs(Y:Yx)(H:Hp)(B:List Yi):List D->List V->Prop
 |nil:RDs Y H B [] []
 |cons {d:D}{v:V}{ds:List D}{vs:List V}:RD Y H B d v->RDs Y H B ds vs->RDs Y H B (d::ds) (v::vs)
end
inductive RKs(Y:Yx)(H:Hp)(B:List Yi){κ:Type}:List (κ×D)->List (κ×V)->Prop
 |nil:RKs Y H B [] []
 |cons {k:κ}{d:D}{v:V}{ds:List (κ×D)}{vs:List (κ×V)}:RD Y H B d v->RKs Y H B ds vs->RKs Y H B ((k,d)::ds) ((k,v)::vs)
def RO(Y:Yx)(H:Hp)(B:List Yi)(a:Yi):DO->Prop
 |.lst ds=>∃vs,H a=J (.lst vs)/\RDs Y H B ds vs
 |.dic kvs=>∃aj,H a=J (.dK aj)/\RKs Y H B kvs aj
 |.ins C fs=>∃Ca dx be,H a=J (.ins Ca dx be)/\Y.mg C=J (.ref Ca)/\RKs Y H B fs be
 |.fdic kvs=>∃o aj,H a=J (.frz o (.dK aj))/\RKs Y H B kvs aj
def ZdJ(kvs:List (Key×D)):Prop:=∀p∈kvs,∀x,p.1=.inr x->Yo x=Wx
def DOk:DO->Prop
 |.dic kvs=>ZdJ kvs
 |.fdic kvs=>ZdJ kvs
 |_=>True
structure RH(Y:Yx)(H:Hp)(B:List Yi)(h:Hd):Prop where
 len:h.length=B.length
 nd:B.Nodup
 ob:∀(i:Nat) (o:DO) (a:Yi),h[i]?=J o->B[i]?=J a->RO Y H B a o
 ks:∀(i:Nat) (o:DO),h[i]?=J o->DOk o
structure Gr(H:Hp)(B:List Yi)(H':Hp)(μ':List Yi):Prop where
 pre:∀(i:Nat) (a:Yi),B[i]?=J a->μ'[i]?=J a
 new:∀a∈μ',a∈B\/H a=M
 keep:∀b o,b ∉ B->H b=J o->H' b=J o
 fz:∀b o u,H b=J (.frz o u)->H' b=J (.frz o u)
def Gr.refl:Gr H B H B:=⟨λ_ _ h=>h,λ_ h=>.inl h,λ_ _ _ h=>h,λ_ _ _ h=>h⟩
def Gr.trans(a:Gr H B H1 μ1)(b:Gr H1 μ1 H2 μ2):Gr H B H2 μ2:=by
 refine⟨λi x h=>b.pre i x (a.pre i x h),λx hx=>?_,λx o hx h=>?_,λx o u h=>b.fz x o u (a.fz x o u h)⟩
 . rcases b.new x hx with h|h
   . exact a.new x h
   . by_cases hm:x∈B
     . exact .inl hm
     . cases q:H x with
       |none=>exact .inr rfl
       |some o=>rw[a.keep x o hm q]at h;cases h
 . refine b.keep x o (λhm=>?_) (a.keep x o hx h);rcases a.new x hm with z|z
   . exact hx z
   . rw[h]at z;cases z
def Mu:Option HO->Prop
 |some (.lst _)|some (.dK _)|some (.ins _ _ _)|some (.frz _ (.dK _))=>True
 |_=>False
def RO.mut(h:RO Y H B a o):Mu (H a):=by
 cases o with
 |lst ds=>obtain⟨vs,e,_⟩:=h;rw[e];trivial
 |dic ds=>obtain⟨vs,e,_⟩:=h;rw[e];trivial
 |ins C ds=>obtain⟨_,_,_,e,_⟩:=h;rw[e];trivial
 |fdic ds=>obtain⟨_,_,e,_⟩:=h;rw[e];trivial
def RH.mem(r:RH Y H B h)(ha:a∈B):∃(i:Nat) (o:DO),B[i]?=J a/\h[i]?=J o/\RO Y H B a o:=by
 obtain⟨i,hi⟩:=List.mem_iff_getElem?.mp ha;have hl:i<h.length:=by rw[r.len];exact(Ob.mp hi).1
 exact⟨i,h[i],hi,Og hl,r.ob i _ a (Og hl) hi⟩
theorem RH.mut(r:RH Y H B h)(ha:a∈B):Mu (H a):=let⟨_,_,_,_,q⟩:=r.mem ha;q.mut
def Gr.rdT(r:RH Y H B h)(g:Gr H B H' μ')(t:SqT Y.K H a xs):SqT Y.K H' a xs:=by
 rcases t with t|t
 . rcases t with t|⟨o,t⟩
   . exact .inl (.inl (g.keep a _ (λhm=>by have:=r.mut hm;rw[t]at this;exact this) t))
   . exact .inl (.inr ⟨o,g.fz a _ _ t⟩)
 . exact .inr t
def Gr.rdF(r:RH Y H B h)(g:Gr H B H' μ')(t:FzL Y.K H a xs):FzL Y.K H' a xs:=by
 rcases t with⟨o,t⟩|t
 . exact .inl ⟨o,g.fz a _ _ t⟩
 . exact .inr t
section
variable {Y:Yx}{H H':Hp}{B μ':List Yi}{h:Hd}
structure Tr(Y:Yx)(H:Hp)(B:List Yi)(H':Hp)(μ':List Yi):Prop where
 t:∀{a xs},SqT Y.K H a xs->SqT Y.K H' a xs
 f:∀{a xs},FzL Y.K H a xs->FzL Y.K H' a xs
 m:∀{i:Nat}{a},B[i]?=J a->μ'[i]?=J a
mutual
theorem RD.tr(T:Tr Y H B H' μ'):∀{d:D}{v:V},RD Y H B d v->RD Y H' μ' d v
 |_,_,.non=>.non
 |_,_,.bl b=>.bl b
 |_,_,.int i=>.int i
 |_,_,.str x ok=>.str x ok
 |_,_,.tup t s=>.tup (T.t t) (RDs.tr T s)
 |_,_,.ref e=>.ref (T.m e)
 |_,_,.ty n=>.ty n
 |_,_,.ro t s=>.ro (T.f t) (RDs.tr T s)
 |_,_,.kd e=>.kd e
theorem RDs.tr(T:Tr Y H B H' μ'):∀{d:List D}{v:List V},RDs Y H B d v->RDs Y H' μ' d v
 |_,_,.nil=>.nil
 |_,_,.cons a s=>.cons (RD.tr T a) (RDs.tr T s)
end
theorem RKs.tr(T:Tr Y H B H' μ'):∀{d:List (κ×D)}{v:List (κ×V)},RKs Y H B d v->RKs Y H' μ' d v
 |_,_,.nil=>.nil
 |_,_,.cons a s=>.cons (a.tr T) (RKs.tr T s)
theorem RO.tr(T:Tr Y H B H' μ')(q:RO Y H B a o)(e:H' a=H a):RO Y H' μ' a o:=by
 cases o with
 |lst ds=>obtain⟨vs,z,s⟩:=q;exact⟨vs,e.trans z,s.tr T⟩
 |dic ds=>obtain⟨vs,z,s⟩:=q;exact⟨vs,e.trans z,s.tr T⟩
 |ins C ds=>obtain⟨a1,a2,a3,z,m,s⟩:=q;exact⟨a1,a2,a3,e.trans z,m,s.tr T⟩
 |fdic ds=>obtain⟨o,vs,z,s⟩:=q;exact⟨o,vs,e.trans z,s.tr T⟩
def Gr.tr(r:RH Y H B h)(g:Gr H B H' μ'):Tr Y H B H' μ':=⟨g.rdT r,g.rdF r,g.pre _ _⟩
def RD.mono(r:RH Y H B h)(g:Gr H B H' μ')(q:RD Y H B d v):RD Y H' μ' d v:=q.tr (g.tr r)
def RDs.mono(r:RH Y H B h)(g:Gr H B H' μ')(q:RDs Y H B d v):RDs Y H' μ' d v:=q.tr (g.tr r)
def RKs.mono{d:List (κ×D)}(r:RH Y H B h)(g:Gr H B H' μ')(q:RKs Y H B d v):RKs Y H' μ' d v:=q.tr (g.tr r)
theorem RDs.length:∀{d:List D}{v:List V},RDs Y H B d v->d.length=v.length
 |_,_,.nil=>rfl
 |_,_,.cons a s=>by rw[Os,Os,s.length]
theorem RKs.length:∀{d:List (κ×D)}{v:List (κ×V)},RKs Y H B d v->d.length=v.length
 |_,_,.nil=>rfl
 |_,_,.cons a s=>by rw[Os,Os,s.length]
theorem RDs.get:∀{ds:List D}{vs:List V},RDs Y H B ds vs->∀{i:Nat}{d:D},ds[i]?=J d->∃v,vs[i]?=J v/\RD Y H B d v
 |_,_,.nil,i,d,e=>by simp at e
 |_,_,.cons a s,0,d,e=>by cases e;exact⟨_,rfl,a⟩
 |_,_,.cons a s,i+1,d,e=>by obtain⟨v,R,h2⟩:=RDs.get s (i:=i) (d:=d) (by simpa using e);exact⟨v,by simpa using R,h2⟩
theorem RDs.append:∀{ds es:List D}{vs ws:List V},RDs Y H B ds vs->RDs Y H B es ws->RDs Y H B (ds++es) (vs++ws)
 |_,_,_,_,.nil,s=>s
 |_,_,_,_,.cons a r,s=>.cons a (r.append s)
theorem RDs.take:∀{ds:List D}{vs:List V} (n:Nat),RDs Y H B ds vs->RDs Y H B (ds.take n) (vs.take n)
 |_,_,0,_=>.nil
 |_,_,_+1,.nil=>.nil
 |_,_,n+1,.cons a s=>.cons a (s.take n)
theorem RDs.drop:∀{ds:List D}{vs:List V} (n:Nat),RDs Y H B ds vs->RDs Y H B (ds.drop n) (vs.drop n)
 |_,_,0,s=>s
 |_,_,_+1,.nil=>.nil
 |_,_,n+1,.cons a s=>s.drop n
theorem RDs.reverse(s:RDs Y H B ds vs):RDs Y H B ds.reverse vs.reverse:=by
 have gen:∀{ds es:List D}{vs ws:List V},RDs Y H B ds vs->RDs Y H B es ws->RDs Y H B (ds.reverseAux es) (vs.reverseAux ws):=by
  intro ds;induction ds with
  |nil=>intro es vs ws a b;cases a;exact b
  |cons d ds ih=>
   intro es vs ws a b;cases a with
   |cons a s=>have z:=ih s (RDs.cons a b);exact z
 exact gen s .nil
theorem RDs.dropLast(s:RDs Y H B ds vs):RDs Y H B ds.dropLast vs.dropLast:=by rw[List.dropLast_eq_take,List.dropLast_eq_take,s.length];exact s.take _
theorem RDs.set(r:RD Y H B d v):∀{ds:List D}{vs:List V} (i:Nat),RDs Y H B ds vs->RDs Y H B (ds.set i d) (vs.set i v)
 |_,_,_,.nil=>.nil
 |_,_,0,.cons _ s=>.cons r s
 |_,_,i+1,.cons a s=>.cons a (RDs.set r i s)
def RDs.cut(s:RDs Y H B ds vs)(lo hi:Option Int):RDs Y H B (cutD ds lo hi) (Zlh vs lo hi):=by unfold cutD Zlh;rw[s.length];exact(s.drop _).take _
theorem RDs.isEmpty(s:RDs Y H B ds vs):ds.isEmpty=vs.isEmpty:=by cases s<;>rfl
theorem RDs.atI(s:RDs Y H B ds vs)(e:L2.atI ds i=J d):∃v,L2.atI vs i=J v/\RD Y H B d v:=by
 unfold L2.atI at e ⊢;rw[s.length]at e;cases q:ixN vs.length i with
 |none=>rw[q]at e;cases e
 |some j=>rw[q]at e;exact s.get (i:=j) e
theorem RKs.val[DecidableEq κ]:∀{ds:List (κ×D)}{vs:List (κ×V)},RKs Y H B ds vs->∀(k:κ),((ds.find? λp=>Wz (p.1=k))=M/\(vs.find? λp=>Wz (p.1=k))=M)\/∃d v,(ds.find? λp=>Wz (p.1=k))=J (k,d)/\(vs.find? λp=>Wz (p.1=k))=J (k,v)/\RD Y H B d v
 |_,_,.nil,k=>.inl ⟨rfl,rfl⟩
 |_,_,.cons (k:=k') (d:=d) (v:=v) a s,k=>by
  by_cases e:k'=k
  . subst e;exact .inr ⟨d,v,by simp,by simp,a⟩
  . rcases s.val k with⟨R,h2⟩|⟨d,v,R,h2,h3⟩
    . exact .inl ⟨by simp[e,R],by simp[e,h2]⟩
    . exact .inr ⟨d,v,by simp[e,R],by simp[e,h2],h3⟩
end
def ZvK{α:Type}{l:List α}(hl:l.Nodup){i j:Nat}{x:α}(a:l[i]?=J x)(b:l[j]?=J x):i=j:=by obtain⟨R,e1⟩:=Ob.mp a;obtain⟨h2,e2⟩:=Ob.mp b;exact(List.getElem_inj hl).mp (e1.trans e2.symm)
section
variable {Y:Yx}{H:Hp}{B:List Yi}{h:Hd}
def Gr.add(g:Gr H0 μ0 H B)(hp:H0 p=M):Gr H0 μ0 H (B++[p]):=⟨λi a e=>by have e:=g.pre i a e;rw[Oe (Ob.mp e).1];exact e,λa ha=>(OD.mp ha).elim (g.new a) λz=>by rw[Ox.mp z];exact .inr hp,g.keep,g.fz⟩
def Zpr{H0 H:Hp}(hp:H0 p=M)(e:H0 b=J u):upd H p o b=H b:=Zr λz=>by rw[z,hp]at e;cases e
def Gr.put(g:Gr H0 μ0 H B)(hp:H0 p=M):Gr H0 μ0 (upd H p o) B:=⟨g.pre,g.new,λb u hb e=>(Zpr hp e).trans (g.keep b u hb e),λb u v e=>(Zpr hp e).trans (g.fz b u v e)⟩
def Gr.lay0(hp:H p=M):Gr H B (upd H p o) B:=Gr.refl.put hp
def Gr.lay(hp:H p=M):Gr H B (upd H p o) (B++[p]):=(Gr.lay0 hp).add hp
def NF:Option HO->Prop
 |some (.frz _ _)=>False
 |_=>True
def Gr.write(hp:p∈B)(nf:NF (H p)):Gr H B (upd H p o) B:=⟨λ_ _ e=>e,λa ha=>.inl ha,λb u hb e=>by rw[Zr (show b≠p from λz=>hb (by rw[z];exact hp))];exact e,λb u v e=>by rw[Zr (λz=>by rw[z]at e;rw[e]at nf;exact nf)];exact e⟩
def RO.mono(r:RH Y H B h)(g:Gr H B H' μ')(q:RO Y H B a o)(e:H' a=H a):RO Y H' μ' a o:=q.tr (g.tr r) e
theorem RH.tr(r:RH Y H B h)(T:Tr Y H B H' B)(k:∀a∈B,H' a=H a):RH Y H' B h:=⟨r.len,r.nd,λi o a e1 e2=>(r.ob i o a e1 e2).tr T (k a (O1 e2)),r.ks⟩
def RH.keep(r:RH Y H B h)(g:Gr H B H' B)(k:∀a∈B,H' a=H a):RH Y H' B h:=r.tr (g.tr r) k
def Tr.more:Tr Y H B H (B++[p]):=⟨id,id,λe=>by rw[Oe (Ob.mp e).1];exact e⟩
def ZvE(k:∀(i:Nat) (o:DO),h[i]?=J o->DOk o)(dk:DOk o):∀(i:Nat) (o':DO),(h++[o])[i]?=J o'->DOk o':=by
 intro i o' e1;by_cases hi:i<h.length
 . rw[Oe hi]at e1;exact k i o' e1
 . have gK:i=h.length:=by
    have:=(Ob.mp e1).1;simp at this
    lia
   subst gK;rw[Om (Oq _)]at e1;simp at e1;subst e1;exact dk
def RH.add(r:RH Y H B h)(np:p ∉ B)(n:RO Y H (B++[p]) p o)(dk:DOk o:=by trivial):RH Y H (B++[p]) (h++[o]):=by
 refine⟨by simp[r.len],?_,λi o' a e1 e2=>?_,ZvE r.ks dk⟩
 . rw[List.nodup_append];refine⟨r.nd,by simp,λa ha b hb=>?_⟩;rw[Ox.mp hb];intro z;exact np (z▸ha)
 . by_cases hi:i<h.length
   . rw[Oe hi]at e1;rw[Oe (by rw[<-r.len];exact hi)]at e2;exact(r.ob i o' a e1 e2).tr .more rfl
   . have gK:i=h.length:=by
      have:=(Ob.mp e1).1;simp at this
      lia
     subst gK;rw[Om (Oq _)]at e1;rw[Om (by rw[r.len];exact Oq _)]at e2;simp[r.len]at e1 e2;subst e1;subst e2;exact n
def RH.fr(r:RH Y H B h)(hp:H p=M):p ∉ B:=λz=>by have:=r.mut z;rw[hp]at this;exact this
theorem RH.lay0(r:RH Y H B h)(hp:H p=M):RH Y (upd H p u) B h:=r.keep (Gr.lay0 hp) λa ha=>Zr λz=>r.fr hp (z▸ha)
def RH.lay(r:RH Y H B h)(hp:H p=M)(n:RO Y (upd H p u) (B++[p]) p o)(dk:DOk o:=by trivial):RH Y (upd H p u) (B++[p]) (h++[o]):=(r.lay0 hp).add (r.fr hp) n dk
theorem RH.write{p:Yi}{i:Nat}{u:HO}{o:DO}(r:RH Y H B h)(hp:B[i]?=J p)(n:RO Y (upd H p u) B p o)(nf:NF (H p))(dk:DOk o:=by trivial):RH Y (upd H p u) B (h.set i o):=by
 have hm:p∈B:=O1 hp;refine⟨by simp[r.len],r.nd,λj o' a e1 e2=>?_,λj o' e1=>?_⟩
 rotate_right
 . by_cases hj:j=i
   . subst hj;have hl:j<h.length:=by rw[r.len];exact(Ob.mp hp).1
     rw[Ol hl]at e1;cases e1;exact dk
   . rw[Oc (YL hj)]at e1;exact r.ks j o' e1
 by_cases hj:j=i
 . subst hj;rw[hp]at e2;cases e2;have hl:j<h.length:=by rw[r.len];exact(Ob.mp hp).1
   rw[Ol hl]at e1;cases e1;exact n
 . rw[Oc (YL hj)]at e1;refine(r.ob j o' a e1 e2).mono r (Gr.write hm nf) (Zr λz=>hj ?_);subst z;exact ZvK r.nd e2 hp
end
def Fin(Y:Yx)(rel:Hp->List Yi->α->β->Prop)(H:Hp)(B:List Yi)(r:qe α)(Q:β->Hp->Prop)(E:XK):Prop:=match r with
 |.bad=>False
 |.ok a h'=>∀b H' μ',Gr H B H' μ'->RH Y H' μ' h'->rel H' μ' a b->Q b H'
 |.exc c h'=>∀H' μ' C,Gr H B H' μ'->RH Y H' μ' h'->Y.mg c=J (.ref C)->E (.ref C) M H'
section
variable {Y:Yx}{α β α' β':Type}{rel:Hp->List Yi->α->β->Prop}{aZ:Hp->List Yi->α'->β'->Prop}{H H1:Hp}{B μ1:List Yi}{E:XK}
def Fin.mono(g:Gr H B H1 μ1)(f:Fin Y rel H B r Q E):Fin Y rel H1 μ1 r Q E:=by
 cases r with
 |bad=>exact f
 |ok a h=>exact λb H' μ' g'=>f b H' μ' (g.trans g')
 |exc c h=>exact λH' μ' C g'=>f H' μ' C (g.trans g')
theorem Fin.bind(f:Fin Y aZ H B (r.bind k) Q E)
 (hk:∀a R b H1 μ1,r=.ok a R->Gr H B H1 μ1->RH Y H1 μ1 R->rel H1 μ1 a b->Fin Y aZ H1 μ1 (k a R) Q E->Q1 b H1):Fin Y rel H B r Q1 E:=by
 cases r with
 |bad=>exact f
 |ok a h=>exact λb H' μ' g' rh rl=>hk a h b H' μ' rfl g' rh rl (Fin.mono g' f)
 |exc c h=>exact f
theorem Fin.ok(f:Fin Y rel H B (.ok a h) Q E)(rh:RH Y H B h)(r:rel H B a b):Q b H:=f b H B Gr.refl rh r
def Fin.at(f:Fin Y rel H B (.ok a h) Q E)(g:Gr H B H1 μ1)(rh:RH Y H1 μ1 h)(r:rel H1 μ1 a b):Q b H1:=f b H1 μ1 g rh r
theorem Fin.ofO(f:Fin Y rel H B (qe.ofO o h) Q E):∃a,o=J a/\Fin Y rel H B (.ok a h) Q E:=by
 cases o with
 |none=>exact f.elim
 |some a=>exact⟨a,rfl,f⟩
def Fin.iff[Decidable c](f:Fin Y rel H B (if c then r else .bad) Q E):c/\Fin Y rel H B r Q E:=by
 by_cases h:c
 . rw[if_pos h]at f;exact⟨h,f⟩
 . rw[if_neg h]at f;exact f.elim
def Fin.new(f:Fin Y (RD Y) H B (Zdr o h) Q E)(rh:RH Y H B h)(hp:H p=M)(n:RO Y (upd H p u) (B++[p]) p o)(dk:DOk o:=by trivial):Q (.ref p) (upd H p u):=f.at (Gr.lay hp) (rh.lay hp n dk) (.ref (by rw[rh.len];simp))
theorem Fin.tup(f:Fin Y (RD Y) H B (.ok (.tup ds) h) Q E)(rh:RH Y H B h)(hp:H p=M)(r:RDs Y H B ds vs):Q (.ref p) (upd H p (.tup vs)):=f.at (Gr.lay0 hp) (rh.lay0 hp) (.tup (.inl (.inl Zt)) (r.mono rh (Gr.lay0 hp)))
def Fin.wrote(f:Fin Y rel H B (.ok a (h.set i o)) Q E)(rh:RH Y H B h)(hp:B[i]?=J p)(n:RO Y (upd H p u) B p o)(r:rel (upd H p u) B a b)(nf:NF (H p))(dk:DOk o:=by trivial):Q b (upd H p u):=f.at (Gr.write (O1 hp) nf) (rh.write hp n nf dk) r
end
section
variable {Y:Yx}{H:Hp}{B:List Yi}{h:Hd}
theorem RD.lst(rh:RH Y H B h)(r:RD Y H B (.ref i) v)(e:h[i]?=J (.lst xs)):∃a vs,v=.ref a/\B[i]?=J a/\H a=J (.lst vs)/\RDs Y H B xs vs:=by
 cases r with
 |ref q=>obtain⟨vs,R,h2⟩:=rh.ob i _ _ e q;exact⟨_,vs,rfl,q,R,h2⟩
theorem RD.dic(rh:RH Y H B h)(r:RD Y H B (.ref i) v)(e:h[i]?=J (.dic xs)):∃a vs,v=.ref a/\B[i]?=J a/\H a=J (.dK vs)/\RKs Y H B xs vs:=by
 cases r with
 |ref q=>obtain⟨vs,R,h2⟩:=rh.ob i _ _ e q;exact⟨_,vs,rfl,q,R,h2⟩
theorem RD.lstOf(rh:RH Y H B h)(r:RD Y H B d v)(e:lstOf d h=J xs):∃a vs,v=.ref a/\SqL Y.K H a vs/\RDs Y H B xs vs:=by
 cases d with
 |ref i=>
  unfold IV.lstOf at e;simp only at e;split at e
  . cases e;rename_i q;obtain⟨a,vs,R,h2,h3,h4⟩:=r.lst rh q;exact⟨a,vs,R,.of h3,h4⟩
  . cases e
 |ro ys=>
  cases e;cases r with
  |ro q s=>exact⟨_,_,rfl,q.sq,s⟩
 |_=>cases e
theorem RD.seqOf(rh:RH Y H B h)(r:RD Y H B d v)(e:seqOf d h=J xs):∃a vs,v=.ref a/\(SqL Y.K H a vs\/SqT Y.K H a vs)/\RDs Y H B xs vs:=by
 by_cases ht:∃ys,d=.tup ys
 . obtain⟨ys,rfl⟩:=ht;cases e;cases r with
   |tup q s=>exact⟨_,_,rfl,.inr q,s⟩
 . have e':IV.lstOf d h=J xs:=by
    cases d with
    |tup ys=>exact absurd ⟨ys,rfl⟩ ht
    |_=>exact e
   obtain⟨a,vs,R,h2,h3⟩:=r.lstOf rh e';exact⟨a,vs,R,.inl h2,h3⟩
def RD.int_inv(r:RD Y H B (.int i) v):v=.int i:=by cases r;rfl
def RD.str_inv(r:RD Y H B (.str i) v):v=.str i/\Yo i=Wx:=by cases r with|str x ok=>exact⟨rfl,ok⟩
def RD.tup_inv(r:RD Y H B (.tup ds) v):∃a vs,v=.ref a/\SqT Y.K H a vs/\RDs Y H B ds vs:=by cases r with|tup q s=>exact⟨_,_,rfl,q,s⟩
def Zi5(hx:Yo x=Wx)(hy:Yo y=Wx):Yo (x++y)=Wx:=by show(x.cps++y.cps).all _=Wx;rw[Array.all_append];unfold Yo at hx hy;rw[hx,hy];rfl
def Zqu(hx:Yo x=Wx)(n:Nat):Yo (Zgs x n)=Wx:=by
 have gen:∀(n:Nat) (a:Array Nat),a.all (·<0x110000)=Wx->((YK n x.cps).foldl (·++·) a).all (·<0x110000)=Wx:=by
  intro n;induction n with
  |zero=>intro a h;exact h
  |succ n ih=>intro a h;rw[List.replicate_succ,Wr];refine ih _ ?_;rw[Array.all_append,h];exact hx
 exact gen n #[] (by simp)
def Zqv(hx:Yo x=Wx)(h:c∈x.cps.toList):Yo ⟨#[c]⟩=Wx:=by unfold Yo at hx ⊢;rw[Array.all_eq_true']at hx;have:=hx c (by simpa using h);simpa using this
def ZsP(h:atI xs i=J x):x∈xs:=by
 unfold atI at h;cases q:ixN xs.length i with
 |none=>rw[q]at h;cases h
 |some j=>rw[q]at h;exact O1 (i:=j) h
end
section
variable {X:Cx}{Y:Yx}{E:XK}
noncomputable def rB(Y:Yx)(E:XK)(f:D->D->Hd->qe D):R2:=λx y H Q=>∃dx dy h B,RH Y H B h/\RD Y H B dx x/\RD Y H B dy y/\Fin Y (RD Y) H B (f dx dy h) Q E
theorem Fin.int2(f:Fin Y (RD Y) H B (int2 x y k) Q E):∃i j,x=.int i/\y=.int j/\Fin Y (RD Y) H B (k i j) Q E:=by
 cases x with
 |int i=>
  cases y with
  |int j=>exact⟨i,j,rfl,rfl,f⟩
  |_=>exact f.elim
 |_=>exact f.elim
def Zvk(hY:Y.K=X.K)(op:Operator):OpR X (binaryOp op) (rB Y E (opB op)):=by
 intro aa s Z H x y v u Q I rx ry hh;obtain⟨dx,dy,h,B,rh,r1,r2,f⟩:=hh;cases op with
 |Add=>
  have f:Fin Y (RD Y) H B (ZtE dx dy h) Q E:=f;cases dx with
  |int i=>
   cases dy with
   |int j=>cases r1;cases r2;exact Zvi aa s Z H _ _ v u Q I rx ry ⟨_,_,rfl,rfl,f.ok rh (.int _)⟩
   |_=>exact f.elim
  |str i=>
   cases dy with
   |str j=>
    obtain⟨hz,f⟩:=Fin.iff f;cases r1 with|str _ o1=>
    cases r2 with|str _ o2=>
    exact Zl3 aa s Z H _ _ v u Q I rx ry ⟨_,_,rfl,rfl,hz,f.ok rh (.str _ (Zi5 o1 o2))⟩
   |_=>exact f.elim
  |tup xs=>
   cases dy with
   |tup ys=>
    obtain⟨hz,f⟩:=Fin.iff f;obtain⟨a,vs,rfl,t1,s1⟩:=r1.tup_inv;obtain⟨b,ws,rfl,t2,s2⟩:=r2.tup_inv;rw[s1.length,s2.length]at hz;by_cases h0:vs=[]
    . subst h0;cases s1;exact Zsy aa s Z H _ _ v u Q I rx ry ⟨a,b,ws,rfl,rfl,hY▸t1,hY▸t2,f.ok rh (.tup t2 s2)⟩
    . refine Zsx aa s Z H _ _ v u Q I rx ry ⟨a,b,vs,ws,rfl,rfl,hY▸t1,hY▸t2,h0,hz,λe=>?_,λe p hp=>f.tup rh hp (s1.append s2)⟩;subst e;cases s2;rw[Ys]at f;exact f.ok rh (.tup t1 s1)
   |_=>exact f.elim
  |ref i=>
   cases dy with
   |ref j=>
    unfold ZtE at f;simp only at f;split at f
    . rename_i e1;split at f
      . rename_i e2;obtain⟨hz,f⟩:=f.iff;obtain⟨a,vs,rfl,_,R,s1⟩:=r1.lst rh e1;obtain⟨b,ws,rfl,_,h2,s2⟩:=r2.lst rh e2;rw[s1.length,s2.length]at hz;exact Zvh aa s Z H _ _ v u Q I rx ry ⟨a,b,vs,ws,rfl,rfl,R,h2,hz,λp hp=>f.new rh hp ⟨_,Zt,(s1.append s2).mono rh (Gr.lay hp)⟩⟩
      . exact f.elim
    . exact f.elim
   |_=>exact f.elim
  |_=>exact f.elim
 |Sub=>obtain⟨i,j,rfl,rfl,f⟩:=Fin.int2 f;cases r1;cases r2;exact Zvc aa s Z H _ _ v u Q I rx ry ⟨_,_,rfl,rfl,f.ok rh (.int _)⟩
 |Mult=>
  have f:Fin Y (RD Y) H B (Zxz dx dy h) Q E:=f;cases dx with
  |str z=>
   cases dy with
   |int n=>
    obtain⟨hz,f⟩:=Fin.iff f;cases r1 with|str _ o1=>
    cases r2;exact Zsv aa s Z H _ _ v u Q I rx ry ⟨_,_,rfl,rfl,hz.1,hz.2.1,hz.2.2,f.ok rh (.str _ (Zqu o1 _))⟩
   |_=>exact f.elim
  |int i=>obtain⟨i,j,e1,rfl,f⟩:=Fin.int2 (show Fin Y (RD Y) H B (IV.int2 (.int i) dy λi j=>if i.natAbs<2^2000/\j.natAbs<2^2000 then .ok (.int (i*j)) h else .bad) Q E from f);cases e1;obtain⟨hz,f⟩:=f.iff;cases r1;cases r2;exact ZoF aa s Z H _ _ v u Q I rx ry ⟨_,_,rfl,rfl,hz,f.ok rh (.int _)⟩
  |_=>exact f.elim
 |Mod=>obtain⟨i,j,rfl,rfl,f⟩:=Fin.int2 f;obtain⟨hz,f⟩:=f.iff;cases r1;cases r2;exact Zve aa s Z H _ _ v u Q I rx ry ⟨_,_,rfl,rfl,hz,f.ok rh (.int _)⟩
 |FloorDiv=>obtain⟨i,j,rfl,rfl,f⟩:=Fin.int2 f;obtain⟨hz,f⟩:=f.iff;cases r1;cases r2;exact Zsw aa s Z H _ _ v u Q I rx ry ⟨_,_,rfl,rfl,hz,f.ok rh (.int _)⟩
 |Pow=>obtain⟨i,j,rfl,rfl,f⟩:=Fin.int2 f;obtain⟨hz,f⟩:=f.iff;cases r1;cases r2;exact Zvd aa s Z H _ _ v u Q I rx ry ⟨_,_,rfl,rfl,hz,f.ok rh (.int _)⟩
 |_=>exact f.elim
end
set_option tactic.hygienic true
structure Gk(X:Cx)(Y:Yx)(T:Tb):Prop where
 K:Y.K=X.K
 mg:Y.mg=X.mg
 gd:∀x kvs,T.GD x=J kvs->∃a aj,X.mg x=J (.ref a)/\DkK X.prog X.w X.K a aj/\∀H B,RKs Y H B kvs aj
 g:∀x d,T.G x=J d->∃v u,X.mg x=J u/\RelV v u/\∀H B,RD Y H B d v
 bare:Zc7 X.K=Wx
section
variable {X:Cx}{Y:Yx}{E:XK}{T:Tb}{H:Hp}{B:List Yi}{h:Hd}
theorem RD.dicOf(G:Gk X Y T)(rh:RH Y H B h)(r:RD Y H B d v)(e:dicOf T.GD d h=J kvs):∃a aj,v=.ref a/\Dk X.prog X.w X.K H a aj/\RKs Y H B kvs aj:=by
 cases d with
 |ref i=>
  unfold IV.dicOf at e;simp only at e;split at e
  . cases e;rename_i q;obtain⟨a,vs,R,_,h3,h4⟩:=r.dic rh q;exact⟨a,vs,R,.inl (.inl h3),h4⟩
  . cases e;rename_i q;cases r with
    |ref qm=>obtain⟨o,vs,R,h2⟩:=rh.ob i _ _ q qm;exact⟨_,vs,rfl,.inl (.inr ⟨o,R⟩),h2⟩
  . cases e
 |kd x=>
  obtain⟨a,aj,R,h2,h3⟩:=G.gd x kvs e;cases r with
  |kd q=>rw[G.mg,R]at q;cases q;exact⟨a,aj,rfl,.inr h2,h3 H B⟩
 |_=>cases e
def ZqP(r:RD Y H B d v)(e:keyOf d=J k):∀x,k=.inr x->Yo x=Wx:=by
 cases d with
 |int i=>cases e;intro x z;cases z
 |str i=>
  cases e;intro x z;cases z;cases r with
  |str _ ok=>exact ok
 |_=>cases e
def ZhZ(h:ZdJ kvs)(hk:∀x,k=.inr x->Yo x=Wx):ZdJ (putD kvs k c):=by
 intro p hp x e;unfold putD at hp;split at hp
 . obtain⟨q,hq,rfl⟩:=List.mem_map.mp hp;refine h q hq x ?_;split at e<;>exact e
 . rcases OD.mp hp with hp|hp
   . exact h p hp x e
   . rw[Ox.mp hp]at e;exact hk x e
def ZeR(r:RD Y H B d v)(e:keyOf d=J k):v=kV k:=by
 cases d with
 |int i=>cases e;cases r;rfl
 |str i=>cases e;cases r;rfl
 |_=>cases e
def RKs.valV_rel(s:RKs Y H B ds vs)(k:Key):(Zbp ds k=M/\ZfA vs k=M)\/∃d v,Zbp ds k=J d/\ZfA vs k=J v/\RD Y H B d v:=by
 unfold Zbp ZfA;rcases s.val k with⟨R,h2⟩|⟨d,v,R,h2,h3⟩
 . exact .inl ⟨by rw[R];rfl,by rw[h2];rfl⟩
 . exact .inr ⟨d,v,by rw[R];rfl,by rw[h2];rfl,h3⟩
theorem RKs.any_rel(k:Key):∀{ds:List (Key×D)}{vs:List (Key×V)},RKs Y H B ds vs->(ds.any λkv=>Wz (kv.1=k))=(vs.any λkv=>Wz (kv.1=k))
 |_,_,.nil=>rfl
 |_,_,.cons a s=>by rw[Wf,Wf,s.any_rel k]
theorem RKs.map_rel(k:Key)(r:RD Y H B d v):∀{ds:List (Key×D)}{vs:List (Key×V)},RKs Y H B ds vs->RKs Y H B (ds.map λkv=>if kv.1=k then(kv.1,d)else kv) (vs.map λkv=>if kv.1=k then(kv.1,v)else kv)
 |_,_,.nil=>.nil
 |_,_,.cons (k:=k') a s=>by
  rw[Op,Op];by_cases e:k'=k
  . rw[if_pos e,if_pos e];exact .cons r (s.map_rel k r)
  . rw[if_neg e,if_neg e];exact .cons a (s.map_rel k r)
theorem RKs.append:∀{ds es:List (κ×D)}{vs ws:List (κ×V)},RKs Y H B ds vs->RKs Y H B es ws->RKs Y H B (ds++es) (vs++ws)
 |_,_,_,_,.nil,s=>s
 |_,_,_,_,.cons a r,s=>.cons a (r.append s)
def RKs.put(s:RKs Y H B ds vs)(k:Key)(r:RD Y H B d v):RKs Y H B (putD ds k d) (putK vs k v):=by
 unfold putD putK;rw[s.any_rel k];split
 . exact s.map_rel k r
 . exact s.append (.cons r .nil)
mutual
theorem RD.dp(rh:RH Y H B h)(rd:Nat->Option PyData)(hr:∀i p a,rd i=J p->B[i]?=J a->Dp Y.K H (.ref a) p):∀{d:D}{v:V}{p:PyData},RD Y H B d v->D.py rd d=J p->Dp Y.K H v p
 |_,_,_,.non,e=>by cases e;exact .non
 |_,_,_,.bl b,e=>by cases e;exact .bl b
 |_,_,_,.int i,e=>by cases e;exact .int i
 |_,_,_,.str x ok,e=>by cases e;exact .str x ok
 |_,_,_,.tup t s,e=>by rw[D.py]at e;obtain⟨ps,e1,rfl⟩:=Oo.mp e;exact .tup t (RDs.dps rh rd hr s e1)
 |_,_,_,.ref q,e=>hr _ _ _ e q
 |_,_,_,.ty n,e=>by cases e
 |_,_,_,.ro t s,e=>by rw[D.py]at e;obtain⟨ps,e1,rfl⟩:=Oo.mp e;exact .lst t.sq (RDs.dps rh rd hr s e1)
 |_,_,_,.kd q,e=>by cases e
theorem RDs.dps(rh:RH Y H B h)(rd:Nat->Option PyData)(hr:∀i p a,rd i=J p->B[i]?=J a->Dp Y.K H (.ref a) p):∀{d:List D}{v:List V}{p:List PyData},RDs Y H B d v->D.pys rd d=J p->Dps Y.K H v p
 |_,_,_,.nil,e=>by cases e;exact .nil
 |_,_,_,.cons a s,e=>by rw[D.pys]at e;obtain⟨q,e1,e2⟩:=Option.bind_eq_some_iff.mp e;obtain⟨qs,e3,rfl⟩:=Oo.mp e2;exact .cons (RD.dp rh rd hr a e1) (RDs.dps rh rd hr s e3)
end
theorem Zm2(rh:RH Y H B h):∀(n i:Nat) (p:PyData) (a:Yi),ZiF h n i=J p->B[i]?=J a->Dp Y.K H (.ref a) p
 |0,i,p,a,e,q=>by cases e
 |n+1,i,p,a,e,q=>by
  rw[ZiF]at e;split at e
  . rename_i xs he;obtain⟨ps,e1,rfl⟩:=Oo.mp e;obtain⟨vs,z,s⟩:=rh.ob i _ a he q;exact .lst (.of z) (RDs.dps rh _ (Zm2 rh n) s e1)
  . cases e
def ZfJ(rh:RH Y H B h)(r:RD Y H B d v)(e:ZiG h d=J p):Dp Y.K H v p:=r.dp rh _ (Zm2 rh 4) e
def Zh9(r:RD Y H B d v)(f:d.flat=Wx):Ze9 v=Wx:=by cases r<;>first|rfl|cases f
theorem ZgD:∀{ds:List D}{vs:List V},RDs Y H B ds vs->ds.all D.flat=Wx->vs.all Ze9=Wx
 |_,_,.nil,_=>rfl
 |_,_,.cons a s,f=>by rw[List.all_cons,Oa]at f;rw[List.all_cons,Zh9 a f.1,ZgD s f.2];rfl
def Zv1(r:RD Y H B d v)(q:RD Y H B e w)(f:d.flat=Wx)(g:e.flat=Wx):eqF d e=eqV v w:=by cases r<;>cases q<;>first|rfl|exact absurd f (by simp[D.flat])|exact absurd g (by simp[D.flat])
theorem any_rel(q:RD Y H B e w)(g:e.flat=Wx):∀{ds:List D}{vs:List V},RDs Y H B ds vs->ds.all D.flat=Wx->(ds.any λz=>eqF z e)=vs.any λy=>eqV y w
 |_,_,.nil,_=>rfl
 |_,_,.cons a s,f=>by rw[List.all_cons,Oa]at f;rw[Wf,Wf,Zv1 a q f.1 g,any_rel q g s f.2]
def ZsF(hr:Room k X.A)(h60:60<=k)(hY:Y.K=X.K):OpR X (YM .Eq) (rB Y E (Zdb Wy)):=by
 intro aa s Z H x y v u Q I rx ry hh;obtain⟨dx,dy,h,B,rh,r1,r2,f⟩:=hh;unfold Zdb at f;split at f
 . rename_i e1 e2;obtain⟨hz,f⟩:=f.iff;have d1:=ZfJ rh r1 e1;have d2:=ZfJ rh r2 e2;rw[hY]at d1 d2;obtain⟨as,q1⟩:=I.reads d1 rx;obtain⟨bs,q2⟩:=I.reads d2 ry;have:=hr.un;exact SeqAt.compareEq_reads q1 q2 d1.lay d2.lay (by lia) ⟨.bl _,H,I,rfl,f.ok rh (.bl _)⟩
 . exact f.elim
def ZsA(hr:Room k X.A)(h60:60<=k)(hY:Y.K=X.K):OpR X (YM .NotEq) (rB Y E (Zdb Wx)):=by
 intro aa s Z H x y v u Q I rx ry hh;obtain⟨dx,dy,h,B,rh,r1,r2,f⟩:=hh;unfold Zdb at f;split at f
 . rename_i e1 e2;obtain⟨hz,f⟩:=f.iff;have d1:=ZfJ rh r1 e1;have d2:=ZfJ rh r2 e2;rw[hY]at d1 d2;obtain⟨as,q1⟩:=I.reads d1 rx;obtain⟨bs,q2⟩:=I.reads d2 ry;have:=hr.un;exact SeqAt.compareNe_reads q1 q2 d1.lay d2.lay (by lia) ⟨.bl _,H,I,rfl,f.ok rh (.bl _)⟩
 . exact f.elim
def ZhA(ho:OpR X (YM op) (rI0 λi j=>.bl (g i j))):OpR X (YM op) (rB Y E (ZjF g)):=by
 intro aa s Z H x y v u Q I rx ry hh;obtain⟨dx,dy,h,B,rh,r1,r2,f⟩:=hh;unfold ZjF at f;split at f
 . cases r1;cases r2;exact ho aa s Z H _ _ v u Q I rx ry ⟨_,_,rfl,rfl,f.ok rh (.bl _)⟩
 . exact f.elim
def Znn(r:RD Y H B d v):Wz (d=.non)=Wz (v=.non):=by cases r<;>simp
def ZsD:OpR X (YM .Is) (rB Y E (opN Wy)):=by
 intro aa s Z H x y v u Q I rx ry hh;obtain⟨dx,dy,h,B,rh,r1,r2,f⟩:=hh;unfold opN at f;split at f
 . cases r2;have z:=Znn r1;simp only[OG,if_false,z]at f;exact Zvf aa s Z H _ _ v u Q I rx ry ⟨rfl,f.ok rh (.bl _)⟩
 . exact f.elim
def ZoH:OpR X (YM .IsNot) (rB Y E (opN Wx)):=by
 intro aa s Z H x y v u Q I rx ry hh;obtain⟨dx,dy,h,B,rh,r1,r2,f⟩:=hh;unfold opN at f;split at f
 . cases r2;have z:=Znn r1;simp only[if_true,z]at f;exact Zsu aa s Z H _ _ v u Q I rx ry ⟨rfl,f.ok rh (.bl _)⟩
 . exact f.elim
def ZsE(G:Gk X Y T):OpR X (YM .In) (rB Y E (ZcA T.GD Wy)):=by
 intro aa s Z H x y v u Q I rx ry hh;obtain⟨dx,dy,h,B,rh,r1,r2,f⟩:=hh;unfold ZcA at f;split at f
 . rename_i xs e1;obtain⟨hz,f⟩:=f.iff;rw[Oa]at hz;obtain⟨a,vs,rfl,hs,rs⟩:=r2.seqOf rh e1;have q:=f.ok rh (.bl _);simp only[OG,if_false,any_rel r1 hz.1 rs hz.2]at q;exact ZoG aa s Z H _ _ v u Q I rx ry ⟨a,vs,rfl,G.K▸hs,Zh9 r1 hz.1,ZgD rs hz.2,q⟩
 . split at f
   . rename_i kvs k e1 e2;obtain⟨a,aj,rfl,hd,rk⟩:=r2.dicOf G rh e1;have q:=f.ok rh (.bl _);have z:(Zbp kvs k).isSome=(ZfA aj k).isSome:=by rcases rk.valV_rel k with⟨R,h2⟩|⟨d,v,R,h2,_⟩<;>rw[R,h2]<;>rfl
     rw[z]at q;exact Zvg aa s Z H _ _ v u Q I rx ry ⟨a,aj,k,rfl,ZeR r1 e2,hd,q⟩
   . exact f.elim
def Zl4(G:Gk X Y T):OpR X (YM .NotIn) (rB Y E (ZcA T.GD Wx)):=by
 intro aa s Z H x y v u Q I rx ry hh;obtain⟨dx,dy,h,B,rh,r1,r2,f⟩:=hh;unfold ZcA at f;split at f
 . rename_i xs e1;obtain⟨hz,f⟩:=f.iff;rw[Oa]at hz;obtain⟨a,vs,rfl,hs,rs⟩:=r2.seqOf rh e1;have q:=f.ok rh (.bl _);simp only[if_true,any_rel r1 hz.1 rs hz.2]at q;exact ZjE aa s Z H _ _ v u Q I rx ry ⟨a,vs,rfl,G.K▸hs,Zh9 r1 hz.1,ZgD rs hz.2,q⟩
 . split at f
   . rename_i kvs k e1 e2;obtain⟨a,aj,rfl,hd,rk⟩:=r2.dicOf G rh e1;have q:=f.ok rh (.bl _);have z:(Zbp kvs k).isSome=(ZfA aj k).isSome:=by rcases rk.valV_rel k with⟨R,h2⟩|⟨d,v,R,h2,_⟩<;>rw[R,h2]<;>rfl
     rw[z]at q;exact ZoE aa s Z H _ _ v u Q I rx ry ⟨a,aj,k,rfl,ZeR r1 e2,hd,q⟩
   . exact f.elim
def Zqr(hr:Room k X.A)(h60:60<=k)(G:Gk X Y T)(op:CmpOp):OpR X (YM op) (rB Y E (opC T.GD op)):=by
 cases op with
 |Eq=>exact ZsF hr h60 G.K
 |NotEq=>exact ZsA hr h60 G.K
 |Lt=>exact ZhA Zxm
 |LtE=>exact ZhA Zxn
 |Gt=>exact ZhA Zxo
 |GtE=>exact ZhA Zxp
 |Is=>exact ZsD
 |IsNot=>exact ZoH
 |In=>exact ZsE G
 |NotIn=>exact Zl4 G
def ZsB(G:Gk X Y T):IxR X (rB Y E (Zbq T.GD)):=by
 intro value slice aa s Z H x y v u Q I rx ry hh hs;obtain⟨dx,dy,h,B,rh,r1,r2,f⟩:=hh;have dict:∀(kvs:List (Key×D)) (k:Key),dicOf T.GD dx h=J kvs->y=kV k->Fin Y (RD Y) H B (qe.ofO (Zbp kvs k) h) Q E->YB (model X.prog X.w) X.A (subscriptTail value slice v u) (EP X aa Z Q) X.xe s:=by
  intro kvs k e1 ey f;obtain⟨d,e2,f⟩:=f.ofO;obtain⟨a,aj,rfl,hd,rk⟩:=r1.dicOf G rh e1;rcases rk.valV_rel k with⟨R,h2⟩|⟨d',w,R,h2,h3⟩
  . rw[R]at e2;cases e2
  . rw[R]at e2;cases e2;exact Zs1 value slice aa s Z H _ _ v u Q I rx ry ⟨a,aj,k,w,rfl,ey,hd,h2,f.ok rh h3⟩ hs
 unfold Zbq at f;split at f
 . rename_i i;cases r2;split at f
   . rename_i xs e1;obtain⟨d,e2,f⟩:=f.ofO;obtain⟨a,vs,rfl,hq,rs⟩:=r1.seqOf rh e1;obtain⟨w,e3,az⟩:=rs.atI e2;rcases hq with hq|hq
     . exact Zs0 value slice aa s Z H _ _ v u Q I rx ry ⟨a,vs,i,w,rfl,rfl,G.K▸hq,e3,f.ok rh az⟩ hs
     . exact ZcR value slice aa s Z H _ _ v u Q I rx ry ⟨a,vs,i,w,rfl,rfl,G.K▸hq,e3,f.ok rh az⟩ hs
   . split at f
     . obtain⟨hz,f⟩:=f.iff;obtain⟨d,e2,f⟩:=f.ofO;obtain⟨c,e3,rfl⟩:=Oo.mp e2;obtain⟨rfl,ok⟩:=r1.str_inv;exact ZvJ value slice aa s Z H _ _ v u Q I rx ry ⟨_,i,c,rfl,rfl,hz,e3,f.ok rh (.str _ (Zqv ok (ZsP e3)))⟩ hs
     . split at f
       . rename_i kvs e1;exact dict kvs (.inl i) e1 rfl f
       . exact f.elim
 . rename_i z;obtain⟨rfl,ok⟩:=r2.str_inv;split at f
   . rename_i kvs e1;exact dict kvs (.inr z) e1 rfl f
   . exact f.elim
 . exact f.elim
def Zqt(hx:Yo x=Wx)(h:∀c∈y.cps.toList,c∈x.cps.toList):Yo y=Wx:=by unfold Yo at hx ⊢;rw[Array.all_eq_true']at hx ⊢;intro c hc;exact hx c (by simpa using h c (by simpa using hc))
def ZrN(hY:Y.K=X.K)(rh:RH Y H B h)(r:RD Y H B d v)(e:Zgo T.GD d h=J b):Zwh X.K v H b:=by
 cases d with
 |non=>cases r;cases e;rfl
 |bl c=>cases r;cases e;rfl
 |int c=>cases r;cases e;rfl
 |str c=>
  cases r;unfold Zgo at e;simp only at e;split at e
  . rename_i hz;cases e;refine⟨hz,?_⟩;by_cases h0:c.length=0
    . simp[h0]
    . have R:((c.length:Int) != 0)=Wx:=by
       simp
       lia
      rw[R];simp[h0]
  . cases e
 |tup xs=>obtain⟨a,vs,rfl,t,s⟩:=r.tup_inv;cases e;exact .inr (.inl ⟨vs,hY▸t,by rw[s.isEmpty]⟩)
 |ref i=>
  unfold Zgo at e;simp only at e;split at e
  . rename_i q;cases e;obtain⟨a,vs,rfl,_,h3,s⟩:=r.lst rh q;exact .inl ⟨vs,.of h3,by rw[s.isEmpty]⟩
  . rename_i q;cases e;obtain⟨a,vs,rfl,_,h3,s⟩:=r.dic rh q;exact .inr (.inr ⟨vs,h3,by cases s<;>rfl⟩)
  . cases e
 |ro xs=>
  cases e;cases r with
  |ro q s=>exact .inl ⟨_,hY▸q.sq,by rw[s.isEmpty]⟩
 |ty n=>cases e
 |kd x=>cases e
end
section
variable {X:Cx}{Y:Yx}{E:XK}{T:Tb}{H:Hp}{B:List Yi}{h:Hd}
def rS(Y:Yx)(E:XK):V->Option Int->Option Int->Hp->VK->Prop:=λx l u H Q=>∃d h B,RH Y H B h/\RD Y H B d x/\Fin Y (RD Y) H B (ZfK d l u h) Q E
def ZhM(y:Str)(l u:Option Int):∀c∈(Yp y l u).cps.toList,c∈y.cps.toList:=by
 intro c hc;unfold Yp at hc;split at hc
 . exact hc
 . simp only[List.mem_filterMap]at hc;obtain⟨i,_,hi⟩:=hc;have:=Array.mem_of_getElem? hi;simpa using this
def ZoY{xs:List D}{lo hi:Option Int}(h:HT.sIx xs.length 0 lo=0/\HT.sIx xs.length xs.length hi=xs.length):cutD xs lo hi=xs:=by unfold cutD;rw[h.1,h.2];simp
def Zsz(hY:Y.K=X.K):SlR X (rS Y E):=by
 intro aa s Z H x v vl vu lo hi sl Q I rx hs pl pu hh;obtain⟨d,h,B,rh,r,f⟩:=hh;unfold ZfK at f;split at f
 . rename_i xs;obtain⟨a,vs,rfl,t,rs⟩:=r.tup_inv;by_cases hw:HT.sIx vs.length 0 lo=0/\HT.sIx vs.length vs.length hi=vs.length
   . rw[ZoY (by rw[rs.length];exact hw)]at f;exact ZpJ aa s Z H _ v vl vu lo hi sl Q I rx hs pl pu ⟨a,vs,rfl,hY▸t,hw,f.ok rh (.tup t rs)⟩
   . exact Zuw aa s Z H _ v vl vu lo hi sl Q I rx hs pl pu ⟨a,vs,rfl,hY▸t,hw,λp hp=>f.tup rh hp (rs.cut lo hi)⟩
 . obtain⟨hz,f⟩:=f.iff;obtain⟨rfl,ok⟩:=r.str_inv;exact Zux aa s Z H _ v vl vu lo hi sl Q I rx hs pl pu ⟨_,rfl,hz,f.ok rh (.str _ (Zqt ok (ZhM _ _ _)))⟩
 . split at f
   . rename_i xs e1;obtain⟨a,vs,rfl,hl,rs⟩:=r.lstOf rh e1;exact ZrU aa s Z H _ v vl vu lo hi sl Q I rx hs pl pu ⟨a,vs,rfl,hY▸hl,λp hp=>f.new rh hp ⟨_,Zt,(rs.cut lo hi).mono rh (Gr.lay hp)⟩⟩
   . exact f.elim
def rF(Y:Yx)(E:XK)(f:List D->Hd->qe D):List V->Hp->VK->Prop:=λxs H Q=>∃ds h B,RH Y H B h/\RDs Y H B ds xs/\Fin Y (RD Y) H B (f ds h) Q E
def RDs.one(r:RDs Y H B [d] xs):∃x,xs=[x]/\RD Y H B d x:=by
 cases r with
 |cons a s=>cases s;exact⟨_,rfl,a⟩
def RDs.two(r:RDs Y H B [d,e] xs):∃x y,xs=[x,y]/\RD Y H B d x/\RD Y H B e y:=by
 cases r with
 |cons a s=>obtain⟨y,rfl,b⟩:=s.one;exact⟨_,_,rfl,a,b⟩
def Ztv(hY:Y.K=X.K):Zb5 X (.builtin "len") (rF Y E ZmF):=by
 intro aa s Z H xs us Q I r hh;obtain⟨ds,h,B,rh,rs,f⟩:=hh;unfold ZmF at f;split at f
 . obtain⟨hz,f⟩:=f.iff;obtain⟨x,rfl,rd⟩:=rs.one;obtain⟨rfl,ok⟩:=rd.str_inv;exact Zj5 aa s Z H _ us Q I r ⟨_,rfl,hz,f.ok rh (.int _)⟩
 . obtain⟨e,e1,f⟩:=f.ofO;obtain⟨zs,e2,rfl⟩:=Oo.mp e1;obtain⟨x,rfl,rd⟩:=rs.one;obtain⟨a,vs,rfl,hq,rv⟩:=rd.seqOf rh e2;refine Zj6 aa s Z H _ us Q I r ⟨a,vs,rfl,hY▸hq,?_⟩;rw[<-rv.length];exact f.ok rh (.int _)
 . exact f.elim
def ZsZ{K:Yk}{t T:String}{b:Bool}(e:Zml t T=J b):PySem.W.kitOne K (.type t) (.type T)=J b:=by
 have all:(["int", "str", "bool", "tuple", "list"].all λT=>["int", "str", "bool", "tuple", "list", "NoneType"].all λt=>Wz (PySem.W.kitOne [] (.type t) (.type T)=J (t==T||(t == "bool" && T == "int"))))=Wx:=by decide +kernel
 unfold Zml at e;split at e
 . rename_i hm;cases e;rw[OC]at all;have R:=all T hm.1;rw[OC]at R;exact ZoR (of_decide_eq_true (R t hm.2))
 . cases e
def Zwx(hY:Y.K=X.K)(rh:RH Y H B h)(r:RD Y H B d v)(e:Zwy d h=J t):TyN X.K v H t:=by
 have lst:(IV.lstOf d h).map (λ_ => "list")=J t->TyN X.K v H t:=λe=>by obtain⟨xs,e1,rfl⟩:=Oo.mp e;obtain⟨a,vs,rfl,hl,rs⟩:=r.lstOf rh e1;exact .inl ⟨rfl,vs,hY▸hl⟩
 cases d with
 |int i=>cases e;cases r;rfl
 |str i=>cases e;cases r;rfl
 |bl i=>cases e;cases r;rfl
 |non=>cases e;cases r;rfl
 |tup xs=>cases e;obtain⟨a,vs,rfl,t,rs⟩:=r.tup_inv;exact .inr ⟨rfl,vs,hY▸t⟩
 |ref i=>exact lst e
 |ro xs=>exact lst e
 |ty n=>exact lst e
 |kd x=>exact lst e
def Ztw(hY:Y.K=X.K):Zb5 X (.builtin "isinstance") (rF Y E Zwd):=by
 intro aa s Z H xs us Q I r hh;obtain⟨ds,h,B,rh,rs,f⟩:=hh;unfold Zwd at f;split at f
 . obtain⟨e,e1,f⟩:=f.ofO;obtain⟨t,e2,e3⟩:=Option.bind_eq_some_iff.mp e1;obtain⟨b,e4,rfl⟩:=Oo.mp e3;obtain⟨x,y,rfl,r1,r2⟩:=rs.two;cases r2;exact Zro aa s Z H _ us Q I r ⟨x,t,_,b,rfl,Zwx hY rh r1 e2,ZsZ e4,f.ok rh (.bl _)⟩
 . exact f.elim
def Ztx:Zb5 X (.type "int") (rF Y E Zwe):=by
 intro aa s Z H xs us Q I r hh;obtain⟨ds,h,B,rh,rs,f⟩:=hh;unfold Zwe at f;split at f
 . obtain⟨x,rfl,r1⟩:=rs.one;cases r1;exact Zjm aa s Z H _ us Q I r (.inl ⟨_,rfl,f.ok rh (.int _)⟩)
 . obtain⟨x,rfl,r1⟩:=rs.one;cases r1;exact Zjm aa s Z H _ us Q I r (.inr ⟨_,rfl,f.ok rh (.int _)⟩)
 . exact f.elim
def Zts(hY:Y.K=X.K):Zb5 X (.type "tuple") (rF Y E ZtC):=by
 intro aa s Z H xs us Q I r hh;obtain⟨ds,h,B,rh,rs,f⟩:=hh;unfold ZtC at f;split at f
 . obtain⟨x,rfl,r1⟩:=rs.one;obtain⟨a,vs,rfl,t,rv⟩:=r1.tup_inv;exact Zfg aa s Z H _ us Q I r ⟨a,vs,rfl,.inr ⟨hY▸t,f.ok rh (.tup t rv)⟩⟩
 . obtain⟨e,e1,f⟩:=f.ofO;obtain⟨zs,e2,rfl⟩:=Oo.mp e1;obtain⟨x,rfl,r1⟩:=rs.one;obtain⟨a,vs,rfl,hl,rv⟩:=r1.lstOf rh e2;exact Zfg aa s Z H _ us Q I r ⟨a,vs,rfl,.inl ⟨hY▸hl,λp hp=>f.tup rh hp rv⟩⟩
 . exact f.elim
theorem Zh2:∀{ds:List D}{vs:List V}{ns:List Int},RDs Y H B ds vs->intsOf ds=J ns->vs=ns.map V.int
 |_,_,_,.nil,e=>by cases e;rfl
 |_,_,_,.cons (d:=d) a s,e=>by
  cases d with
  |int i=>rw[intsOf]at e;obtain⟨z,e1,rfl⟩:=Oo.mp e;cases a;rw[Zh2 s e1];rfl
  |_=>cases e
def Ztt(hc:X.A.handled=M)(hY:Y.K=X.K):Zb5 X (.builtin "sum") (rF Y E Zry):=by
 intro aa s Z H xs us Q I r hh;obtain⟨ds,h,B,rh,rs,f⟩:=hh;unfold Zry at f;split at f
 . obtain⟨e,e1,f⟩:=f.ofO;obtain⟨ns,e2,rfl⟩:=Oo.mp e1;obtain⟨zs,e3,e4⟩:=Option.bind_eq_some_iff.mp e2;obtain⟨x,rfl,r1⟩:=rs.one;obtain⟨a,vs,rfl,hl,rv⟩:=r1.lstOf rh e3;rw[Zh2 rv e4]at hl;exact Zo0 hc aa s Z H _ us Q I r ⟨a,ns,rfl,hY▸hl,f.ok rh (.int _)⟩
 . exact f.elim
def rM(Y:Yx)(E:XK)(m:Mf):V->List V->Hp->VK->Prop:=λx xs H Q=>∃d ds h B,RH Y H B h/\RD Y H B d x/\RDs Y H B ds xs/\Fin Y (RD Y) H B (ZcB m d ds h) Q E
noncomputable def mid:Mf->String
 |.app => "list.append"
 |.ext => "list.extend"
 |.pop => "list.pop"
 |.rev => "list.reverse"
 |.clr => "list.clear"
def Znq(hY:Y.K=X.K)(m:Mf):MtM X (mid m) (rM Y E m):=by
 intro aa s Z H x xs v us Q I rx rs hh;obtain⟨d,ds,h,B,rh,r1,r2,f⟩:=hh;unfold ZcB at f;split at f
 . split at f
   . rename_i i ys e;obtain⟨a,vs,rfl,hi,hl,rv⟩:=r1.lst rh e;cases m with
     |app=>
      unfold ZiI Zvs at f;simp only at f;split at f
      . obtain⟨hz,f⟩:=f.iff;obtain⟨y,rfl,ry⟩:=r2.one;have g:Gr H B (upd H a (.lst (vs++[y]))) B:=Gr.write (O1 hi) (by rw[hl];trivial);exact Zi6 aa s Z H _ _ v us Q I rx rs ⟨a,vs,y,rfl,rfl,hl,by rw[<-rv.length];exact hz,f.wrote rh hi ⟨_,Zt,(rv.append (.cons ry .nil)).mono rh g⟩ .non (by rw[hl];trivial)⟩
      . exact f.elim
     |ext=>
      unfold ZiI ZsR at f;simp only at f;split at f
      . split at f
        . rename_i zs e2;obtain⟨hz,f⟩:=f.iff;obtain⟨y,rfl,ry⟩:=r2.one;obtain⟨b,ws,rfl,hj,bN,az⟩:=ry.lst rh e2;have g:Gr H B (upd H a (.lst (vs++ws))) B:=Gr.write (O1 hi) (by rw[hl];trivial);exact ZoM aa s Z H _ _ v us Q I rx rs ⟨a,b,vs,ws,rfl,rfl,hl,bN,by rw[<-rv.length,<-az.length];exact hz,f.wrote rh hi ⟨_,Zt,(rv.append az).mono rh g⟩ .non (by rw[hl];trivial)⟩
        . exact f.elim
      . obtain⟨hz,f⟩:=f.iff;obtain⟨y,rfl,ry⟩:=r2.one;obtain⟨b,ws,rfl,t,az⟩:=ry.tup_inv;have g:Gr H B (upd H a (.lst (vs++ws))) B:=Gr.write (O1 hi) (by rw[hl];trivial);exact Zma aa s Z H _ _ v us Q I rx rs ⟨a,b,vs,ws,rfl,rfl,hl,hY▸t,by rw[<-rv.length,<-az.length];exact hz,f.wrote rh hi ⟨_,Zt,(rv.append az).mono rh g⟩ .non (by rw[hl];trivial)⟩
      . exact f.elim
     |pop=>
      unfold ZiI Zvr at f;simp only at f;split at f
      . split at f
        . rename_i y e2;cases r2;rw[rv.length]at e2;obtain⟨w,e3,az⟩:=rv.get e2;have g:Gr H B (upd H a (.lst vs.dropLast)) B:=Gr.write (O1 hi) (by rw[hl];trivial);exact Zvo aa s Z H _ _ v us Q I rx rs ⟨a,vs,w,rfl,rfl,hl,e3,f.wrote rh hi ⟨_,Zt,rv.dropLast.mono rh g⟩ (az.mono rh g) (by rw[hl];trivial)⟩
        . exact f.elim
      . exact f.elim
     |rev=>
      unfold ZiI ZxC at f;simp only at f;split at f
      . cases r2;have g:Gr H B (upd H a (.lst vs.reverse)) B:=Gr.write (O1 hi) (by rw[hl];trivial);exact Zl9 aa s Z H _ _ v us Q I rx rs ⟨a,vs,rfl,rfl,hl,f.wrote rh hi ⟨_,Zt,rv.reverse.mono rh g⟩ .non (by rw[hl];trivial)⟩
      . exact f.elim
     |clr=>
      unfold ZiI ZxD at f;simp only at f;split at f
      . cases r2;exact ZqB aa s Z H _ _ v us Q I rx rs ⟨a,vs,rfl,rfl,hl,f.wrote rh hi ⟨_,Zt,.nil⟩ .non (by rw[hl];trivial)⟩
      . exact f.elim
   . exact f.elim
 . exact f.elim
def rP(Y:Yx)(E:XK):ZtG:=λo i v H Q=>∃a b c h B,RH Y H B h/\RD Y H B a o/\RD Y H B b i/\RD Y H B c v/\Fin Y (λ_ _ (_:Unit) (_:Unit)=>True) H B (Zb3 a b c h) (λ_ H'=>Q H') E
def ZuR:ZtH X (rP Y E):=by
 intro aa s Z H o i v ov iv u Q I ro ri rv hh;obtain⟨a,b,c,h,B,rh,ra,rb,rc,f⟩:=hh;unfold Zb3 at f;split at f
 . split at f
   . rename_i j xs e;split at f
     . split at f
       . rename_i j' e2;obtain⟨p,vs,rfl,hi,hl,rs⟩:=ra.lst rh e;have hb:=rb.int_inv;subst hb;rw[rs.length]at e2;have g:Gr H B (upd H p (.lst (vs.set j' v))) B:=Gr.write (O1 hi) (by rw[hl];trivial);exact set_list aa s Z H _ _ v ov iv u Q I ro ri rv ⟨p,vs,_,j',rfl,rfl,hl,e2,f.wrote (b:=()) rh hi ⟨_,Zt,(RDs.set rc j' rs).mono rh g⟩ trivial (by rw[hl];trivial)⟩
       . exact f.elim
     . exact f.elim
   . rename_i j kvs e;split at f
     . rename_i k e2;obtain⟨hz,f⟩:=f.iff;obtain⟨p,vs,rfl,hi,hl,rs⟩:=ra.dic rh e;have g:Gr H B (upd H p (.dK (putK vs k v))) B:=Gr.write (O1 hi) (by rw[hl];trivial);exact set_dict aa s Z H _ _ v ov iv u Q I ro ri rv ⟨p,vs,k,rfl,ZeR rb e2,hl,by rw[<-rs.length];exact hz,f.wrote (b:=()) rh hi ⟨_,Zt,(rs.put k rc).mono rh g⟩ trivial (by rw[hl];trivial) (ZhZ (rh.ks _ _ e) (ZqP rb e2))⟩
     . exact f.elim
   . exact f.elim
 . exact f.elim
end
def rW(K:Yk)(x:V)(H1:Hp)(qe:It->Hp->Prop):Prop:=(∃a,x=.ref a/\(∃xs,SqL K H1 a xs)/\qe (Itl K a) H1)\/(∃a,x=.ref a/\(∃xs,SqT K H1 a xs)/\qe (Itt K a) H1)
def ZuZ(hl:PE X l tl):PI X tg l (λZ H qe=>tl Z H λx H1=>rW X.K x H1 qe):=by
 intro aa s Z H qe I h;refine thn (hl aa s Z H _ I h) λv s1 ⟨x,H1,I1,r1,q1⟩=>?_;have jV:∀b∈[s1.heap.objs.size],Zcg X aa H1 b:=λb hb=>by
  have e:b=s1.heap.objs.size:=by simpa using hb
  subst e;exact I1.fpOk (Oq _) (I1.hok.fresh (Oq _))
 rcases q1 with⟨a,rfl,⟨xs,hq⟩,q⟩|⟨a,rfl,⟨xs,hq⟩,q⟩
 . cases r1;obtain⟨its,rv,p,hz⟩:=I1.list hq;exact wpAny_pyIter_list p.isList ⟨s1.heap.objs.size,[s1.heap.objs.size],_,_,H1,rfl,I1.kept (t':=s1.toks) λb o e=>Od _ e,Zn8 a _,⟨_,Oj _ rfl,rfl,rfl⟩,jV,q⟩
 . cases r1;obtain⟨its,rv,p,hz⟩:=I1.tuple hq;exact wpAny_pyIter_tuple (show s1.heap.IsTuple a its.toArray from p) ⟨s1.heap.objs.size,[s1.heap.objs.size],_,_,H1,rfl,I1.kept (t':=s1.toks) λb o e=>Od _ e,ZlH a _,⟨_,Oj _ rfl,rfl,rfl⟩,jV,q⟩
def WJ(Y:Yx)(H0:Hp)(μ0:List Yi)(w:Wk)(qb:It):Prop:=∀H B h,Gr H0 μ0 H B->RH Y H B h->Wk.stays w.src h=Wx ->
 (∀i d,w.xs[i]?=J d->qb.go i H/\∀x H',qb.yld i H x H'->Gr H B H' B/\RH Y H' B h/\RD Y H' B d x)/\qb.stop w.xs.length H
section
variable {X:Cx}{Y:Yx}{H:Hp}{B:List Yi}{h:Hd}
def Zud(hY:Y.K=X.K)(rh:RH Y H B h)(t:SqT Y.K H a vs)(s:RDs Y H B xs vs):WJ Y H B ⟨M,xs⟩ (Itt X.K a):=by intro H1 μ1 R g ac st;have t1:=g.rdT rh t;have s1:=s.mono rh g;rw[hY]at t1;refine⟨λi d e=>?_,⟨vs,t1,by rw[s.length];exact Oq _⟩⟩;obtain⟨v,e1,r1⟩:=s1.get e;refine⟨⟨vs,v,t1,e1⟩,λx H' ⟨eH,q⟩=>?_⟩;subst eH;have:=q vs t1;rw[e1]at this;cases this;exact⟨Gr.refl,ac,r1⟩
def ZtJ(hY:Y.K=X.K)(rh:RH Y H B h)(t:FzL Y.K H a vs)(s:RDs Y H B xs vs):WJ Y H B ⟨M,xs⟩ (Itl X.K a):=by intro H1 μ1 R g ac st;have t1:=(g.rdF rh t).sq;have s1:=s.mono rh g;rw[hY]at t1;refine⟨λi d e=>?_,⟨vs,t1,by rw[s.length];exact Oq _⟩⟩;obtain⟨v,e1,r1⟩:=s1.get e;refine⟨⟨vs,v,t1,e1⟩,λx H' ⟨eH,q⟩=>?_⟩;subst eH;have:=q vs t1;rw[e1]at this;cases this;exact⟨Gr.refl,ac,r1⟩
def ZhK(st:Wk.stays (J (i,xs)) h=Wx):h[i]?=J (.lst xs):=of_decide_eq_true st
def Zpk(hi:B[i]?=J a):WJ Y H B ⟨J (i,xs),xs⟩ (Itl X.K a):=by intro H1 μ1 R g ac st;obtain⟨vs,hl,s1⟩:=ac.ob i _ a (ZhK st) (g.pre i a hi);have t1:SqL X.K H1 a vs:=.of hl;refine⟨λi d e=>?_,⟨vs,t1,by rw[s1.length];exact Oq _⟩⟩;obtain⟨v,e1,r1⟩:=s1.get e;refine⟨⟨vs,v,t1,e1⟩,λx H' ⟨eH,q⟩=>?_⟩;subst eH;have:=q vs t1;rw[e1]at this;cases this;exact⟨Gr.refl,ac,r1⟩
def Zue{lo:Int}:WJ Y H B ⟨M,Zci lo n⟩ (Itr lo n):=by
 intro H1 μ1 R g ac st;have hl:(Zci lo n).length=n:=by simp[Zci]
 refine⟨λi d e=>?_,by show n<=(Zci lo n).length;rw[hl];exact Oq _⟩;have hi:i<n:=by have:=(Ob.mp e).1;rw[hl]at this;exact this
 refine⟨hi,λx H' ⟨eH,q⟩=>?_⟩;subst eH q;have:d=.int (lo+i):=by unfold Zci at e;rw[O2,List.getElem?_range hi]at e;exact(YF e).symm
 subst this;exact⟨Gr.refl,ac,.int _⟩
def Zra{xs:List D}{i:Nat}{d:D}(e:(Zeo xs)[i]?=J d):∃x,xs[i]?=J x/\d=.tup [.int i,x]:=by unfold Zeo at e;rw[List.getElem?_mapIdx]at e;obtain⟨x,e1,e2⟩:=Oo.mp e;exact⟨x,e1,e2.symm⟩
def ZmL{a:Yi}{src:Option (Nat×List D)}{xs:List D}(hw:WJ Y H B ⟨src,xs⟩ (Itl X.K a))(sq:∀H1 μ1 R,Gr H B H1 μ1->RH Y H1 μ1 R->Wk.stays src R=Wx->∃vs,SqL X.K H1 a vs/\RDs Y H1 μ1 xs vs):WJ Y H B ⟨src,Zeo xs⟩ (Ite X.K a):=by
 intro H1 μ1 R g ac st;obtain⟨vs,t1,s1⟩:=sq H1 μ1 R g ac st;have hl:(Zeo xs).length=xs.length:=by simp[Zeo]
 refine⟨λi d e=>?_,⟨vs,t1,by rw[hl,s1.length]⟩⟩;obtain⟨x0,e0,rfl⟩:=Zra e;obtain⟨v,e1,r1⟩:=s1.get e0;refine⟨⟨vs,v,t1,e1⟩,λx H' ⟨p,ex,hp,y,q,eH⟩=>?_⟩;subst ex eH;have:=q vs t1;rw[e1]at this;cases this;exact⟨Gr.lay0 hp,ac.lay0 hp,.tup (.inl (.inl Zt)) (.cons (.int _) (.cons (r1.mono ac (Gr.lay0 hp)) .nil))⟩
def Zuf(hY:Y.K=X.K)(rh:RH Y H B h)(t:SqT Y.K H a vs)(s:RDs Y H B xs vs):WJ Y H B ⟨M,xs.reverse⟩ (Itv X.K a vs.length):=by intro H1 μ1 R g ac st;have t1:=g.rdT rh t;have s1:=(s.mono rh g).reverse;rw[hY]at t1;refine⟨λi d e=>?_,⟨vs,t1,rfl,by simp[s.length]⟩⟩;obtain⟨v,e1,r1⟩:=s1.get e;refine⟨⟨vs,v,t1,rfl,e1⟩,λx H' ⟨eH,q⟩=>?_⟩;subst eH;have:=q vs t1;rw[e1]at this;cases this;exact⟨Gr.refl,ac,r1⟩
def ZrF(hi:B[i]?=J a):WJ Y H B ⟨J (i,xs),xs.reverse⟩ (Zwi X.K a xs.length):=by intro H1 μ1 R g ac st;obtain⟨vs,hl,s0⟩:=ac.ob i _ a (ZhK st) (g.pre i a hi);have t1:SqL X.K H1 a vs:=.of hl;have s1:=s0.reverse;refine⟨λi d e=>?_,⟨vs,t1,s0.length.symm,by simp⟩⟩;obtain⟨v,e1,r1⟩:=s1.get e;refine⟨⟨vs,v,t1,s0.length.symm,e1⟩,λx H' ⟨eH,q⟩=>?_⟩;subst eH;have:=q vs t1;rw[e1]at this;cases this;exact⟨Gr.refl,ac,r1⟩
def ZrH{d:D}{qe:It->Hp->Prop}(hY:Y.K=X.K)(rh:RH Y H B h)(r:RD Y H B d x)(e:ZaV d h=J w)(q:∀qb,WJ Y H B w qb->qe qb H):rW X.K x H qe:=by
 cases d with
 |tup xs=>cases e;obtain⟨a,vs,rfl,t,s⟩:=r.tup_inv;exact .inr ⟨a,rfl,⟨vs,hY▸t⟩,q _ (Zud hY rh t s)⟩
 |ro xs=>
  cases e;cases r with
  |ro t s=>exact .inl ⟨_,rfl,⟨_,hY▸t.sq⟩,q _ (ZtJ hY rh t s)⟩
 |ref i=>
  unfold ZaV at e;simp only at e;split at e
  . rename_i xs he;cases e;obtain⟨a,vs,rfl,hi,hl,s⟩:=r.lst rh he;exact .inl ⟨a,rfl,⟨vs,.of hl⟩,q _ (Zpk hi)⟩
  . cases e
 |_=>cases e
end
structure Kl where
 cs:List Str
 ats:List Str
 ms:List (Str×Str)
 is:List Str
 xs:List Str:=[]
structure Gm where
 N:List Str
 sc:Scope
 fs:List Str
 top:Bool
 kl:Kl
noncomputable def glb(Γ:Gm)(x:Str):Bool:=Wz (Γ.sc.names.lookup x=J .globalImplicit)&&!(x==("__debug__" : Str))
noncomputable def ZrJ(sc:Scope)(x:Str):Bool:=Wz (sc.names.lookup x=J .local)||Wz (sc.names.lookup x=J .cell)||Wz (sc.names.lookup x=J .free)
noncomputable def ZnT:Bf->Str
 |.len => "len" |.isi => "isinstance" |.int => "int" |.tup => "tuple" |.lst => "list" |.sum => "sum" |.all => "all" |.srt => "sorted" |.mx => "max"
noncomputable def bok:Bf->Bool
 |.mx=>Wy
 |.lst=>Wy
 |.all=>Wy
 |_=>Wx
noncomputable def ZqC:Mf->Str
 |.app => "append" |.ext => "extend" |.pop => "pop" |.rev => "reverse" |.clr => "clear"
noncomputable def ZnU:List Str:=["len", "isinstance", "int", "tuple", "list", "sum", "all", "sorted", "range", "enumerate", "reversed", "str", "bool", "max", "repr", "zip", "set", "dict", "any"]
noncomputable def ZmP:List String:=["int", "str", "bool", "tuple", "list"]
structure Pt where
 a:Expr:=default
 b:Expr:=default
 c:Expr:=default
 xs:List Expr:=[]
 s:Str:=⟨#[]⟩
 op:Operator:=.Add
 cs:List CmpOp:=[]
 u:UnaryOp:=.Not
 bo:BoolOp:=.And
 p:Pos:=default
 kw:List Keyword:=[]
 l:Option Expr:=M
 h:Option Expr:=M
 st:Option Expr:=M
 ks:List (Option Expr):=[]
 gs:List Comprehension:=[]
 sc:Scope:=default
 k:Nat:=0
 v:Const:=.none
noncomputable def tgE:Expr->Nat
 |.Starred _ _=>0|.BoolOp _ _ _=>1|.UnaryOp _ _ _=>2|.IfExp _ _ _ _=>3|.Compare _ _ _ _=>4|.Slice _ _ _ _=>5|.Name _ _=>6|.BinOp _ _ _ _=>7|.Tuple _ _ _=>8|.List _ _=>9
 |.Subscript _ _ _=>10|.Call _ _ _ _=>11|.Attribute _ _ _=>12|.ListComp _ _ _ _=>13|.Dict _ _ _=>14|.Constant _ _ _=>15|.NamedExpr _ _ _=>17|.Set _ _ _=>18|.SetComp _ _ _ _=>19|.DictComp _ _ _ _ _=>19|_=>16
def prt(e:Expr):Pt:=match e with
 |.BoolOp o xs p=>{bo:=o,xs:=xs,p:=p}
 |.UnaryOp o x p=>{a:=x,u:=o,p:=p}
 |.IfExp t x y p=>{a:=t,b:=x,c:=y,p:=p}
 |.Compare l os rs p=>{a:=l,cs:=os,xs:=rs,p:=p}
 |.Slice l u s p=>{l:=l,h:=u,st:=s,p:=p}
 |.Name x p=>{s:=x,p:=p}
 |.BinOp l o r p=>{a:=l,b:=r,op:=o,p:=p}
 |.Tuple xs k p=>{xs:=xs,k:=k,p:=p}
 |.List xs p=>{xs:=xs,p:=p}
 |.Subscript x y p=>{a:=x,b:=y,p:=p}
 |.Call f xs kw p=>{a:=f,xs:=xs,kw:=kw,p:=p}
 |.Attribute x n p=>{a:=x,s:=n,p:=p}
 |.ListComp x gs sc p=>{a:=x,gs:=gs,p:=p,sc:=sc}
 |.Dict ks vs p=>{ks:=ks,xs:=vs,p:=p}
 |.Constant c k p=>{v:=c,k:=k,p:=p}
 |_=>{a:=e}
def mkE(n:Nat)(p:Pt):Expr:=match n with
 |1=>.BoolOp p.bo p.xs p.p|2=>.UnaryOp p.u p.a p.p|3=>.IfExp p.a p.b p.c p.p|4=>.Compare p.a p.cs p.xs p.p|5=>.Slice p.l p.h p.st p.p|6=>.Name p.s p.p|7=>.BinOp p.a p.op p.b p.p
 |8=>.Tuple p.xs p.k p.p|9=>.List p.xs p.p|10=>.Subscript p.a p.b p.p|11=>.Call p.a p.xs p.kw p.p|12=>.Attribute p.a p.s p.p
 |13=>.ListComp p.a p.gs p.sc p.p|14=>.Dict p.ks p.xs p.p|15=>.Constant p.v p.k p.p|_=>p.a
def rb(e:Expr):mkE (tgE e) (prt e)=e:=by cases e<;>rfl
def bL{a b:Bool}(h:(a&&b)=Wx):a=Wx:=by cases a with|true=>rfl|false=>cases h
def bR{a b:Bool}(h:(a&&b)=Wx):b=Wx:=by cases a with|true=>exact h|false=>cases h
def bO{a b:Bool}{P:Prop}(h:(a||b)=Wx)(l:a=Wx->P)(r:b=Wx->P):P:=by cases a with|true=>exact l rfl|false=>exact r h
def ff{P:Prop}(h:Wy=Wx):P:=by cases h
def dS{α:Type}{P:α->Prop}{a b:α}[Decidable (a=b)](h:Wz (a=b)=Wx)(k:P b):P a:=of_decide_eq_true h▸k
def an(n:Nat)(e:Expr)(f:Pt->Bool):Bool:=Wz (tgE e=n)&&f (prt e)
section
variable {P:Expr->Prop}{e:Expr}
def Zbo(h:an n e f=Wx)(k:∀p,f p=Wx->P (mkE n p)):P e:=rb e▸dS (P:=λm=>P (mkE m (prt e))) (bL h) (k _ (bR h))
noncomputable def l1{α:Type}(xs:List α)(f:α->Bool):Bool:=match xs with
 |[y]=>f y
 |_=>Wy
@[elab_as_elim] theorem Zaw{α:Type}{P:List α->Prop}{xs:List α}{f:α->Bool}(h:l1 xs f=Wx)(k:∀y,f y=Wx->P [y]):P xs:=by
 cases xs with
 |nil=>cases h
 |cons y r=>
  cases r with
  |nil=>exact k y h
  |cons _ _=>cases h
noncomputable def l2{α:Type}(xs:List α)(f:α->α->Bool):Bool:=match xs with
 |[x,y]=>f x y
 |_=>Wy
@[elab_as_elim] theorem ZxJ{α:Type}{P:List α->Prop}{xs:List α}{f:α->α->Bool}(h:l2 xs f=Wx)(k:∀x y,f x y=Wx->P [x,y]):P xs:=by
 cases xs with
 |nil=>cases h
 |cons x r=>
  cases r with
  |nil=>cases h
  |cons y r=>
   cases r with
   |nil=>exact k x y h
   |cons _ _=>cases h
noncomputable def l0{α:Type}(xs:List α)(b:Bool):Bool:=xs.isEmpty&&b
def Zja{α:Type}{P:List α->Prop}{xs:List α}(h:l0 xs b=Wx)(k:b=Wx->P []):P xs:=by
 cases xs with
 |nil=>exact k h
 |cons _ _=>cases h
@[irreducible] def aN(e:Expr)(f:Str->Bool):Bool:=an 6 e λp=>f p.s
@[elab_as_elim] theorem Zxy(h:aN e f=Wx)(k:∀x q,f x=Wx->P (.Name x q)):P e:=by unfold aN at h;exact Zbo h λ_ h=>k _ _ h
@[irreducible] def aX(x:Str)(e:Expr)(b:Bool):Bool:=an 6 e λp=>Wz (p.s=x)&&b
@[elab_as_elim] theorem Zpg(h:aX x e b=Wx)(k:∀q,b=Wx->P (.Name x q)):P e:=by unfold aX at h;exact Zbo h λp h=>dS (P:=λs=>P (.Name s p.p)) (bL h) (k _ (bR h))
@[irreducible] def aB2(o:Operator)(e:Expr)(f:Expr->Expr->Bool):Bool:=an 7 e λp=>Wz (p.op=o)&&f p.a p.b
@[elab_as_elim] theorem Zyc(h:aB2 o e f=Wx)(k:∀l r q,f l r=Wx->P (.BinOp l o r q)):P e:=by unfold aB2 at h;exact Zbo h λp h=>dS (P:=λs=>P (.BinOp p.a s p.b p.p)) (bL h) (k _ _ _ (bR h))
@[irreducible] def aC1(o:CmpOp)(e:Expr)(f:Expr->Expr->Bool):Bool:=an 4 e λp=>Wz (p.cs=[o])&&l1 p.xs λr=>f p.a r
@[elab_as_elim] theorem ZnS(h:aC1 o e f=Wx)(k:∀l r q,f l r=Wx->P (.Compare l [o] [r] q)):P e:=by unfold aC1 at h;exact Zbo h λp h=>dS (P:=λs=>P (.Compare p.a s p.xs p.p)) (bL h) (Zaw (P:=λs=>P (.Compare p.a [o] s p.p)) (bR h) λ_ h=>k _ _ _ h)
@[irreducible] def aU(u:UnaryOp)(e:Expr)(f:Expr->Bool):Bool:=an 2 e λp=>Wz (p.u=u)&&f p.a
@[elab_as_elim] theorem Zui(h:aU u e f=Wx)(k:∀x q,f x=Wx->P (.UnaryOp u x q)):P e:=by unfold aU at h;exact Zbo h λp h=>dS (P:=λs=>P (.UnaryOp s p.a p.p)) (bL h) (k _ _ (bR h))
@[irreducible] def aO(o:BoolOp)(e:Expr)(f:List Expr->Bool):Bool:=an 1 e λp=>Wz (p.bo=o)&&f p.xs
@[elab_as_elim] theorem ZsK(h:aO o e f=Wx)(k:∀xs q,f xs=Wx->P (.BoolOp o xs q)):P e:=by unfold aO at h;exact Zbo h λp h=>dS (P:=λs=>P (.BoolOp s p.xs p.p)) (bL h) (k _ _ (bR h))
@[irreducible] def aI(e:Expr)(f:Expr->Expr->Expr->Bool):Bool:=an 3 e λp=>f p.a p.b p.c
@[elab_as_elim] theorem Zy5(h:aI e f=Wx)(k:∀t x y q,f t x y=Wx->P (.IfExp t x y q)):P e:=by unfold aI at h;exact Zbo h λ_ h=>k _ _ _ _ h
@[irreducible] def aT(e:Expr)(f:List Expr->Bool):Bool:=an 8 e λp=>f p.xs
@[elab_as_elim] theorem Zkt(h:aT e f=Wx)(k:∀xs j q,f xs=Wx->P (.Tuple xs j q)):P e:=by unfold aT at h;exact Zbo h λ_ h=>k _ _ _ h
@[irreducible] def aLs(e:Expr)(f:List Expr->Bool):Bool:=an 9 e λp=>f p.xs
@[elab_as_elim] theorem ZxE(h:aLs e f=Wx)(k:∀xs q,f xs=Wx->P (.List xs q)):P e:=by unfold aLs at h;exact Zbo h λ_ h=>k _ _ h
@[irreducible] def aS(e:Expr)(f:Expr->Expr->Bool):Bool:=an 10 e λp=>f p.a p.b
@[elab_as_elim] theorem Zuz(h:aS e f=Wx)(k:∀x y q,f x y=Wx->P (.Subscript x y q)):P e:=by unfold aS at h;exact Zbo h λ_ h=>k _ _ _ h
@[irreducible] def aSl(e:Expr)(f:Expr->Option Expr->Option Expr->Bool):Bool:=aS e λx y=>an 5 y λp=>p.st.isNone&&f x p.l p.h
@[elab_as_elim] theorem ZwR(h:aSl e f=Wx)(k:∀x l u q r,f x l u=Wx->P (.Subscript x (.Slice l u M q) r)):P e:=by
 unfold aSl at h;exact Zuz h λx _ r h=>Zbo (P:=λy=>P (.Subscript x y r)) h λp h=>by show P (.Subscript x (.Slice p.l p.h p.st p.p) r);rw[Option.isNone_iff_eq_none.mp (bL h)];exact k _ _ _ _ _ (bR h)
@[irreducible] def aCN(n:Str)(e:Expr)(f:List Expr->Bool):Bool:=an 11 e λp=>aX n p.a (l0 p.kw (f p.xs))
@[elab_as_elim] theorem ZcH(h:aCN n e f=Wx)(k:∀p ys q,f ys=Wx->P (.Call (.Name n p) ys [] q)):P e:=by unfold aCN at h;exact Zbo h λp h=>Zpg (P:=λa=>P (.Call a p.xs p.kw p.p)) h λq h=>Zja (P:=λw=>P (.Call (.Name n q) p.xs w p.p)) h λh=>k _ _ _ h
@[irreducible] def aCk(n w:Str)(e:Expr)(f:List Expr->Expr->Bool):Bool:=an 11 e λp=>aX n p.a (l1 p.kw λy=>match y with|⟨a,z,_⟩=>Wz (a=J w)&&f p.xs z)
@[elab_as_elim] theorem Zx8(h:aCk n w e f=Wx)(k:∀p ys z r q,f ys z=Wx->P (.Call (.Name n p) ys [⟨J w,z,r⟩] q)):P e:=by
 unfold aCk at h;exact Zbo h λp h=>Zpg (P:=λa=>P (.Call a p.xs p.kw p.p)) h λq h=>Zaw (P:=λw=>P (.Call (.Name n q) p.xs w p.p)) h λy h=>match y,h with
  |⟨_,z,r⟩,h=>dS (P:=λs=>P (.Call (.Name n q) p.xs [⟨s,z,r⟩] p.p)) (bL h) (k _ _ _ _ _ (bR h))
@[irreducible] def aA(n:Str)(e:Expr)(f:Expr->Pos->Bool):Bool:=an 12 e λp=>Wz (p.s=n)&&f p.a p.p
@[elab_as_elim] theorem ZtF(h:aA n e f=Wx)(k:∀x q,f x q=Wx->P (.Attribute x n q)):P e:=by unfold aA at h;exact Zbo h λp h=>dS (P:=λs=>P (.Attribute p.a s p.p)) (bL h) (k _ _ (bR h))
@[irreducible] def aCA(n:Str)(e:Expr)(f:Expr->Pos->List Expr->Pos->Bool):Bool:=an 11 e λp=>aA n p.a λx ap=>l0 p.kw (f x ap p.xs p.p)
@[elab_as_elim] theorem Zrp(h:aCA n e f=Wx)(k:∀x ap ys cp,f x ap ys cp=Wx->P (.Call (.Attribute x n ap) ys [] cp)):P e:=by unfold aCA at h;exact Zbo h λp h=>ZtF (P:=λa=>P (.Call a p.xs p.kw p.p)) h λx q h=>Zja (P:=λw=>P (.Call (.Attribute x n q) p.xs w p.p)) h λh=>k _ _ _ _ h
@[irreducible] def aLC(e:Expr)(f:Expr->Expr->Expr->List Expr->Scope->Bool):Bool:=an 13 e λp=>l1 p.gs λg=>match g with|⟨t,i,c,n⟩=>Wz (n=0)&&f p.a t i c p.sc
@[elab_as_elim] theorem ZtZ(h:aLC e f=Wx)(k:∀x t i c sc q,f x t i c sc=Wx->P (.ListComp x [⟨t,i,c,0⟩] sc q)):P e:=by
 unfold aLC at h;exact Zbo h λp h=>Zaw (P:=λg=>P (.ListComp p.a g p.sc p.p)) h λg h=>match g,h with
  |⟨t,i,c,_⟩,h=>dS (P:=λs=>P (.ListComp p.a [⟨t,i,c,s⟩] p.sc p.p)) (bL h) (k _ _ _ _ _ _ (bR h))
@[irreducible] def aD(e:Expr)(f:List (Option Expr)->List Expr->Bool):Bool:=an 14 e λp=>f p.ks p.xs
@[elab_as_elim] theorem Zzc(h:aD e f=Wx)(k:∀ks vs q,f ks vs=Wx->P (.Dict ks vs q)):P e:=by unfold aD at h;exact Zbo h λ_ h=>k _ _ _ h
@[irreducible] def aK(e:Expr)(f:Const->Bool):Bool:=an 15 e λp=>f p.v
@[elab_as_elim] theorem ZxL(h:aK e f=Wx)(k:∀c j q,f c=Wx->P (.Constant c j q)):P e:=by unfold aK at h;exact Zbo h λ_ h=>k _ _ _ h
end
noncomputable def Zzf:D->Const->Bool
 |.int i,.int j=>Wz (i=j)
 |.str x,.str y=>Wz (x=y)&&Yo y
 |.bl b,.bool c=>Wz (b=c)
 |.non,.none=>Wx
 |_,_=>Wy
def Zya(Γ:Gm)(d:D)(e:Expr):Bool:=(aK e λc=>Zzf d c)||match d with
 |.ty n=>aX (Str.ofString n) e (Wz (n∈ZmP)&&glb Γ (Str.ofString n))
 |_=>Wy
noncomputable def Zrj(NC N:List Str)(js:List (Option Nat))(sc scope:Scope):Bool:=
 Wz (scope.kind=.function)&&Wz (sc.kind=.function)&&(scope.names.all λy=>Wz (y.2≠.cell))&&(scope.names.all λy=>!Wz (y.2=.local)||Wz (scope.names.lookup y.1=J .local)) &&
  (scope.names.all λy=>!Wz (y.2=.free)||Wz (sc.names.lookup y.1=J .cell))&&decide NC.Nodup&&Wz (js.length=NC.length) &&
  ((NC.zip js).all λp=>p.2.all λj=>Wz (N[j]?=J p.1)&&Wz (scope.names.lookup p.1=J .free))
def Zli(h:Zrj NC N js sc scope=Wx):CompSc NC N js sc scope:=by
 unfold Zrj at h;rw[Oa,Oa,Oa,Oa,Oa,Oa,Oa]at h;obtain⟨⟨⟨⟨⟨⟨⟨a,b⟩,c⟩,d⟩,e⟩,f⟩,g⟩,i⟩:=h;rw[OC]at c d e;refine⟨of_decide_eq_true a,of_decide_eq_true b,λy hy=>of_decide_eq_true (c y hy),λy hy e1=>?_,λy hy e1=>?_,of_decide_eq_true f,of_decide_eq_true g,i⟩
 . have:=d y hy;rw[decide_eq_true e1]at this;simpa using this
 . have:=e y hy;rw[decide_eq_true e1]at this;simpa using this
noncomputable def Zl8(N:List Str)(own:Str->Bool)(i:Nat)(e:Expr):Bool:=aN e λx=>Wz (N[i]?=J x)&&own x
def ZnO(N:List Str)(own:Str->Bool):List Nat->List Expr->Bool
 |[],es=>es.isEmpty
 |i::is,es=>match es with
  |e::es=>Zl8 N own i e&&ZnO N own is es
  |[]=>Wy
def ZnQ(N:List Str)(own:Str->Bool)(i j:Nat)(e:Expr):Bool:=aT e λes=>l2 es λa b=>Zl8 N own i a&&Zl8 N own j b
def ZnP(N:List Str)(own:Str->Bool)(is:List Nat)(e:Expr):Bool:=aT e λes=>ZnO N own is es
def Zto(N:List Str)(own:Str->Bool)(g:Tg)(e:Expr):Bool:=match g with
 |.nm i=>Zl8 N own i e
 |.two i j=>ZnQ N own i j e
 |.many is=>ZnP N own is e
@[elab_as_elim] theorem Zb7{P:Expr->Prop}(h:Zl8 N own i e=Wx)(k:∀x p,N[i]?=J x->own x=Wx->P (.Name x p)):P e:=Zxy h λ_ _ h=>k _ _ (of_decide_eq_true (bL h)) (bR h)
def isTup(e:Expr):Bool:=Wz (tgE e=8)
@[elab_as_elim] theorem Zt1{P:Expr->Prop}(h:isTup e=Wx)(k:∀xs j q,P (.Tuple xs j q)):P e:=Zkt (P:=P) (f:=λ_=>Wx) (by unfold aT an;rw[show Wz (tgE e=8)=Wx from h];rfl) λ_ _ _ _=>k _ _ _
noncomputable def tgk:Tg->Nat
 |.nm i=>i+1
 |.two i j=>max i j+1
 |.many is=>is.foldr max 0+1
noncomputable def Zxl(sc:Scope)(x:Str):Bool:=Wz (sc.names.lookup x=J .local)
noncomputable def ownD(sc:Scope)(x:Str):Bool:=Wz (sc.names.lookup x=J .local)||Wz (sc.names.lookup x=J .cell)
def Zfh(e:Expr):Bool:=Wz (tgE e≠18)
def ZhW(e:Expr):Bool:=Wz (tgE e≠5)
def Zag(e:Expr):Bool:=Wz (tgE e≠0)
def Zcl(e:Expr):Bool:=!(Wz (tgE e=11)&&(prt e).xs.isEmpty)
def Zl1(e:Expr):Bool:=Wz (6<=tgE e)&&Wz (tgE e<=16)
mutual
def chk(Γ:Gm):Ex->Expr->Bool
 |.var i,e=>aN e λx=>Wz (Γ.N[i]?=J x)&&(ZrJ Γ.sc x&&(!(x==("__debug__" : Str))&&!(x==("__classdict__" : Str))))
 |.cst d,e=>Zya Γ d e
 |.glo x,e=>aX x e (glb Γ x)
 |.bin op a b,e=>aB2 op e λl r=>chk Γ a l&&chk Γ b r
 |.cmp op a b,e=>aC1 op e λl r=>chk Γ a l&&(chk Γ b r&&Zfh r)
 |.cmp2 _ _ _ _ _,_=>Wy
 |.neg a,e=>aU .USub e λx=>chk Γ a x
 |.nt a,e=>aU .Not e λx=>chk Γ a x
 |.ands es,e=>aO .And e λxs=>chks Γ es xs
 |.ors es,e=>aO .Or e λxs=>chks Γ es xs
 |.ite c a b,e=>aI e λt x y=>chkt Γ c t&&(chk Γ a x&&chk Γ b y)
 |.tupl es,e=>aT e λxs=>chks Γ es xs
 |.lstl es,e=>aLs e λxs=>chks Γ es xs
 |.ix a i,e=>aS e λx y=>chk Γ a x&&(chk Γ i y&&ZhW y)
 |.sl a lo hi,e=>aSl e λx l u=>chk Γ a x&&(chko Γ lo l&&chko Γ hi u)
 |.blt f es,e=>aCN (ZnT f) e λys=>(bok f&&glb Γ (ZnT f))&&(chks Γ es ys&&!ys.isEmpty)
 |.call f es,e=>aCN f e λys=>Wz (f∈Γ.fs)&&(glb Γ f&&(chks Γ es ys&&!ys.isEmpty))
 |.meth m o es,e=>aCA (ZqC m) e λx ap ys cp=>chk Γ o x&&(Zcl x&&(chks Γ es ys&&(Wz (ys.length<29)&&(ap.endLine==cp.line))))
 |.trev e,x=>aCN "tuple" x λys=>l1 ys λz=>aCN "reversed" z λys=>l1 ys λy=>glb Γ "tuple" && (glb Γ "reversed" && (chk Γ e y&&Zag y))
 |.lrv _,_=>Wy
 |.tix o e,x=>aCA "index" x λx ap ys cp=>l1 ys λy=>chk Γ o x&&(Zcl x&&(chk Γ e y&&(Zag y&&(ap.endLine==cp.line))))
 |.lix _ _,_=>Wy
 |.lin _ _,_=>Wy
 |.rpn a b,e=>aC1 .NotEq e λl r=>aCN "repr" l λys=>l1 ys λy=>aCN "repr" r λzs=>l1 zs λz=>glb Γ "repr" && (chk Γ a y&&(Zag y&&(chk Γ b z&&Zag z)))
 |.comp NC js it g c e,x=>aLC x λaC tg iter bb scope=>Γ.top&&(Zrj NC Γ.N js Γ.sc scope&&(chki Γ it tg iter&&(Zfh iter&&(Zto NC (Zxl scope) g tg&&(((List.range (tgk g)).all λj=>Wz (js[j]?=J M)) &&
  (chkf ⟨NC,scope,Γ.fs,Wy,Γ.kl⟩ c bb&&chk ⟨NC,scope,Γ.fs,Wy,Γ.kl⟩ e aC))))))
 |.sorts _,_=>Wy
 |.maxd a d,e=>aCk "max" "default" e λys z=>l1 ys λy=>glb Γ "max" && (chk Γ a y&&(Zag y&&chk Γ d z))
 |.dictl ps,e=>aD e λkeys values=>Wz (keys.length<=15)&&chkp Γ ps keys values
 |.att Cs o f,e=>aA f e λx _=>chk Γ o x&&(Zcl x&&((Cs.all λC=>Wz (C∈Γ.kl.cs))&&Wz (f∈Γ.kl.ats)))
 |.mk C es,e=>aCN C e λys=>Wz (C∈Γ.kl.is)&&(glb Γ C&&chks Γ es ys)
 |.mcl C m o es,e=>aCA m e λx ap ys cp=>chk Γ o x&&(Zcl x&&(chks Γ es ys&&(Wz ((C,m)∈Γ.kl.ms)&&(Wz (ys.length<29)&&(ap.endLine==cp.line)))))
 |.any,_=>Wx
def chks(Γ:Gm):Exs->List Expr->Bool
 |.nil,es=>es.isEmpty
 |.cons e r,es=>match es with
  |x::xs=>chk Γ e x&&(Zag x&&chks Γ r xs)
  |[]=>Wy
def chkp(Γ:Gm):Exs->List (Option Expr)->List Expr->Bool
 |.nil,ks,vs=>ks.isEmpty&&vs.isEmpty
 |.cons k r,ks,vs=>match r with
  |.cons v r'=>match ks,vs with
   |some kx::ks,vx::vs=>chk Γ k kx&&(chk Γ v vx&&chkp Γ r' ks vs)
   |_,_=>Wy
  |.nil=>Wy
def chko(Γ:Gm):Option Ex->Option Expr->Bool
 |none,x=>x.isNone
 |some a,x=>match x with
  |some x=>chk Γ a x
  |none=>Wy
def chkf(Γ:Gm):Option Tx->List Expr->Bool
 |none,x=>x.isEmpty
 |some a,x=>l1 x λx=>chkt Γ a x
def Zzd(Γ:Gm):Ex->Expr->Bool
 |.cmp op a b,e=>aC1 op e λl r=>chk Γ a l&&(chk Γ b r&&Zfh r)
 |.rpn a b,e=>aC1 .NotEq e λl r=>aCN "repr" l λys=>l1 ys λy=>aCN "repr" r λzs=>l1 zs λz=>glb Γ "repr" && (chk Γ a y&&(Zag y&&(chk Γ b z&&Zag z)))
 |_,_=>Wy
def chkt(Γ:Gm):Tx->Expr->Bool
 |.ex e,x=>(Zl1 x&&chk Γ e x)||Zzd Γ e x
 |.ands ts,x=>aO .And x λxs=>chkts Γ ts xs
 |.ors ts,x=>aO .Or x λxs=>chkts Γ ts xs
 |.nt t,x=>aU .Not x λy=>chkt Γ t y
def chkts(Γ:Gm):Txs->List Expr->Bool
 |.one t,xs=>l1 xs λx=>chkt Γ t x
 |.cons t ts,xs=>match xs with
  |x::r=>chkt Γ t x&&(!r.isEmpty&&chkts Γ ts r)
  |_=>Wy
def chki(Γ:Gm):Ix->Expr->Expr->Bool
 |.pl e,_,x=>chk Γ e x
 |.rng e,_,x=>aCN "range" x λys=>l1 ys λy=>glb Γ "range" && (chk Γ e y&&Zag y)
 |.rng2 _ _,_,_=>Wy
 |.enu e,tg,x=>aCN "enumerate" x λys=>l1 ys λy=>glb Γ "enumerate" && (chk Γ e y&&(Zag y&&isTup tg))
 |.rev e,_,x=>aCN "reversed" x λys=>l1 ys λy=>glb Γ "reversed" && (chk Γ e y&&Zag y)
 |.en1 _,_,_=>Wy
 |.en0 _,_,_=>Wy
 |.dk _,_,_=>Wy
end
def leS(a b:Str):Prop:=¬ b.cps.toList<a.cps.toList
def Zi9(h:leS a b)(q:leS b c):leS a c:=by unfold leS at *;rw[List.not_lt]at *;exact List.le_trans h q
def ZqI(h:leS a b)(q:leS b a):a=b:=by unfold leS at *;rw[List.not_lt]at *;have e:=List.le_antisymm h q;obtain⟨⟨a⟩⟩:=a;obtain⟨⟨b⟩⟩:=b;simp at e;subst e;rfl
def Zkv:∀{ss:List Str},sortedS ss=Wx->ss.Pairwise leS:=by
 have gen:∀(r:List Str) (p:Str),risingS p r=Wx->(∀x∈r,leS p x)/\r.Pairwise leS:=by
  intro r;induction r with
  |nil=>intro p _;exact⟨by simp,.nil⟩
  |cons x r ih=>
   intro p h;rw[risingS,Oa]at h;obtain⟨R,h2⟩:=ih x h.2;have hx:leS p x:=by have:=h.1;rw[ltCps_eq]at this;unfold leS;simpa using this
   refine⟨λy hy=>?_,.cons R h2⟩;rcases O3.mp hy with rfl|hy
   . exact hx
   . exact Zi9 hx (R y hy)
 intro ss h;cases ss with
 |nil=>exact .nil
 |cons x r=>obtain⟨R,h2⟩:=gen r x h;exact .cons R h2
theorem ZhP(x:Str):∀r:List Str,(Zou x r).Perm (x::r)
 |[]=>.refl _
 |y::r=>by
  unfold Zou;split
  . exact((ZhP x r).cons y).trans (.swap x y r)
  . exact .refl _
theorem ZeM:∀r:List Str,(Zc8 r).Perm r
 |[]=>.refl _
 |x::r=>(ZhP x _).trans ((ZeM r).cons x)
theorem ZkF(x:Str):∀r:List Str,r.Pairwise leS->(Zou x r).Pairwise leS
 |[],_=>.cons (by simp) .nil
 |y::r,h=>by
  cases h with
  |cons R h2=>
   unfold Zou;split
   . rename_i au;rw[ltCps_eq]at au;have au:=of_decide_eq_true au;refine .cons (λz hz=>?_) (ZkF x r h2);rcases O3.mp ((ZhP x r).mem_iff.mp hz)with rfl|hz
     . unfold leS;rw[List.not_lt];exact List.le_of_lt au
     . exact R z hz
   . rename_i au;have gD:leS x y:=by unfold leS;rw[ltCps_eq]at au;simpa using au
     refine .cons (λz hz=>?_) (.cons R h2);rcases O3.mp hz with rfl|hz
     . exact gD
     . exact Zi9 gD (R z hz)
theorem ZiV:∀r:List Str,(Zc8 r).Pairwise leS
 |[]=>.nil
 |x::r=>ZkF x _ (ZiV r)
def Zof(hp:bi.Perm ss)(hs:sortedS bi=Wx):bi=Zc8 ss:=(hp.trans (ZeM ss).symm).eq_of_pairwise (λ_ _ _ _ h q=>ZqI h q) (Zkv hs) (ZiV ss)
section
variable {X:Cx}{Y:Yx}{E:XK}{T:Tb}{H:Hp}{B:List Yi}{h:Hd}
theorem ZgS:∀{ds:List (Key×D)}{vs:List (Key×V)}{ss:List Str},RKs Y H B ds vs->ZeQ ds=J ss->vs.map (·.1)=ss.map YE
 |_,_,_,.nil,e=>by cases e;rfl
 |_,_,_,.cons (k:=k) a s,e=>by
  cases k with
  |inl i=>cases e
  |inr x=>rw[ZeQ]at e;obtain⟨z,e1,rfl⟩:=Oo.mp e;rw[Op,Op,ZgS s e1]
theorem ZmX:∀(ss:List Str),(∀x∈ss,Yo x=Wx)->RDs Y H B (ss.map D.str) (ss.map V.str)
 |[],_=>.nil
 |x::r,h=>.cons (.str x (h x (by simp))) (ZmX r λy hy=>h y (by simp[hy]))
def Ztu(hc:X.A.handled=M)(G:Gk X Y T):Zb5 X (.builtin "sorted") (rF Y E (Zgl T.GD)):=by
 intro aa s Z H xs us Q I r hh;obtain⟨ds,h,B,rh,rs,f⟩:=hh;unfold Zgl at f;split at f
 . split at f
   . rename_i ss e2;obtain⟨hz,f⟩:=f.iff;obtain⟨kvs,e3,e4⟩:=Option.bind_eq_some_iff.mp e2;obtain⟨x,rfl,r1⟩:=rs.one;obtain⟨a,aj,rfl,hd,rk⟩:=r1.dicOf G rh e3;obtain⟨hz,hok⟩:=hz;refine Zj4 hc aa s Z H _ us Q I r ⟨a,aj,ss,rfl,hd,ZgS rk e4,hz,λp bi hp R h2=>?_⟩;rw[Zof R h2];refine f.new rh hp ⟨_,Zt,ZmX _ λy hy=>?_⟩;rw[OC]at hok;exact hok y ((ZeM ss).mem_iff.mp hy)
   . exact f.elim
 . exact f.elim
end
set_option tactic.hygienic false
def RS(Y:Yx)(H:Hp)(B:List Yi)(S:Ev)(Z:L2.St):Prop:=Z.length=S.length/\∀(i:Nat) (d:D),S[i]?=J (J d)->∃v,Z[i]?=J (J v)/\RD Y H B d v
section
variable {Y:Yx}{H H':Hp}{B μ':List Yi}{h:Hd}{S:Ev}{Z:L2.St}
theorem RS.mono(rh:RH Y H B h)(g:Gr H B H' μ')(r:RS Y H B S Z):RS Y H' μ' S Z:=⟨r.1,λi d e=>let⟨v,R,h2⟩:=r.2 i d e;⟨v,R,h2.mono rh g⟩⟩
def RS.var(r:RS Y H B S Z){i:Nat}{d:D}(e:(S[i]?).join=J d):∃v,Z[i]?=J (J v)/\RD Y H B d v:=by
 refine r.2 i d ?_;cases q:S[i]? with
 |none=>rw[q]at e;cases e
 |some o=>rw[q]at e;cases o with
  |none=>cases e
  |some d'=>cases e;rfl
theorem RS.set(r:RS Y H B S Z){i:Nat}{d:D}{v:V}(q:RD Y H B d v):RS Y H B (S.set i (J d)) (Z.set i (J v)):=by
 refine⟨by simp[r.1],λj e he=>?_⟩;by_cases hj:i=j
 . subst hj;have hl:i<S.length:=by have:=(Ob.mp he).1;simpa using this
   rw[Ol hl]at he;cases he;exact⟨v,by rw[Ol (by rw[r.1];exact hl)],q⟩
 . rw[Oc hj]at he;obtain⟨w,R,h2⟩:=r.2 j e he;exact⟨w,by rw[Oc hj];exact R,h2⟩
theorem RS.capt(r:RS Y H B S Z)(js:List (Option Nat)):RS Y H B (Zdj js S) (capt js Z):=by
 refine⟨by simp[Zdj,L2.capt],λi d e=>?_⟩;unfold Zdj at e;unfold L2.capt;rw[O2]at e ⊢;cases q:js[i]? with
 |none=>rw[q]at e;cases e
 |some o=>
  rw[q]at e;cases o with
  |none=>cases e
  |some j=>
   have e':(S[j]?).join=J d:=by simpa using e
   obtain⟨v,R,h2⟩:=r.var e';exact⟨v,by simp[R],h2⟩
end
inductive Sm(Y:Yx)(E:XK){α β:Type}(rel:Hp->List Yi->α->β->Prop)(m:Ev->Hd->qe α)(Z:L2.St)(H:Hp)(Q:β->Hp->Prop):Prop
 |mk (S:Ev) (h:Hd) (B:List Yi) (rh:RH Y H B h) (rs:RS Y H B S Z) (f:Fin Y rel H B (m S h) Q E):Sm Y E rel m Z H Q
def eqR{α:Type}:Hp->List Yi->α->α->Prop:=λ_ _ a b=>a=b
theorem Sm.bind{α β γ δ:Type}{Q:β->Hp->Prop}{rel:Hp->List Yi->γ->δ->Prop}{aZ:Hp->List Yi->α->β->Prop}{m:Ev->Hd->qe γ}{k:Ev->γ->Hd->qe α}(s:Sm Y E aZ (λS h=>(m S h).bind (k S)) Z H Q)
 {Q1:δ->Hp->Prop}
 (hk:∀S d R v H1 μ1,RH Y H1 μ1 R->RS Y H1 μ1 S Z->rel H1 μ1 d v->Fin Y aZ H1 μ1 (k S d R) Q E->Q1 v H1):Sm Y E rel m Z H Q1:=by
 cases s with
 |mk S h B rh rs f=>exact⟨S,h,B,rh,rs,f.bind λd R x H1 μ1 _ g ac rd f1=>hk S d R x H1 μ1 ac (rs.mono rh g) rd f1⟩
section
variable (T:Tb)(Y:Yx)(E:XK)
def ZaI(e:Ex):TE:=Sm Y E (RD Y) (ev T e)
def ZlO(e:Exs):TA:=Sm Y E (RDs Y) (evs T e)
def Zoh(e:Tx):TT:=Sm Y E eqR (tst T e)
def ZyJ(e:Option Ex):TO:=Sm Y E eqR (evo T e)
def ZyK(e:Ix):TI:=Sm Y E (WJ Y) (evi T e)
def Zgq(f:Str):Sp:=λvs H Q E=>∃ds h B,RH Y H B h/\RDs Y H B ds vs/\Fin Y (RD Y) H B (T.C f ds h) Q E
end
structure Gd(T:Tb)(Γ:Gm)(X:Cx)(Y:Yx)(E:XK)(k:Nat):Prop where
 gk:Gk X Y T
 N:X.N=Γ.N
 sc:Γ.top=Wx->X.env.scope=Γ.sc
 vis:∀x,ZrJ Γ.sc x=Wx->Vis X.env.scope x
 glo:∀x,Γ.sc.names.lookup x=J .globalImplicit->Gl X x
 nd:X.N.Nodup
 calm:X.calm=Wx
 room:Room k X.A
 h60:60<=k
 pass:Zbi (CXF X.prog X.w) X E
 defs:∀f∈Γ.fs,∃ps,Def X.prog X.w X.K X.mg X.base k f ps (Zgq T Y f)
 blt:∀x∈ZnU,X.mg x=M
 room1:Room (k+1) X.A
 passC:Γ.top=Wx->∀(aa:List (Yi×Obj)) (Z:L2.St) (NC:List Str) (scope:Scope) (C:Yi) (s3:Yb) (H3:Hp) (fp:List Yi),Inv X aa Z H3 s3->(∀b∈fp,Zcg X aa H3 b)->C=s3.heap.objs.size->Zbi (CXF X.prog X.w) (ZD X NC scope C s3 H3 fp) E
 cls:∀C∈Γ.kl.cs,∃a,X.mg C=J (.ref a)/\Cls X.K a/\∀f∈Γ.kl.ats,ZbD X.K a f
 mts:∀p∈Γ.kl.ms,∃a f fd ps,X.mg p.1=J (.ref a)/\Cls X.K a/\Meth X.K a p.2 f/\FnOk X.prog X.w X.K X.mg X.base (CXF X.prog X.w) k f fd ps (Zgq T Y (mnm p.1 p.2))/\Binds X.K fd ps []
 mks:∀C∈Γ.kl.is,∃a f fd ps,X.mg C=J (.ref a)/\Mk X.K a f/\FnOk X.prog X.w X.K X.mg X.base (CXF X.prog X.w) k f fd ps (Zgq T Y (mnm C (O "__init__")))/\Binds X.K fd ps []
def _root_.L2.PE.imp(h:PE X e t)(i:∀Z H Q,t' Z H Q->t Z H Q):PE X e t':=λaa s Z H Q I q=>h aa s Z H Q I (i Z H Q q)
def _root_.L2.PT.imp(h:PT X e t)(i:∀Z H Q,t' Z H Q->t Z H Q):PT X e t':=λaa s Z H Q I q=>h aa s Z H Q I (i Z H Q q)
def _root_.L2.PW.imp(h:PW X e t)(i:∀Z H Q,t' Z H Q->t Z H Q):PW X e t':=λw aa s Z H Q I q=>h w aa s Z H Q I (i Z H Q q)
def _root_.L2.PA.imp(h:PA X e t)(i:∀Z H Q,t' Z H Q->t Z H Q):PA X e t':=λp aa s Z H Q I q=>h p aa s Z H Q I (i Z H Q q)
def _root_.L2.PO.imp(h:PO X e t)(i:∀Z H Q,t' Z H Q->t Z H Q):PO X e t':=λaa s Z H Q I q=>h aa s Z H Q I (i Z H Q q)
def _root_.L2.PI.imp(h:PI X tg e t)(i:∀Z H Q,t' Z H Q->t Z H Q):PI X tg e t':=λaa s Z H Q I q=>h aa s Z H Q I (i Z H Q q)
structure Kd(x:Expr):Prop where
 star:tgE x≠0->∀xs env,YA (x::xs) env=(Wy,eval x env)::YA xs env
 set:tgE x≠18->∀env v,foldedSetIterable x env v=pure v
 mark:tgE x≠18->∀op,behindInMarks op x=Wy
 ix:tgE x≠5->Zko x
 put:tgE x≠5->∀o pos env v,assign (.Subscript o x pos) env v=(do
  let ov <- holding [v] (eval o env);let iv <- holding [v,ov] (eval x env)
  standAt pos
  holding [v,ov,iv] (setItem ov iv v)
  release [v,ov,iv] [])
 tr:Zl1 x=Wx->∀env aJ,isTrue x env aJ=(do let v <- aJ;standAt x.pos;holding [v] (truthy v))
 sw:tgE x≠13->tgE x≠19->∀t n env,swapsWith x t n env=pure Wy
 st:tgE x≠8->∀es j q env,swappedStores [.Tuple es j q] x env=pure M
def kdE(x:Expr):Kd x:=by
 cases x<;>exact⟨by first|exact λ_ _ _=>rfl|exact λh=>absurd rfl h,by first|exact λ_ _ _=>rfl|exact λh=>absurd rfl h,by first|exact λ_ _=>rfl|exact λh=>absurd rfl h,by first|exact λ_ _ _=>rfl|exact λh=>absurd rfl h,
  by first|exact λ_ _ _ _ _=>rfl|exact λh=>absurd rfl h,
  by first|exact λ_ _ _=>rfl|exact λh=>ff h,by first|exact λ_ _ _ _ _=>rfl|exact λh=>absurd rfl h|exact λ_ h=>absurd rfl h,by first|exact λ_ _ _ _ _=>rfl|exact λh=>absurd rfl h⟩
def Zw(env:Env)(h:Zag x=Wx):YA (x::xs) env=(Wy,eval x env)::YA xs env:=(kdE x).star (of_decide_eq_true h) _ _
def ZlM(env:Env)(h:Zfh x=Wx):∀v,foldedSetIterable x env v=pure v:=(kdE x).set (of_decide_eq_true h) _
def Znr(h:Zfh x=Wx):behindInMarks op x=Wy:=(kdE x).mark (of_decide_eq_true h) _
def ZpI(h:ZhW x=Wx):Zko x:=(kdE x).ix (of_decide_eq_true h)
def Zf8(h:Zcl x=Wx):attributeBase x n env (eval x env)=eval x env:=by
 cases x with
 |Call f as ks p=>
  cases as with
  |nil=>cases h
  |cons a as=>cases f<;>rfl
 |_=>rfl
theorem ZfF(Γ:Gm)(env:Env):∀(es:Exs) (xs:List Expr),chks Γ es xs=Wx->∀pos,(YS pos (YA xs env)).any (·.1)=Wy/\(YS pos (YA xs env)).all (λx=>!x.1)=Wx
 |.nil,[],_,_=>⟨rfl,rfl⟩
 |.nil,_::_,h,_=>ff h
 |.cons _ _,[],h,_=>ff h
 |.cons _ r,x::xs,h,pos=>by rw[Zw env (bL (bR h))];exact ZfF Γ env r xs (bR (bR h)) pos
def ZdN(env:Env)(h:chks Γ es (y::r)=Wx):YA (y::r) env=(Wy,eval y env)::YA r env/\∀pos,(YS pos (YA r env)).any (·.1)=Wy:=by
 cases es with
 |nil=>exact ff h
 |cons e s=>exact⟨Zw env (bL (bR h)),λpos=>(ZfF Γ env s r (bR (bR h)) pos).1⟩
@[elab_as_elim] theorem Zrh{P:List Expr->Prop}(h:chks Γ es ys=Wx)(R:(!ys.isEmpty)=Wx)(k:∀y r,chks Γ es (y::r)=Wx->P (y::r)):P ys:=by
 cases ys with
 |nil=>exact ff R
 |cons y r=>exact k y r h
def Gd.gl{T:Tb}{Γ:Gm}{X:Cx}{Y:Yx}{E:XK}{k:Nat}(G:Gd T Γ X Y E k){x:Str}(h:glb Γ x=Wx):Gl X x/\(x==("__debug__" : Str))=Wy:=by unfold glb at h;rw[Oa]at h;exact⟨G.glo x (of_decide_eq_true h.1),by simpa using h.2⟩
theorem ZhY{f:Str->NameKind->NameKind}(x:Str):∀names:List (Str×NameKind),(names.map λp=>(p.1,f p.1 p.2)).lookup x=(names.lookup x).map (f x)
 |[]=>rfl
 |(n,k)::r=>by
  rw[Op,OF,OF];by_cases e:x=n
  . subst e;simp
  . have:(x==n)=Wy:=by simpa using e
    simp only[this];exact ZhY x r
def Zcj(scope:Scope)(env:Env)(x:Str):(relabel scope env).names.lookup x=(scope.names.lookup x).map λk=>if (k==Yn&&env.scope.kind==.function&&env.kindOf x==J .cell)then NameKind.cell else k:=by
 have e:(relabel scope env).names=scope.names.map λp=>(p.1,(λ(n:Str) (k:NameKind)=>if (k==Yn&&env.scope.kind==.function&&env.kindOf n==J .cell)then NameKind.cell else k) p.1 p.2):=by unfold relabel;simp only;refine List.map_congr_left λp _=>?_;obtain⟨n,k⟩:=p;simp only;split<;>rfl
 rw[e];exact ZhY (f:=λ(n:Str) (k:NameKind)=>if (k==Yn&&env.scope.kind==.function&&env.kindOf n==J .cell)then NameKind.cell else k) x scope.names
def Gd.comp{T:Tb}{Γ:Gm}{X:Cx}{Y:Yx}{E:XK}{k:Nat}(G:Gd T Γ X Y E k)(NC:List Str)(scope:Scope)(C:Yi)(s3:Yb)(H3:Hp)(fp:List Yi)(nd:NC.Nodup)(hp:Zbi (CXF X.prog X.w) (ZD X NC scope C s3 H3 fp) E):Gd T ⟨NC,scope,Γ.fs,Wy,Γ.kl⟩ (ZD X NC scope C s3 H3 fp) Y E k:=by
 refine⟨⟨G.gk.K,G.gk.mg,G.gk.gd,G.gk.g,G.gk.bare⟩,rfl,(λh=>by cases h),λx hx=>?_,λx hx=>?_,nd,rfl,G.room,G.h60,hp,G.defs,G.blt,G.room1,(λh=>by cases h),G.cls,G.mts,G.mks⟩
 . show Vis (relabel scope X.env) x;unfold Vis;rw[Zcj];unfold ZrJ at hx;rw[Wu,Wu]at hx;rcases hx with (hx|hx)|hx
   . rw[of_decide_eq_true hx];exact .inl rfl
   . rw[of_decide_eq_true hx];exact .inr (.inl rfl)
   . rw[of_decide_eq_true hx];by_cases q:(X.env.scope.kind==.function&&X.env.kindOf x==J .cell)=Wx
     . refine .inr (.inl ?_);have:(Yn==Yn&&X.env.scope.kind==.function&&X.env.kindOf x==J .cell)=Wx:=by simpa using q
       simp only[Yu,this,if_true]
     . refine .inr (.inr ?_);have:¬ ((Yn==Yn&&X.env.scope.kind==.function&&X.env.kindOf x==J .cell)=Wx):=by simpa using q
       simp only[Yu,this,if_false];rfl
 . show(relabel scope X.env).names.lookup x=J .globalImplicit;rw[Zcj,hx];rfl
section
variable {T:Tb}{Y:Yx}{E:XK}{Z:L2.St}{H:Hp}{Q:VK}
def ZrW{a b:Ex}{f:D->D->Hd->qe D}(s:Sm Y E (RD Y) (λS h=>(ev T a S h).bind λx R=>(ev T b S R).bind λy h2=>f x y h2) Z H Q):ZaI T Y E a Z H λx H1=>ZaI T Y E b Z H1 λy H2=>rB Y E f x y H2 Q:=s.bind λS d R x H1 μ1 ac ai rd f1=>⟨S,R,μ1,ac,ai,f1.bind λe h2 y H2 μ2 _ g2 am re f2=>⟨d,e,h2,μ2,am,rd.mono ac g2,re,f2⟩⟩
end
def Zwa{T:Tb}{Γ:Gm}{X:Cx}{Y:Yx}{E:XK}{k:Nat}(G:Gd T Γ X Y E k)(f:Bf)(hb:bok f=Wx){e:Expr}{es:List Expr}{t:TA}{p pos:Pos}(hg:Gl X (ZnT f))(ha:PA X (e::es) t)
 (he:YA (e::es) X.env=(Wy,eval e X.env)::YA es X.env) (aM:(YS pos (YA es X.env)).any (·.1)=Wy):PE X (.Call (.Name (ZnT f) p) (e::es) [] pos) (tCB (rF Y E (ZcV T.GD f)) t):=by
 have hY:=G.gk.K;cases f with
 |len=>exact Zd7 (Ztv hY) hg (G.blt _ (by decide)) (by decide +kernel) ha (by decide) (by decide) he aM
 |isi=>exact Zd7 (Ztw hY) hg (G.blt _ (by decide)) (by decide +kernel) ha (by decide) (by decide) he aM
 |int=>exact Zi3 Ztx hg (G.blt _ (by decide)) (by decide +kernel) ha (by decide) (by decide) he aM
 |tup=>exact Zi3 (Zts hY) hg (G.blt _ (by decide)) (by decide +kernel) ha (by decide) (by decide) he aM
 |lst=>cases hb
 |sum=>exact Zd7 (Ztt G.room.hd hY) hg (G.blt _ (by decide)) (by decide +kernel) ha (by decide) (by decide) he aM
 |all=>cases hb
 |mx=>cases hb
 |srt=>exact Zd7 (Ztu G.room.hd G.gk) hg (G.blt _ (by decide)) (by decide +kernel) ha (by decide) (by decide) he aM
set_option tactic.hygienic true
def Zin{v:V}(rd:∀H B,RD Y H B d v)(p:PE X x (tC v)):PE X x (ZaI T Y E (.cst d)):=PE.imp p λZ H Q s=>by
 cases s with
 |mk S h B rh rs f=>exact Fin.ok (r:=rd H B) (show Fin Y (RD Y) H B (.ok d h) Q E from f) rh
def Zri(G:Gd T Γ X Y E k)(h:Zya Γ d x=Wx):PE X x (ZaI T Y E (.cst d)):=by
 refine bO h (λh=>ZxL (P:=λx=>PE X x _) h λc j q h=>?_) λh=>?_
 . cases d with
   |int i=>cases c with
    |int j=>exact dS (P:=λi=>PE X _ (ZaI T Y E (.cst (.int i)))) h (Zin (λ_ _=>.int _) Zu7)
    |_=>exact ff h
   |str i=>cases c with
    |str j=>exact dS (P:=λi=>PE X _ (ZaI T Y E (.cst (.str i)))) (bL h) (Zin (λ_ _=>.str _ (bR h)) Zu4)
    |_=>exact ff h
   |bl i=>cases c with
    |bool j=>exact dS (P:=λi=>PE X _ (ZaI T Y E (.cst (.bl i)))) h (Zin (λ_ _=>.bl _) Zxk)
    |_=>exact ff h
   |non=>cases c with
    |none=>exact Zin (λ_ _=>.non) Zqj
    |_=>exact ff h
   |_=>exact ff h
 . cases d with
   |ty n=>
    refine Zpg (P:=λx=>PE X x _) h λp h=>?_;obtain⟨g1,g2⟩:=G.gl (bR h);have all:(ZmP.all λn=>Wz (bootBuiltins (Str.ofString n)=J (.type n))&&(Wz (Str.ofString n ≠ "__name__")&&Wz (Str.ofString n∈ZnU)))=Wx:=by decide +kernel
    have a:=OC.mp all n (of_decide_eq_true (bL h));exact Zin (λ_ _=>.ty _) (Zsr g1 (G.blt _ (of_decide_eq_true (bR (bR a)))) (of_decide_eq_true (bL a)) rfl (of_decide_eq_true (bL (bR a))) g2)
   |_=>exact ff h
def qe.bind_eq{α β:Type}{r:qe α}{k:α->Hd->qe β}{b:β}{h:Hd}(e:r.bind k=.ok b h):∃a R,r=.ok a R/\k a R=.ok b h:=by
 cases r with
 |bad=>cases e
 |ok a R=>exact⟨a,R,rfl,e⟩
 |exc c R=>cases e
def qe.bind_assoc{α β γ:Type}{r:qe α}{k:α->Hd->qe β}{l:β->Hd->qe γ}:(r.bind k).bind l=r.bind λa h=>(k a h).bind l:=by cases r<;>rfl
def Zvj(e:opC GD op x y h=.ok r h'):∃b,r=.bl b:=by
 have i2:∀{f:Int->Int->Bool},ZjF f x y h=.ok r h'->∃b,r=.bl b:=λe=>by
  unfold ZjF at e;split at e
  . cases e;exact⟨_,rfl⟩
  . cases e
 have eq:∀{n:Bool},Zdb n x y h=.ok r h'->∃b,r=.bl b:=λe=>by
  unfold IV.Zdb at e;split at e
  . split at e
    . cases e;exact⟨_,rfl⟩
    . cases e
  . cases e
 have inn:∀{n:Bool},ZcA GD n x y h=.ok r h'->∃b,r=.bl b:=λe=>by
  unfold ZcA at e;split at e
  . split at e
    . cases e;exact⟨_,rfl⟩
    . cases e
  . split at e
    . cases e;exact⟨_,rfl⟩
    . cases e
 have n1:∀{n:Bool},opN n x y h=.ok r h'->∃b,r=.bl b:=λe=>by
  unfold opN at e;split at e
  . cases e;exact⟨_,rfl⟩
  . cases e
 unfold opC at e;split at e
 . exact eq e
 . exact eq e
 . exact i2 e
 . exact i2 e
 . exact i2 e
 . exact i2 e
 . exact inn e
 . exact inn e
 . exact n1 e
 . exact n1 e
def ZxA(m:Mf):Slot "list" (ZqC m) (mid m)/\typeOf (.builtin (mid m))=pure (.type "method_descriptor"):=by
 cases m with
 |app=>exact⟨PySem.F.slot_list_append,PySem.F.type_list_append⟩
 |ext=>exact⟨PySem.F.slot_list_extend,PySem.F.type_list_extend⟩
 |pop=>exact⟨PySem.F.slot_list_pop,PySem.F.type_list_pop⟩
 |rev=>exact⟨PySem.F.slot_list_reverse,PySem.F.type_list_reverse⟩
 |clr=>exact⟨PySem.F.slot_list_clear,PySem.F.type_list_clear⟩
section
variable {Y:Yx}{α β α' β':Type}{rel:Hp->List Yi->α->β->Prop}{aZ:Hp->List Yi->α'->β'->Prop}{H0 H H1:Hp}{μ0 B μ1:List Yi}{E:XK}
def Fin.bindB(g0:Gr H0 μ0 H B)(f:Fin Y aZ H0 μ0 (r.bind k) Q E)
 (hk:∀a R b H1 μ1,r=.ok a R->Gr H B H1 μ1->RH Y H1 μ1 R->rel H1 μ1 a b->Fin Y aZ H0 μ0 (k a R) Q E->Q1 b H1):Fin Y rel H B r Q1 E:=by
 cases r with
 |bad=>exact f
 |ok a h=>exact λb H' μ' g' rh rl=>hk a h b H' μ' rfl g' rh rl f
 |exc c h=>exact λH' μ' C g'=>f H' μ' C (g0.trans g')
def Fin.bindAt(g0:Gr H0 μ0 H B)(f:Fin Y aZ H0 μ0 (r.bind k) Q E)
 (hk:∀a R b H1 μ1,r=.ok a R->Gr H B H1 μ1->RH Y H1 μ1 R->rel H1 μ1 a b->Fin Y aZ H0 μ0 (k a R) Q E->Q1 b H1):Fin Y rel H B r Q1 E:=by
 cases r with
 |bad=>exact f
 |ok a h=>exact λb H' μ' g' rh rl=>hk a h b H' μ' rfl g' rh rl f
 |exc c h=>exact λH' μ' C g'=>f H' μ' C (g0.trans g')
end
def Zk3:List Nat->TGs
 |[]=>Zs9
 |i::is=>Zk4 (ZdK i) (Zk3 is)
def tgR(K:Yk):Tg->TG
 |.nm i=>ZdK i
 |.two i j=>Zs8 K 2 (Zk4 (ZdK i) (Zk4 (ZdK j) Zs9))
 |.many is=>Zs8 K is.length (Zk3 is)
theorem Zks:∀is:List Nat,is.foldr max 0<k->ZlD k (Zk3 is)
 |[],_=>ZmT
 |i::is,h=>by simp only[List.foldr_cons]at h;exact ZhI (by lia) (Zks is (by lia))
def ZwE(K:Yk)(g:Tg):Zpa (tgk g) (tgR K g):=by
 cases g with
 |nm i=>exact ZrO (OH i)
 |two i j=>exact ZpB (ZhI (show i<max i j+1 by lia) (ZhI (show j<max i j+1 by lia) ZmT))
 |many is=>exact ZpB (Zks is (OH _))
theorem ZgF:∀(is:List Nat) (es:List Expr),ZnO N own is es=Wx->(assignEach es env).length=is.length/\List.findIdx? (λx=>x.fst) (assignEach es env)=M
 |[],[],_=>⟨rfl,rfl⟩
 |i::is,e::es,h=>by
  obtain⟨a,b⟩:=ZgF (env:=env) is _ (bR h);refine Zb7 (P:=λe=>(assignEach (e::es) env).length=_/\List.findIdx? (λx=>x.fst) (assignEach (e::es) env)=M) (bL h) λx p _ _=>⟨congrArg (·+1) a,?_⟩
  simp only[assignEach,List.findIdx?_cons,b];rfl
 |[],_::_,h=>ff h
 |_::_,[],h=>ff h
theorem ZkL(hN:X.N=N)(nd:X.N.Nodup)(ho:∀x,own x=Wx->Loc X.env.scope x/\(X.fn x=Wx\/X.env.scope.names.lookup x=J .local)):∀(is:List Nat) (es:List Expr),ZnO N own is es=Wx->PGs X es (Zk3 is)
 |[],[],_=>Zng
 |i::is,e::es,h=>Zb7 (P:=λe=>PGs X (e::es) _) (bL h) λx p e1 e2=>ZhS (Zni nd (by rw[hN];exact e1) (ho _ e2).1 (ho _ e2).2) (ZkL hN nd ho is _ (bR h))
 |[],_::_,h=>ff h
 |_::_,[],h=>ff h
def Znh(hN:X.N=N)(nd:X.N.Nodup)(hc:X.calm=Wx)(ho:∀x,own x=Wx->Loc X.env.scope x/\(X.fn x=Wx\/X.env.scope.names.lookup x=J .local))(h:Zto N own g tg=Wx):PG X tg (tgR X.K g):=by
 have nm:∀{i x p},N[i]?=J x->own x=Wx->PG X (.Name x p) (ZdK i):=λe1 e2=>Zni nd (by rw[hN];exact e1) (ho _ e2).1 (ho _ e2).2;cases g with
 |nm i=>exact Zb7 (P:=λt=>PG X t _) h λx p e1 e2=>nm e1 e2
 |two i j=>exact Zkt (P:=λt=>PG X t _) (show ZnQ N own i j tg=Wx from h) λxs k q h=>ZxJ (P:=λxs=>PG X (.Tuple xs k q) _) h λa b h=>Zb7 (P:=λa=>PG X (.Tuple [a,b] k q) _) (bL h) λx p e1 e2=>Zb7 (P:=λb=>PG X (.Tuple [_,b] k q) _) (bR h) λy r e3 e4=>Zqg hc (ZhS (nm e1 e2) (ZhS (nm e3 e4) Zng))
 |many is=>exact Zkt (P:=λt=>PG X t _) (show ZnP N own is tg=Wx from h) λxs k q h=>Zqg (hn:=(ZgF _ _ h).1) (hst:=(ZgF _ _ h).2) hc (ZkL hN nd ho _ _ h)
theorem Zns:∀(is:List Nat) {ds:List D}{vs:List V}{S:Ev}{Z:L2.St},RDs Y H B ds vs->RS Y H B S Z->ds.length=is.length->(∀σ1,RS Y H B (ZlN is ds S) σ1->Q σ1 H)->Zk3 is vs Z H Q
 |[],ds,vs,S,Z,r,rs,hl,q=>by
  cases r with
  |nil=>exact⟨rfl,q _ rs⟩
  |cons a s=>simp at hl
 |i::is,ds,vs,S,Z,r,rs,hl,q=>by
  cases r with
  |nil=>simp at hl
  |cons a s=>exact⟨_,_,rfl,Zns is s (rs.set a) (by simpa using hl) q⟩
def Zj9{Y:Yx}{K:Yk}{Q:L2.St->Hp->Prop}(hY:Y.K=K)(r:RD Y H B d v)(rs:RS Y H B S Z)(e:ZbL g d S=J ρ1)(q:∀σ1,RS Y H B ρ1 σ1->Q σ1 H):tgR K g v Z H Q:=by
 cases g with
 |nm i=>cases e;exact q _ (rs.set r)
 |two i j=>
  unfold ZbL at e;simp only at e;split at e
  . cases e;obtain⟨a,vs,rfl,t,s⟩:=r.tup_inv;obtain⟨x,y,rfl,r1,r2⟩:=s.two;exact⟨a,_,rfl,hY▸t,rfl,x,_,rfl,y,_,rfl,rfl,q _ ((rs.set r1).set r2)⟩
  . cases e
 |many is=>
  unfold ZbL at e;simp only at e;split at e
  . split at e
    . rename_i hl;cases e;obtain⟨a,vs,rfl,t,s⟩:=r.tup_inv;exact⟨a,vs,rfl,hY▸t,by rw[<-s.length,hl],Zns is s rs hl q⟩
    . cases e
  . cases e
section
variable {Y:Yx}{H:Hp}{B:List Yi}{h:Hd}{Dd:Yi}{ys zs:List V}
def ZpG{K:Yk}(hD:H Dd=J (.lst ys))(t:SqT K H a vs):SqT K (upd H Dd (.lst zs)) a vs:=by
 rcases t with t|t
 . rcases t with t|⟨o,t⟩
   . exact .inl (.inl (by rw[Zr (λz=>by rw[z,hD]at t;cases t)];exact t))
   . exact .inl (.inr ⟨o,by rw[Zr (λz=>by rw[z,hD]at t;cases t)];exact t⟩)
 . exact .inr t
def ZqX{K:Yk}(hD:H Dd=J (.lst ys))(t:FzL K H a vs):FzL K (upd H Dd (.lst zs)) a vs:=by
 rcases t with⟨o,t⟩|t
 . exact .inl ⟨o,by rw[Zr (λz=>by rw[z,hD]at t;cases t)];exact t⟩
 . exact .inr t
def Tr.swap(hD:H Dd=J (.lst ys)):Tr Y H B (upd H Dd (.lst zs)) B:=⟨ZpG hD,ZqX hD,id⟩
theorem RH.swap(hD:H Dd=J (.lst ys))(hn:Dd ∉ B)(r:RH Y H B h):RH Y (upd H Dd (.lst zs)) B h:=r.tr (.swap hD) λ_ ha=>Zr λz=>hn (z▸ha)
def Gr.out(g:Gr H B H' μ')(hD:H Dd=J o)(hn:Dd ∉ B):H' Dd=J o/\Dd ∉ μ':=⟨g.keep _ _ hn hD,λhm=>(g.new _ hm).elim hn λz=>by rw[hD]at z;cases z⟩
end
inductive CwS(Y:Yx)(H1:Hp)(μ1:List Yi)(xs:List D)(Dd:Yi)(F:List D->List D->Hd->Prop)(i m:Nat)(ys:List V)(H:Hp):Prop
 |mk (ag:List D) (h:Hd) (B:List Yi) (hi:i<=xs.length) (hm:m=xs.length-i) (g:Gr H1 μ1 H B) (rh:RH Y H B h) (ra:RDs Y H B ag ys) (nd:Dd ∉ B) (f:F (xs.drop i) ag h):CwS Y H1 μ1 xs Dd F i m ys H
def ZnM{T:Tb}{Y:Yx}{E:XK}{K:Yk}(hY:Y.K=K){js:List (Option Nat)}{g:Tg}{c:Option Tx}{e:Ex}{tc:TT}{qb:It}{w:Wk}{H1:Hp}{μ1:List Yi}{R:Hd}{S:Ev}{Z:L2.St}{Q:VK}{Dd:Yi}
 (kQ:∀Z H Q,Sm Y E eqR (tsto T c) Z H Q->tc Z H Q)
 (rh:RH Y H1 μ1 R) (rs:RS Y H1 μ1 S Z) (wj:WJ Y H1 μ1 w qb) (f:Fin Y (RD Y) H1 μ1 ((ZG w.src g (tsto T c) (ev T e) w.xs (Zdj js S) [] R).bind λxs h2=>Zdr (.lst xs) h2) Q E) (hD:H1 Dd=M) :
 ∃W:Nat->Nat->List V->Hp->Prop,(∃m,W 0 m [] (upd H1 Dd (.lst []))) /\
  ∀i m ys H,W i m ys H->H Dd=J (.lst ys)->(qb.stop i H/\Q (.ref Dd) H) \/
   (qb.go i H/\ys.length<sizeLine/\∀x H',qb.yld i H x H'->tgR K g x (capt js Z) H' λσ2 H2=>tc σ2 H2 λb H3=>
    if b=Wx then ZaI T Y E e σ2 H3 λy H4=>H4 Dd=J (.lst ys)/\∃m',m'<m/\W (i+1) m' (ys++[y]) (upd H4 Dd (.lst (ys++[y])))
    else H3 Dd=J (.lst ys)/\∃m',m'<m/\W (i+1) m' ys H3):=by
 have n1:=rh.fr hD;refine⟨CwS Y H1 μ1 w.xs Dd λxs ag h=>Fin Y (RD Y) H1 μ1 ((ZG w.src g (tsto T c) (ev T e) xs (Zdj js S) ag h).bind λxs h2=>Zdr (.lst xs) h2) Q E,⟨w.xs.length,[],R,μ1,Yw _,(Nat.sub_zero _).symm,Gr.lay0 hD,rh.lay0 hD,.nil,n1,f⟩,?_⟩;rintro i m ys H ⟨ag,h,B,hi,rfl,g1,ac,ra,nD,f1⟩ hl;by_cases au:i<w.xs.length
 . obtain⟨d,hd⟩:∃d,w.xs[i]?=J d:=⟨_,Og au⟩
   have fW:w.xs.drop i=d::w.xs.drop (i+1):=by rw[List.drop_eq_getElem_cons au];have:=Og au;rw[hd]at this;rw[<-YF this]
   rw[fW,ZG]at f1;by_cases hs:Wk.stays w.src h=Wx/\ag.length<sizeLine
   . rw[if_pos hs]at f1;obtain⟨go,yl⟩:=(wj H B h g1 ac hs.1).1 i d hd;refine .inr ⟨go,by rw[<-ra.length];exact hs.2,λx H' hy=>?_⟩;obtain⟨g2,am,rx⟩:=yl x H' hy;obtain⟨bN,kG⟩:=g2.out hl nD;have jf:=g1.trans g2;split at f1
     . exact f1.elim
     . rename_i ρ1 hb;refine Zj9 hY rx ((rs.mono rh jf).capt js) hb λσ1 ai=>kQ σ1 H' _ ⟨ρ1,h,B,am,ai,?_⟩;rw[qe.bind_assoc]at f1;refine Fin.bindAt jf f1 λb h3 b' H3 μ3 _ g3 a9 eb f3=>?_;subst eb;obtain⟨jI,jy⟩:=g3.out bN kG;have je:=jf.trans g3;cases b with
       |true=>rw[if_pos rfl]at f3 ⊢;rw[qe.bind_assoc]at f3;refine⟨ρ1,h3,μ3,a9,ai.mono am g3,Fin.bindAt je f3 λy h4 y' H4 μ4 _ g4 ft ry f4=>?_⟩;obtain⟨iQ,jx⟩:=g4.out jI jy;refine⟨iQ,_,Nat.sub_lt_sub_left au (OH i),ag++[y],h4,μ4,au,rfl,(je.trans g4).put hD,ft.swap iQ jx,((((ra.mono ac g2).mono am g3).mono a9 g4).append (.cons ry .nil)).tr (.swap iQ),jx,f4⟩
       |false=>rw[if_neg (by decide)]at f3 ⊢;exact⟨jI,_,Nat.sub_lt_sub_left au (OH i),ag,h3,μ3,au,rfl,je,a9,(ra.mono ac g2).mono am g3,jy,f3⟩
   . rw[if_neg hs]at f1;exact f1.elim
 . have he:i=w.xs.length:=by lia
   subst he;rw[List.drop_eq_nil_of_le (Oq _),ZG]at f1;by_cases hs:Wk.stays w.src h=Wx
   . rw[if_pos hs]at f1;refine .inl ⟨(wj H B h g1 ac hs).2,?_⟩;have f2:Fin Y (RD Y) H1 μ1 (.ok (.ref h.length) (h++[.lst ag])) Q E:=f1;exact f2.at (g1.add hD) (ac.add nD ⟨ys,hl,ra.tr .more⟩) (.ref (by rw[ac.len];simp))
   . rw[if_neg hs]at f1;exact f1.elim
section
variable {Y:Yx}{H:Hp}{B:List Yi}{h:Hd}
theorem RKs.look:∀{fs:List (Str×D)}{gs:List (Str×V)},RKs Y H B fs gs->(∀d,fs.lookup f=J d->∃v,gs.lookup f=J v/\RD Y H B d v)/\(fs.lookup f=M->gs.lookup f=M)
 |_,_,.nil=>⟨λd e=>by simp at e,λ_=>rfl⟩
 |_,_,.cons (k:=k) (d:=d0) (v:=v0) a s=>by
  by_cases e:f=k
  . subst e;exact⟨λd z=>by simp at z;subst z;exact⟨_,by simp,a⟩,λz=>by simp at z⟩
  . have b:(f==k)=Wy:=by simpa using e
    obtain⟨q1,q2⟩:=RKs.look (f:=f) s;refine⟨λd z=>?_,λz=>?_⟩
    . rw[OF,b]at z ⊢;exact q1 d z
    . rw[OF,b]at z ⊢;exact q2 z
theorem RKs.putAF(r:RD Y H B d v):∀{fs:List (Str×D)}{gs:List (Str×V)},RKs Y H B fs gs->RKs Y H B (ZhQ f d fs) (ZcP f v gs)
 |_,_,.nil=>.cons r .nil
 |_,_,.cons (k:=k) a s=>by
  unfold ZhQ ZcP;by_cases e:k=f
  . rw[if_pos e,if_pos e];exact .cons r s
  . rw[if_neg e,if_neg e];exact .cons a (RKs.putAF r s)
def Zh3(rh:RH Y H B h)(r:RD Y H B d v)(e:Zah d h=J (C,fs)):∃i a Ca dx gs,d=.ref i/\v=.ref a/\B[i]?=J a/\h[i]?=J (.ins C fs)/\H a=J (.ins Ca dx gs)/\Y.mg C=J (.ref Ca)/\RKs Y H B fs gs:=by
 unfold Zah at e;split at e
 . rename_i i;split at e
   . rename_i C' be hi;cases e;cases r with
     |ref q=>rename_i a;obtain⟨Ca,dx,gs,z,m,s⟩:=rh.ob i _ a hi q;exact⟨i,a,Ca,dx,gs,rfl,rfl,q,hi,z,m,s⟩
   . cases e
 . cases e
def ZsQ(rh:RH Y H B h)(hx:H x=M)(hd:H dx=M)(ne:dx≠x)(m:Y.mg C=J (.ref Ca)):RH Y (upd (upd H dx (.own x)) x (.ins Ca dx [])) (B++[x]) (h++[.ins C []])/\Gr H B (upd (upd H dx (.own x)) x (.ins Ca dx [])) (B++[x]):=by
 have bI:upd H dx (.own x) x=M:=by rw[Zr (λz=>ne z.symm)];exact hx
 exact⟨(rh.lay0 hd).lay bI ⟨Ca,dx,[],Zt,m,.nil⟩,(Gr.lay0 hd).trans (Gr.lay bI)⟩
end
def ZoN(aV:attributeBase o name env (eval o env)=eval o env)
 (cf:methodCallForm (args.length+([]:List Keyword).length) (YS pos (YA args env)) (backToKw pos (Wc [] env))=Wx) (aP:(apos.endLine==pos.line)=Wx) :
 eval (.Call (.Attribute o name apos) args [] pos) env=(do
  let ov <- eval o env
  standAt apos.atName
  let (f,first) <- holding [ov] (getMethod ov name (do return (<- importBound o env).getD Wx))
  callWith pos f first (YS pos (YA args env)) (backToKw pos (Wc [] env))):=by
 have hpos:methodCallPos Wx o env apos pos=pure pos:=by unfold methodCallPos;simp[aP]
 rw[arm_eval_Call,aV];unfold methodCall;simp only[cf,hpos];rfl
section
variable {T:Tb}{Γ:Gm}{X:Cx}{Y:Yx}{E:XK}{k:Nat}
def Zwg(G:Gd T Γ X Y E k)(hc:(Cs.all λC=>Wz (C∈Γ.kl.cs))=Wx)(hf:f∈Γ.kl.ats)(rh:RH Y H B h)(rd:RD Y H B d x)(ff:Fin Y (RD Y) H B (ZgB Cs f d h) Q E):
 ∃a C dx fs v,x=.ref a/\H a=J (.ins C dx fs)/\Cls X.K C/\ZbD X.K C f/\fs.lookup f=J v/\Q v H:=by
 unfold ZgB at ff;split at ff
 . rename_i C fs e;obtain⟨hC,ff⟩:=ff.iff;obtain⟨i,a,Ca,dx,gs,rfl,rfl,q,hi,z,m,s⟩:=Zh3 rh rd e;obtain⟨w,e1,ff⟩:=ff.ofO;obtain⟨v,l,rv⟩:=(s.look (f:=f)).1 w e1;rw[OC]at hc;obtain⟨j5,m',cl,na⟩:=G.cls C (of_decide_eq_true (hc C hC));rw[G.gk.mg,m']at m;cases m;exact⟨a,Ca,dx,gs,v,rfl,z,cl,na f hf,l,ff.ok rh rv⟩
 . exact ff.elim
def ZpM(G:Gd T Γ X Y E k)(hc:(Cs.all λC=>Wz (C∈Γ.kl.cs))=Wx)(hf:f∈Γ.kl.ats)(rh:RH Y H B h)(rd:RD Y H B d x)(re:RD Y H B e y)(ff:Fin Y (RD Y) H B (Zgr Cs f d e h) Q E):
 ∃a C dx fs,x=.ref a/\H a=J (.ins C dx fs)/\Cls X.K C/\ZbD X.K C f/\fs.length<1000/\Q .non (upd H a (.ins C dx (ZcP f y fs))):=by
 unfold Zgr at ff;split at ff
 . rename_i i;split at ff
   . rename_i C fs hi;obtain⟨⟨hC,hl⟩,ff⟩:=ff.iff;obtain⟨i',a,Ca,dx,gs,e1,rfl,q,gK,z,m,s⟩:=Zh3 rh rd (show Zah (.ref i) h=J (C,fs) by simp[Zah,hi]);cases e1;rw[OC]at hc;obtain⟨j5,m',cl,na⟩:=G.cls C (of_decide_eq_true (hc C hC));have m0:=m;rw[G.gk.mg,m']at m;cases m;refine⟨a,Ca,dx,gs,rfl,z,cl,na f hf,by rw[<-s.length];exact hl,ff.at (Gr.write (O1 q) (by rw[z];trivial)) (rh.write q ?_ (by rw[z];trivial)) .non⟩;exact⟨Ca,dx,_,Zt,m0,(RKs.putAF re s).mono rh (Gr.write (O1 q) (by rw[z];trivial))⟩
   . exact ff.elim
 . exact ff.elim
def ZxB(G:Gd T Γ X Y E k)(h2:C∈Γ.kl.is)(h3:glb Γ C=Wx)(h4:chks Γ es ys=Wx)(ha:PA X ys (ZlO T Y E es)):PE X (.Call (.Name C p) ys [] pos) (ZaI T Y E (.mk C es)):=by
 obtain⟨a,f,fd,ps,m,qd,F,B_⟩:=G.mks _ h2;obtain⟨g1,g2⟩:=G.gl h3;have key:∀(ds:List D) (R:Hd) (xs:List V) (H1:Hp) (μ1:List Yi) (Q:VK),RH Y H1 μ1 R->RDs Y H1 μ1 ds xs->Fin Y (RD Y) H1 μ1 (Zg5 T.C C ds R) Q E->∀x dx,H1 x=M->H1 dx=M->dx≠x ->
  Zgq T Y (mnm C (O "__init__")) (.ref x::(xs++[])) (upd (upd H1 dx (.own x)) x (.ins a dx [])) (λv H2=>v=.non/\Q (.ref x) H2) E:=by
  intro ds R xs H1 μ1 Q ac bQ f1 x dx hx hd ne;obtain⟨am,g2⟩:=ZsQ (C:=C) (Ca:=a) ac hx hd ne (by rw[G.gk.mg];exact m);have px:(μ1++[x])[R.length]?=J x:=by rw[ac.len];simp
  refine⟨.ref R.length::ds,R++[.ins C []],μ1++[x],am,.cons (.ref px) (by rw[Ys];exact bQ.mono ac g2),?_⟩;refine Fin.bind (Fin.mono g2 f1) λd h3 v H3 μ3 _ g3 a9 ib f3=>?_;cases d with
  |non=>cases ib;exact⟨rfl,f3.ok a9 (.ref (g3.pre _ _ px))⟩
  |_=>exact f3.elim
 cases ys with
 |nil=>
  cases es with
  |nil=>
   exact(Zql qd F G.room1 g1 m B_ .nil G.pass g2).imp λZ H Q s=>by
    cases s with
    |mk S h B rh rs f=>exact key [] h [] H B Q rh .nil f
  |cons e r=>exact ff h4
 |cons y ys=>exact(Zsm qd F G.room1 g1 m B_ .nil G.pass ha g2 (ZdN X.env h4).1 ((ZdN X.env h4).2 _)).imp λZ H Q s=>Sm.bind s λS ds R xs H1 μ1 ac _ bQ f1=>key ds R xs H1 μ1 Q ac bQ f1
def Zvq(G:Gd T Γ X Y E k)(h5:(C,n)∈Γ.kl.ms)(h3:Zcl xo=Wx)(h4:chks Γ es ys=Wx)(h6:ys.length<29)(h7:(ap.endLine==cp.line)=Wx)(ho:PE X xo (ZaI T Y E o))(ha:PA X ys (ZlO T Y E es)):
 PE X (.Call (.Attribute xo n ap) ys [] cp) (ZaI T Y E (.mcl C n o es)):=by
 obtain⟨a,f,fd,ps,mm,c,hm,F,B_⟩:=G.mts _ h5;have cf:methodCallForm (ys.length+([]:List Keyword).length) (YS cp (YA ys X.env)) (backToKw cp (Wc [] X.env))=Wx:=by
  unfold methodCallForm;rw[(ZfF Γ X.env es ys h4 _).2];have jb:Wz (ys.length+([]:List Keyword).length+(if (backToKw cp (Wc [] X.env)).isEmpty then 0 else 1)<30)=Wx:=by
   rw[decide_eq_true_eq];show ys.length+0+0<30
   lia
  rw[jb];rfl
 have ht:=ZoN (o:=xo) (name:=n) (apos:=ap) (pos:=cp) (args:=ys) (env:=X.env) (Zf8 h3) cf h7;have key:∀(d:D) (R:Hd) (x:V) (H1:Hp) (μ1:List Yi) (S:Ev) (Z:L2.St) (Q:VK),RH Y H1 μ1 R->RS Y H1 μ1 S Z->RD Y H1 μ1 d x->Fin Y (RD Y) H1 μ1 (match Zah d R with
  |some (C',fs)=>if C'=C/\fs.lookup n=M then(evs T es S R).bind λxs h2=>T.C (mnm C n) (d::xs) h2 else .bad
  |none=>.bad) Q E->∃b dx fs,x=.ref b/\H1 b=J (.ins a dx fs)/\fs.lookup n=M/\ZlO T Y E es Z H1 λvs H2=>Zgq T Y (mnm C n) (x::(vs++[])) H2 Q E:=by
  intro d R x H1 μ1 S Z Q ac ai rd f1;split at f1
  . rename_i C' fs e;obtain⟨⟨e1,e2⟩,f1⟩:=f1.iff;subst e1;obtain⟨i,b,Ca,dx,gs,rfl,rfl,q,hi,z,m',s⟩:=Zh3 ac rd e;rw[G.gk.mg,mm]at m';cases m';refine⟨b,dx,gs,rfl,z,(s.look (f:=n)).2 e2,S,R,μ1,ac,ai,f1.bind λds h2 vs H2 μ2 _ g2 am bQ f2=>⟨_,h2,μ2,am,.cons (rd.mono ac g2) (by rw[Ys];exact bQ),f2⟩⟩
  . exact f1.elim
 cases ys with
 |nil=>
  cases es with
  |nil=>
   exact(Zqk ho c hm F G.room B_ .nil G.pass ht).imp λZ H Q s=>Sm.bind s λS d R x H1 μ1 ac ai rd f1=>by
    obtain⟨b,dx,fs,e1,e2,e3,s⟩:=key d R x H1 μ1 S Z Q ac ai rd f1;cases s with
    |mk ρ' h' μ' rh' bH f'=>exact⟨b,dx,fs,e1,e2,e3,f'.ok rh' .nil⟩
  |cons e r=>exact ff h4
 |cons y ys=>exact(Zsk ho c hm F G.room B_ .nil G.pass ha (ZdN X.env h4).1 ((ZdN X.env h4).2 _) ht).imp λZ H Q s=>Sm.bind s λS d R x H1 μ1 ac ai rd f1=>key d R x H1 μ1 S Z Q ac ai rd f1
end
section
variable {X:Cx}{Y:Yx}{E:XK}{H:Hp}{B:List Yi}{h:Hd}
theorem ZmW:∀{xs:List D}{vs:List V}{ss:List Str},RDs Y H B xs vs->strsOf xs=J ss->vs=ss.map .str
 |[],vs,ss,r,e=>by cases r;cases e;rfl
 |d::ds,vs,ss,r,e=>by
  cases r with
  |cons r1 r2=>
   cases r1 with
   |str x ok=>rw[strsOf]at e;obtain⟨t,e1,rfl⟩:=Oo.mp e;rw[ZmW r2 e1];rfl
   |_=>cases e
def Zuq(hY:Y.K=X.K)(ea:V.ref a=.ref b)(t:SqT Y.K H b vs)(s:RDs Y H B xs vs)(rh:RH Y H B h)(ry:RD Y H B y v)
 (f:Fin Y (RD Y) H B (Zo9 (.tup xs) y h) Q E):ZlX X.K (.ref a) [v] H Q:=by
 cases ry with
 |str z ok=>
  unfold Zo9 at f;simp only at f;split at f
  . rename_i ss e;obtain⟨d,e1,f⟩:=f.ofO;obtain⟨j,e2,rfl⟩:=Oo.mp e1;have ev:=ZmW s e;subst ev;exact⟨b,ss,z,j,ea,rfl,hY▸t,e2,f.ok rh (.int _)⟩
  . exact f.elim
 |_=>exact f.elim
end
def Znl{q:Prop}(X:Cx)(hx:Zxl scope x=Wx):Loc (relabel scope X.env) x/\(q\/(relabel scope X.env).names.lookup x=J .local):=by
 have:(relabel scope X.env).names.lookup x=J .local:=by rw[Zcj,of_decide_eq_true hx];rfl
 exact⟨.inl this,.inr this⟩
def Zpj(e:ZiS (.ref i) h=J w):∃xs,h[i]?=J (.lst xs)/\w=⟨J (i,xs),xs⟩:=by
 unfold ZiS at e;simp only at e;split at e
 . cases e;exact⟨_,by assumption,rfl⟩
 . cases e
def Zww{X:Cx}{R:Hd}(K:Y.K=X.K)(rh:RH Y H1 μ1 R)(r:RD Y H1 μ1 d v)(il:Zh0 d R=Wx):tyV X.K "list" v H1:=by
 cases r with
 |ref q=>
  rename_i i a;have:∃xs,R[i]?=J (.lst xs):=by
   unfold Zh0 at il;simp only at il;split at il
   . exact⟨_,by assumption⟩
   . cases il
  obtain⟨xs,hx⟩:=this;obtain⟨vs,hl,_⟩:=rh.ob i _ a hx q;exact .inl ⟨rfl,vs,.of hl⟩
 |_=>cases il
def ZsN(G:Gd T Γ X Y E k)(ho:PE X xo (ZaI T Y E o))(h3:Zcl xo=Wx)(h4:chks Γ es ys=Wx)(h5:ys.length<29)(h6:(ap.endLine==cp.line)=Wx)(ha:PA X ys (ZlO T Y E es)):
 PE X (.Call (.Attribute xo (ZqC m) ap) ys [] cp) (ZaI T Y E (.meth m o es)):=by
 obtain⟨sl,ty⟩:=ZxA m;cases ys with
 |nil=>
  cases es with
  |nil=>exact(Zva PySem.F.plainAttrs_list sl ty (Znq (Y:=Y) (E:=E) G.gk.K m) ho (Zf8 h3) h6).imp λZ H Q s=>Sm.bind s λS d R x H1 μ1 ac ai rd f1=>⟨Zww G.gk.K ac rd f1.iff.1,d,[],R,μ1,ac,rd,.nil,f1.iff.2⟩
  |cons e r=>exact ff h4
 |cons y ys=>
  refine(Zxj PySem.F.plainAttrs_list sl ty (Znq (Y:=Y) (E:=E) G.gk.K m) ho ha (Zf8 h3) ?_ h6 (ZdN X.env h4).1 ((ZdN X.env h4).2 _)).imp λZ H Q s=>Sm.bind s λS d R x H1 μ1 ac ai rd f1=>⟨Zww G.gk.K ac rd f1.iff.1,S,R,μ1,ac,ai,f1.iff.2.bind λds h2 xs H2 μ2 _ g2 am bQ f2=>⟨d,ds,h2,μ2,am,rd.mono ac g2,bQ,f2⟩⟩
  rw[(ZfF Γ X.env es (y::ys) h4 _).2];have jb:Wz ((y::ys).length+([]:List Keyword).length+(if ([]:List Keyword).isEmpty then 0 else 1)<30)=Wx:=by rw[decide_eq_true_eq];exact Nat.lt_succ_of_lt h5
  rw[jb];rfl
def Zzl(hb:∀d h',e=.ok d h'->∃c,d=.bl c)(f:Fin Y eqR H B (e.bind λx R=>qe.ofO (Zgo GD x R) R) Q E):Fin Y (RD Y) H B e (λv H'=>∃c,v=.bl c/\Q c H') E:=
 f.bind λd R x H1 μ1 er g ac rd f1=>by obtain⟨c,rfl⟩:=hb d R er;cases rd;exact⟨c,rfl,Fin.ok (show Fin Y eqR H1 μ1 (.ok c R) Q E from f1) ac rfl⟩
def Zzm{f:D->D->Hd->qe D}(hf:∀x y h d h',f x y h=.ok d h'->∃c,d=.bl c)(s:Sm Y E eqR (λS h=>((ev T a S h).bind λx R=>(ev T b S R).bind λy h2=>f x y h2).bind λx R=>qe.ofO (Zgo T.GD x R) R) Z H Q):
 ZaI T Y E a Z H λx H1=>ZaI T Y E b Z H1 λy H2=>rB Y E f x y H2 λv H3=>∃c,v=.bl c/\Q c H3:=by
 cases s with
 |mk S h B rh rs q=>refine ZrW ⟨S,h,B,rh,rs,Zzl (λd h' er=>?_) q⟩;obtain⟨_,_,_,er⟩:=qe.bind_eq er;obtain⟨_,_,_,er⟩:=qe.bind_eq er;exact hf _ _ _ _ _ er
def Ztn(G:Gd T Γ X Y E k)(ha:PE X l (ZaI T Y E a))(hb:PE X r (ZaI T Y E b))(hm:Zfh r=Wx):PT X (.Compare l [op] [r] pos) (Zoh T Y E (.ex (.cmp op a b))):=(Zne (Zqr (E:=E) G.room G.h60 G.gk op) ha hb (Znr hm)).imp λ_ _ _ s=>Zzm (f:=opC T.GD op) (λ_ _ _ _ _=>Zvj) s
def Zwb{r:qe α}:r.bind qe.ok=r:=by cases r<;>rfl
def ZtR{X:Cx}(hY:Y.K=X.K)(rh:RH Y H B h)(r:RD Y H B d v)(f:Fin Y rel H B ((shD d h).bind k) Q E):∃p,Dp X.K H v p/\L2.Zog p=Wx/\Fin Y rel H B (k p.shown h) Q E:=by
 unfold shD at f;split at f
 . rename_i p ep;split at f
   . rename_i ok;exact⟨p,hY▸ZfJ rh r ep,ok,f⟩
   . exact f.elim
 . exact f.elim
def rpE{X:Cx}(G:Gd T Γ X Y E k)(hg:glb Γ (O "repr")=Wx)(ha:PE X y t)(hy:Zag y=Wx):PE X (.Call (.Name (O "repr") p) [y] [] q) (tCB (Znb X.K) (ZmU t Zob)):=Zd7 (Zo1 G.room) (G.gl hg).1 (G.blt _ (by decide)) (by decide +kernel) (Zcz ha Zd9 (Zw X.env hy)) (by decide) (by decide) (Zw X.env hy) rfl
def rp2{X:Cx}(hY:Y.K=X.K){Q':VK}(s:Sm Y E rel (λS h=>(ev T (.rpn a b) S h).bind k) Z H Q)(hq:∀c R H1 μ1,RH Y H1 μ1 R->Fin Y rel H1 μ1 (k (.bl c) R) Q E->Q' (.bl c) H1):
 tOp Zw5 (tCB (Znb X.K) (ZmU (ZaI T Y E a) Zob)) (tCB (Znb X.K) (ZmU (ZaI T Y E b) Zob)) Z H Q':=by
 cases s with
 |mk S h B rh rs f=>
  have f:Fin Y rel H B ((ev T a S h).bind λx R=>(shD x R).bind λp R=>(ev T b S R).bind λy h2=>(shD y h2).bind λq h3=>k (.bl (!Wz (p=q))) h3) Q E:=by have q:=f;rw[show ev T (.rpn a b) S h=(ev T a S h).bind λx R=>(shD x R).bind λp R=>(ev T b S R).bind λy h2=>(shD y h2).bind λq h3=>.ok (.bl (!Wz (p=q))) h3 from rfl,qe.bind_assoc]at q;simpa only[qe.bind_assoc,qe.bind_ok]using q
  refine⟨S,h,B,rh,rs,f.bind λd R x H1 μ1 _ g ac rd f1=>?_⟩;obtain⟨p,dp,ok,f1⟩:=ZtR hY ac rd f1;refine⟨x,p,rfl,dp,ok,S,R,μ1,ac,rs.mono rh g,f1.bind λe h2 y H2 μ2 _ g2 am re f2=>?_⟩;obtain⟨q,dq,kz,f2⟩:=ZtR hY am re f2;exact⟨y,q,rfl,dq,kz,_,_,rfl,rfl,hq _ h2 H2 μ2 am f2⟩
def Zoy(G:Gd T Γ X Y E k)(he:PE X x (ZaI T Y E e))(R:Zl1 x=Wx):PT X x (Zoh T Y E (.ex e)):=
 (Zp6 he ((kdE x).tr R _)).imp λZ H Q s=>Sm.bind s λS d R x H1 μ1 ac ai rd f1=>by obtain⟨b,eb,f1⟩:=f1.ofO;exact⟨b,ZrN G.gk.K ac rd eb,f1.ok ac rfl⟩
def ZmR(T:Tb)(Y:Yx)(E:XK):Exs->List (TE×TE)
 |.nil=>[]
 |.cons k r=>match r with
  |.nil=>[]
  |.cons v r'=>(ZaI T Y E k,ZaI T Y E v)::ZmR T Y E r'
section
variable {Y:Yx}{H:Hp}{B:List Yi}{Dd:Yi}{ys zs:List (Key×V)}
def Zoe{K:Yk}(hD:H Dd=J (.dK ys))(t:SqT K H a vs):SqT K (upd H Dd (.dK zs)) a vs:=by
 rcases t with t|t
 . rcases t with t|⟨o,t⟩
   . exact .inl (.inl (by rw[Zr (λz=>by rw[z,hD]at t;cases t)];exact t))
   . exact .inl (.inr ⟨o,by rw[Zr (λz=>by rw[z,hD]at t;cases t)];exact t⟩)
 . exact .inr t
def ZoW{K:Yk}(hD:H Dd=J (.dK ys))(t:FzL K H a vs):FzL K (upd H Dd (.dK zs)) a vs:=by
 rcases t with⟨o,t⟩|t
 . exact .inl ⟨o,by rw[Zr (λz=>by rw[z,hD]at t;cases t)];exact t⟩
 . exact .inr t
def Tr.swapD(hD:H Dd=J (.dK ys)):Tr Y H B (upd H Dd (.dK zs)) B:=⟨Zoe hD,ZoW hD,id⟩
end
inductive RPs(Y:Yx)(H:Hp)(B:List Yi):List D->List (V×V)->Prop
 |nil:RPs Y H B [] []
 |cons {k v:D}{r:List D}{x y:V}{ps:List (V×V)}:RD Y H B k x->RD Y H B v y->RPs Y H B r ps->RPs Y H B (k::v::r) ((x,y)::ps)
theorem RPs.pairs:∀{ds:List D}{ps:List (V×V)}{kvs:List (Key×D)},RPs Y H B ds ps->Zd8 ds=J kvs->∃aj:List (Key×V),ps=aj.map (λkv=>(kV kv.1,kv.2))/\RKs Y H B kvs aj
 |_,_,_,.nil,e=>by cases e;exact⟨[],rfl,.nil⟩
 |_,_,_,.cons a b s,e=>by
  rw[Zd8]at e;split at e
  . rename_i k r e1 e2;cases e;obtain⟨aj,rfl,rk⟩:=s.pairs e2;have:=ZeR a e1;subst this;exact⟨(k,_)::aj,rfl,.cons b rk⟩
  . cases e
theorem RPs.keysOk:∀{ds:List D}{ps:List (V×V)}{kvs:List (Key×D)},RPs Y H B ds ps->Zd8 ds=J kvs->ZdJ kvs
 |_,_,_,.nil,e=>by cases e;intro p hp;cases hp
 |_,_,_,.cons a b s,e=>by
  rw[Zd8]at e;split at e
  . rename_i k r e1 e2;cases e;intro p hp x z;rcases O3.mp hp with rfl|hp
    . exact ZqP a e1 x z
    . exact s.keysOk e2 p hp x z
  . cases e
theorem ZfP:∀{more kvs:List (Key×D)},ZdJ more->ZdJ kvs->ZdJ (Zfi kvs more)
 |[],kvs,_,h=>h
 |(k,d)::r,kvs,hm,h=>ZfP (more:=r) (kvs:=putD kvs k d) (λp hp=>hm p (Oh _ hp)) (ZhZ h (λx e=>hm (k,d) Oi x e))
theorem RKs.merge:∀{more:List (Key×D)}{cS:List (Key×V)}{kvs:List (Key×D)}{aj:List (Key×V)},RKs Y H B more cS->RKs Y H B kvs aj->RKs Y H B (Zfi kvs more) (Zgx aj cS)
 |_,_,_,_,.nil,s=>s
 |_,_,_,_,.cons (k:=k) a r,s=>by have z:=RKs.merge r (s.put k a);exact z
def Zqo:∀(n:Nat) (ps:Exs) {K:List D->Hd->qe D}{H:Hp}{B:List Yi}{h:Hd}{Q1:List (V×V)->Hp->Prop}{Γ:Gm}{ks:List (Option Expr)}{vs:List Expr},ks.length<=n->chkp Γ ps ks vs=Wx ->
 Gr H0 μ0 H B->RH Y H B h->RS Y H B S Z->Fin Y (RD Y) H0 μ0 ((evs T ps S h).bind K) Q E ->
 (∀ds R qs H1 μ1,Gr H B H1 μ1->RH Y H1 μ1 R->RPs Y H1 μ1 ds qs->Fin Y (RD Y) H0 μ0 (K ds R) Q E->Q1 qs H1)->Zjy (ZmR T Y E ps) Z H Q1:=by
 intro n;induction n with
 |zero=>
  intro ps K H B h Q1 Γ ks vs hl hc g0 rh rs f hq;cases ps with
  |nil=>exact hq [] h [] H B Gr.refl rh .nil f
  |cons k r=>
   cases r with
   |nil=>unfold chkp at hc;cases hc
   |cons v r'=>
    unfold chkp at hc;simp only at hc;split at hc
    . simp at hl
    . cases hc
 |succ n ih=>
  intro ps K H B h Q1 Γ ks vs hl hc g0 rh rs f hq;cases ps with
  |nil=>exact hq [] h [] H B Gr.refl rh .nil f
  |cons k r=>
   cases r with
   |nil=>unfold chkp at hc;cases hc
   |cons v r'=>
    unfold chkp at hc;simp only at hc;split at hc
    . rw[Oa]at hc;have f1:Fin Y (RD Y) H0 μ0 ((ev T k S h).bind λx R=>(ev T v S R).bind λy h2=>(evs T r' S h2).bind λxs h3=>K (x::y::xs) h3) Q E:=by
       have e:(evs T (.cons k (.cons v r')) S h).bind K=(ev T k S h).bind λx R=>(ev T v S R).bind λy h2=>(evs T r' S h2).bind λxs h3=>K (x::y::xs) h3:=by show((ev T k S h).bind λx R=>((ev T v S R).bind λy h2=>(evs T r' S h2).bind λxs h3=>qe.ok (y::xs) h3).bind λxs h2=>qe.ok (x::xs) h2).bind K=_;simp only[qe.bind_assoc,qe.bind_ok]
       rw[<-e];exact f
      refine⟨S,h,B,rh,rs,Fin.bindB g0 f1 λd R x H1 μ1 _ g1 ac rd f2=>?_⟩;refine⟨S,R,μ1,ac,rs.mono rh g1,Fin.bindB (g0.trans g1) f2 λe h2 y H2 μ2 _ g2 am re f3=>?_⟩;refine ih r' (by simpa using hl) (bR hc.2) ((g0.trans g1).trans g2) am ((rs.mono rh g1).mono ac g2) f3 λds h3 qs H3 μ3 g3 a9 rp f4=>?_;exact hq (d::e::ds) h3 ((x,y)::qs) H3 μ3 ((g1.trans g2).trans g3) a9 (.cons ((rd.mono ac g2).mono am g3) (re.mono am g3) rp) f4
    . cases hc
def Zti(ps:Exs)(G:Gd T Γ X Y E k)(jd:ks.length<=15)(hc:chkp Γ ps ks vs=Wx)(hp:PPs X pos ks vs (ZmR T Y E ps))(cj:ks.all (·.isSome)=Wx)(hl:ks.length=vs.length):PE X (.Dict ks vs pos) (ZaI T Y E (.dictl ps)):=by
 by_cases h0:ks=[]
 . subst h0;cases vs with
   |cons a b=>cases hl
   |nil=>
    cases ps with
    |cons k r=>
     cases r with
     |nil=>unfold chkp at hc;cases hc
     |cons v r'=>unfold chkp at hc;cases hc
    |nil=>refine Zqn.imp λZ H Q ⟨S,h,B,rh,rs,f⟩ p hp=>?_;have f:Fin Y (RD Y) H B (Zdr (.dic []) h) Q E:=f;exact f.new rh hp ⟨[],Zt,.nil⟩ (λp hp=>by cases hp)
 . refine(Zso hp cj hl h0 jd).imp λZ H Q ⟨S,h,B,rh,rs,f⟩ p hp=>?_;have np:=rh.fr hp;refine Zqo ks.length ps (Oq _) hc (Gr.lay0 hp) (rh.lay0 hp) (rs.mono rh (Gr.lay0 hp)) f λds R qs H1 μ1 g1 ac rp f1=>?_;obtain⟨gJ,nD⟩:=g1.out (Zt (H:=H)) np;have lU:Gr H B H1 μ1:=(Gr.lay0 hp).trans g1;split at f1
   . rename_i kvs ek;obtain⟨hz,f1⟩:=f1.iff;obtain⟨aj,rfl,rk⟩:=rp.pairs ek;refine⟨gJ,aj,rfl,by rw[<-rk.length];exact hz,?_⟩;have f2:Fin Y (RD Y) H B (.ok (.ref R.length) (R++[.dic (Zfi [] kvs)])) Q E:=f1;exact f2.at ((lU.put hp).add hp) ((ac.tr (.swapD gJ) λ_ ha=>Zr λz=>nD (z▸ha)).add nD ⟨_,Zt,((rk.merge .nil).tr (.swapD gJ)).tr .more⟩ (show ZdJ (Zfi [] kvs)from ZfP (rp.keysOk ek) (λp hp=>by cases hp))) (.ref (by rw[ac.len];simp))
   . exact f1.elim
mutual
theorem Zo(e:Ex){Γ:Gm}{X:Cx}{E:XK}{k:Nat}{x:Expr}(G:Gd T Γ X Y E k)(h:chk Γ e x=Wx):PE X x (ZaI T Y E e):=match e,h with
 |.var i,h=>Zxy h λx q h=>(Zu1 (by rw [G.N];exact of_decide_eq_true (bL h)) (G.vis _ (bL (bR h))) (by simpa using bL (bR (bR h))) (by simpa using bR (bR (bR h)))).imp λZ H Q s=>by
   cases s with
   |mk S h B rh rs f =>
     obtain⟨d,e,f⟩:=Fin.ofO (show Fin Y (RD Y) H B (qe.ofO (S[i]?).join h) Q E from f);obtain⟨v,e1,rd⟩:=rs.var e;exact⟨v,e1,f.ok rh rd⟩
 |.cst d,h=>Zri G h
 |.glo y,h=>Zpg h λq h aa s Z H Q I sm=>by
   cases sm with
   |mk S h' B rh rs f =>
     obtain⟨d,e,f⟩:=Fin.ofO (show Fin Y (RD Y) H B (qe.ofO (T.G y) h') Q E from f);obtain⟨v,u,hm,rv,rd⟩:=G.gk.g y d e;exact Zsn (G.gl h).1 hm rv (G.gl h).2 aa s Z H Q I (f.ok rh (rd H B))
 |.bin op a b,h=>Zyc h λl r q h=>(Zxh (Zvk G.gk.K op) (Zo a G (bL h)) (Zo b G (bR h))).imp λ_ _ _ s=>ZrW s
 |.cmp op a b,h=>ZnS h λl r q h=>(Znj (Zqr G.room G.h60 G.gk op) (Zo a G (bL h)) (Zo b G (bL (bR h))) (Znr (bR (bR h)))).imp λ_ _ _ s=>ZrW s
 |.cmp2 o1 o2 a b c,h=>ff h
 |.neg a,h=>Zui h λx q h=>(Zxf Zuh (Zo a G h)).imp λZ H Q s=>Sm.bind s λS d R x H1 μ1 ac ai rd f1=>by
   cases rd with
   |int i=>exact⟨i,rfl,Fin.ok f1 ac (.int _)⟩
   |_=>exact f1.elim
 |.nt a,h=>Zui h λx q h=>(Zu5 (Zo a G h)).imp λZ H Q s=>Sm.bind s λS d R x H1 μ1 ac ai rd f1=>by
   cases rd with
   |bl i=>exact⟨i,rfl,Fin.ok f1 ac (.bl _)⟩
   |_=>exact f1.elim
 |.ands es,h=>ZsK h λxs q h=>and_ok es G h
 |.ors es,h=>ZsK h λxs q h=>or_ok es G h
 |.ite c a b,h=>Zy5 h λt x y q h=>(Zqm (tst_ok c G (bL h)) (Zo a G (bL (bR h))) (Zo b G (bR (bR h)))).imp λZ H Q s=>Sm.bind s λS d R v H1 μ1 ac ai rd f1=>by
   cases rd;cases d with
   |true=>exact Zmj ⟨S,R,μ1,ac,ai,f1⟩
   |false=>exact Zmk ⟨S,R,μ1,ac,ai,f1⟩
 |.tupl es,h=>Zkt h λxs j q h=>(Zu2 (evs_ok es G h)).imp λZ H Q s=>Sm.bind s λS d R x H1 μ1 ac ai rd f1=>⟨by rw [<-rd.length];exact f1.iff.1,λp hp=>f1.iff.2.tup ac hp rd⟩
 |.lstl es,h=>ZxE h λxs q h=>(Zu6 (evs_ok es G h)).imp λZ H Q s=>Sm.bind s λS d R x H1 μ1 ac ai rd f1=>⟨by rw [<-rd.length];exact f1.iff.1,λp hp=>f1.iff.2.new ac hp ⟨_,Zt,rd.mono ac (Gr.lay hp)⟩⟩
 |.ix a i,h=>Zuz h λx y q h=>(Zxi (ZsB G.gk) (Zo a G (bL h)) (Zo i G (bL (bR h))) (ZpI (bR (bR h)))).imp λ_ _ _ s=>ZrW s
 |.sl a lo hi,h=>ZwR h λx l u q r h=>(Zqh (Zsz (E:=E) G.gk.K) (Zo a G (bL h)) (evo_ok lo G (bL (bR h))) (evo_ok hi G (bR (bR h)))).imp λZ H Q s=>Sm.bind s λS d R x H1 μ1 ac ai rd f1 =>
   ⟨S,R,μ1,ac,ai,Fin.bind f1 λl h2 l' H2 μ2 _ g2 am rl f2=>⟨S,h2,μ2,am,ai.mono ac g2,Fin.bind f2 λu h3 u' H3 μ3 _ g3 a9 ru f3=>by
     cases rl;cases ru;exact⟨d,h3,μ3,a9,(rd.mono ac g2).mono am g3,f3⟩⟩⟩
 |.blt f es,h=>ZcH h λp ys q h=>Zrh (bL (bR h)) (bR (bR h)) λy r hs=>(Zwa G f (bL (bL h)) (G.gl (bR (bL h))).1 (evs_ok es G hs) (ZdN X.env hs).1 ((ZdN X.env hs).2 _)).imp λZ H Q s=>Sm.bind s λS d R x H1 μ1 ac ai rd f1=>⟨d,R,μ1,ac,rd,f1⟩
 |.call f es,h=>ZcH h λp ys q h=>Zrh (bL (bR (bR h))) (bR (bR (bR h))) λy r hs=>by
   obtain⟨ps,hd⟩:=G.defs _ (of_decide_eq_true (bL h));exact(Zu9 hd G.room (G.gl (bL (bR h))).1 G.pass (evs_ok es G hs) (G.gl (bL (bR h))).2 (ZdN X.env hs).1 ((ZdN X.env hs).2 _)).imp λZ H Q s=>Sm.bind s λS d R x H1 μ1 ac ai rd f1=>⟨d,R,μ1,ac,rd,f1⟩
 |.meth m o es,h=>Zrp h λxo ap ys cp h=>ZsN G (Zo o G (bL h)) (bL (bR h)) (bL (bR (bR h))) (of_decide_eq_true (bL (bR (bR (bR h))))) (bR (bR (bR (bR h)))) (evs_ok es G (bL (bR (bR h))))
 |.comp NC js it g c e,h=>ZtZ h λaC tg iter bb scope q h=>by
   have S_:=Zli (bL (bR h));rw [<-G.N,<-G.sc (bL h)] at S_;have h:=bR (bR h);have Gc:=λ(aa:List (Yi×Obj)) (Z:L2.St) (C:Yi) (s3:Yb) (H3:Hp) (fp:List Yi) (i3:Inv X aa Z H3 s3) (j3:∀ b∈fp,Zcg X aa H3 b) (k3:C=s3.heap.objs.size)=>G.comp NC scope C s3 H3 fp S_.nd (G.passC (bL ‹_›) aa Z NC scope C s3 H3 fp i3 j3 k3);refine(Zsp (g:=tgR X.K g) (tc:=Sm Y E eqR (tsto T c)) (te:=ZaI T Y E e) S_ rfl G.calm (evi_ok it G (bL h)) (λaa Z C s3 H3 fp i3 j3 k3=>⟨Znh rfl S_.nd rfl (λx hx=>Znl (scope:=scope) X hx) (bL (bR (bR h))),ifs_ok c (Gc aa Z C s3 H3 fp i3 j3 k3) (bL (bR (bR (bR (bR h))))),Zo e (Gc aa Z C s3 H3 fp i3 j3 k3) (bR (bR (bR (bR (bR h)))))⟩) (ZwE X.K g) (λj hj=>of_decide_eq_true (OC.mp (bL (bR (bR (bR h)))) j (List.mem_range.mpr hj))) (ZlM X.env (bL (bR h)))).imp
     λZ H Q s=>Sm.bind s λS w R qb H1 μ1 ac ai wj f1 D hD=>ZnM G.gk.K (λ_ _ _ z=>z) ac ai wj f1 hD
 |.sorts e,h=>ff h
 |.trev e,h=>ZcH h λp ys q h=>Zaw h λz h=>ZcH h λp' ys q' h=>Zaw h λy h =>
   (ZoB G.calm (G.gl (bL h)).1 (G.blt _ (by decide)) (G.gl (bL (bR h))).1 (G.blt _ (by decide)) (Zcz (Zo e G (bL (bR (bR h)))) Zd9 (Zw X.env (bR (bR (bR h))))) (Zw X.env (bR (bR (bR h))))).imp λZ H Q s=>Sm.bind s λS d R x H1 μ1 ac ai rd f1=>by
     cases d with
     |tup xs =>
       cases xs with
       |nil=>exact f1.elim
       |cons y ys =>
         obtain⟨a,vs,rfl,t,s⟩:=rd.tup_inv;exact⟨a,vs,rfl,G.gk.K▸t,(λz=>by have:=s.length;rw [z] at this;cases this),λp hp=>f1.tup ac hp s.reverse⟩
     |_=>exact f1.elim
 |.lrv e,h=>ff h
 |.tix o e,h=>Zrp h λxo ap ys cp h=>Zaw h λy h=>by
   have st:=bL (bR (bR (bR h)));refine(Zu3 G.gk.bare (Zo o G (bL h)) (Zcz (Zo e G (bL (bR (bR h)))) Zd9 (Zw X.env st)) (Zf8 (bL (bR h))) ?_ (bR (bR (bR (bR h)))) (Zw X.env st)).imp λZ H Q s=>Sm.bind s λS d R x H1 μ1 ac ai rd f1=>?_
   . rw [Zw X.env st];rfl
   . obtain⟨il,f1⟩:=f1.iff;cases d with
     |tup xs =>
       obtain⟨a,vs,rfl,t,s⟩:=rd.tup_inv;refine⟨⟨a,vs,rfl,G.gk.K▸t⟩,S,R,μ1,ac,ai,f1.bind λy h2 v H2 μ2 _ g2 am ry f2=>?_⟩;obtain⟨a2,jj,ea,t2,s2⟩:=(rd.mono ac g2).tup_inv;exact Zuq G.gk.K ea t2 s2 am ry f2
     |_=>cases il
 |.lix o e,h=>ff h
 |.lin a b,h=>ff h
 |.rpn a b,h=>ZnS h λl r q h=>ZcH h λp ys q' h=>Zaw h λy h=>ZcH h λp2 zs q2 h=>Zaw h λz h=>(Znj Zqq (rpE G (bL h) (Zo a G (bL (bR h))) (bL (bR (bR h)))) (rpE G (bL h) (Zo b G (bL (bR (bR (bR h))))) (bR (bR (bR (bR h))))) rfl).imp λZ H Q s =>
   rp2 G.gk.K (k:=qe.ok) (rel:=RD Y) (Q:=Q) (by simp only [Zwb];exact s) λc R H1 μ1 ac f1=>f1.ok ac (.bl _)
 |.any,h=>λaa s Z H Q I sm=>by
   cases sm with
   |mk S h B rh rs f=>exact f.elim
 |.att Cs o f,h=>ZtF h λx q h=>(Zu8 (Zo o G (bL h)) (Zf8 (bL (bR h)))).imp λZ H Q s=>Sm.bind s λS d R x H1 μ1 ac ai rd f1=>Zwg G (bL (bR (bR h))) (of_decide_eq_true (bR (bR (bR h)))) ac rd f1
 |.mk C es,h=>ZcH h λp ys q h=>ZxB G (of_decide_eq_true (bL h)) (bL (bR h)) (bR (bR h)) (evs_ok es G (bR (bR h)))
 |.mcl C m o es,h=>Zrp h λxo ap ys cp h=>Zvq G (of_decide_eq_true (bL (bR (bR (bR h))))) (bL (bR h)) (bL (bR (bR h))) (of_decide_eq_true (bL (bR (bR (bR (bR h)))))) (bR (bR (bR (bR (bR h))))) (Zo o G (bL h)) (evs_ok es G (bL (bR (bR h))))
 |.maxd a d,h=>Zx8 h λp ys z r q h=>Zaw h λy h=>(Zsl (G.gl (bL h)).1 (G.blt _ (by decide)) G.calm (Zo a G (bL (bR h))) (Zo d G (bR (bR (bR h)))) (Zw X.env (bL (bR (bR h))))).imp λZ H Q s=>Sm.bind s λS x R v H1 μ1 ac ai rx f1 =>
   ⟨S,R,μ1,ac,ai,Fin.bind f1 λy h2 u H2 μ2 _ g2 am ry f2=>by
     cases ry with
     |int d =>
       obtain⟨r,er,f2⟩:=Fin.ofO (show Fin Y (RD Y) H2 μ2 (qe.ofO (((lstOf x h2).bind intsOf).map λns=>.int (Zec ns d)) h2) Q E from f2);obtain⟨ns,e2,rfl⟩:=Oo.mp er;obtain⟨zs,e3,e4⟩:=Option.bind_eq_some_iff.mp e2;obtain⟨a,vs,rfl,hl,rv⟩:=(rx.mono ac g2).lstOf am e3;rw [Zh2 rv e4] at hl;exact⟨a,ns,d,rfl,rfl,G.gk.K▸hl,f2.ok am (.int _)⟩
     |_=>exact f2.elim⟩
 |.dictl ps,h=>Zzc h λks vs q h=>Zti ps G (of_decide_eq_true (bL h)) (bR h) (pairs_ok ps G (bR h)).1 (pairs_ok (pos:=q) ps G (bR h)).2.1 (pairs_ok (pos:=q) ps G (bR h)).2.2
theorem evs_ok(e:Exs){Γ:Gm}{X:Cx}{E:XK}{k:Nat}{x:List Expr}(G:Gd T Γ X Y E k)(h:chks Γ e x=Wx):PA X x (ZlO T Y E e):=match e,x,h with
 |.nil,[],h=>Zd9.imp λZ H Q s=>by
  cases s with
  |mk S h B rh rs f=>exact Fin.ok (show Fin Y (RDs Y) H B (.ok [] h) Q E from f) rh .nil
 |.nil,_::_,h=>ff h
 |.cons e r,[],h=>ff h
 |.cons e r,y::ys,h=>(Zcz (Zo e G (bL h)) (evs_ok r G (bR (bR h))) (Zw X.env (bL (bR h)))).imp λZ H Q s=>Sm.bind s λS d R x H1 μ1 ac ai rd f1=>⟨S,R,μ1,ac,ai,f1.bind λds h2 xs H2 μ2 _ g2 am bQ f2=>f2.ok am (.cons (rd.mono ac g2) bQ)⟩
theorem and_ok(e:Exs){Γ:Gm}{X:Cx}{E:XK}{k:Nat}{x:List Expr}{pos:Pos}(G:Gd T Γ X Y E k)(h:chks Γ e x=Wx):PE X (.BoolOp .And x pos) (ZaI T Y E (.ands e)):=match e,x,h with
 |.nil,x,h=>λaa s Z H Q I sm=>by
  cases sm with
  |mk S h B rh rs f=>exact f.elim
 |.cons e r,[],h=>ff h
 |.cons e .nil,[y],h=>(Zqi (Zo e G (bL h))).imp λZ H Q q=>q
 |.cons e .nil,y::z::zs,h=>ff (bR (bR h))
 |.cons e (.cons e' r'),[y],h=>ff (bR (bR h))
 |.cons e (.cons e' r'),y::z::zs,h=>(Zvb (Zo e G (bL h)) (and_ok (.cons e' r') G (bR (bR h)))).imp λZ H Q s=>Sm.bind s λS d R x H1 μ1 ac ai rd f1=>by
  cases rd with
  |bl c=>
   refine⟨c,rfl,?_⟩;cases c with
   |true=>exact Zmj ⟨S,R,μ1,ac,ai,f1⟩
   |false=>exact Zmk (Fin.ok f1 ac (.bl _))
  |_=>exact f1.elim
theorem or_ok(e:Exs){Γ:Gm}{X:Cx}{E:XK}{k:Nat}{x:List Expr}{pos:Pos}(G:Gd T Γ X Y E k)(h:chks Γ e x=Wx):PE X (.BoolOp .Or x pos) (ZaI T Y E (.ors e)):=match e,x,h with
 |.nil,x,h=>λaa s Z H Q I sm=>by
  cases sm with
  |mk S h B rh rs f=>exact f.elim
 |.cons e r,[],h=>ff h
 |.cons e .nil,[y],h=>(Zqi (Zo e G (bL h))).imp λZ H Q q=>q
 |.cons e .nil,y::z::zs,h=>ff (bR (bR h))
 |.cons e (.cons e' r'),[y],h=>ff (bR (bR h))
 |.cons e (.cons e' r'),y::z::zs,h=>(Zxg (Zo e G (bL h)) (or_ok (.cons e' r') G (bR (bR h)))).imp λZ H Q s=>Sm.bind s λS d R x H1 μ1 ac ai rd f1=>by
  cases rd with
  |bl c=>
   refine⟨c,rfl,?_⟩;cases c with
   |true=>exact Zmj (Fin.ok f1 ac (.bl _))
   |false=>exact Zmk ⟨S,R,μ1,ac,ai,f1⟩
  |_=>exact f1.elim
theorem evo_ok(e:Option Ex){Γ:Gm}{X:Cx}{E:XK}{k:Nat}{x:Option Expr}(G:Gd T Γ X Y E k)(h:chko Γ e x=Wx):PO X x (ZyJ T Y E e):=match e,x,h with
 |none,M,h=>Zsf.imp λZ H Q s=>by
  cases s with
  |mk S h B rh rs f=>exact Fin.ok (show Fin Y _ H B (.ok M h) Q E from f) rh rfl
 |none,J _,h=>ff h
 |some e,M,h=>ff h
 |some e,J a,h=>(Zse (Zo e G h)).imp λZ H Q s=>Sm.bind s λS d R x H1 μ1 ac ai rd f1=>by
  cases rd with
  |int i=>exact⟨i,rfl,Fin.ok f1 ac rfl⟩
  |_=>exact f1.elim
theorem tst_ok(e:Tx){Γ:Gm}{X:Cx}{E:XK}{k:Nat}{x:Expr}(G:Gd T Γ X Y E k)(h:chkt Γ e x=Wx):PT X x (Zoh T Y E e):=match e,h with
 |.ex e,h=>bO h (λh=>Zoy G (Zo e G (bR h)) (bL h)) λh=>by
  cases e with
  |cmp op a b=>exact ZnS h λl r q h=>Ztn G (Zo a G (bL h)) (Zo b G (bL (bR h))) (bR (bR h))
  |rpn a b=>exact ZnS h λl r q h=>ZcH h λp ys q' h=>Zaw h λy h=>ZcH h λp2 zs q2 h=>Zaw h λz h=>(Zne Zqq (rpE G (bL h) (Zo a G (bL (bR h))) (bL (bR (bR h)))) (rpE G (bL h) (Zo b G (bL (bR (bR (bR h))))) (bR (bR (bR (bR h))))) rfl).imp λZ H Q s=>rp2 G.gk.K s λc R H1 μ1 ac f1=>⟨c,rfl,Fin.ok (show Fin Y eqR H1 μ1 (.ok c R) Q E from f1) ac rfl⟩
  |_=>exact ff h
 |.ands ts,h=>ZsK h λxs q h=>(tand_ok ts G h).pt
 |.ors ts,h=>ZsK h λxs q h=>(tor_ok ts G h).pt
 |.nt t,h=>Zui h λy q h=>(ZuS (tst_ok t G h)).imp λZ H Q s=>Sm.bind s λS d R x H1 μ1 ac ai rd f1=>by cases rd;exact Fin.ok f1 ac rfl
theorem tand_ok(e:Txs){Γ:Gm}{X:Cx}{E:XK}{k:Nat}{x:List Expr}{pos:Pos}(G:Gd T Γ X Y E k)(h:chkts Γ e x=Wx):PW X (.BoolOp .And x pos) (Zoh T Y E (.ands e)):=match e,x,h with
 |.one t,x,h=>Zaw h λy h=>(Zr7 (tst_ok t G h)).imp λZ H Q q=>q
 |.cons t ts,[],h=>ff h
 |.cons t ts,[_],h=>ff (bL (bR h))
 |.cons t ts,x::y::r,h=>(ZuQ (tst_ok t G (bL h)) (tand_ok ts G (bR (bR h)))).imp λZ H Q s=>Sm.bind s λS d R x H1 μ1 ac ai rd f1=>by
  cases rd;cases d with
  |true=>exact Zmj ⟨S,R,μ1,ac,ai,f1⟩
  |false=>exact Zmk (Fin.ok f1 ac rfl)
theorem tor_ok(e:Txs){Γ:Gm}{X:Cx}{E:XK}{k:Nat}{x:List Expr}{pos:Pos}(G:Gd T Γ X Y E k)(h:chkts Γ e x=Wx):PW X (.BoolOp .Or x pos) (Zoh T Y E (.ors e)):=match e,x,h with
 |.one t,x,h=>Zaw h λy h=>(ZuP (tst_ok t G h)).imp λZ H Q q=>q
 |.cons t ts,[],h=>ff h
 |.cons t ts,[_],h=>ff (bL (bR h))
 |.cons t ts,x::y::r,h=>(Zxa (tst_ok t G (bL h)) (tor_ok ts G (bR (bR h)))).imp λZ H Q s=>Sm.bind s λS d R x H1 μ1 ac ai rd f1=>by
  cases rd;cases d with
  |true=>exact Zmj (Fin.ok f1 ac rfl)
  |false=>exact Zmk ⟨S,R,μ1,ac,ai,f1⟩
theorem ifs_ok(c:Option Tx){Γ:Gm}{X:Cx}{E:XK}{k:Nat}{x:List Expr}(G:Gd T Γ X Y E k)(h:chkf Γ c x=Wx):PIf X x (Sm Y E eqR (tsto T c)):=match c,x,h with
 |none,[],h=>λaa s Z H Q I sm=>by
  cases sm with
  |mk S h B rh rs f=>exact Zsh aa s Z H Q I (Fin.ok (show Fin Y eqR H B (.ok Wx h) Q E from f) rh rfl)
 |none,_::_,h=>ff h
 |some t,x,h=>Zaw h λy h=>Zsg (tst_ok t G h)
theorem evi_ok(e:Ix){Γ:Gm}{X:Cx}{E:XK}{k:Nat}{x tg:Expr}(G:Gd T Γ X Y E k)(h:chki Γ e tg x=Wx):PI X tg x (ZyK T Y E e):=match e,h with
 |.pl e,h=>(ZuZ (Zo e G h)).imp λZ H Q s=>Sm.bind s λS d R x H1 μ1 ac ai rd f1=>by obtain⟨w,ew,f1⟩:=f1.ofO;exact ZrH G.gk.K ac rd ew λqb wj=>f1.ok ac wj
 |.rng e,h=>ZcH h λp ys q h=>Zaw h λy h=>(ZoA (G.gl (bL h)).1 (G.blt _ (by decide)) (Zcz (Zo e G (bL (bR h))) Zd9 (Zw X.env (bR (bR h)))) (Zw X.env (bR (bR h)))).imp λZ H Q s=>Sm.bind s λS d R x H1 μ1 ac ai rd f1=>by
  cases rd with
  |int j=>obtain⟨hz,f1⟩:=Fin.iff (show Fin Y (WJ Y) H1 μ1 (if Zdo j=Wx then .ok ⟨M,Zci 0 j.toNat⟩ R else .bad) Q E from f1);exact⟨j,rfl,of_decide_eq_true (bL hz),of_decide_eq_true (bR hz),f1.ok ac Zue⟩
  |_=>exact f1.elim
 |.rng2 a b,h=>ff h
 |.enu e,h=>ZcH h λp ys q h=>Zaw h λy h=>Zt1 (bR (bR (bR h))) λts j r=>(Zsj (G.gl (bL h)).1 (G.blt _ (by decide)) (Zcz (Zo e G (bL (bR h))) Zd9 (Zw X.env (bL (bR (bR h))))) (Zw X.env (bL (bR (bR h))))).imp λZ H Q s=>Sm.bind s λS d R x H1 μ1 ac ai rd f1=>by
  obtain⟨w,ew,f1⟩:=f1.ofO;obtain⟨w0,eQ,rfl⟩:=Oo.mp ew;cases d with
  |ro xs=>
   cases eQ;cases rd with
   |ro t s=>exact⟨_,rfl,⟨_,G.gk.K▸t.sq⟩,f1.ok ac (ZmL (ZtJ G.gk.K ac t s) λH2 μ2 h2 g2 am st=>⟨_,G.gk.K▸(g2.rdF ac t).sq,s.mono ac g2⟩)⟩
  |ref i=>obtain⟨xs,hi,rfl⟩:=Zpj eQ;obtain⟨a,vs,rfl,hm,hl,s⟩:=rd.lst ac hi;refine⟨a,rfl,⟨vs,.of hl⟩,f1.ok ac (ZmL (Zpk hm) λH2 μ2 h2 g2 am st=>?_)⟩;obtain⟨jj,bN,s2⟩:=am.ob i _ a (ZhK st) (g2.pre i a hm);exact⟨jj,.of bN,s2⟩
  |_=>cases eQ
 |.rev e,h=>ZcH h λp ys q h=>Zaw h λy h=>(Zsi (G.gl (bL h)).1 (G.blt _ (by decide)) (Zcz (Zo e G (bL (bR h))) Zd9 (Zw X.env (bR (bR h)))) (Zw X.env (bR (bR h)))).imp λZ H Q s=>Sm.bind s λS d R x H1 μ1 ac ai rd f1=>by
  obtain⟨w,ew,f1⟩:=f1.ofO;obtain⟨w0,eQ,rfl⟩:=Oo.mp ew;cases d with
  |tup xs=>cases eQ;obtain⟨a,vs,rfl,t,s⟩:=rd.tup_inv;exact⟨a,vs,rfl,.inl ⟨G.gk.K▸t,f1.ok ac (Zuf G.gk.K ac t s)⟩⟩
  |ref i=>obtain⟨xs,hi,rfl⟩:=Zpj (show ZiS (.ref i) R=J w0 from eQ);obtain⟨a,vs,rfl,hm,hl,s⟩:=rd.lst ac hi;exact⟨a,vs,rfl,.inr ⟨.of hl,by rw[<-s.length];exact f1.ok ac (ZrF hm)⟩⟩
  |_=>cases eQ
 |.en1 e,h=>ff h
 |.en0 e,h=>ff h
 |.dk e,h=>ff h
theorem pairs_ok(ps:Exs){Γ:Gm}{X:Cx}{E:XK}{k:Nat}{ks:List (Option Expr)}{vs:List Expr}{pos:Pos}(G:Gd T Γ X Y E k)(h:chkp Γ ps ks vs=Wx):PPs X pos ks vs (ZmR T Y E ps)/\ks.all (·.isSome)=Wx/\ks.length=vs.length:=match ps,ks,vs,h with
 |.nil,[],[],h=>⟨Zsd,rfl,rfl⟩
 |.nil,[],_::_,h=>ff h
 |.nil,_::_,_,h=>ff h
 |.cons e .nil,ks,vs,h=>ff h
 |.cons e (.cons v r'),[],vs,h=>ff h
 |.cons e (.cons v r'),M::_,vs,h=>ff h
 |.cons e (.cons v r'),J _::_,[],h=>ff h
 |.cons e (.cons v r'),J kx::ks,vx::vs,h=>
  let z:=pairs_ok r' (pos:=pos) G (bR (bR h))
  ⟨Zqc (Zo e G (bL h)) (Zo v G (bL (bR h))) z.1,z.2.1,congrArg (·+1) z.2.2⟩
end
def ZeP(e:Expr):Bool:=Wz (tgE e≠13)&&Wz (tgE e≠19)
def Zl7(e:Expr):Bool:=Wz (tgE e≠8)
structure PsS where
 a:Expr:=default
 b:Expr:=default
 o:Option Expr:=M
 c:Option Expr:=M
 ts:List Expr:=[]
 xs:List Stmt:=[]
 ys:List Stmt:=[]
 zs:List Stmt:=[]
 hs:List ExceptHandler:=[]
 op:Operator:=.Add
 p:Pos:=default
 s:Stmt:=default
noncomputable def tgS:Stmt->Nat
 |.Return _ _=>1|.Assign _ _ _=>2|.AugAssign _ _ _ _=>3|.Expr _ _=>4|.If _ _ _ _=>5|.While _ _ _ _=>6|.For _ _ _ _ _=>7|.Pass _=>8|.Break _=>9|.Continue _=>10|.Raise _ _ _=>11|.Try _ _ _ _ _=>12|_=>0
noncomputable def prS(s:Stmt):PsS:=match s with
 |.Return o p=>{o:=o,p:=p}
 |.Assign ts a p=>{ts:=ts,a:=a,p:=p}
 |.AugAssign a op b p=>{a:=a,op:=op,b:=b,p:=p}
 |.Expr a p=>{a:=a,p:=p}
 |.If a xs ys p=>{a:=a,xs:=xs,ys:=ys,p:=p}
 |.While a xs ys p=>{a:=a,xs:=xs,ys:=ys,p:=p}
 |.For a b xs ys p=>{a:=a,b:=b,xs:=xs,ys:=ys,p:=p}
 |.Pass p=>{p:=p}
 |.Break p=>{p:=p}
 |.Continue p=>{p:=p}
 |.Raise o c p=>{o:=o,c:=c,p:=p}
 |.Try xs hs ys zs p=>{xs:=xs,hs:=hs,ys:=ys,zs:=zs,p:=p}
 |_=>{s:=s}
noncomputable def mkS(n:Nat)(p:PsS):Stmt:=match n with
 |1=>.Return p.o p.p|2=>.Assign p.ts p.a p.p|3=>.AugAssign p.a p.op p.b p.p|4=>.Expr p.a p.p|5=>.If p.a p.xs p.ys p.p|6=>.While p.a p.xs p.ys p.p|7=>.For p.a p.b p.xs p.ys p.p
 |8=>.Pass p.p|9=>.Break p.p|10=>.Continue p.p|11=>.Raise p.o p.c p.p|12=>.Try p.xs p.hs p.ys p.zs p.p|_=>p.s
def rbS(s:Stmt):mkS (tgS s) (prS s)=s:=by cases s<;>rfl
@[irreducible] def anS(n:Nat)(s:Stmt)(f:PsS->Bool):Bool:=Wz (tgS s=n)&&f (prS s)
section
variable {P:Stmt->Prop}{s:Stmt}
def ZbC(h:anS n s f=Wx)(k:∀p,f p=Wx->P (mkS n p)):P s:=by unfold anS at h;exact rbS s▸dS (P:=λm=>P (mkS m (prS s))) (bL h) (k _ (bR h))
noncomputable def oSm{α:Type}(o:Option α)(f:α->Bool):Bool:=match o with
 |some x=>f x
 |none=>Wy
def Zl6{α:Type}{P:Option α->Prop}{o:Option α}{f:α->Bool}(h:oSm o f=Wx)(k:∀x,f x=Wx->P (J x)):P o:=by
 cases o with
 |none=>exact ff h
 |some x=>exact k x h
noncomputable def oNo{α:Type}(o:Option α)(b:Bool):Bool:=o.isNone&&b
def Zqw{α:Type}{P:Option α->Prop}{o:Option α}(h:oNo o b=Wx)(k:b=Wx->P M):P o:=by
 cases o with
 |none=>exact k h
 |some x=>exact ff h
@[irreducible] def aAs(s:Stmt)(f:Expr->Expr->Bool):Bool:=anS 2 s λp=>l1 p.ts λg=>f g p.a
def Zn3(h:aAs s f=Wx)(k:∀g x q,f g x=Wx->P (.Assign [g] x q)):P s:=by unfold aAs at h;exact ZbC h λp h=>Zaw (P:=λts=>P (.Assign ts p.a p.p)) h λ_ h=>k _ _ _ h
end
def Zze(Γ:Gm)(C:Str)(e:Expr):Bool:=aX C e (Wz (C∈Γ.kl.xs)&&glb Γ C)
@[irreducible] def Zt9(Γ:Gm)(C:Str)(x:Expr)(f:Expr->Bool):Bool:=aCN C x λys=>l1 ys λy=>Wz (C∈Γ.kl.xs)&&(glb Γ C&&(Zag y&&f y))
def aTb(N:List Str)(own:Str->Bool)(i:Nat)(b:List Stmt)(f:Expr->Bool):Bool:=l1 b λs=>aAs s λg x=>Zl8 N own i g&&f x
def ZtK{P:List Stmt->Prop}(h:aTb N own i b f=Wx)(k:∀n p x q,N[i]?=J n->own n=Wx->f x=Wx->P [.Assign [.Name n p] x q]):P b:=Zaw h λ_ h=>Zn3 (P:=λs=>P [s]) h λ_ x q h=>Zb7 (P:=λg=>P [.Assign [g] x q]) (bL h) λ_ _ e1 e2=>k _ _ _ _ e1 e2 (bR h)
def Zt8(Γ:Gm)(i:Nat)(C:Str)(hs:List ExceptHandler):Bool:=l1 hs λh=>match h with
 |.ExceptHandler t n b _=>oNo n (oSm t λt=>Zze Γ C t&&aTb Γ.N (ownD Γ.sc) i b λx=>aK x λc=>Wz (c=.none))
def ZwD{P:List ExceptHandler->Prop}(h:Zt8 Γ i C hs=Wx)(k:∀np n p j r q z,C∈Γ.kl.xs->glb Γ C=Wx->Γ.N[i]?=J n->ownD Γ.sc n=Wx->P [.ExceptHandler (J (.Name C np)) M [.Assign [.Name n p] (.Constant .none j r) q] z]):P hs:=
 Zaw h λy h=>match y,h with
  |.ExceptHandler t n b z,h=>Zqw (P:=λn=>P [.ExceptHandler t n b z]) h λh=>Zl6 (P:=λt=>P [.ExceptHandler t M b z]) h λt h=>Zpg (P:=λt=>P [.ExceptHandler (J t) M b z]) (bL h) λnp hx=>ZtK (P:=λb=>P [.ExceptHandler (J _) M b z]) (bR h) λn p x q e1 e2 h=>ZxL (P:=λx=>P [.ExceptHandler (J _) M [.Assign _ x q] z]) h λc j r h=>dS (P:=λc=>P [.ExceptHandler (J _) M [.Assign _ (.Constant c j r) q] z]) h (k np n p j r q z (of_decide_eq_true (bL hx)) (bR hx) e1 e2)
noncomputable def ZxP:Ex->Bool
 |.comp _ _ _ _ _ _|.any=>Wx
 |_=>Wy
mutual
def Zx9(Γ:Gm):Sx->Stmt->Bool
 |.ret e,s=>anS 1 s λp=>oSm p.o λx=>chk Γ e x
 |.set g e,s=>aAs s λtg x=>Zto Γ.N (ownD Γ.sc) g tg&&(chk Γ e x&&((ZeP x&&(!isTup tg||Zl7 x))||(Wz (tgE tg=6)&&ZxP e)))
 |.put o i e,s=>aAs s λtg x=>aS tg λxo xi=>chk Γ o xo&&(chk Γ i xi&&(chk Γ e x&&(ZhW xi&&ZeP x)))
 |.aug i op e,s=>anS 3 s λp=>Zl8 Γ.N (ownD Γ.sc) i p.a&&(Wz (p.op=.Add)&&(Wz (op=.Add)&&chk Γ e p.b))
 |.drp e,s=>anS 4 s λp=>chk Γ e p.a&&ZeP p.a
 |.iff c a b,s=>anS 5 s λp=>chkt Γ c p.a&&(chkSs Γ a p.xs&&chkSs Γ b p.ys)
 |.whl c b,s=>anS 6 s λp=>l0 p.ys (chkt Γ c p.a&&chkSs Γ b p.xs)
 |.forr g it b,s=>anS 7 s λp=>l0 p.ys (chki Γ it p.a p.b&&(Zfh p.b&&(Zto Γ.N (ownD Γ.sc) g p.a&&chkSs Γ b p.xs)))
 |.pas,s=>anS 8 s λ_=>Wx
 |.brk,s=>anS 9 s λ_=>Wx
 |.cnt,s=>anS 10 s λ_=>Wx
 |.seta Cs o f e,s=>aAs s λtg x=>aA f tg λxo _=>chk Γ o xo&&(chk Γ e x&&(ZeP x&&((Cs.all λC=>Wz (C∈Γ.kl.cs))&&Wz (f∈Γ.kl.ats))))
 |.auga Cs o f e,s=>anS 3 s λp=>Wz (p.op=.Add)&&aA f p.a λxo _=>chk Γ o xo&&(chk Γ e p.b&&((Cs.all λC=>Wz (C∈Γ.kl.cs))&&Wz (f∈Γ.kl.ats)))
 |.any,_=>Wx
 |.rai C e,s=>anS 11 s λp=>oNo p.c (oSm p.o λx=>Zt9 Γ C x λy=>chk Γ e y)
 |.trs i f es C,s=>anS 12 s λp=>l0 p.ys (l0 p.zs (Zt8 Γ i C p.hs&&aTb Γ.N (ownD Γ.sc) i p.xs λx=>aCN f x λys=>Wz (f∈Γ.fs)&&(glb Γ f&&(chks Γ es ys&&!ys.isEmpty))))
 |.unl _ _ _,_=>Wy
def chkSs(Γ:Gm):Sxs->List Stmt->Bool
 |.nil,ss=>ss.isEmpty
 |.cons s r,ss=>match ss with
  |x::xs=>Zx9 Γ s x&&chkSs Γ r xs
  |[]=>Wy
end
def ZW(Y:Yx)(H:Hp)(B:List Yi)(r:qe (Fl×Ev))(D:Ends)(E:XK):Prop:=match r with
 |.bad=>False
 |.ok p h'=>∀H' μ',Gr H B H' μ'->RH Y H' μ' h'->match p.1 with
  |.nx=>∀σ',RS Y H' μ' p.2 σ'->D.nx σ' H'
  |.bk=>∀σ',RS Y H' μ' p.2 σ'->D.bk σ' H'
  |.ct=>∀σ',RS Y H' μ' p.2 σ'->D.ct σ' H'
  |.rt d=>∀v,RD Y H' μ' d v->D.rt v H'
 |.exc c h'=>∀H' μ' C,Gr H B H' μ'->RH Y H' μ' h'->Y.mg c=J (.ref C)->E (.ref C) M H'
section
variable {Y:Yx}{α β:Type}{rel:Hp->List Yi->α->β->Prop}{H H1:Hp}{B μ1:List Yi}{E:XK}{D:Ends}
def ZW.mono(g:Gr H B H1 μ1)(f:ZW Y H B r D E):ZW Y H1 μ1 r D E:=by
 cases r with
 |bad=>exact f
 |ok a h=>exact λH' μ' g'=>f H' μ' (g.trans g')
 |exc c h=>exact λH' μ' C g'=>f H' μ' C (g.trans g')
theorem ZW.bind(f:ZW Y H B (r.bind k) D E)
 (hk:∀a R b H1 μ1,r=.ok a R->Gr H B H1 μ1->RH Y H1 μ1 R->rel H1 μ1 a b->ZW Y H1 μ1 (k a R) D E->Q1 b H1):Fin Y rel H B r Q1 E:=by
 cases r with
 |bad=>exact f
 |ok a h=>exact λb H' μ' g' rh rl=>hk a h b H' μ' rfl g' rh rl (ZW.mono g' f)
 |exc c h=>exact f
theorem ZW.ofO(f:ZW Y H B ((qe.ofO o h).bind k) D E):∃a,o=J a/\ZW Y H B (k a h) D E:=by
 cases o with
 |none=>exact f.elim
 |some a=>exact⟨a,rfl,f⟩
theorem ZW.nx(f:ZW Y H B (.ok (.nx,S) h) D E)(rh:RH Y H B h)(rs:RS Y H B S Z):D.nx Z H:=f H B Gr.refl rh Z rs
def ZW.part(f:ZW Y H B (r.bind k) D E)
 (hk:∀p R H1 μ1,r=.ok p R->Gr H B H1 μ1->RH Y H1 μ1 R->ZW Y H1 μ1 (k p R) D E->match p.1 with
  |.nx=>∀σ',RS Y H1 μ1 p.2 σ'->D1.nx σ' H1
  |.bk=>∀σ',RS Y H1 μ1 p.2 σ'->D1.bk σ' H1
  |.ct=>∀σ',RS Y H1 μ1 p.2 σ'->D1.ct σ' H1
  |.rt d=>∀v,RD Y H1 μ1 d v->D1.rt v H1):ZW Y H B r D1 E:=by
 cases r with
 |bad=>exact f
 |ok p h=>exact λH' μ' g' rh=>hk p h H' μ' rfl g' rh (ZW.mono g' f)
 |exc c h=>exact f
end
inductive SmS(Y:Yx)(E:XK)(m:Ev->Hd->qe (Fl×Ev))(D:Ends)(Z:L2.St)(H:Hp):Prop
 |mk (S:Ev) (h:Hd) (B:List Yi) (rh:RH Y H B h) (rs:RS Y H B S Z) (f:ZW Y H B (m S h) D E):SmS Y E m D Z H
def Zoi(T:Tb)(Y:Yx)(E:XK)(s:Sx):TS:=SmS Y E (xs1 T s)
def Zm1(T:Tb)(Y:Yx)(E:XK)(s:Sxs):TS:=SmS Y E (xs2 T s)
theorem SmS.bind{D:Ends}{γ δ:Type}{rel:Hp->List Yi->γ->δ->Prop}{m:Ev->Hd->qe γ}{k:Ev->γ->Hd->qe (Fl×Ev)}{Q1:δ->Hp->Prop}(s:SmS Y E (λS h=>(m S h).bind (k S)) D Z H)
 (hk:∀S d R v H1 μ1,RH Y H1 μ1 R->RS Y H1 μ1 S Z->rel H1 μ1 d v->ZW Y H1 μ1 (k S d R) D E->Q1 v H1):Sm Y E rel m Z H Q1:=by
 cases s with
 |mk S h B rh rs f=>exact⟨S,h,B,rh,rs,f.bind λd R x H1 μ1 _ g ac rd f1=>hk S d R x H1 μ1 ac (rs.mono rh g) rd f1⟩
def Sm.at{α β:Type}{rel:Hp->List Yi->α->β->Prop}{m:Ev->Hd->qe α}{Q1:β->Hp->Prop}{Q:Prop}(s:Sm Y E rel m Z H Q1)(hk:∀S h B,RH Y H B h->RS Y H B S Z->Fin Y rel H B (m S h) Q1 E->Q):Q:=by
 cases s with
 |mk S h B rh rs f=>exact hk S h B rh rs f
def SmS.at{D:Ends}{Q:Prop}(s:SmS Y E m D Z H)(hk:∀S h B,RH Y H B h->RS Y H B S Z->ZW Y H B (m S h) D E->Q):Q:=by
 cases s with
 |mk S h B rh rs f=>exact hk S h B rh rs f
def _root_.L2.PS.imp(h:PS X s t)(i:∀D Z H,t' D Z H->t D Z H):PS X s t':=λaa s Z H D I q=>h aa s Z H D I (i D Z H q)
def _root_.L2.PSs.imp(h:PSs X s t)(i:∀D Z H,t' D Z H->t D Z H):PSs X s t':=λaa s Z H D I q=>h aa s Z H D I (i D Z H q)
structure XOk(K:Yk)(a:Yi):Prop extends ExcN K a where
 own:PySem.W.excIn K a [.type "ValueError",.type "Exception",.type "BaseException",.type "object"] "ValueError.__new__"=Wx
 sub:YV K (.ref a) (.ref a)=J Wx
structure GdS(T:Tb)(Γ:Gm)(X:Cx)(Y:Yx)(E:XK)(k:Nat):Prop extends Gd T Γ X Y E k where
 top:Γ.top=Wx
 fnt:∀x,X.fn x=Wx
 own:PassesOwn (model X.prog X.w) X.A X.env X.xe
 bk:X.env.blockKind=.function
 rz:Zkn X E
 stk:X.stack=X.env::X.outer
 frm:X.env.frame=J X.env.locals
 xcs:∀C∈Γ.kl.xs,∃a,X.mg C=J (.ref a)/\XOk X.K a
theorem GdS.ownD(G:GdS T Γ X Y E k):∀x,ownD Γ.sc x=Wx->Loc X.env.scope x/\(X.fn x=Wx\/X.env.scope.names.lookup x=J .local):=by intro x h;refine⟨?_,.inl (G.fnt x)⟩;unfold IV.ownD at h;rw[G.sc G.top];rw[Wu]at h;exact h.imp of_decide_eq_true of_decide_eq_true
def ZfC(h:ZeP x=Wx):swapsWith x t n env=pure Wy:=(kdE x).sw (of_decide_eq_true (bL h)) (of_decide_eq_true (bR h)) _ _ _
def ZpN(G:GdS T Γ X Y E k)(hi:Γ.N[i]?=J y)(ho:ownD Γ.sc y=Wx)(hx:ZxP e=Wx)(h:chk Γ e x=Wx):PS X (.Assign [.Name y py] x spos) (ZlJ (ZaI T Y E e) (ZdK i)):=by
 obtain⟨o1,o2⟩:=G.ownD y ho;have hy:X.N[i]?=J y:=by rw[G.N];exact hi
 cases e with
 |comp NC js it g c e=>
  refine ZtZ h (λaC tg iter bb scope q h pe=>?_) (Zo _ G.toGd h);cases sw:(X.env.blockKind==.function&&X.env.kindOf y==J .local&&py.line==q.line&&!(scope.names.any λ(n,k)=>n==y&&(k==.local||k==.cell)))with
  |true=>
   have S_:=Zli (bL (bR h));rw[<-G.N,<-G.sc (bL h)]at S_;have Gc:=λ(aa:List (Yi×Obj)) (Z:L2.St) (C:Yi) (s3:Yb) (H3:Hp) (fp:List Yi) (i3:Inv X aa Z H3 s3) (j3:∀b∈fp,Zcg X aa H3 b) (k3:C=s3.heap.objs.size)=>G.toGd.comp NC scope C s3 H3 fp S_.nd (G.passC (bL h) aa Z NC scope C s3 H3 fp i3 j3 k3);have h':=bR (bR h);exact(ZlZ (g:=tgR X.K g) (tc:=Sm Y E eqR (tsto T c)) (te:=ZaI T Y E e) G.nd hy o1 o2 S_ rfl G.calm (evi_ok it G.toGd (bL h')) (λaa Z C s3 H3 fp i3 j3 k3=>⟨Znh rfl S_.nd rfl (λx hx=>Znl (scope:=scope) X hx) (bL (bR (bR h'))),ifs_ok c (Gc aa Z C s3 H3 fp i3 j3 k3) (bL (bR (bR (bR (bR h'))))),Zo e (Gc aa Z C s3 H3 fp i3 j3 k3) (bR (bR (bR (bR (bR h')))))⟩) (ZwE X.K g) (λj hj=>of_decide_eq_true (OC.mp (bL (bR (bR (bR h')))) j (List.mem_range.mpr hj))) (ZlM X.env (bL (bR h'))) (congrArg pure sw)).imp
    λD Z H s=>Sm.bind s λS w R qb H1 μ1 ac ai wj f1 D hD=>ZnM G.gk.K (λ_ _ _ z=>z) ac ai wj f1 hD
  |false=>exact Zl0 G.nd hy o1 pe (congrArg pure sw) o2
 |any=>exact λaa s Z H D I s=>Sm.at s λ_ _ _ _ _ f=>f.elim
 |_=>exact ff hx
def Zm0(ht:isTup tg=Wx)(pg:PG X tg g)(he:PE X x te)(h3:(ZeP x&&(!isTup tg||Zl7 x))=Wx):PS X (.Assign [tg] x pos) (ZlJ te g):=Zt1 (P:=λtg=>PG X tg g->(!isTup tg||Zl7 x)=Wx->PS X (.Assign [tg] x pos) (ZlJ te g)) ht (λ_ _ _ pg h3=>Zqb he pg (by unfold swapsWithSole;exact ZfC (bL ‹_›)) ((kdE x).st (of_decide_eq_true h3) _ _ _ _) rfl) pg (bR h3)
def Zwf{T:Tb}(G:Gd T Γ X Y E k)(hc:(Cs.all λC=>Wz (C∈Γ.kl.cs))=Wx)(hf:f∈Γ.kl.ats){D:Ends}(ac:RH Y H1 μ1 R)(ai:RS Y H1 μ1 S Z)(rd:RD Y H1 μ1 d x)
 (f1:ZW Y H1 μ1 ((ZgB Cs f d R).bind λv h2=>(ev T e S h2).bind λy h3=>match v,y with
  |.int a,.int b=>if (Zah d R).map (·.1)=(Zah d h3).map (·.1)then(Zgr Cs f d (.int (a+b)) h3).bind λ_ h4=>.ok (.nx,S) h4 else .bad
  |_,_=>.bad) D E) :
 ∃a C dx fs v,x=.ref a/\H1 a=J (.ins C dx fs)/\Cls X.K C/\ZbD X.K C f/\fs.lookup f=J v /\
  ZaI T Y E e Z H1 λy H2=>Zw9 v y H2 λz H3=>∃cV be,H3 a=J (.ins C cV be)/\be.length<1000/\D.nx Z (upd H3 a (.ins C cV (ZcP f z be))):=by
 unfold ZgB at f1;cases ei:Zah d R with
 |none=>rw[ei]at f1;exact f1.elim
 |some p=>
  obtain⟨C,fs⟩:=p;rw[ei]at f1;simp only at f1;by_cases hC:C∈Cs
  . rw[if_pos hC]at f1;obtain⟨w,e1,f1⟩:=f1.ofO;obtain⟨i,a,Ca,dx,gs,rfl,rfl,q,hi,z,m,s⟩:=Zh3 ac rd ei;obtain⟨v,l,rv⟩:=(s.look (f:=f)).1 w e1;have cB:=hc;rw[OC]at cB;obtain⟨j5,m',cl,na⟩:=G.cls C (of_decide_eq_true (cB C hC));have m0:=m;rw[G.gk.mg,m']at m;cases m;refine⟨a,Ca,dx,gs,v,rfl,z,cl,na f hf,l,S,R,μ1,ac,ai,ZW.bind f1 λy h3 u H3 μ3 _ g3 a9 ry f3=>?_⟩;cases w with
    |int p=>
     cases y with
     |int r=>
      cases rv;cases ry;refine⟨p,r,rfl,rfl,?_⟩;simp only at f3;by_cases hk:Option.map (·.1) (J (C,fs))=(Zah (.ref i) h3).map (·.1)
      . rw[if_pos hk]at f3;obtain⟨a',C',cV,be,e4,z',_,_,l',nx⟩:=ZpM (Q:=λ_ H'=>D.nx Z H') G hc hf a9 (rd.mono ac g3) (.int _) (ZW.bind f3 λ_ h4 _ H4 μ4 _ g4 ft _ f4=>f4.nx ft ((ai.mono ac g3).mono a9 g4));cases e4;cases e5:Zah (.ref i) h3 with
        |none=>rw[e5]at hk;cases hk
        |some p3=>obtain⟨C3,mV⟩:=p3;rw[e5]at hk;cases hk;obtain⟨i3,a3,nc,mZ,mU,e6,e7,_,_,z3,m3,_⟩:=Zh3 a9 (rd.mono ac g3) e5;cases e7;rw[m0]at m3;cases m3;rw[z']at z3;cases z3;exact⟨cV,be,z',l',nx⟩
      . rw[if_neg hk]at f3;exact f3.elim
     |_=>exact f3.elim
    |_=>exact f3.elim
  . rw[if_neg hC]at f1;exact f1.elim
theorem _root_.IV.Gd.nox(G:Gd T Γ X Y E k):Gd T Γ X.nox Y E0 k:=⟨⟨G.gk.K,G.gk.mg,G.gk.gd,G.gk.g,G.gk.bare⟩,G.N,G.sc,G.vis,G.glo,G.nd,G.calm,G.room,G.h60,Zi4,G.defs,G.blt,G.room1,λ_ _ _ _ _ _ _ _ _ _ _ _=>Zi4,G.cls,G.mts,G.mks⟩
def Zpc(f:Fin Y rel H B r.plain Q E):Fin Y rel H B r Q E0:=by
 cases r with
 |bad=>exact f.elim
 |ok a h=>exact f
 |exc c h=>exact f.elim
def Znk{D D1:Ends}{k:Ev->Hd->qe (Fl×Ev)}(f:ZW Y H B (r.bind λp h2=>match p with
 |(.nx,ρ2)=>k ρ2 h2
 |(.ct,ρ2)=>k ρ2 h2
 |(.bk,ρ2)=>.ok (.nx,ρ2) h2
 |(.rt d,ρ2)=>.ok (.rt d,ρ2) h2) D E) (hn:∀ρ2 h2 H2 μ2 σ',Gr H B H2 μ2->RH Y H2 μ2 h2->RS Y H2 μ2 ρ2 σ'->ZW Y H2 μ2 (k ρ2 h2) D E->D1.nx σ' H2) (hc:D1.ct=D1.nx) (hb:D1.bk=D.nx) (hr:D1.rt=D.rt):ZW Y H B r D1 E:=
 ZW.part f λp h2 H2 μ2 _ g2 am f2=>by
  obtain⟨fl,ρ2⟩:=p;cases fl with
  |nx=>exact λσ' bH=>hn ρ2 h2 H2 μ2 σ' g2 am bH f2
  |ct=>rw[hc];exact λσ' bH=>hn ρ2 h2 H2 μ2 σ' g2 am bH f2
  |bk=>rw[hb];exact λσ' bH=>ZW.nx f2 am bH
  |rt d=>rw[hr];exact λv rv=>f2 H2 μ2 Gr.refl am v rv
def Zug{D:Ends}(s:Zoi T Y E (.whl c b) D Z H):ZpE (Zoh T Y E c) (Zm1 T Y E b) D Z H:=by
 refine⟨λm=>SmS Y E (Z4 (tst T c) (xs2 T b) m) D,⟨T.L,s⟩,λm Z H s=>?_⟩;cases m with
 |zero=>exact SmS.at s λ_ _ _ _ _ f=>f.elim
 |succ m=>
  refine SmS.bind s λS t R v H1 μ1 ac ai rd f1=>?_;cases rd;cases t with
  |false=>exact Zmk (ZW.nx f1 ac ai)
  |true=>exact Zmj ⟨SmS Y E (Z4 (tst T c) (xs2 T b) m) D,λσ' H' q=>⟨m,OH m,q⟩,S,R,μ1,ac,ai,Znk f1 (λρ2 h2 H2 μ2 σ' _ am ia f2=>⟨ρ2,h2,μ2,am,ia,f2⟩) rfl rfl rfl⟩
inductive FwS(Y:Yx)(E:XK)(H1:Hp)(μ1:List Yi)(n i:Nat)(F:Ev->Hd->qe (Fl×Ev))(D:Ends)(m:Nat)(Z:L2.St)(H:Hp):Prop
 |mk (S:Ev) (h:Hd) (B:List Yi) (hi:i<=n) (hm:m=n-i) (g:Gr H1 μ1 H B) (rh:RH Y H B h) (rs:RS Y H B S Z) (f:ZW Y H B (F S h) D E):FwS Y E H1 μ1 n i F D m Z H
def ZvS{K:Yk}{g:Tg}{D:Ends}(hY:Y.K=K)(ac:RH Y H1 μ1 R)(ai:RS Y H1 μ1 S Z)(wj:WJ Y H1 μ1 w qb)(f1:ZW Y H1 μ1 (ZQ w.src g (xs2 T b) w.xs S R) D E):∃W:Nat->Nat->L2.St->Hp->Prop,(∃m,W 0 m Z H1)/\∀i m Z H,W i m Z H ->
 (qb.stop i H/\D.nx Z H)\/(qb.go i H/\∃B_:L2.St->Hp->Prop,(∀σ' H',B_ σ' H'->∃m',m'<m/\W (i+1) m' σ' H')/\∀x H',qb.yld i H x H'->tgR K g x Z H' λσ' mv=>Zm1 T Y E b {D with nx:=B_,ct:=B_,bk:=D.nx} σ' mv):=by
 refine⟨λi=>FwS Y E H1 μ1 w.xs.length i (λS=>ZQ w.src g (xs2 T b) (w.xs.drop i) S) D,⟨w.xs.length,S,R,μ1,Yw _,(Nat.sub_zero _).symm,Gr.refl,ac,ai,f1⟩,λi m Z H s=>?_⟩;cases s with
 |mk S h B hi hm g0 rh rs f=>
  subst hm;by_cases hs:Wk.stays w.src h=Wx
  . by_cases au:i<w.xs.length
    . have hd:=Og au;rw[List.drop_eq_getElem_cons au,ZQ,if_pos hs]at f;obtain⟨go,yl⟩:=(wj H B h g0 rh hs).1 i _ hd;refine .inr ⟨go,FwS Y E H1 μ1 w.xs.length (i+1) (λS=>ZQ w.src g (xs2 T b) (w.xs.drop (i+1)) S) D (w.xs.length-(i+1)),λσ' H' q=>⟨_,Nat.sub_lt_sub_left au (OH i),q⟩,λx H' hy=>?_⟩;obtain⟨g2,am,rx⟩:=yl x H' hy;split at f
      . exact f.elim
      . rename_i ρ1 hb;exact Zj9 hY rx (rs.mono rh g2) hb λσ1 ai=>⟨ρ1,h,B,am,ai,Znk (ZW.mono g2 f) (λρ2 h3 H3 μ3 σ' g3 a9 kf f3=>⟨ρ2,h3,μ3,au,rfl,(g0.trans g2).trans g3,a9,kf,f3⟩) rfl rfl rfl⟩
    . have he:i=w.xs.length:=Nat.le_antisymm hi (Nat.le_of_not_lt au);subst he;rw[List.drop_eq_nil_of_le (Oq _),ZQ,if_pos hs]at f;exact .inl ⟨(wj H B h g0 rh hs).2,ZW.nx f rh rs⟩
  . cases e:w.xs.drop i with
    |nil=>rw[e,ZQ,if_neg hs]at f;exact f.elim
    |cons _ _=>rw[e,ZQ,if_neg hs]at f;exact f.elim
def Zum{X:Cx}{D:Ends}(m:Y.mg C=J (.ref ca))(xo:XOk X.K ca)(s:Zoi T Y E (.trs i f es C) D Z H):ZtM X.K (Zgq T Y f) ca i (λ_ _ D Z H=>D.nx (Z.set i (J .non)) H) (ZlO T Y E0 es) D Z H:=by
 cases s with
 |mk S h B rh rs ff=>
  refine⟨S,h,B,rh,rs,Zpc (ZW.bind ff λds R vs H1 μ1 _ g1 ac bQ f1=>⟨ds,R,μ1,ac,bQ,?_⟩)⟩;have ai:=rs.mono rh g1;cases q:T.C f ds R with
  |bad=>rw[q]at f1;exact f1.elim
  |ok w h2=>rw[q]at f1;exact λb H' μ' g2 am rb=>f1 H' μ' g2 am _ ((ai.mono ac g2).set rb)
  |exc w h2=>
   rw[q]at f1;unfold Zir at f1;by_cases e:w=C
   . subst e;simp only[if_true]at f1;intro H' μ' C' g2 am mc;rw[m]at mc;cases mc;exact⟨ca,rfl,xo.sub,λa oe=>f1 H' μ' g2 am _ ((ai.mono ac g2).set .non)⟩
   . simp only[if_neg e]at f1;exact f1.elim
def Zup(G:GdS T Γ X Y E k)(hf:f∈Γ.fs)(ly:glb Γ f=Wx)(iz:C∈Γ.kl.xs)(hg:glb Γ C=Wx)(hn:Γ.N[i]?=J n)(fP:Γ.N[i]?=J n')(dE:ownD Γ.sc n=Wx)(h4:chks Γ es (y::ys)=Wx)(ha:PA X.nox (y::ys) (ZlO T Y E0 es)):
 PS X (.Try [.Assign [.Name n px] (.Call (.Name f fp) (y::ys) [] cp) ap] [.ExceptHandler (J (.Name C np)) M [.Assign [.Name n' kj] (.Constant .none j r) bu] z] [] [] pos) (Zoi T Y E (.trs i f es C)):=by
 obtain rfl:n=n':=YF (hn.symm.trans fP);obtain⟨ps,hd⟩:=G.defs _ hf;obtain⟨g1,g2⟩:=G.gl ly;obtain⟨c1,c2⟩:=G.gl hg;obtain⟨ca,m,xo⟩:=G.xcs _ iz;obtain⟨o1,o2⟩:=G.ownD _ dE;have hi:X.N[i]?=J n:=by rw[G.N];exact hn
 exact(Zov hd G.room g1 ha c1 m xo.toExcN G.nd hi o1 o2 G.stk G.frm (λa oe=>(Zr9 (Zl0 (X:=cxH X a oe) G.nd hi o1 Zqj rfl o2)).imp λD Z H q=>q) g2 c2 (ZdN X.env h4).1 ((ZdN X.env h4).2 _) rfl).imp λD Z H s=>Zum (by rw[G.gk.mg];exact m) xo s
mutual
theorem ZwP(s:Sx){Γ:Gm}{X:Cx}{E:XK}{k:Nat}{x:Stmt}(G:GdS T Γ X Y E k)(h:Zx9 Γ s x=Wx):PS X x (Zoi T Y E s):=match s,h with
 |.ret e,h=>ZbC (P:=λx=>PS X x _) h λp h=>Zl6 (P:=λo=>PS X (.Return o p.p) _) h λy h=>(ZuT (Zo e G.toGd h)).imp λD Z H s=>SmS.bind s λS d R v H1 μ1 ac ai rd f1=>f1 H1 μ1 Gr.refl ac v rd
 |.set g e,h=>Zn3 (P:=λx=>PS X x _) h λtg xe pos h=>by
  have fin:∀{D:Ends}{Z:L2.St}{H:Hp},Zoi T Y E (.set g e) D Z H->ZlJ (ZaI T Y E e) (tgR X.K g) D Z H:=λ{D Z H} s=>SmS.bind s λS d R v H1 μ1 ac ai rd f1=>by obtain⟨ρ1,eb,f1⟩:=f1.ofO;exact Zj9 G.gk.K rd ai eb λσ1 ia=>f1.nx ac ia
  have pg:=Znh (X:=X) G.N G.nd G.calm G.ownD (bL h);refine bO (bR (bR h)) (λh3=>?_) λh3=>?_
  . cases g with
    |nm i=>exact Zb7 (P:=λt=>PS X (.Assign [t] _ _) _) (bL h) λy py e1 e2=>(Zl0 G.nd (by rw[G.N];exact e1) (G.ownD y e2).1 (Zo e G.toGd (bL (bR h))) (ZfC (bL h3)) (G.ownD y e2).2).imp λD Z H q=>fin q
    |two i j=>exact(Zm0 (Zkt (P:=λt=>isTup t=Wx) (show ZnQ Γ.N (ownD Γ.sc) i j tg=Wx from bL h) λ_ _ _ _=>rfl) pg (Zo e G.toGd (bL (bR h))) h3).imp λD Z H q=>fin q
    |many is=>exact(Zm0 (Zkt (P:=λt=>isTup t=Wx) (show ZnP Γ.N (ownD Γ.sc) is tg=Wx from bL h) λ_ _ _ _=>rfl) pg (Zo e G.toGd (bL (bR h))) h3).imp λD Z H q=>fin q
  . cases g with
    |nm i=>exact Zb7 (P:=λt=>PS X (.Assign [t] _ _) _) (bL h) λy py e1 e2=>(ZpN G e1 e2 (bR h3) (bL (bR h))).imp λD Z H q=>fin q
    |two i j=>exact ff (Zkt (P:=λt=>Wz (tgE t=6)=Wx->Wy=Wx) (show ZnQ Γ.N (ownD Γ.sc) i j tg=Wx from bL h) (λ_ _ _ _ z=>z) (bL h3))
    |many is=>exact ff (Zkt (P:=λt=>Wz (tgE t=6)=Wx->Wy=Wx) (show ZnP Γ.N (ownD Γ.sc) is tg=Wx from bL h) (λ_ _ _ _ z=>z) (bL h3))
 |.put o i e,h=>Zn3 (P:=λx=>PS X x _) h λtg xe p2 h=>Zuz (P:=λt=>PS X (.Assign [t] _ _) _) h λxo xi p1 h=>
  (Zqb (pos:=p2) (Zo e G.toGd (bL (bR (bR h)))) (Zu0 (pos:=p1) (Zo o G.toGd (bL h)) (Zo i G.toGd (bL (bR h))) (ZuR (Y:=Y) (E:=E)) ((kdE xi).put (of_decide_eq_true (bL (bR (bR (bR h))))) _ _ _)) (by unfold swapsWithSole;exact ZfC (bR (bR (bR (bR h))))) rfl rfl).imp λD Z H s=>SmS.bind s λS d R v H1 μ1 ac ai rd f1=>
   ⟨S,R,μ1,ac,ai,f1.bind λd2 h2 v2 H2 μ2 _ g2 am fu f2=>⟨S,h2,μ2,am,ai.mono ac g2,f2.bind λd3 h3 v3 H3 μ3 _ g3 a9 ib f3=>⟨d2,d3,d,h3,μ3,a9,fu.mono am g3,ib,(rd.mono ac g2).mono am g3,f3.bind λ_ h4 _ H4 μ4 _ g4 ft _ f4=>f4.nx ft (((ai.mono ac g2).mono am g3).mono a9 g4)⟩⟩⟩
 |.aug i op e,h=>ZbC (P:=λx=>PS X x _) h λp h=>Zb7 (P:=λa=>PS X (.AugAssign a _ _ _) _) (bL h) λy py e1 e2=>dS (P:=λo=>PS X (.AugAssign _ o _ _) _) (bL (bR h)) <| dS (P:=λo=>PS X _ (Zoi T Y E (.aug i o e))) (bL (bR (bR h))) <|
  (ZuW G.nd (by rw[G.N];exact e1) (G.ownD _ e2).1 (Zo e G.toGd (bR (bR (bR h)))) ZvL (G.ownD _ e2).2).imp λD Z H s=>SmS.at s λS h B rh rs f=>by
   obtain⟨d,ed,f⟩:=ZW.ofO f;obtain⟨v,ev,rd⟩:=rs.var ed;refine⟨v,ev,S,h,B,rh,rs,ZW.bind f λd2 h2 v2 H2 μ2 _ g2 am fu f2=>?_⟩;cases rd with
   |int a=>
    cases fu with
    |int b=>exact⟨a,b,rfl,rfl,ZW.nx f2 am ((rs.mono rh g2).set (.int _))⟩
    |_=>exact f2.elim
   |_=>exact f2.elim
 |.drp e,h=>ZbC (P:=λx=>PS X x _) h λp h=>(Zsc (Zo e G.toGd (bL h)) (ZfC (bR h))).imp λD Z H s=>SmS.bind s λS d R v H1 μ1 ac ai rd f1=>f1.nx ac ai
 |.iff c a b,h=>ZbC (P:=λx=>PS X x _) h λp h=>(Zxc (tst_ok c G.toGd (bL h)) (sts_ok a G (bL (bR h))) (sts_ok b G (bR (bR h)))).imp λD Z H s=>SmS.bind s λS t R v H1 μ1 ac ai rd f1=>by
  cases rd;cases t with
  |true=>exact Zmj ⟨S,R,μ1,ac,ai,f1⟩
  |false=>exact Zmk ⟨S,R,μ1,ac,ai,f1⟩
 |.whl c b,h=>ZbC (P:=λx=>PS X x _) h λp h=>Zja (P:=λys=>PS X (.While _ _ ys _) _) h λh=>(Zp8 G.own (tst_ok c G.toGd (bL h)) (sts_ok b G (bR h))).imp λD Z H s=>Zug s
 |.forr g it b,h=>ZbC (P:=λx=>PS X x _) h λp h=>Zja (P:=λys=>PS X (.For _ _ _ ys _) _) h λh=>(ZuU G.own G.calm (evi_ok it G.toGd (bL h)) (Znh (X:=X) G.N G.nd G.calm G.ownD (bL (bR (bR h)))) (sts_ok b G (bR (bR (bR h)))) (ZlM X.env (bL (bR h)))).imp λD Z H s=>SmS.bind s λS w R qb H1 μ1 ac ai wj f1=>ZvS G.gk.K ac ai wj f1
 |.pas,h=>ZbC (P:=λx=>PS X x _) h λp h=>Zsb.imp λD Z H s=>SmS.at s λS h B rh rs f=>ZW.nx f rh rs
 |.brk,h=>ZbC (P:=λx=>PS X x _) h λp h=>Zqa.imp λD Z H s=>SmS.at s λS h B rh rs f=>f H B Gr.refl rh Z rs
 |.cnt,h=>ZbC (P:=λx=>PS X x _) h λp h=>ZkJ.imp λD Z H s=>SmS.at s λS h B rh rs f=>f H B Gr.refl rh Z rs
 |.any,h=>λaa s Z H D I s=>SmS.at s λS h B rh rs f=>f.elim
 |.rai C e,h=>ZbC (P:=λx=>PS X x _) h λp h=>Zqw (P:=λc=>PS X (.Raise _ c _) _) h λh=>Zl6 (P:=λo=>PS X (.Raise o _ _) _) h λx h=>by
  unfold Zt9 at h;exact ZcH (P:=λx=>PS X (.Raise (J x) _ _) _) h λnp ys q h=>Zaw (P:=λys=>PS X (.Raise (J (.Call _ ys _ _)) _ _) _) h λy h=>by obtain⟨ca,m,xo⟩:=G.xcs _ (of_decide_eq_true (bL h));have st:=Zw (xs:=[]) X.env (bL (bR (bR h)));exact(Zp9 G.rz G.calm PySem.F.excBase_ValueError (G.gl (bL (bR h))).1 m xo.own (Zcz (Zo e G.toGd (bR (bR (bR h)))) Zd9 st) (G.gl (bL (bR h))).2 st rfl).imp λD Z H s=>SmS.bind s λS d R v H1 μ1 ac ai rd f1=>⟨by show 1<=sizeLine;decide,f1 H1 μ1 ca Gr.refl ac (by rw[G.gk.mg];exact m)⟩
 |.trs i f es C,h=>ZbC (P:=λx=>PS X x _) h λp h=>Zja (P:=λys=>PS X (.Try p.xs p.hs ys p.zs p.p) _) h λh=>Zja (P:=λzs=>PS X (.Try p.xs p.hs [] zs p.p) _) h λh=>ZwD (P:=λhs=>PS X (.Try p.xs hs [] [] p.p) _) (bL h) λnp n' kj j r bu z iz hg fP _=>
  ZtK (P:=λxs=>PS X (.Try xs _ [] [] p.p) _) (bR h) λn px xe ap hn dE h5=>ZcH (P:=λx=>PS X (.Try [.Assign [.Name n px] x ap] _ [] [] p.p) _) h5 λfp ys cp h5=>Zrh (P:=λys=>PS X (.Try [.Assign [.Name n px] (.Call (.Name f fp) ys [] cp) ap] _ [] [] p.p) _) (bL (bR (bR h5))) (bR (bR (bR h5))) λy ys h4=>Zup G (of_decide_eq_true (bL h5)) (bL (bR h5)) iz hg hn fP dE h4 (evs_ok es G.toGd.nox h4)
 |.seta Cs o f e,h=>Zn3 (P:=λx=>PS X x _) h λtg xe pos h=>ZtF (P:=λt=>PS X (.Assign [t] _ _) _) h λxo q h=>(ZuV (Zo o G.toGd (bL h)) (Zo e G.toGd (bL (bR h))) (ZfC (bL (bR (bR h))))).imp λD Z H s=>SmS.bind s λS d R v H1 μ1 ac ai rd f1=>⟨S,R,μ1,ac,ai,ZW.bind f1 λd2 h2 v2 H2 μ2 _ g2 am fu f2=>ZpM (Q:=λ_ H'=>D.nx Z H') G.toGd (bL (bR (bR (bR h)))) (of_decide_eq_true (bR (bR (bR (bR h))))) am fu (rd.mono ac g2) (ZW.bind f2 λ_ h3 _ H3 μ3 _ g3 a9 _ f3=>f3.nx a9 ((ai.mono ac g2).mono am g3))⟩
 |.auga Cs o f e,h=>ZbC (P:=λx=>PS X x _) h λp h=>dS (P:=λo=>PS X (.AugAssign _ o _ _) _) (bL h) <| ZtF (P:=λt=>PS X (.AugAssign t _ _ _) _) (bR h) λxo q h=>(Zow (Zo o G.toGd (bL h)) (Zo e G.toGd (bL (bR h))) ZvM).imp λD Z H s=>SmS.bind s λS d R x H1 μ1 ac ai rd f1=>Zwf G.toGd (bL (bR (bR h))) (of_decide_eq_true (bR (bR (bR h)))) ac ai rd f1
 |.unl i j e,h=>ff h
theorem sts_ok(s:Sxs){Γ:Gm}{X:Cx}{E:XK}{k:Nat}{x:List Stmt}(G:GdS T Γ X Y E k)(h:chkSs Γ s x=Wx):PSs X x (Zm1 T Y E s):=match s,x,h with
 |.nil,[],h=>Zsa.imp λD Z H s=>SmS.at s λS h B rh rs f=>ZW.nx f rh rs
 |.nil,_::_,h=>ff h
 |.cons s r,[],h=>ff h
 |.cons s r,x::xs,h=>(Zp7 (ZwP s G (bL h)) (sts_ok r G (bR h))).imp λD Z H s=>SmS.at s λS h B rh rs f=>⟨S,h,B,rh,rs,ZW.part f λp R H1 μ1 _ g1 ac f1=>by
     obtain⟨fl,ρ1⟩:=p;cases fl with
     |nx=>exact λσ' bH=>⟨ρ1,R,μ1,ac,bH,f1⟩
     |bk=>exact λσ' bH=>f1 H1 μ1 Gr.refl ac σ' bH
     |ct=>exact λσ' bH=>f1 H1 μ1 Gr.refl ac σ' bH
     |rt d=>exact λv rv=>f1 H1 μ1 Gr.refl ac v rv⟩
end
set_option tactic.hygienic false
structure BodyOk(K:Yk)(kl:Kl)(fs:List Str)(x q:Str)(fd:Fd)(st:Stmt)(f:Yi)(al:FuncData):Prop where
 fn:Fun K x q st f al
 sc:FnScope fd.N fd.ps (Z1 st)
 hb:∀(kV aG pm:Yj) (an:Option Yi) (aE ct:Yj) (us:List Yj),us.length=fd.ps.length->bindArgs (PySem.W.fnOf x q (ZeU st) (ZcG st) (Z1 st) .none kV aG pm an aE ct) ⟨us,[]⟩=pure (fd.ps.zip us)
 ck:chkSs ⟨fd.N,Z1 st,fs,Wx,kl⟩ fd.body (ZcG st)=Wx
structure DefOk(K:Yk)(mg:Str->Option Yj)(kl:Kl)(fs:List Str)(x:Str)(fd:Fd)(st:Stmt)(f:Yi)(al:FuncData):Prop where
 bd:BodyOk K kl fs x x fd st f al
 mg:mg x=J (.ref f)
structure Md(Pr:Yh)(w:Yg)(K:Yk)(mg:Str->Option Yj)(P:Pg)(kl:Kl):Prop where
 bare:Zc7 K=Wx
 gd:∀x kvs,P.GD x=J kvs->∃a aj,mg x=J (.ref a)/\DkK Pr w K a aj/\∀H B,RKs ⟨K,mg⟩ H B kvs aj
 g:∀x d,P.G x=J d->∃v u,mg x=J u/\RelV v u/\∀H B,RD ⟨K,mg⟩ H B d v
 blt:∀x∈ZnU,mg x=M
 defs:∀x fd,P.tb.lookup x=J fd->∃st f al,DefOk K mg kl (P.tb.map (·.1)) x fd st f al
 cls:∀C∈kl.cs,∃a,mg C=J (.ref a)/\Cls K a/\∀f∈kl.ats,ZbD K a f
 mts:∀p∈kl.ms,∃a f al fd st q,mg p.1=J (.ref a)/\Cls K a/\Meth K a p.2 f/\P.look (mnm p.1 p.2)=J fd/\BodyOk K kl (P.tb.map (·.1)) p.2 q fd st f al
 mks:∀C∈kl.is,∃a f al fd st q,mg C=J (.ref a)/\Mk K a f/\P.look (mnm C (O "__init__"))=J fd/\BodyOk K kl (P.tb.map (·.1)) (O "__init__") q fd st f al
 xcs:∀C∈kl.xs,∃a,mg C=J (.ref a)/\XOk K a
def ZpF(r:RDs Y H B ds vs):RS Y H B (ZF N ds) (L2.start N vs):=by
 refine⟨by simp[ZF,L2.start,r.length],λi d e=>?_⟩;unfold ZF at e;unfold L2.start;by_cases hi:i<ds.length
 . rw[Oe (by simpa using hi),O2]at e;rw[Oe (by simpa[<-r.length]using hi),O2];obtain⟨d',e1,e2⟩:=Oo.mp e;cases e2;obtain⟨v,R,h2⟩:=r.get e1;exact⟨v,by rw[R];rfl,h2⟩
 . rw[Om (by simpa using hi)]at e;have:=O1 e;rw[List.mem_replicate]at this;cases this.2
def ZrY(f:Fin Y (RD Y) H B (Ze r) Q E):ZW Y H B r {nx:=λ_ H'=>Q .non H',rt:=Q} E:=by
 cases r with
 |bad=>exact f.elim
 |exc c h=>exact f
 |ok p h=>
  obtain⟨fl,S⟩:=p;cases fl with
  |nx=>exact λH' μ' g rh σ' _=>f .non H' μ' g rh .non
  |bk=>exact f.elim
  |ct=>exact f.elim
  |rt d=>exact λH' μ' g rh v rv=>f v H' μ' g rh rv
section
variable {Pr:Yh}{w:Yg}{K:Yk}{mg:Str->Option Yj}{base:YG}{P:Pg}{kl:Kl}
def ZjK(h:P.tb.lookup x=J fd):P.look x=J fd:=by unfold Pg.look;rw[h]
def ZpH(hl:P.look x=J fd)(h:Zgq (P.tbl n) ⟨K,mg⟩ x vs H Q E):vs.length=fd.ps.length:=by
 obtain⟨ds,h,B,rh,rs,f⟩:=h;cases n with
 |zero=>exact f.elim
 |succ n=>have f:Fin ⟨K,mg⟩ (RD ⟨K,mg⟩) H B (run P (n+1) x ds h) Q E:=f;rw[run,hl]at f;obtain⟨hz,_⟩:=f.iff;rw[<-rs.length];exact hz
structure Lev(Pr:Yh)(w:Yg)(K:Yk)(mg:Str->Option Yj)(base:YG)(P:Pg)(kl:Kl)(n:Nat):Prop where
 defs:∀y∈P.tb.map (·.1),∃ps,Def Pr w K mg base (2*n+61) y ps (Zgq (P.tbl n) ⟨K,mg⟩ y)
 mts:∀p∈kl.ms,∃a f fd ps,mg p.1=J (.ref a)/\Cls K a/\Meth K a p.2 f/\FnOk Pr w K mg base (CXF Pr w) (2*n+61) f fd ps (Zgq (P.tbl n) ⟨K,mg⟩ (mnm p.1 p.2))/\Binds K fd ps []
 mks:∀C∈kl.is,∃a f fd ps,mg C=J (.ref a)/\Mk K a f/\FnOk Pr w K mg base (CXF Pr w) (2*n+61) f fd ps (Zgq (P.tbl n) ⟨K,mg⟩ (mnm C (O "__init__")))/\Binds K fd ps []
def Zj1(qd:Md Pr w K mg P kl){x nm q:Str}{fd:Fd}{st:Stmt}{f:Yi}{al:FuncData}(hl:P.look x=J fd)(o:BodyOk K kl (P.tb.map (·.1)) nm q fd st f al):
 ∀n,Lev Pr w K mg base P kl n->FnOk Pr w K mg base (CXF Pr w) (2*(n+1)+61) f al fd.ps (Zgq (P.tbl (n+1)) ⟨K,mg⟩ x):=by
 intro n ih;obtain⟨oc,od,kV,aG,pm,an,aE,ct,bU,rfl,lk,cA⟩:=o.fn.ex;have S_:=o.sc;rw[show 2*(n+1)+61=(2*n+61+1)+1 by lia];refine ZxX lk cA S_ (λvs H Q E h=>ZpH hl h) λA outer s H vs Q E hr bJ=>?_;refine Ztr (t:=Zm1 (P.tbl n) ⟨K,mg⟩ E fd.body) (sts_ok fd.body (k:=2*n+61) (Γ:=⟨fd.N,Z1 st,P.tb.map (·.1),Wx,kl⟩) ⟨⟨⟨rfl,rfl,qd.gd,qd.g,qd.bare⟩,rfl,λ_=>rfl,λy hy=>?_,λy hy=>hy,S_.nd,rfl,hr.mono (by lia),by lia,Zss λ_ _ z=>z,ih.defs,qd.blt,hr,λ_ _ _ _ _ _ _ _ _ i3 j3 k3=>ZoD i3 j3 k3 λ_ _ z=>z,qd.cls,ih.mts,ih.mks⟩,rfl,λ_=>rfl,PassesOwn.leaving,?_,ZpQ,rfl,rfl,qd.xcs⟩ o.ck) ?_
 . unfold ZrJ at hy;rw[Wu,Wu]at hy;rcases hy with (hy|hy)|hy
   . exact .inl (of_decide_eq_true hy)
   . exact .inr (.inl (of_decide_eq_true hy))
   . exact .inr (.inr (of_decide_eq_true hy))
 . show(if (Z1 st).kind.isAnnotationScope then ScopeKind.function else(Z1 st).kind)=.function;rw[S_.kind];rfl
 . obtain⟨ds,h,B,rh,rs,f⟩:=bJ;have f:Fin ⟨K,mg⟩ (RD ⟨K,mg⟩) H B (run P (n+1) x ds h) Q E:=f;rw[run,hl]at f;obtain⟨hz,f⟩:=f.iff;exact⟨ZF fd.N ds,h,B,rh,ZpF rs,ZrY f⟩
def mem_lookup{α:Type}{l:List (Str×α)}{x:Str}(h:x∈l.map (·.1)):∃a,l.lookup x=J a:=by
 induction l with
 |nil=>simp at h
 |cons p r ih=>
  rw[OF];by_cases e:x=p.1
  . have:(x==p.1)=Wx:=by simpa using e
    rw[this];exact⟨_,rfl⟩
  . have:(x==p.1)=Wy:=by simpa using e
    rw[this];exact ih (by simpa[e]using h)
def ZjY{x:Str}{fd:Fd}{f:Yi}{al:FuncData}(hl:P.look x=J fd):FnOk Pr w K mg base (CXF Pr w) (2*0+61) f al fd.ps (Zgq (P.tbl 0) ⟨K,mg⟩ x):=⟨λvs H Q E h=>ZpH hl h,λA outer s H args us vs Q E _ _ _ _ h=>by obtain⟨ds,h,B,rh,rs,f⟩:=h;exact f.elim⟩
def ZrE(qd:Md Pr w K mg P kl):∀n,Lev Pr w K mg base P kl n:=by
 intro n;induction n with
 |zero=>
  refine⟨λy hy=>?_,λp hp=>?_,λC hC=>?_⟩
  . obtain⟨fd,hl⟩:=mem_lookup hy;obtain⟨st,f,al,o⟩:=qd.defs y fd hl;exact⟨fd.ps,f,al,o.mg,o.bd.fn.kp,o.bd.fn.binds o.bd.hb,ZjY (ZjK hl)⟩
  . obtain⟨a,f,al,fd,st,q,m,c,me,hl,o⟩:=qd.mts p hp;exact⟨a,f,al,fd.ps,m,c,me,ZjY hl,o.fn.binds o.hb⟩
  . obtain⟨a,f,al,fd,st,q,m,me,hl,o⟩:=qd.mks C hC;exact⟨a,f,al,fd.ps,m,me,ZjY hl,o.fn.binds o.hb⟩
 |succ n ih=>
  refine⟨λy hy=>?_,λp hp=>?_,λC hC=>?_⟩
  . obtain⟨fd,hl⟩:=mem_lookup hy;obtain⟨st,f,al,o⟩:=qd.defs y fd hl;exact⟨fd.ps,f,al,o.mg,o.bd.fn.kp,o.bd.fn.binds o.bd.hb,Zj1 qd (ZjK hl) o.bd n ih⟩
  . obtain⟨a,f,al,fd,st,q,m,c,me,hl,o⟩:=qd.mts p hp;exact⟨a,f,al,fd.ps,m,c,me,Zj1 qd hl o n ih,o.fn.binds o.hb⟩
  . obtain⟨a,f,al,fd,st,q,m,me,hl,o⟩:=qd.mks C hC;exact⟨a,f,al,fd.ps,m,me,Zj1 qd hl o n ih,o.fn.binds o.hb⟩
def ZvB(qd:Md Pr w K mg P kl){x:Str}{a:Str}{fd:Fd}{fa:Yi}(n:Nat)(hl:P.tb.lookup x=J fd)(eW:fd.ps=[a])(hm:mg x=J (.ref fa)):
 ∃al:FuncData,(∀(s:Yb) (v:Yj),BindsTo s al ⟨[v],[]⟩ [(a,v)])/\∀base:YG,FnOk Pr w K mg base (CXF Pr w) (2*(n+1)+61) fa al [a] (Zgq (P.tbl (n+1)) ⟨K,mg⟩ x):=by
 obtain⟨st,f,al,o⟩:=qd.defs x fd hl;have e:=hm.symm.trans o.mg;cases e;refine⟨al,λs v=>?_,λbase=>eW▸Zj1 qd (ZjK hl) o.bd n (ZrE qd n)⟩;obtain⟨oc,od,kV,aG,pm,an,aE,ct,bU,rfl,lk,cA⟩:=o.bd.fn.ex;have:=o.bd.hb kV aG pm an aE ct [v] (by rw[eW];rfl);rw[eW]at this;exact BindsTo.of_eq this
end
def Zwv{α:Type}{us:List α}(h:us.length=0):us=[]:=List.length_eq_zero_iff.mp h
def Zn6{α:Type}{us:List α}{n:Nat}(h:us.length=n+1):∃a r,us=a::r/\r.length=n:=by
 cases us with
 |nil=>cases h
 |cons a r=>exact⟨a,r,rfl,Nat.succ.inj h⟩
def Zwu{α:Type}{us:List α}(h:us.length=1):∃a0,us=[a0]:=by obtain⟨a0,r,rfl,h2⟩:=Zn6 h;exact⟨a0,by rw[Zwv h2]⟩
def Zwt{α:Type}{us:List α}(h:us.length=2):∃a0 a1,us=[a0,a1]:=by obtain⟨a0,r,rfl,h2⟩:=Zn6 h;obtain⟨a1,rfl⟩:=Zwu h2;exact⟨a0,a1,rfl⟩
def Zws{α:Type}{us:List α}(h:us.length=3):∃a0 a1 a2,us=[a0,a1,a2]:=by obtain⟨a0,r,rfl,h2⟩:=Zn6 h;obtain⟨a1,a2,rfl⟩:=Zwt h2;exact⟨a0,a1,a2,rfl⟩
def Zwr{α:Type}{us:List α}(h:us.length=4):∃a0 a1 a2 a3,us=[a0,a1,a2,a3]:=by obtain⟨a0,r,rfl,h2⟩:=Zn6 h;obtain⟨a1,a2,a3,rfl⟩:=Zws h2;exact⟨a0,a1,a2,a3,rfl⟩
def Zwq{α:Type}{us:List α}(h:us.length=5):∃a0 a1 a2 a3 a4,us=[a0,a1,a2,a3,a4]:=by obtain⟨a0,r,rfl,h2⟩:=Zn6 h;obtain⟨a1,a2,a3,a4,rfl⟩:=Zwr h2;exact⟨a0,a1,a2,a3,a4,rfl⟩
def Zyr{α:Type}{us:List α}(h:us.length=6):∃a0 a1 a2 a3 a4 a5,us=[a0,a1,a2,a3,a4,a5]:=by obtain⟨a0,r,rfl,h2⟩:=Zn6 h;obtain⟨a1,a2,a3,a4,a5,rfl⟩:=Zwq h2;exact⟨a0,a1,a2,a3,a4,a5,rfl⟩
set_option tactic.hygienic true
def All(p:α->Prop):List α->Prop
 |[]=>True
 |a::l=>p a/\All p l
theorem All.mem:∀{l:List α},All p l->∀a∈l,p a
 |[],_,a,h=>by simp at h
 |b::l,⟨R,h2⟩,a,h=>by
  rcases O3.mp h with rfl|h
  . exact R
  . exact All.mem h2 a h
def lookup_mem{α:Type}{l:List (Str×α)}{a:α}(h:l.lookup x=J a):(x,a)∈l:=by
 induction l with
 |nil=>cases h
 |cons p r ih=>
  rw[OF]at h;by_cases e:x=p.1
  . have:(x==p.1)=Wx:=by simpa using e
    rw[this]at h;cases h;subst e;exact Oi
  . have:(x==p.1)=Wy:=by simpa using e
    rw[this]at h;exact Oh _ (ih h)
def spL(K:Yk):Sp:=λvs H Q _=>∃(a:Yi) (ns:List Int),vs=[.ref a]/\SqL K H a (ns.map V.int)/\ns.length<=63/\ZtI H/\∀H',Q (.bl Wx) H'
theorem ZnB:∀ns:List Int,RDs Y H B (ns.map D.int) (ns.map V.int)
 |[]=>.nil
 |n::r=>.cons (.int n) (ZnB r)
def Zwp{l:PySem.W.OpenLaw}{q:Yh}{ba:List Str}{XP:(Str->Option Yj)->YG->Prop}{YP:Yg->YG->Prop}{d:DefRec}{K:Params->Yk}{P:Pg}{kl:Kl}{fd:Fd}(n:Nat)(hn:l.most=J 63)(fX:d.params.defaults=[])(hd:d.name=O "law")(hr:Room (2*(n+1)+61) callerA)
 (hY:∀(w:Yg) (h:YG),YP w h->(K w.params).In h) (hl:P.tb.lookup (O "law")=J fd) (eW:fd.ps=[O "_law_script"])
 (iJ:∀ns:List Int,ns.length<=63->∃h',run P (n+1) (O "law") [.ro (ns.map .int)] []=.ok (.bl Wx) h')
 (qd:∀(w:Yg) (mg:Str->Option Yj) (h:YG),(K w.params).In h->h.Ns Yd mg->Md l.prog w (K w.params) mg P kl) :
 PySem.W.WalkO q ba XP YP l.row.toRowW d [] (λf vs=>PySem.call f vs):=by
 refine L2.ZrI (n:=63) (k:=2*(n+1)+61) (x := "_law_script") (CX:=λw=>CXF l.prog w) (sp:=λw=>spL (K w.params)) hn (by decide) fX hr hY (λw mg fa h KX G eX=>?_) (λ_ _ a ns hl hO hS=>⟨a,ns,rfl,hS,hl,hO,λ_=>rfl⟩) λ_ _ _ _ _ z=>by obtain⟨_,_,_,_,_,_,_,_,_,_,_,_,_,z⟩:=z;exact z
 rw[hd]at eX;obtain⟨al,hb,F⟩:=ZvB (qd w mg h KX G) n hl eW eX;refine⟨al,hb,λbase _ _=>(F base).imp λvs H Q E bJ=>?_⟩;obtain⟨a,ns,rfl,hS,hz,hO,hq⟩:=bJ;obtain⟨h',e⟩:=iJ ns hz;refine⟨[.ro (ns.map .int)],[],[],⟨rfl,.nil,λi o a e=>by simp at e,λi o e=>by simp at e⟩,.cons (.ro ?_ (ZnB ns)) .nil,?_⟩
 . rcases hS with hS|hS
   . rcases hS with hS|hS
     . rcases hO a with z|⟨o,xs,z⟩<;>(rw[z]at hS;cases hS)
     . exact .inl hS
   . exact .inr hS
 . show Fin _ _ H [] (run P (n+1) (O "law") [.ro (ns.map .int)] []) Q E;rw[e];exact λb H' μ' _ _ r=>by cases r;exact hq H'
def ZmY{K:Yk}(h:K.lookup a=J ⟨.type "tuple",od,.seq its n,sl⟩)(hz:its.size<=sizeLine)(r:Zs vs its.toList):SqT K H a vs:=
 .inr ⟨_,its,n,h,rfl,rfl,hz,r⟩
end IV
namespace IV
open PySem L2 PyProof.Rows
section
structure Chk(kl:Kl)(fs:List Str)(x q:Str)(fd:Fd)(st:Stmt):Prop where
 sc:FnScope fd.N fd.ps (Z1 st)
 hb:∀(kV aG pm:Yj) (an:Option Yi) (aE ct:Yj) (us:List Yj),us.length=fd.ps.length->bindArgs (PySem.W.fnOf x q (ZeU st) (ZcG st) (Z1 st) .none kV aG pm an aE ct) ⟨us,[]⟩=pure (fd.ps.zip us)
 ck:chkSs ⟨fd.N,Z1 st,fs,Wx,kl⟩ fd.body (ZcG st)=Wx
variable {K:Yk}{h:YG}{mg:Str->Option Yj}{kl:Kl}{fs:List Str}{x q C:Str}{fd:Fd}{st:Stmt}{ca:Yi}{P:Pg}
def Chk.bd(c:Chk kl fs x q fd st)(F:Fun K x q st f al):BodyOk K kl fs x q fd st f al:=⟨F,c.sc,c.hb,c.ck⟩
def Zwj(K:Yk)(x:Str)(st:Stmt):Prop:=∃f al,Yl K Yd x=J (J (.ref f))/\Fun K x x st f al
def ZiC(K:Yk)(ca:Yi)(x q:Str)(st:Stmt):Prop:=∃f al,YJ K (.ref ca) x=J (J (.ref f))/\PySem.W.isFn K (.ref f)=Wx/\Wg K (.ref f)=Wx/\Fun K x q st f al
def Ztk(X:K.In h)(G:h.Ns Yd mg)(d:Zwj K x st)(c:Chk kl fs x x fd st):∃st f al,DefOk K mg kl fs x fd st f al:=by obtain⟨f,al,a,F⟩:=d;exact⟨st,f,al,c.bd F,YO X G a⟩
def ZsO(X:K.In h)(G:h.Ns Yd mg)(y:Yl K Yd C=J (J (.ref ca)))(cl:Cls K ca)(d:ZiC K ca x q st)(c:Chk kl (P.tb.map (·.1)) x q fd st)(e:P.look (mnm C x)=J fd):∃a f al fd st q,mg C=J (.ref a)/\Cls K a/\Meth K a x f/\P.look (mnm C x)=J fd/\BodyOk K kl (P.tb.map (·.1)) x q fd st f al:=by obtain⟨f,al,u1,u2,u3,F⟩:=d;exact⟨ca,f,al,fd,st,q,YO X G y,cl,⟨u1,u2,u3⟩,e,c.bd F⟩
def ZjJ(X:K.In h)(G:h.Ns Yd mg)(y:Yl K Yd C=J (J (.ref ca)))(m:PySem.W.makesIn K ca=Wx)(k:Wg K (.ref ca)=Wx)(d:ZiC K ca (O "__init__") q st)(c:Chk kl (P.tb.map (·.1)) (O "__init__") q fd st)(e:P.look (mnm C (O "__init__"))=J fd):∃a f al fd st q,mg C=J (.ref a)/\Mk K a f/\P.look (mnm C (O "__init__"))=J fd/\BodyOk K kl (P.tb.map (·.1)) (O "__init__") q fd st f al:=by obtain⟨f,al,u1,u2,u3,F⟩:=d;exact⟨ca,f,al,fd,st,q,YO X G y,⟨m,u1,u2,k⟩,e,c.bd F⟩
end
section
noncomputable abbrev Ml:=Str×Str×Fd×Nat×Nat
variable {K:Yk}{h:YG}{mg:Str->Option Yj}{kl:Kl}{fs:List Str}{C:Str}{ca:Yi}{P:Pg}
theorem All.app{α:Type}{p:α->Prop}{b:List α}:∀{a:List α},All p a->All p b->All p (a++b)
 |[],_,hb=>hb
 |_::_,ha,hb=>⟨ha.1,ha.2.app hb⟩
theorem ZnK(X:K.In h)(G:h.Ns Yd mg){top:Nat->Stmt}:∀{l:List (Str×Fd×Nat)},All (λp=>Zwj K p.1 (top p.2.2)) l->All (λp=>Chk kl fs p.1 p.1 p.2.1 (top p.2.2)) l->All (λp:Str×Fd=>∃st f al,DefOk K mg kl fs p.1 p.2 st f al) (l.map λp=>(p.1,p.2.1))
 |[],_,_=>trivial
 |_::_,d,c=>⟨Ztk X G d.1 c.1,ZnK X G d.2 c.2⟩
theorem ZfN(X:K.In h)(G:h.Ns Yd mg)(y:Yl K Yd C=J (J (.ref ca)))(cl:Cls K ca){mt:Nat->Nat->Stmt}:∀{l:List Ml},All (λp=>ZiC K ca p.1 p.2.1 (mt p.2.2.2.1 p.2.2.2.2)) l->All (λp=>Chk kl (P.tb.map (·.1)) p.1 p.2.1 p.2.2.1 (mt p.2.2.2.1 p.2.2.2.2)) l->All (λp=>P.look (mnm C p.1)=J p.2.2.1) l->All (λp:Str×Str=>∃a f al fd st q,mg p.1=J (.ref a)/\Cls K a/\Meth K a p.2 f/\P.look (mnm p.1 p.2)=J fd/\BodyOk K kl (P.tb.map (·.1)) p.2 q fd st f al) (l.map λp=>(C,p.1))
 |[],_,_,_=>trivial
 |_::_,d,c,e=>⟨ZsO X G y cl d.1 c.1 e.1,ZfN X G y cl d.2 c.2 e.2⟩
theorem ZkO(X:K.In h)(G:h.Ns Yd mg):∀{l:List Str},All (λx=>Yl K Yd x=J M) l->All (λx=>mg x=M) l
 |[],_=>trivial
 |_::_,d=>⟨PySem.W.mg_none_of X G d.1,ZkO X G d.2⟩
end
end IV
namespace IV
open PySem L2
set_option tactic.hygienic false
def ZjH(h:Str.ofString a=Str.ofString b):a=b:=by
 have e:∀s:String,(Str.ofString s).cps.toList=s.toList.map Char.toNat:=λs=>by show(cpsOfBytes 0 0 s.toByteArray.data.toList).toArray.toList=_;rw[cpsOfBytes_string]
 have R:=congrArg (λs:Str=>s.cps.toList) h;simp only[e]at R;have h2:a.toList=b.toList:=by
  have inj:∀{x y:Char},x.toNat=y.toNat->x=y:=λ{x y} q=>by have:x.val=y.val:=UInt32.toNat_inj.mp q;exact Char.ext this
  exact(List.map_inj_right λx y q=>inj q).mp R
 exact String.toList_inj.mp h2
@[simp]def ofString_eq(a b:String):(Str.ofString a=Str.ofString b)↔a=b:=⟨ZjH,λh=>h▸rfl⟩
@[simp]def ZsJ(a b:String):(Str.ofString a==Str.ofString b)=(a==b):=by rw[Bool.eq_iff_iff];simp
def Un(k:γ):Type:=Unit
noncomputable def un:Un k:=()
def qe.bnd(r:qe α)(k:α->Hd->qe β)(u:Un k:=un):qe β:=r.bind k
@[simp]def Zq:qe.bnd (.ok a h) k u=k a h:=rfl
@[simp]def Zyp:qe.bnd (qe.bad:qe α) k u=.bad:=rfl
section
variable {T:Tb}{S:Ev}{h:Hd}
@[simp]def bind_ok:(qe.ok a h).bind k=k a h:=rfl
@[simp]def bind_bad:(qe.bad:qe α).bind k=.bad:=rfl
@[simp]def ofO_some:qe.ofO (J a) h=.ok a h:=rfl
@[simp]def Zoz:(qe.ok a h).plain=.ok a h:=rfl
@[simp]def ZjZ{i}:ev T (.var i) S h=qe.ofO (S[i]?).join h:=rfl
@[simp]def ZvX{d}:ev T (.cst d) S h=.ok d h:=rfl
@[simp]def Zik{x}:ev T (.glo x) S h=qe.ofO (T.G x) h:=rfl
@[simp]def Zq6{op a b}:ev T (.bin op a b) S h=(ev T a S h).bnd λx R=>(ev T b S R).bnd λy h2=>opB op x y h2:=rfl
@[simp]def ZvY{op a b}:ev T (.cmp op a b) S h=(ev T a S h).bnd λx R=>(ev T b S R).bnd λy h2=>opC T.GD op x y h2:=rfl
@[simp] theorem Zzb{a}:ev T (.neg a) S h=(ev T a S h).bnd λx R=>match x with
 |.int i=>.ok (.int (-i)) R
 |_=>.bad:=rfl
@[simp] theorem Zzs{a}:ev T (.nt a) S h=(ev T a S h).bnd λx R=>match x with
 |.bl b=>.ok (.bl (!b)) R
 |_=>.bad:=rfl
@[simp]def ZnJ{es}:ev T (.ands es) S h=evAnd T es S h:=rfl
@[simp]def Zza{es}:ev T (.ors es) S h=evOr T es S h:=rfl
@[simp]def Zwn{e}:evAnd T (.cons e .nil) S h=ev T e S h:=rfl
@[simp] theorem Zji{e e' r}:evAnd T (.cons e (.cons e' r)) S h=(ev T e S h).bnd λx R=>match x with
 |.bl Wx=>evAnd T (.cons e' r) S R
 |.bl Wy=>.ok (.bl Wy) R
 |_=>.bad:=rfl
@[simp]def Zx2{e}:evOr T (.cons e .nil) S h=ev T e S h:=rfl
@[simp] theorem Zx1{e e' r}:evOr T (.cons e (.cons e' r)) S h=(ev T e S h).bnd λx R=>match x with
 |.bl Wx=>.ok (.bl Wx) R
 |.bl Wy=>evOr T (.cons e' r) S R
 |_=>.bad:=rfl
@[simp]def Zq4{c a b}:ev T (.ite c a b) S h=(tst T c S h).bnd λc R=>if c then ev T a S R else ev T b S R:=rfl
@[simp]def Ztf{es}:ev T (.tupl es) S h=(evs T es S h).bnd λxs R=>if xs.length<=sizeLine then .ok (.tup xs) R else .bad:=rfl
@[simp]def ZnH{es}:ev T (.lstl es) S h=(evs T es S h).bnd λxs R=>if xs.length<=sizeLine then Zdr (.lst xs) R else .bad:=rfl
@[simp]def ZnI{a i}:ev T (.ix a i) S h=(ev T a S h).bnd λx R=>(ev T i S R).bnd λy h2=>Zbq T.GD x y h2:=rfl
@[simp]def Zlb{a lo hi}:ev T (.sl a lo hi) S h=(ev T a S h).bnd λx R=>(evo T lo S R).bnd λl h2=>(evo T hi S h2).bnd λu h3=>ZfK x l u h3:=rfl
@[simp]def Zv0{f es}:ev T (.blt f es) S h=(evs T es S h).bnd λxs R=>ZcV T.GD f xs R:=rfl
@[simp]def Zj0{f es}:ev T (.call f es) S h=(evs T es S h).bnd λxs R=>T.C f xs R:=rfl
@[simp]def ZnG{m o es}:ev T (.meth m o es) S h=(ev T o S h).bnd λx R=>if Zh0 x R then(evs T es S R).bnd λxs h2=>ZcB m x xs h2 else .bad:=rfl
@[simp]def Zth{NC js it g c e}:ev T (.comp NC js it g c e) S h=(evi T it S h).bnd λw R=>(ZG w.src g (tsto T c) (ev T e) w.xs (Zdj js S) [] R).bnd λxs h2=>Zdr (.lst xs) h2:=rfl
@[simp]def Zyo{e d}:ev T (.maxd e d) S h=(ev T e S h).bnd λx R=>(ev T d S R).bnd λy h2=>Zn1 x y h2:=rfl
@[simp] theorem Zq5{ps}:ev T (.dictl ps) S h=(evs T ps S h).bnd λxs R=>match Zd8 xs with
 |some kvs=>if kvs.length<=15 then Zdr (.dic (Zfi [] kvs)) R else .bad
 |none=>.bad:=rfl
@[simp]def Zq7{Cs o f}:ev T (.att Cs o f) S h=(ev T o S h).bnd λx R=>ZgB Cs f x R:=rfl
@[simp]def Zt3{C es}:ev T (.mk C es) S h=(evs T es S h).bnd λxs R=>Zg5 T.C C xs R:=rfl
@[simp] theorem ZvW{C m o es}:ev T (.mcl C m o es) S h=(ev T o S h).bnd λx R=>match Zah x R with
 |some (C',fs)=>if C'=C/\fs.lookup m=M then(evs T es S R).bnd λxs h2=>T.C (mnm C m) (x::xs) h2 else .bad
 |none=>.bad:=rfl
@[simp]def Ztg{e}:ev T (.trev e) S h=(ev T e S h).bnd λx R=>Zrx x R:=rfl
@[simp]def ZvU{o e}:ev T (.tix o e) S h=(ev T o S h).bnd λx R=>if ZxO x then(ev T e S R).bnd λy h2=>Zo9 x y h2 else .bad:=rfl
@[simp]def Zpd{Cs o f e}:xs1 T (.seta Cs o f e) S h=(ev T e S h).bnd λd R=>(ev T o S R).bnd λx h2=>(Zgr Cs f x d h2).bnd λ_ h3=>.ok (.nx,S) h3:=rfl
@[simp] theorem Zpf{Cs o f e}:xs1 T (.auga Cs o f e) S h=(ev T o S h).bnd λx R=>(ZgB Cs f x R).bnd λv h2=>(ev T e S h2).bnd λy h3=>match v,y with
 |.int a,.int b=>if (Zah x R).map (·.1)=(Zah x h3).map (·.1)then(Zgr Cs f x (.int (a+b)) h3).bnd λ_ h4=>.ok (.nx,S) h4 else .bad
 |_,_=>.bad:=rfl
@[simp]def ZJ:evs T .nil S h=.ok [] h:=rfl
@[simp]def ZfZ{e es}:evs T (.cons e es) S h=(ev T e S h).bnd λx R=>(evs T es S R).bnd λxs h2=>.ok (x::xs) h2:=rfl
@[simp]def Zx0:evo T M S h=.ok M h:=rfl
@[simp] theorem Zq3{e}:evo T (J e) S h=(ev T e S h).bnd λx R=>match x with
 |.int i=>.ok (J i) R
 |_=>.bad:=rfl
@[simp]def Zpy{e}:tst T (.ex e) S h=(ev T e S h).bnd λx R=>qe.ofO (Zgo T.GD x R) R:=rfl
@[simp]def Zkr{ts}:tst T (.ands ts) S h=tstAnd T ts S h:=rfl
@[simp]def ZmQ{ts}:tst T (.ors ts) S h=tstOr T ts S h:=rfl
@[simp]def Zuk{a}:tst T (.nt a) S h=(tst T a S h).bnd λc R=>.ok (!c) R:=rfl
@[simp]def Zul{t}:tstAnd T (.one t) S h=tst T t S h:=rfl
@[simp]def ZgN{t ts}:tstAnd T (.cons t ts) S h=(tst T t S h).bnd λc R=>if c then tstAnd T ts S R else .ok Wy R:=rfl
@[simp]def Zwm{t}:tstOr T (.one t) S h=tst T t S h:=rfl
@[simp]def ZhG{t ts}:tstOr T (.cons t ts) S h=(tst T t S h).bnd λc R=>if c then .ok Wx R else tstOr T ts S R:=rfl
@[simp]def Zoa:tsto T M S h=.ok Wx h:=rfl
@[simp]def Zwl{t}:tsto T (J t) S h=tst T t S h:=rfl
@[simp]def Zmu{e}:evi T (.pl e) S h=(ev T e S h).bnd λx R=>qe.ofO (ZaV x R) R:=rfl
@[simp] theorem Zyn{e}:evi T (.rng e) S h=(ev T e S h).bnd λx R=>match x with
 |.int j=>if Zdo j then .ok ⟨M,Zci 0 j.toNat⟩ R else .bad
 |_=>.bad:=rfl
@[simp]def ZvV{a b}:ev T (.rpn a b) S h=(ev T a S h).bnd λx R=>(shD x R).bnd λp R=>(ev T b S R).bnd λy h2=>(shD y h2).bnd λq h3=>.ok (.bl (!Wz (p=q))) h3:=rfl
@[simp]def Zte{e}:evi T (.enu e) S h=(ev T e S h).bnd λx R=>qe.ofO ((ZiS x R).map λw=>⟨w.src,Zeo w.xs⟩) R:=rfl
@[simp]def Ztd{e}:evi T (.rev e) S h=(ev T e S h).bnd λx R=>qe.ofO ((Zpo x R).map λw=>⟨w.src,w.xs.reverse⟩) R:=rfl
@[simp]def Zjx{e}:xs1 T (.ret e) S h=(ev T e S h).bnd λx R=>.ok (.rt x,S) R:=rfl
@[simp]def ZmH{g e}:xs1 T (.set g e) S h=(ev T e S h).bnd λx R=>(qe.ofO (ZbL g x S) R).bnd λρ1 h2=>.ok (.nx,ρ1) h2:=rfl
@[simp]def ZmI{o i e}:xs1 T (.put o i e) S h=(ev T e S h).bnd λx R=>(ev T o S R).bnd λy h2=>(ev T i S h2).bnd λz h3=>(Zb3 y z x h3).bnd λ_ h4=>.ok (.nx,S) h4:=rfl
@[simp]def ZmK{e}:xs1 T (.drp e) S h=(ev T e S h).bnd λ_ R=>.ok (.nx,S) R:=rfl
@[simp]def ZmJ{c a b}:xs1 T (.iff c a b) S h=(tst T c S h).bnd λt R=>if t then xs2 T a S R else xs2 T b S R:=rfl
@[simp]def Zyk{c b}:xs1 T (.whl c b) S h=Z4 (tst T c) (xs2 T b) T.L S h:=rfl
@[simp]def Zpe{g it b}:xs1 T (.forr g it b) S h=(evi T it S h).bnd λw R=>ZQ w.src g (xs2 T b) w.xs S R:=rfl
@[simp]def Zyj:xs2 T .nil S h=.ok (.nx,S) h:=rfl
@[simp] theorem ZhD{s r}:xs2 T (.cons s r) S h=(xs1 T s S h).bnd λp R=>match p with
 |(.nx,ρ1)=>xs2 T r ρ1 R
 |p=>.ok p R:=rfl
def Za(e:xs1 T s S h=.ok (.nx,ρ1) R):xs2 T (.cons s r) S h=xs2 T r ρ1 R:=by rw[ZhD,e];rfl
def Zd(e:xs1 T s S h=.ok (.rt d,ρ1) R):xs2 T (.cons s r) S h=.ok (.rt d,ρ1) R:=by rw[ZhD,e];rfl
@[simp]def Zyq{i d}:ZbL (.nm i) d S=J (S.set i (J d)):=rfl
@[simp]def Zrs{i j a b}:ZbL (.two i j) (.tup [a,b]) S=J ((S.set i (J a)).set j (J b)):=rfl
@[simp]def ZyM:Ze (.ok (.rt d,S) h)=.ok d h:=rfl
@[simp]def ZyN:Ze (.ok (.nx,S) h)=.ok .non h:=rfl
end
@[simp]def ZiX:seqOf (.tup xs) h=J xs:=rfl
@[simp]def Zxr:ZjF f (.int i) (.int j) h=.ok (.bl (f i j)) h:=rfl
section
variable {GD:Str->Option (List (Key×D))}{h:Hd}
@[simp]def Zea{x y}:opC GD .Eq x y h=Zdb Wy x y h:=rfl
@[simp]def Zl5{x y}:opC GD .NotEq x y h=Zdb Wx x y h:=rfl
@[simp]def ZyZ{i j}:opC GD .Lt (.int i) (.int j) h=.ok (.bl (Wz (i<j))) h:=rfl
@[simp]def Zy0{i j}:opC GD .LtE (.int i) (.int j) h=.ok (.bl (Wz (i<=j))) h:=rfl
@[simp]def Zy1{i j}:opC GD .Gt (.int i) (.int j) h=.ok (.bl (Wz (j<i))) h:=rfl
@[simp]def Zy2{i j}:opC GD .GtE (.int i) (.int j) h=.ok (.bl (Wz (j<=i))) h:=rfl
@[simp]def Zqs{x}:opC GD .Is x .non h=.ok (.bl (Wz (x=.non))) h:=rfl
@[simp]def Zxt{x}:opC GD .IsNot x .non h=.ok (.bl (!Wz (x=.non))) h:=rfl
@[simp] theorem ZjG{s n}:opC GD .NotIn (.str s) (.kd n) h=match GD n with
 |some kvs=>.ok (.bl (!(Zbp kvs (.inr s)).isSome)) h
 |none=>.bad:=by
 show ZcA GD Wx (.str s) (.kd n) h=_;unfold ZcA;simp only[seqOf,lstOf,dicOf,keyOf];cases GD n<;>rfl
def ZhE(ss:List Str):(ss.map D.str).all D.flat=Wx:=by rw[OC];intro x hx;obtain⟨s,_,rfl⟩:=List.mem_map.mp hx;rfl
def any_words(ss:List Str)(x:Str):((ss.map D.str).any λz=>eqF z (.str x))=Wz (x∈ss):=by
 induction ss with
 |nil=>rfl
 |cons s r ih=>
  rw[Op,Wf,ih];show((s==x)||Wz (x∈r))=_;by_cases e:s=x
  . subst e;simp
  . have:(s==x)=Wy:=by simpa using e
    rw[this];have e':¬ x=s:=λq=>e q.symm;simp[e']
def ZaZ{ss:List Str}{x:Str}:opC GD .In (.str x) (.tup (ss.map .str)) h=.ok (.bl (Wz (x∈ss))) h:=by show ZcA GD Wy (.str x) (.tup (ss.map .str)) h=_;unfold ZcA;rw[ZiX];simp only[ZhE,any_words];rfl
def Zg4{ss:List Str}{x:Str}:opC GD .NotIn (.str x) (.tup (ss.map .str)) h=.ok (.bl (!Wz (x∈ss))) h:=by show ZcA GD Wx (.str x) (.tup (ss.map .str)) h=_;unfold ZcA;rw[ZiX];simp only[ZhE,any_words];rfl
@[simp]def ZfL{xs i}:Zbq GD (.tup xs) (.int i) h=qe.ofO (atI xs i) h:=rfl
@[simp]def Zym{xs i}:Zbq GD (.ro xs) (.int i) h=qe.ofO (atI xs i) h:=rfl
@[simp] theorem ZsC{n s}:Zbq GD (.kd n) (.str s) h=match GD n with
 |some kvs=>qe.ofO (Zbp kvs (.inr s)) h
 |none=>.bad:=rfl
def Z0{i k xs}(e:h[i]?=J (.lst xs)):Zbq GD (.ref i) (.int k) h=qe.ofO (atI xs k) h:=by unfold Zbq;simp only[seqOf,lstOf,e]
@[simp]def Zjv{α:Type}{x:α}{l:List α}:atI (x::l) 0=J x:=by simp[atI,ixN]
def ZbH{α:Type}{l:List α}{k:Nat}:atI l (k:Int)=l[k]? := by
 unfold atI ixN;by_cases hk:k<l.length
 . simp[hk]
 . simp[hk]
@[simp]def Zye{α:Type}{x y:α}{l:List α}:atI (x::y::l) 1=J y:=ZbH (k:=1)
@[simp]def Zzu{α:Type}{x y z:α}{l:List α}:atI (x::y::z::l) 2=J z:=ZbH (k:=2)
@[simp]def Zzt{α:Type}{x y z w:α}{l:List α}:atI (x::y::z::w::l) 3=J w:=ZbH (k:=3)
def ZeK{α:Type}{l:List α}{x:α}:atI (l++[x]) (-1)=J x:=by
 unfold atI ixN;rw[if_neg (by decide),if_pos (by simp;lia)];have:(-1+((l++[x]).length:Int)).toNat=l.length:=by simp;lia
 simp only[Yz,this];simp
@[simp]def Zxq{xs l u}:ZfK (.tup xs) l u h=.ok (.tup (cutD xs l u)) h:=rfl
@[simp]def ZoZ{x:D}{l:List D}:cutD (x::l) (J 1) M=l:=by simp[cutD,HT.sIx]
@[simp]def Zyl{b}:Zgo GD (.bl b) h=J b:=rfl
@[simp]def ZwC{i}:Zgo GD (.int i) h=J (i != 0):=rfl
@[simp]def ZwA{xs}:Zgo GD (.tup xs) h=J (!xs.isEmpty):=rfl
@[simp]def ZwB:Zgo GD .non h=J Wy:=rfl
@[simp]def ZsG{i j}:opB .Add (.int i) (.int j) h=.ok (.int (i+j)) h:=rfl
@[simp]def Znm{i j}:opB .Sub (.int i) (.int j) h=.ok (.int (i-j)) h:=rfl
def ZM(hj:0<j):opB .Mod (.int i) (.int j) h=.ok (.int (i%j)) h:=if_pos hj
def Zdq(hj:0<j/\j<1073741824):opB .FloorDiv (.int i) (.int j) h=.ok (.int (i/j)) h:=if_pos hj
def ZeO(hj:i.natAbs<2^2000/\j.natAbs<2^2000):opB .Mult (.int i) (.int j) h=.ok (.int (i*j)) h:=if_pos hj
def Zb6(hl:xs.length+ys.length<=sizeLine):opB .Add (.tup xs) (.tup ys) h=.ok (.tup (xs++ys)) h:=if_pos hl
@[simp]def Zck:Zdb n (.str x) (.str y) h=.ok (.bl (if n then !Wz (x=y)else Wz (x=y))) h:=by
 have e:YQ (.str x) (.str y)=Wz (x=y):=by show(x==y)=_;rw[Bool.beq_eq_decide_eq]
 have q:Zdb n (.str x) (.str y) h=if min (PyData.str x).depth (PyData.str y).depth<=1100 then .ok (.bl (if n then !YQ (.str x) (.str y)else YQ (.str x) (.str y))) h else .bad:=rfl;rw[q,if_pos (by simp[PyData.depth]),e]
@[simp]def ZhV:Zdb n (.int x) (.int y) h=.ok (.bl (if n then !Wz (x=y)else Wz (x=y))) h:=by
 have e:YQ (.int x) (.int y)=Wz (x=y):=by show(x==y)=_;rw[Bool.beq_eq_decide_eq]
 have q:Zdb n (.int x) (.int y) h=if min (PyData.int x).depth (PyData.int y).depth<=1100 then .ok (.bl (if n then !YQ (.int x) (.int y)else YQ (.int x) (.int y))) h else .bad:=rfl;rw[q,if_pos (by simp[PyData.depth]),e]
end
def Zg(e:P.tb.lookup f=J fd)(hl:ds.length=fd.ps.length):run P (n+1) f ds h=Ze (xs2 ⟨P.G,P.GD,run P n,P.L⟩ fd.body (ZF fd.N ds) h):=by rw[run,show P.look f=J fd by unfold Pg.look;rw[e]];simp only;rw[if_pos hl]
def Zz(hn:P.tb.lookup f=M)(e:P.ms.lookup f=J fd)(hl:ds.length=fd.ps.length):run P (n+1) f ds h=Ze (xs2 ⟨P.G,P.GD,run P n,P.L⟩ fd.body (ZF fd.N ds) h):=by rw[run,show P.look f=J fd by unfold Pg.look;rw[hn];exact e];simp only;rw[if_pos hl]
section
variable {h:Hd}{x:DO}{r:List DO}
@[simp]def ZaU:(h++x::r)[h.length]?=J x:=by simp
@[simp]def ZkG:(h++x::r).set h.length o=h++o::r:=by simp
end
@[simp]def ZsM:Zdr o h=.ok (.ref h.length) (h++[o]):=rfl
section
variable {h:Hd}
def Za0(e:h[i]?=J (.lst ys))(hz:ys.length<sizeLine):ZcB .app (.ref i) [d] h=.ok .non (h.set i (.lst (ys++[d]))):=by simp only[ZcB,e,ZiI,Zvs];rw[if_pos hz]
def Zdc(e:h[i]?=J (.lst (ys++[d]))):ZcB .pop (.ref i) [] h=.ok d (h.set i (.lst ys)):=by simp only[ZcB,e,ZiI,Zvr];simp
def Zjc(e:h[i]?=J (.lst ys)):Zh0 (.ref i) h=Wx:=by simp[Zh0,e]
def ZrM(e:h[i]?=J (.lst ys)):Zgo GD (.ref i) h=J (!ys.isEmpty):=by simp[Zgo,e]
@[simp]def ZxW:ZQ M g body [] S h=.ok (.nx,S) h:=rfl
def ZgC:ZQ M g body (d::ds) S h=match ZbL g d S with
 |none=>.bad
 |some ρ1=>(body ρ1 h).bnd λp h2=>match p with
  |(.nx,ρ2)=>ZQ M g body ds ρ2 h2
  |(.ct,ρ2)=>ZQ M g body ds ρ2 h2
  |(.bk,ρ2)=>.ok (.nx,ρ2) h2
  |(.rt d,ρ2)=>.ok (.rt d,ρ2) h2:=rfl
def Zak:ZG src g test aC (d::ds) S ag h=if Wk.stays src h/\ag.length<sizeLine then match ZbL g d S with
 |none=>.bad
 |some ρ1=>(test ρ1 h).bnd λb R=>if b then(aC ρ1 R).bnd λx h2=>ZG src g test aC ds S (ag++[x]) h2 else ZG src g test aC ds S ag R
 else .bad:=rfl
def Zcx:Z4 test body (n+1) S h=(test S h).bnd λb R=>if b then(body S R).bnd λp h2=>match p with
 |(.nx,ρ2)=>Z4 test body n ρ2 h2
 |(.ct,ρ2)=>Z4 test body n ρ2 h2
 |(.bk,ρ2)=>.ok (.nx,ρ2) h2
 |(.rt d,ρ2)=>.ok (.rt d,ρ2) h2
 else .ok (.nx,S) R:=rfl
end
inductive Wd where
 |add|sub|mul|lt
 deriving DecidableEq
noncomputable def Wd.s:Wd->Str
 |.add=>O "+"
 |.sub=>O "-"
 |.mul=>O "*"
 |.lt=>O "<"
inductive T where
 |num (n:Int)|name (x:Str)|fn (x:Str) (e:T)|rcc (f x:Str) (e:T)|call (f a:T)|iff (c t e:T)|op (w:Wd) (a b:T)
noncomputable def T.d:T->D
 |.num n=>.tup [.str (O "num"),.int n]
 |.name x=>.tup [.str (O "name"),.str x]
 |.fn x e=>.tup [.str (O "fn"),.str x,e.d]
 |.rcc f x e=>.tup [.str (O "rec"),.str f,.str x,e.d]
 |.call f a=>.tup [.str (O "call"),f.d,a.d]
 |.iff c t e=>.tup [.str (O "if"),c.d,t.d,e.d]
 |.op w a b=>.tup [.str w.s,a.d,b.d]
noncomputable def T.parts:T->List T
 |.num _|.name _=>[]
 |.fn _ e|.rcc _ _ e=>[e]
 |.call f a=>[f,a]
 |.iff c t e=>[c,t,e]
 |.op _ a b=>[a,b]
noncomputable def T.places:T->List T
 |.num n=>[.num n]
 |.name x=>[.name x]
 |.fn x e=>.fn x e::e.places
 |.rcc f x e=>.rcc f x e::e.places
 |.call f a=>.call f a::(f.places++a.places)
 |.iff c t e=>.iff c t e::(c.places++(t.places++e.places))
 |.op w a b=>.op w a b::(a.places++b.places)
noncomputable def T.size(t:T):Nat:=t.places.length
def T.places_parts(t:T):t.places=t::t.parts.flatMap T.places:=by cases t<;>simp[T.places,T.parts]
set_option tactic.hygienic true
section
variable {U:Tb}{S:Ev}{h R:Hd}{f:Str}{as:List D}{r:qe D}
noncomputable abbrev Tb.say(U:Tb)(r:qe D):Tb:=⟨U.G,U.GD,λ_ _ _=>r,U.L⟩
def Za8(e:U.C f as R=r)(q:xs1 U s S h=xs1 (U.say (U.C f as R)) s S h)(z:xs1 (U.say r) s S h=y):xs1 U s S h=y:=by rw[q,e,z]
def Zf7(e:U.C f as R=r)(q:tst U s S h=tst (U.say (U.C f as R)) s S h)(z:tst (U.say r) s S h=y):tst U s S h=y:=by rw[q,e,z]
def Zi(e:tst U c S h=.ok Wx R):xs1 U (.iff c a b) S h=xs2 U a S R:=by rw[ZmJ,e];rfl
def Zf(e:tst U c S h=.ok Wy R):xs1 U (.iff c a b) S h=xs2 U b S R:=by rw[ZmJ,e];rfl
def Zu(q:ev U e S h=.ok d R):xs1 U (.ret e) S h=.ok (.rt d,S) R:=by rw[Zjx,q];rfl
def Zl(q:ev U e S h=.ok d R):xs1 U (.set (.nm i) e) S h=.ok (.nx,S.set i (J d)) R:=by rw[ZmH,q];rfl
def Zdv(q:evi U it S h=.ok w R):xs1 U (.forr g it b) S h=ZQ w.src g (xs2 U b) w.xs S R:=by rw[Zpe,q];rfl
def Zj(p:ev U a S h=.ok x R)(q:ev U b S R=.ok y h2):ev U (.bin op a b) S h=opB op x y h2:=by rw[Zq6,p];simp only[Zq,q]
def Zp(p:ev U a S h=.ok x R)(q:ev U b S R=.ok y h2):ev U (.cmp op a b) S h=opC U.GD op x y h2:=by rw[ZvY,p];simp only[Zq,q]
def Zb9(q:ev U e S h=.ok (.bl b) R):tst U (.ex e) S h=.ok b R:=by rw[Zpy,q];rfl
def Zh{b c:Bool}{y:qe Bool}(q:y=.ok b R)(e:b=c):y=.ok c R:=e▸q
noncomputable def hdS:Sxs->Sx
 |.cons s _=>s
 |.nil=>.pas
noncomputable def tlS:Sxs->Sxs
 |.cons _ r=>r
 |.nil=>.nil
def rt1(e:xs1 U (hdS ss) S h=.ok (.rt d,ρ1) h2)(hs:ss=.cons (hdS ss) (tlS ss)):Ze (xs2 U ss S h)=.ok d h2:=by rw[hs,Zd e];rfl
def nx1(e:xs1 U (hdS ss) S h=.ok (.nx,ρ1) h2)(hs:ss=.cons (hdS ss) (tlS ss)):xs2 U ss S h=xs2 U (tlS ss) ρ1 h2:=by rw[hs,Za e];rfl
def Zc(p:ev U a S h=.ok x R)(q:evs U es S R=.ok xs h2):evs U (.cons a es) S h=.ok (x::xs) h2:=by rw[ZfZ,p,Zq,q];rfl
def ZvZ(p:evs U es S h=.ok xs R):ev U (.call g es) S h=U.C g xs R:=by rw[Zj0,p];rfl
def Zit(a:atI xs z=J d)(p:evs U es S h=.ok xs h)(q:ev U e S (h++[.lst xs])=.ok (.int z) (h++[.lst xs]))(hz:xs.length<=1000):ev U (.ix (.lstl es) e) S h=.ok d (h++[.lst xs]):=by rw[ZnI,ZnH,p,Zq,if_pos (OE hz (by decide)),ZsM,Zq,q,Zq,Z0 (xs:=xs) (by simp),a];rfl
def Zv(e:U.C g xs R=y)(p:evs U es S h=.ok xs R):ev U (.call g es) S h=y:=(ZvZ p).trans e
def Zan(p:evs U es S h=.ok xs R)(hz:xs.length<=1000):ev U (.tupl es) S h=.ok (.tup xs) R:=by rw[Ztf,p,Zq,if_pos (OE hz (by decide))]
def ZqS(p:ev U e S h=.ok x R)(n:x≠.non):tst U (.ex (.cmp .Is e (.cst .non))) S h=.ok Wy R:=Zb9 ((Zp p rfl).trans (by rw[Zqs,decide_eq_false n]))
def ZqR(p:ev U e S h=.ok .non R):tst U (.ex (.cmp .Is e (.cst .non))) S h=.ok Wx R:=Zb9 ((Zp p rfl).trans (by rw[Zqs,decide_eq_true rfl]))
def Zad(p:ev U a S h=.ok (.str x) R)(q:ev U b S R=.ok (.str y) h2):tst U (.ex (.cmp .Eq a b)) S h=.ok (Wz (x=y)) h2:=Zb9 ((Zp p q).trans (by rw[Zea,Zck];rfl))
def Zfn(p:ev U a S h=.ok (.int x) R)(q:ev U b S R=.ok (.int y) h2):tst U (.ex (.cmp .Eq a b)) S h=.ok (Wz (x=y)) h2:=Zb9 ((Zp p q).trans (by rw[Zea,ZhV];rfl))
def Zm(p:ev U a S h=.ok x R)(q:ev U b S R=.ok y h2):ev U (.ix a b) S h=Zbq U.GD x y h2:=by rw[ZnI,p,Zq,q,Zq]
def Zn4(p:tst U a S h=.ok Wx R)(q:tst U b S R=.ok c h2):tst U (.ands (.cons a (.one b))) S h=.ok c h2:=by rw[Zkr,ZgN,p];exact q
def ZrD(p:tst U a S h=.ok Wy R):tst U (.ands (.cons a (.one b))) S h=.ok Wy R:=by rw[Zkr,ZgN,p];rfl
def Zqp(p:tst U a S h=.ok Wx R):tst U (.ors (.cons a (.one b))) S h=.ok Wx R:=by rw[ZmQ,ZhG,p];rfl
def ZhU(p:tst U a S h=.ok Wy R)(q:tst U b S R=.ok c h2):tst U (.ors (.cons a (.one b))) S h=.ok c h2:=by rw[ZmQ,ZhG,p];exact q
end
end IV
namespace Gn
open PySem L2 IV
set_option tactic.hygienic false
def ZaM:Sxs:=.w (.iff (.x .NotIn (.ix V0 K0) (.glo (O "FORMS"))) (.o (.ret (.tupl .n))) .n) (.ret (.sl V0 (J (.bin .Add K1 (.ix (.ix (.glo (O "FORMS")) (.ix V0 K0)) K0))) M))
def Zdw:Fd:=fd_ 1 ["E"] ZaM
def ZcW:Sxs:=.w (.iff (.x .Lt V1 (.blt .len (.o V0))) (.o (.ret (.ix V0 V1))) .n) (.ret K0)
def Zax:Fd:=fd_ 2 ["_law_script","_law_k"] ZcW
def Zg1:Sxs:=.z (.s 2 (.bin .Add (.bin .Pow K10 K30) (.ci 57))) (.s 3 (.bin .Mult (.bin .Mod V0 V2) (.ci 271828182845904523536028747135))) (.s 3 (.bin .Add V3 (.bin .Mult (.bin .Mult V1 V1) (.ci 314159265358979323846264338327)))) (.ret (.bin .Mod (.bin .Add V3 (.ci 577215664901532860606512090082)) V2))
def Zek:Fd:=fd_ 2 ["_law_cell","_law_k","_law_big","_law_number_here"] Zg1
def Zfr:Sxs:=.z (.s 1 (.ix V0 K1)) (.put V0 K1 (.bin .Add V1 K1)) (.iff (.x .Lt V1 (.blt .len (.o (.ix V0 K0)))) (.o (.ret (.ix (.ix V0 K0) V1))) .n) (.ret (.f "_law_mixed" (.w V1 K7)))
def Zie:Fd:=fd_ 1 ["_law_state","_law_at"] Zfr
def Zg0:Sxs:=.c (.s 1 (.Ci_ "abcdefghijklmnopqrstuvwxyz")) (.c (.s 2 (.bin .Add K1 (.bin .Mod V0 K8))) (.c (.s 3 (.bin .Mod (.bin .FloorDiv V0 K8) V2)) (.c (.s 4 (.bin .FloorDiv V0 (.ci 64))) (.y (.s 5 (.Ci_ "")) (.forr (.nm 6) (.rng K8) (.w (.s 5 (.bin .Add V5 (.ix V1 (.bin .Mod V4 K26)))) (.s 4 (.bin .FloorDiv V4 K26)))) (.s 7 (.lstl .n)) (.forr (.nm 6) (.rng K5) (.y (.s 8 (.ix V1 (.bin .Mod (.bin .Add V4 (.bin .Mult K5 V6)) K26))) (.s 9 (.bin .Add (.bin .Add (.sl V5 M (J V3)) V8) (.sl V5 (J (.bin .Add V3 K1)) (J V2)))) (.iff (.q (.bin .Mod (.bin .FloorDiv V4 K26) K4) K1) (.o (.s 9 (.sl V5 M (J (.bin .Sub K8 V6))))) .n) (.iff (.x .In V9 (.tupl (.z (.Ci_ "fn") (.Ci_ "rec") (.Ci_ "call") (.Ci_ "if")))) (.o (.s 9 (.bin .Mult (.Ci_ "q") (.blt .len (.o V9))))) .n) (.drp (.meth .app V7 (.o V9))))) (.ret V7)))))
def Zej:Fd:=fd_ 1 ["_law_number_here","_law_letters","_law_long","_law_place","_law_rest","_law_base","_law_k","_law_found","_law_sign","_law_word"] Zg0
def ZgY:Sxs:=.u (.s 2 (.dictl .n)) (.forr (.two 3 4) (.pl V0) (.o (.put V2 V3 V4))) (.ret (.comp [O "_law_name",O "_law_wish",O "_law_known"] [M,J 1,J 2] (.pl (.blt .srt (.o V2))) (.nm 0) (J (.q (.ix V2 V0) V1)) V0))
def Zei:Fd:=fd_ 2 ["_law_scope","_law_wish","_law_known","_law_name","_law_held"] ZgY
def ZaQ:Sxs:=.u (.iff (.q V0 (.Ci_ "n")) (.o (.ret (.tupl (.w (.Ci_ "num") (.ix (.lstl (.z K0 K1 K2 (.bin .Mod (.bin .FloorDiv V1 K7) (.ci 1000000)))) (.bin .Mod V1 K4)))))) .n) (.iff (.q V0 (.Ci_ "f")) (.o (.ret (.tupl (.u (.Ci_ "fn") (.Ci_ "w") (.tupl (.u (.Ci_ "-") (.tupl (.w (.Ci_ "name") (.Ci_ "w"))) (.tupl (.w (.Ci_ "num") (.bin .Mod V1 K3))))))))) .n) (.ret (.tupl (.u (.Ci_ "fn") (.Ci_ "w") (.tupl (.u (.Ci_ "call") (.tupl (.w (.Ci_ "name") (.Ci_ "w"))) (.tupl (.w (.Ci_ "num") (.bin .Mod V1 K5))))))))
def ZgU:Fd:=fd_ 2 ["_law_wish","_law_number_here"] ZaQ
def Zby:Sx:=.s 6 (.ix V4 (.bin .Mod V1 K5))
def Zar:Sx:=.iff (.q V0 (.Ci_ "g")) (.o (.ret (.tupl (.u (.Ci_ "fn") V6 (.f "_law_any" (.y (.Ci_ "n") (.bin .Add V2 (.lstl (.o (.tupl (.w V6 (.Ci_ "f")))))) V3 V4 V5)))))) .n
def Zaq:Sx:=.iff (.q (.bin .Mod (.bin .FloorDiv V1 K5) K3) K0) (.o (.ret (.tupl (.u (.Ci_ "fn") V6 (.f "_law_any" (.y (.Ci_ "n") (.bin .Add V2 (.lstl (.o (.tupl (.w V6 (.Ci_ "n")))))) V3 V4 V5)))))) .n
def Zbx:Sx:=.s 7 (.ix V4 (.bin .Mod (.bin .Add (.bin .Add (.bin .Mod V1 K5) K1) (.bin .Mod (.bin .FloorDiv V1 K15) K4)) K5))
def Zbw:Sx:=.s 8 (.bin .Add V2 (.lstl (.w (.tupl (.w V7 (.Ci_ "f"))) (.tupl (.w V6 (.Ci_ "n"))))))
def Zbv:Sx:=.s 9 (.tupl (.u (.Ci_ "call") (.tupl (.w (.Ci_ "name") V7)) (.tupl (.u (.Ci_ "-") (.tupl (.w (.Ci_ "name") V6)) (.tupl (.w (.Ci_ "num") K1))))))
def Zap:Sx:=.iff (.q (.bin .Mod (.bin .FloorDiv V1 (.ci 60)) K3) K0) (.o (.s 9 (.f "_law_any" (.y (.Ci_ "n") V8 V3 V4 V5)))) (.o (.iff (.q (.bin .Mod (.bin .FloorDiv V1 (.ci 60)) K3) K1) (.o (.s 9 (.tupl (.u (.ix (.lstl (.w (.Ci_ "+") (.Ci_ "*"))) (.bin .Mod (.bin .FloorDiv V1 (.ci 180)) K2)) (.f "_law_any" (.y (.Ci_ "n") V8 V3 V4 (.bin .Sub V5 K1))) V9)))) .n))
def Zao:Sx:=.ret (.tupl (.z (.Ci_ "rec") V7 V6 (.tupl (.z (.Ci_ "if") (.tupl (.w (.Ci_ "name") V6)) V9 (.f "_law_any" (.y (.Ci_ "n") V8 V3 V4 (.bin .Sub V5 K1)))))))
def Ziy:Sxs:=.c Zby (.c Zar (.c Zaq (.y Zbx Zbw Zbv Zap Zao)))
def Zel:Fd:=fd_ 6 ["_law_wish","_law_rest","_law_scope","_law_state","_law_names_here","_law_room","_law_x","_law_f","_law_inner","_law_again"] Ziy
def Zex:Sx:=.s 5 (.bin .Mod V0 K6)
def Zct:Sx:=.iff (.q V5 K0) (.o (.ret (.f "_law_plain" (.w (.Ci_ "n") (.bin .FloorDiv V0 K6))))) .n
def Zcs:Sx:=.iff (.x .Lt V5 K3) (.w (.s 6 (.f "_law_any" (.y (.Ci_ "n") V1 V2 V3 V4))) (.ret (.tupl (.u (.ix (.lstl (.z (.Ci_ "+") (.Ci_ "-") (.Ci_ "*") (.Ci_ "<"))) (.bin .Mod (.bin .FloorDiv V0 K6) K4)) V6 (.f "_law_any" (.y (.Ci_ "n") V1 V2 V3 V4)))))) .n
def Zew:Sx:=.s 7 (.ix (.lstl (.u (.Ci_ "f") (.Ci_ "f") (.Ci_ "g"))) (.bin .Sub V5 K3))
def Zev:Sx:=.s 8 (.f "_law_any" (.y V7 V1 V2 V3 V4))
def Zeu:Sx:=.ret (.tupl (.u (.Ci_ "call") V8 (.f "_law_any" (.y (.ix (.dictl (.z (.Ci_ "f") (.Ci_ "n") (.Ci_ "g") (.Ci_ "f"))) V7) V1 V2 V3 V4))))
def ZdB:Sxs:=.c Zex (.y Zct Zcs Zew Zev Zeu)
def ZfT:Fd:=fd_ 5 ["_law_rest","_law_scope","_law_state","_law_names_here","_law_room","_law_way","_law_one","_law_wish","_law_fun"] ZdB
def ZbR:Sx:=.put V2 K2 (.bin .Sub (.ix V2 K2) K1)
def ZcM:Sx:=.s 5 (.f "_law_next" (.o V2))
def ZbQ:Sx:=.iff (.q (.bin .Mod V5 K29) K0) (.o (.s 0 (.ix (.lstl (.u (.Ci_ "n") (.Ci_ "f") (.Ci_ "g"))) (.bin .Mod (.bin .FloorDiv V5 K29) K3)))) .n
def ZcL:Sx:=.s 6 (.bin .FloorDiv V5 (.ci 87))
def ZbP:Sx:=.s 7 (.f "_law_there" (.w V1 V0))
def ZbO:Sx:=.iff (.ands (.c (.nq V7 (.lstl .n)) (.one (.q (.bin .Mod V6 K3) K0)))) (.o (.ret (.tupl (.w (.Ci_ "name") (.ix V7 (.bin .Mod (.bin .FloorDiv V6 K3) (.blt .len (.o V7)))))))) .n
def ZaR:Sx:=.iff (.ors (.c (.x .Lt V4 K1) (.one (.x .Lt (.ix V2 K2) K0)))) (.o (.ret (.f "_law_plain" (.w V0 (.bin .FloorDiv V6 K3))))) .n
def ZcK:Sx:=.s 6 (.bin .FloorDiv V6 K30)
def ZbN:Sx:=.iff (.q (.bin .Mod V6 K8) K0) (.u (.s 8 (.f "_law_any" (.y (.Ci_ "n") V1 V2 V3 (.bin .Sub V4 K1)))) (.s 9 (.f "_law_any" (.y V0 V1 V2 V3 (.bin .Sub V4 K1)))) (.ret (.tupl (.z (.Ci_ "if") V8 V9 (.f "_law_any" (.y V0 V1 V2 V3 (.bin .Sub V4 K1))))))) .n
def Za9:Sx:=.iff (.q V0 (.Ci_ "n")) (.o (.ret (.f "_law_number" (.y (.bin .FloorDiv V6 K8) V1 V2 V3 (.bin .Sub V4 K1))))) .n
def Zcc:Sx:=.ret (.f "_law_function" (.c V0 (.y (.bin .FloorDiv V6 K8) V1 V2 V3 (.bin .Sub V4 K1))))
def Zo4:Sxs:=.c ZbR (.c ZcM (.c ZbQ (.c ZcL (.c ZbP (.c ZbO (.y ZaR ZcK ZbN Za9 Zcc))))))
def ZeS:Fd:=fd_ 5 ["_law_wish","_law_scope","_law_state","_law_names_here","_law_room","_law_number_here","_law_rest","_law_there_here","_law_asked_of","_law_first"] Zo4
def Zer:Sxs:=.o (.ret (.bin .Add K1 (.blt .sum (.o (.comp [O "_law_part"] [M] (.pl V0) (.nm 0) (J (.ex (.blt .isi (.w V0 (.cst (.ty "tuple")))))) (.f "_law_width" (.o V0)))))))
def ZcD:Fd:=fd_ 1 ["_law_told"] Zer
def Zft:Sxs:=.o (.ret (.maxd (.comp [O "_law_part"] [M] (.pl V0) (.nm 0) (J (.ex (.blt .isi (.w V0 (.cst (.ty "tuple")))))) (.bin .Add K1 (.f "_law_deep" (.o V0)))) K0))
def Zdx:Fd:=fd_ 1 ["_law_told"] Zft
def ZaH:Sx:=.s 2 (.comp [O "_law_k",O "_law_cell"] [M,M] (.enu (.sl V0 (J V1) M)) (.two 0 1) M (.f "_law_mixed" (.w V1 (.bin .Add V0 K2))))
def ZdV:Sx:=.s 3 (.lstl (.u V2 K0 K26))
def ZdU:Sx:=.s 4 (.f "_law_names" (.o (.f "_law_next" (.o V3))))
def ZdT:Sx:=.s 5 (.f "_law_any" (.y (.Ci_ "n") (.lstl .n) V3 V4 K7))
def ZbZ:Sx:=.forr (.nm 6) (.rng K2) (.o (.iff (.x .Lt (.f "_law_width" (.o V5)) (.ci 50)) (.w (.put V3 K2 K12) (.s 5 (.tupl (.u (.Ci_ "+") V5 (.f "_law_any" (.y (.Ci_ "n") (.lstl .n) V3 V4 K6)))))) .n))
def ZbY:Sx:=.iff (.ors (.c (.x .Gt (.f "_law_width" (.o V5)) (.ci 100)) (.one (.x .Gt (.f "_law_deep" (.o V5)) K20)))) (.o (.s 5 (.f "_law_plain" (.w (.Ci_ "n") (.f "_law_next" (.o V3)))))) .n
def ZdS:Sx:=.ret V5
def ZiO:Sxs:=.c ZaH (.c ZdV (.y ZdU ZdT ZbZ ZbY ZdS))
def Zfc:Fd:=fd_ 2 ["_law_script","_law_start","_law_cells","_law_state","_law_names_here","_law_told","_law_k"] ZiO
noncomputable def Zef:List (Key×D):=[(.inr (O "fn"),.tup [.int 1,.int 1]),(.inr (O "rec"),.tup [.int 2,.int 1]),(.inr (O "call"),.tup [.int 0,.int 2]),(.inr (O "if"),.tup [.int 0,.int 3]),(.inr (O "+"),.tup [.int 0,.int 2]),(.inr (O "-"),.tup [.int 0,.int 2]),(.inr (O "*"),.tup [.int 0,.int 2]),(.inr (O "<"),.tup [.int 0,.int 2])]
structure Tre(P:Pg):Prop where
 parts:P.tb.lookup (O "parts_of")=J Zdw
 g:P.G (O "FORMS")=J (.kd (O "FORMS"))
 gd:P.GD (O "FORMS")=J Zef
 big:1000000<=P.L
def ZhB(H:Tre P)(hU:U.G=P.G/\U.GD=P.GD)(q:ev U e S h=.ok (.str w) h)(f:Zbp Zef (.inr w)=x):tst U (.ex (.cmp .NotIn e (.glo (O "FORMS")))) S h=.ok (!x.isSome) h:=by
 have g:ev U (.glo (O "FORMS")) S h=.ok (.kd (O "FORMS")) h:=by rw[Zik,hU.1,H.g];rfl
 refine Zb9 ((Zp q g).trans ?_);rw[ZjG,hU.2,H.gd];simp only[f]
def Ztb(H:Tre P)(hU:U.G=P.G/\U.GD=P.GD)(q:ev U e S h=.ok (.str w) h)(f:Zbp Zef (.inr w)=J x):ev U (.ix (.glo (O "FORMS")) e) S h=.ok x h:=by
 have g:ev U (.glo (O "FORMS")) S h=.ok (.kd (O "FORMS")) h:=by rw[Zik,hU.1,H.g];rfl
 rw[ZnI,g,Zq,q,Zq,ZsC,hU.2,H.gd];simp only[f];rfl
def Zk0:ev U (.ix (.var 0) (.ci 0)) (J (.tup (.str w::ds))::S) h=.ok (.str w) h:=by show qe.ofO (atI (D.str w::ds) 0) h=_;rw[Zjv];rfl
def ZqZ(H:Tre P)(hU:U.G=P.G/\U.GD=P.GD)(e:Zbp Zef (.inr w)=J (.tup [.int a,.int b])):ev U (.bin .Add (.ci 1) (.ix (.ix (.glo (O "FORMS")) (.ix (.var 0) (.ci 0))) (.ci 0))) [J (.tup (.str w::ds))] h=.ok (.int (1+a)) h:=by refine(Zj (x:=.int 1) (y:=.int a) rfl ?_).trans rfl;rw[ZnI,Ztb H hU Zk0 e];rfl
def ZnF(q:ev U e S h=.ok (.int l) h):evo U (J e) S h=.ok (J l) h:=by rw[Zq3,q];rfl
def ZiW(p:ev U a S h=.ok x h)(q:evo U lo S h=.ok l h)(r:evo U hi S h=.ok u h):ev U (.sl a lo hi) S h=ZfK x l u h:=by simp only[Zlb,p,Zq,q,r]
def ZkM(H:Tre P)(n:Nat)(h:Hd)(w:Str)(ds:List D)(e:Zbp Zef (.inr w)=M):run P (n+1) (O "parts_of") [.tup (.str w::ds)] h=.ok (.tup []) h:=by rw[Zg H.parts rfl];show Ze (xs2 (P.tbl n) ZaM [J (.tup (.str w::ds))] h)=_;rw[ZaM,Zd ((Zi (ZhB H ⟨rfl,rfl⟩ Zk0 e)).trans (Zd (Zu (d:=.tup []) rfl)))];rfl
def Zda(H:Tre P)(n:Nat)(h:Hd)(w:Str)(ds:List D)(a b:Int)(e:Zbp Zef (.inr w)=J (.tup [.int a,.int b])):run P (n+1) (O "parts_of") [.tup (.str w::ds)] h=.ok (.tup (cutD (.str w::ds) (J (1+a)) M)) h:=by
 rw[Zg H.parts rfl];show Ze (xs2 (P.tbl n) ZaM [J (.tup (.str w::ds))] h)=_;have q:=ZqZ H (U:=P.tbl n) ⟨rfl,rfl⟩ (ds:=ds) (h:=h) e;have r:ev (P.tbl n) (.sl (.var 0) (J (.bin .Add (.ci 1) (.ix (.ix (.glo (O "FORMS")) (.ix (.var 0) (.ci 0))) (.ci 0)))) M) [J (.tup (.str w::ds))] h=.ok (.tup (cutD (.str w::ds) (J (1+a)) M)) h:=by exact(ZiW (a:=.var 0) (x:=.tup (.str w::ds)) rfl (ZnF q) rfl).trans rfl
 rw[ZaM,Za ((Zf (ZhB H ⟨rfl,rfl⟩ Zk0 e)).trans rfl),Zd (Zu r)];rfl
def Zhy(H:Tre P)(n:Nat)(t:T)(h:Hd):run P (n+1) (O "parts_of") [t.d] h=.ok (.tup (t.parts.map T.d)) h:=by
 cases t with
 |num z=>exact ZkM H n h (O "num") _ rfl
 |name x=>exact ZkM H n h (O "name") _ rfl
 |fn x e=>exact Zda H n h (O "fn") _ 1 1 rfl
 |rcc f x e=>exact Zda H n h (O "rec") _ 2 1 rfl
 |call f a=>exact Zda H n h (O "call") _ 0 2 rfl
 |iff c a b=>exact Zda H n h (O "if") _ 0 3 rfl
 |op w a b=>exact Zda H n h w.s _ 0 2 (by cases w<;>rfl)
end Gn
namespace IV
open PySem L2
section
variable {U:Tb}{S:Ev}{h R h2:Hd}
def ZdZ(p:ev U o S h=.ok (.ref i) R)(l:R[i]?=J (.lst ys))(q:evs U es S R=.ok xs h2)(e:ZcB m (.ref i) xs h2=r):ev U (.meth m o es) S h=r:=by rw[ZnG,p,Zq,Zjc l,if_pos rfl,q];exact e
def ZX(q:ev U e S h=.ok d R):xs1 U (.drp e) S h=.ok (.nx,S) R:=by rw[ZmK,q];rfl
def ZB(p:ev U o S h=.ok (.ref i) R)(l:R[i]?=J (.ins C fs))(f:fs.lookup m=M)(q:evs U es S R=.ok xs h2)(e:U.C (mnm C m) (.ref i::xs) h2=r):ev U (.mcl C m o es) S h=r:=by rw[ZvW,p,Zq,show Zah (.ref i) R=J (C,fs) by simp[Zah,l]];simp only[f,and_self,if_true,q];exact e
def Zlc(p:evi U it S h=.ok w R)(q:ZG w.src g (tsto U c) (ev U e) w.xs (Zdj js S) [] R=.ok xs h2):ev U (.comp NC js it g c e) S h=.ok (.ref h2.length) (h2++[.lst xs]):=by rw[Zth,p,Zq,q];rfl
def Zms(p:ev U e S h=.ok (.tup xs) R):evi U (.pl e) S h=.ok ⟨M,xs⟩ R:=by rw[Zmu,p];rfl
def Zij(p:evs U es S h=.ok xs R)(hz:xs.length<=1000):ev U (.lstl es) S h=.ok (.ref R.length) (R++[.lst xs]):=by rw[ZnH,p,Zq,if_pos (OE hz (by decide))];rfl
def ZeZ(p:evs U es S h=.ok xs R)(q:ZcV U.GD f xs R=r):ev U (.blt f es) S h=r:=by rw[Zv0,p];exact q
def Zi8(e:h[i]?=J (.lst ys)):ZcV GD .len [.ref i] h=.ok (.int ys.length) h:=by simp only[ZcV,ZmF,seqOf,lstOf,e];rfl
def Zpx(e:h[i]?=J (.lst ys)):ZcV GD .tup [.ref i] h=.ok (.tup ys) h:=by simp only[ZcV,ZtC,lstOf,e];rfl
def ZgO(p:ev U e S h=.ok (.ref i) R)(l:R[i]?=J (.lst ys)):tst U (.ex e) S h=.ok (!ys.isEmpty) R:=by rw[Zpy,p,Zq,ZrM l];rfl
def Zdn(e:test S h=.ok Wx R)(q:body S R=.ok (.nx,ρ1) h2):Z4 test body (n+1) S h=Z4 test body n ρ1 h2:=by rw[Zcx,e,Zq,if_pos rfl,q];rfl
def Zfz(e:test S h=.ok Wy R):Z4 test body (n+1) S h=.ok (.nx,S) R:=by rw[Zcx,e];rfl
def ZvP(p:ev U a S h=.ok (.int x) R)(q:ev U b S R=.ok (.int y) h2):tst U (.ex (.cmp .Gt a b)) S h=.ok (Wz (y<x)) h2:=Zb9 (Zp p q)
def Zvt(p:ev U a S h=.ok (.int x) R)(q:ev U b S R=.ok (.int y) h2):tst U (.ex (.cmp .Lt a b)) S h=.ok (Wz (x<y)) h2:=Zb9 (Zp p q)
def ZjX(b:ZbL g d S=J ρ1)(q:body ρ1 h=.ok (.nx,ρ2) h2):ZQ M g body (d::ds) S h=ZQ M g body ds ρ2 h2:=by rw[ZgC,b];simp only;rw[q];rfl
def ZhF(e:test S h=.ok Wx R)(q:body S R=.ok (.rt d,ρ1) h2):Z4 test body (n+1) S h=.ok (.rt d,ρ1) h2:=by rw[Zcx,e,Zq,if_pos rfl,q];rfl
variable {c:Str}
def Zc6(q:xs1 U s S h=.exc c R):xs2 U (.cons s r) S h=.exc c R:=by rw[xs2,q];rfl
def Zil(q:ev U e S h=.exc c R):xs1 U (.drp e) S h=.exc c R:=by rw[ZmK,q];rfl
def ZwU(q:ev U e S h=.exc c R):xs1 U (.ret e) S h=.exc c R:=by rw[Zjx,q];rfl
def ZwX(q:ev U e S h=.ok d R):xs1 U (.rai c e) S h=.exc c R:=by rw[xs1,q];rfl
def ZmM(e:test S h=.ok Wx R)(q:body S R=.exc c h2):Z4 test body (n+1) S h=.exc c h2:=by rw[Zcx,e,Zq,if_pos rfl,q];rfl
def ZxV(b:ZbL g d S=J ρ1)(q:body ρ1 h=.exc c h2):ZQ M g body (d::ds) S h=.exc c h2:=by rw[ZgC,b];simp only;rw[q];rfl
def ZxZ(p:ev U a S h=.exc c R):evs U (.cons a es) S h=.exc c R:=by rw[ZfZ,p];rfl
def Zun(p:evs U es S h=.ok xs R)(q:U.C f xs R=.ok d h2):xs1 U (.trs i f es c) S h=.ok (.nx,S.set i (J d)) h2:=by rw[xs1,p];show Zir c i S (U.C f xs R)=_;rw[q];rfl
def Zwz(p:evs U es S h=.ok xs R)(q:U.C f xs R=.exc c h2):xs1 U (.trs i f es c) S h=.ok (.nx,S.set i (J .non)) h2:=by rw[xs1,p];show Zir c i S (U.C f xs R)=_;rw[q];simp[Zir]
end
end IV
section
set_option tactic.hygienic false
set_option exponentiation.threshold 3000
namespace Gn
open PySem L2 IV
def Up(i:Nat)(h h':Hd):Prop:=h.length<=h'.length/\∀m,m<h.length->m≠i->h'[m]?=h[m]?
def Up.refl:Up i h h:=⟨Oq _,λ_ _ _=>rfl⟩
theorem Up.trans(x:Up i a b)(y:Up i b c):Up i a c:=⟨OE x.1 y.1,λm R h2=>(y.2 m (Ot R x.1) h2).trans (x.2 m R h2)⟩
theorem Up.set:Up i h (h.set i o):=⟨by simp,λm _ h2=>by rw[Oc (YL h2)]⟩
def Up.app:Up i h (h++g):=⟨by simp,λm R _=>Oe R⟩
def ZO{h:Hd}(e:h[i]?=J o):i<h.length:=(Ob.mp e).1
def Up.at{i m:Nat}(u:Up i h h')(e:h[m]?=J o)(ne:m≠i):h'[m]?=J o:=(u.2 m (ZO e) ne).trans e
def Alk(P:Pg)(f:Str)(fd:Fd):Prop:=∃ps N,ps.length=fd.ps.length/\N.length=fd.N.length/\P.tb.lookup f=J ⟨ps,N,fd.body⟩
def Alk.same(e:P.tb.lookup f=J fd):Alk P f fd:=⟨fd.ps,fd.N,rfl,rfl,e⟩
def Zhx(e:Alk P f fd)(hl:ds.length=fd.ps.length):run P (n+1) f ds h=Ze (xs2 ⟨P.G,P.GD,run P n,P.L⟩ fd.body (ZF fd.N ds) h):=by obtain⟨ps,N,R,h2,e⟩:=e;rw[Zg e (hl.trans R.symm)];unfold ZF;rw[h2]
structure Mkr(P:Pg):Prop where
 mixed:P.tb.lookup (O "_law_mixed")=J Zek
 next:P.tb.lookup (O "_law_next")=J Zie
 names:P.tb.lookup (O "_law_names")=J Zej
 there:P.tb.lookup (O "_law_there")=J Zei
 plain:P.tb.lookup (O "_law_plain")=J ZgU
 function:Alk P (O "_law_function") Zel
 number:Alk P (O "_law_number") ZfT
 any:Alk P (O "_law_any") ZeS
 width:P.tb.lookup (O "_law_width")=J ZcD
 deep:P.tb.lookup (O "_law_deep")=J Zdx
 program:Alk P (O "_law_program") Zfc
noncomputable def big:Int:=1000000000000000000000000000057
def mixed(c k:Int):Int:=(c%big*271828182845904523536028747135+k*k*314159265358979323846264338327+577215664901532860606512090082)%big
def ZL(h:-(2^128)<i)(h2:i<2^128):i.natAbs<2^2000:=by
 have:i.natAbs<2^128:=by lia
 exact Ot this (Nat.pow_le_pow_right (by decide) (by decide))
def Zod(hk:-(2^60)<k/\k<2^60):0<=k*k/\k*k<2^120:=by
 have a:k.natAbs<2^60:=by lia
 have b:k.natAbs*k.natAbs<2^60*2^60:=Nat.mul_lt_mul'' a a;have c2:((k.natAbs*k.natAbs:Nat):Int)=k*k:=Int.natAbs_mul_self;rw[<-c2];constructor
 . lia
 . have:((k.natAbs*k.natAbs:Nat):Int)<((2^60*2^60:Nat):Int):=Int.ofNat_lt.mpr b;exact this
def ZjC(H:Mkr P)(n:Nat)(c k:Int)(h:Hd)(hk:-(2^60)<k/\k<2^60):run P (n+1) (O "_law_mixed") [.int c,.int k] h=.ok (.int (mixed c k)) h:=by
 rw[Zg H.mixed rfl];have hp:opB .Pow (.int 10) (.int 30) h=.ok (.int 1000000000000000000000000000000) h:=by show(if (0:Int)<=30/\(30:Int)<=1000000/\(10:Int).natAbs<2^64 then qe.ok (D.int (10^(30:Int).toNat)) h else qe.bad)=_;rw[if_pos (by decide)];rfl
 have R:0<=c%1000000000000000000000000000057/\c%1000000000000000000000000000057<1000000000000000000000000000057:=⟨Int.emod_nonneg _ (by decide),Int.emod_lt_of_pos _ (by decide)⟩
 have mK:=Zod hk;have e1:opB .Mod (.int c) (.int 1000000000000000000000000000057) h=.ok (.int (c%1000000000000000000000000000057)) h:=ZM (by decide);have e2:opB .Mult (.int (c%1000000000000000000000000000057)) (.int 271828182845904523536028747135) h=.ok (.int (c%1000000000000000000000000000057*271828182845904523536028747135)) h:=ZeO ⟨ZL (by lia) (by lia),ZL (by decide) (by decide)⟩;have e3:opB .Mult (.int k) (.int k) h=.ok (.int (k*k)) h:=ZeO ⟨ZL (by lia) (by lia),ZL (by lia) (by lia)⟩;have e4:opB .Mult (.int (k*k)) (.int 314159265358979323846264338327) h=.ok (.int (k*k*314159265358979323846264338327)) h:=ZeO ⟨ZL (by lia) (by lia),ZL (by decide) (by decide)⟩;have e5:opB .Mod (.int (c%1000000000000000000000000000057*271828182845904523536028747135+k*k*314159265358979323846264338327+577215664901532860606512090082)) (.int 1000000000000000000000000000057) h=.ok (.int (mixed c k)) h:=ZM (by decide);simp[Zek,Zg1,ZF,hp,e1,e2,e3,e4,e5]
def St3(h:Hd)(i j:Nat)(cs:List Int)(gm b:Int):Prop:=h[i]?=J (.lst [.ref j,.int gm,.int b])/\h[j]?=J (.lst (cs.map .int))/\i≠j
def ZlS{P:Pg}(H:Mkr P)(n:Nat)(st:St3 h i j cs a b)(ha:0<=a/\a<2^50):∃v,run P (n+2) (O "_law_next") [.ref i] h=.ok (.int v) (h.set i (.lst [.ref j,.int (a+1),.int b]))/\(v∈cs\/v=mixed a 7):=by
 obtain⟨R,h2,ne⟩:=st;rw[Zg H.next (by rfl)];have i1:=ZO R;have i2:(h.set i (.lst [.ref j,.int (a+1),.int b]))[i]?=J (.lst [.ref j,.int (a+1),.int b]):=by rw[Ol i1]
 have i3:(h.set i (.lst [.ref j,.int (a+1),.int b]))[j]?=J (.lst (cs.map .int)):=by rw[Oc ne];exact h2
 have iK:Zb3 (.ref i) (.int 1) (.int (a+1)) h=.ok () (h.set i (.lst [.ref j,.int (a+1),.int b])):=by simp only[Zb3,R];rfl
 have x1:xs1 (P.tbl (n+1)) (.set (.nm 1) (.ix (.var 0) (.ci 1))) [J (.ref i),M] h=.ok (.nx,[J (.ref i),J (.int a)]) h:=Zl ((Zm rfl rfl).trans ((Z0 R).trans rfl));have x2:xs1 (P.tbl (n+1)) (.put (.var 0) (.ci 1) (.bin .Add (.var 1) (.ci 1))) [J (.ref i),J (.int a)] h=.ok (.nx,[J (.ref i),J (.int a)]) (h.set i (.lst [.ref j,.int (a+1),.int b])):=by rw[ZmI];show(Zb3 (.ref i) (.int 1) (.int (a+1)) h).bnd _=_;rw[iK];rfl
 generalize h.set i (.lst [.ref j,.int (a+1),.int b])=h' at *;have e0:ev (P.tbl (n+1)) (.ix (.var 0) (.ci 0)) [J (.ref i),J (.int a)] h'=.ok (.ref j) h':=(Zm rfl rfl).trans ((Z0 i2).trans rfl);have tt:tst (P.tbl (n+1)) (.ex (.cmp .Lt (.var 1) (.blt .len (.cons (.ix (.var 0) (.ci 0)) .nil)))) [J (.ref i),J (.int a)] h'=.ok (Wz (a<(cs.map D.int).length)) h':=Zvt rfl (ZeZ (Zc e0 rfl) (Zi8 i3));rw[Yt]at tt;have x3:xs2 (P.tbl (n+1)) Zfr [J (.ref i),M] h=xs2 (P.tbl (n+1)) (tlS (tlS Zfr)) [J (.ref i),J (.int a)] h':=(nx1 x1 rfl).trans (nx1 x2 rfl);by_cases hc:a<cs.length
 . obtain⟨k,rfl⟩:∃k:Nat,a=k:=⟨a.toNat,by lia⟩
   have hk:k<cs.length:=by lia
   have iZ:atI (cs.map D.int) (k:Int)=J (.int cs[k]):=by rw[IV.ZbH,O2,Og hk];rfl
   exact⟨cs[k],(congrArg Ze x3).trans (rt1 ((Zi (Zh tt (decide_eq_true hc))).trans (Zd (Zu ((Zm e0 rfl).trans ((Z0 i3).trans (by rw[iZ];rfl)))))) rfl),.inl (List.getElem_mem hk)⟩
 . exact⟨mixed a 7,(congrArg Ze (x3.trans (nx1 ((Zf (Zh tt (decide_eq_false hc))).trans rfl) rfl))).trans (rt1 (Zu (Zv (ZjC H n a 7 _ (by decide)) rfl)) rfl),.inr rfl⟩
def Wl(n:Nat)(x:Str):Prop:=Yo x=Wx/\x.length<=n
def Cl:List Str->T->Prop
 |_,.num n=>0<=n/\n<1000000
 |sc,.name x=>x∈sc
 |sc,.fn x e=>Cl (x::sc) e/\Wl 20 x
 |sc,.rcc f x e=>Cl (x::f::sc) e/\f≠x/\Wl 20 f/\Wl 20 x
 |sc,.call f a=>Cl sc f/\Cl sc a
 |sc,.iff c t e=>Cl sc c/\Cl sc t/\Cl sc e
 |sc,.op _ a b=>Cl sc a/\Cl sc b
noncomputable def dep:T->Nat
 |.num _|.name _=>0
 |.fn _ e|.rcc _ _ e=>dep e+1
 |.call f a=>max (dep f) (dep a)+1
 |.iff c t e=>max (dep c) (max (dep t) (dep e))+1
 |.op _ a b=>max (dep a) (dep b)+1
def at4(k:Int)(h0:0<=k)(h4:k<4):∃v,atI [D.int a,.int b,.int c,.int d] k=J (.int v)/\(v=a\/v=b\/v=c\/v=d):=by
 have:k=0\/k=1\/k=2\/k=3:=by lia
 rcases this with rfl|rfl|rfl|rfl
 . exact⟨a,by simp,.inl rfl⟩
 . exact⟨b,by simp,.inr (.inl rfl)⟩
 . exact⟨c,by simp,.inr (.inr (.inl rfl))⟩
 . exact⟨d,by simp,.inr (.inr (.inr rfl))⟩
def ZjB(H:Mkr P)(n:Nat)(w:Str)(v:Int)(h:Hd)(sc:List Str):∃t g,run P (n+1) (O "_law_plain") [.str w,.int v] h=.ok (T.d t) (h++g)/\Cl sc t/\dep t<=2/\t.size<=4:=by
 rw[Zg H.plain (by rfl)];by_cases w1:w=O "n"
 . obtain⟨u,e,hu⟩:=at4 (a:=0) (b:=1) (c:=2) (d:=v/7%1000000) (v%4) (by lia) (by lia);refine⟨.num u,[.lst [.int 0,.int 1,.int 2,.int (v/7%1000000)]],?_,by show 0<=u/\u<1000000;lia,by show 0<=2;lia,by show 1<=4;lia⟩;exact rt1 (U:=P.tbl n) (ss:=ZaQ) ((Zi (Zh (Zad rfl rfl) (decide_eq_true w1))).trans (Zd (Zu (Zan (Zc rfl (Zc (Zit e (Zc rfl (Zc rfl (Zc rfl (Zc ((Zj (x:=.int (v/7)) ((Zj rfl rfl).trans (Zdq (by decide))) rfl).trans (ZM (by decide))) rfl)))) ((Zj rfl rfl).trans (ZM (by decide))) (Nat.le_of_ble_eq_true rfl)) rfl)) (Nat.le_of_ble_eq_true rfl))))) rfl
 . have x1:xs2 (P.tbl n) ZaQ [J (.str w),J (.int v)] h=xs2 (P.tbl n) (tlS ZaQ) [J (.str w),J (.int v)] h:=nx1 ((Zf (Zh (Zad rfl rfl) (decide_eq_false w1))).trans rfl) rfl;by_cases w2:w=O "f"
   . refine⟨.fn (O "w") (.op .sub (.name (O "w")) (.num (v%3))),[],?_,?_,by simp only[dep];lia,by show 4<=4;lia⟩
     . rw[Ys];exact(congrArg Ze x1).trans (rt1 (U:=P.tbl n) (ss:=tlS ZaQ) ((Zi (Zh (Zad rfl rfl) (decide_eq_true w2))).trans (Zd (Zu (Zan (Zc rfl (Zc rfl (Zc (Zan (Zc rfl (Zc rfl (Zc (Zan (Zc rfl (Zc ((Zj rfl rfl).trans (ZM (by decide))) rfl)) (Nat.le_of_ble_eq_true rfl)) rfl))) (Nat.le_of_ble_eq_true rfl)) rfl))) (Nat.le_of_ble_eq_true rfl))))) rfl)
     . exact⟨⟨Oi,by show 0<=v%3/\v%3<1000000;lia⟩,by unfold Wl;decide +kernel⟩
   . refine⟨.fn (O "w") (.call (.name (O "w")) (.num (v%5))),[],?_,?_,by simp only[dep];lia,by show 4<=4;lia⟩
     . rw[Ys];exact(congrArg Ze (x1.trans (nx1 ((Zf (Zh (Zad rfl rfl) (decide_eq_false w2))).trans rfl) rfl))).trans (rt1 (U:=P.tbl n) (ss:=tlS (tlS ZaQ)) (Zu (Zan (Zc rfl (Zc rfl (Zc (Zan (Zc rfl (Zc rfl (Zc (Zan (Zc rfl (Zc ((Zj rfl rfl).trans (ZM (by decide))) rfl)) (Nat.le_of_ble_eq_true rfl)) rfl))) (Nat.le_of_ble_eq_true rfl)) rfl))) (Nat.le_of_ble_eq_true rfl))) rfl)
     . exact⟨⟨Oi,by show 0<=v%5/\v%5<1000000;lia⟩,by unfold Wl;decide +kernel⟩
noncomputable def ZE:Str:=O "abcdefghijklmnopqrstuvwxyz"
def ZkT:ZE.length=26:=by decide +kernel
def Zme:Yo ZE=Wx:=by decide +kernel
noncomputable def ltr(k:Int):Nat:=ZE.cps.toList.getD k.toNat 0
def lt1(k:Int):Str:=⟨#[ltr k]⟩
def Zmf(k:Int)(h0:0<=k)(R:k<26):Zbq GD (.str ZE) (.int k) h=.ok (.str (lt1 k)) h/\Wl 1 (lt1 k):=by
 obtain⟨m,rfl⟩:∃m:Nat,k=m:=⟨k.toNat,by lia⟩
 have hl:ZE.cps.toList.length=26:=by decide +kernel
 have hm:m<ZE.cps.toList.length:=by lia
 have el:ltr m=ZE.cps.toList[m]:=by show ZE.cps.toList.getD (m:Int).toNat 0=_;rw[Int.toNat_natCast,List.getD_eq_getElem?_getD,Og hm];rfl
 have e:atI ZE.cps.toList (m:Int)=J ZE.cps.toList[m]:=by rw[IV.ZbH,Og hm]
 unfold lt1;rw[el];refine⟨?_,Zqv Zme (List.getElem_mem hm),by show(#[ZE.cps.toList[m]]:Array Nat).size<=1;simp⟩;have q:Zbq GD (.str ZE) (.int (m:Int)) h=if ZE.length<=sizeLine then qe.ofO ((atI ZE.cps.toList (m:Int)).map λc=>.str ⟨#[c]⟩) h else .bad:=rfl;rw[q,if_pos (by rw[ZkT,YC];decide),e];rfl
def len_cat{x y:Str}:(x++y).length=x.length+y.length:=by show(x.cps++y.cps).size=_;rw[Array.size_append];rfl
def Zf2{x y:Str}(hx:Wl a x)(hy:Wl b y)(hz:a+b<=1000):opB .Add (.str x) (.str y) h=.ok (.str (x++y)) h/\Wl (a+b) (x++y):=by have hl:(x++y).length=x.length+y.length:=len_cat;refine⟨if_pos (by rw[YC];have:=hx.2;have:=hy.2;lia),Zi5 hx.1 hy.1,by rw[hl];have:=hx.2;have:=hy.2;lia⟩
theorem ZqN{U:Tb}:∀(ks:List Int) (r:Int) (x:Str) (m:Nat) (k:Option D),Wl m x->x.length=m->m+ks.length<=100->∃r' x' k',Wl (m+ks.length) x'/\x'.length=m+ks.length /\
 ZQ M (.nm 6) (xs2 U (.cons (.set (.nm 5) (.bin .Add (.var 5) (.ix (.var 1) (.bin .Mod (.var 4) (.ci 26))))) (.cons (.set (.nm 4) (.bin .FloorDiv (.var 4) (.ci 26))) .nil))) (ks.map D.int) [a,J (.str ZE),l,p,J (.int r),J (.str x),k,f,sg,wd] h
  = .ok (.nx,[a,J (.str ZE),l,p,J (.int r'),J (.str x'),k',f,sg,wd]) h
 |[],r,x,m,k,hx,hn,hm=>⟨r,x,k,hx,hn,rfl⟩
 |c::cs,r,x,m,k,hx,hn,hm=>by
  obtain⟨e1,hy⟩:=Zmf (GD:=U.GD) (h:=h) (r%26) (by lia) (by lia);obtain⟨e2,gD⟩:=Zf2 (h:=h) hx hy (by simp at hm;lia);obtain⟨r',x',k',R,h2,e3⟩:=ZqN (U:=U) (h:=h) (a:=a) (l:=l) (p:=p) (f:=f) (sg:=sg) (wd:=wd) cs (r/26) (x++lt1 (r%26)) (m+1) (J (.int c)) gD (by rw[len_cat,hn];rfl) (by simp at hm ⊢;lia);have gM:m+(c::cs).length=m+1+cs.length:=by rw[Os];lia
  refine⟨r',x',k',by rw[gM];exact R,by rw[gM];exact h2,?_⟩;have e4:opB .Mod (.int r) (.int 26) h=.ok (.int (r%26)) h:=ZM (by decide);have e5:opB .FloorDiv (.int r) (.int 26) h=.ok (.int (r/26)) h:=Zdq (by decide);rw[Op,ZgC];simp[e4,e1,e2,e5,e3]
def Zuy(x:Str)(l u:Option Int):(Yp x l u).length<=x.length:=by
 unfold Yp;split
 . exact Oq _
 . show((Builtin.Str.strSliceIndices l u 1 x.length).filterMap (x.cps[·]?)).toArray.size<=_;rw[Of];refine OE (List.length_filterMap_le _ _) ?_;unfold Builtin.Str.strSliceIndices;refine PySem.sliceRange_length_le _ _ _ _ (λ_=>?_) (λz=>absurd (by decide) z);cases l<;>cases u<;>simp<;>lia
def ZeN(hx:Wl m x)(hm:m<=1000)(l u:Option Int):ZfK (.str x) l u h=.ok (.str (Yp x l u)) h/\Wl m (Yp x l u):=by
 refine⟨if_pos (by rw[YC];have:=hx.2;lia),Zqt hx.1 (ZhM _ _ _),?_⟩;have:=hx.2;have q:(Yp x l u).length<=x.length:=Zuy x l u
 lia
def in4:opC GD .In (.str x) (.tup [.str (O "fn"),.str (O "rec"),.str (O "call"),.str (O "if")]) h=.ok (.bl (Wz (x∈[O "fn",O "rec",O "call",O "if"]))) h:=ZaZ (ss:=[O "fn",O "rec",O "call",O "if"])
def len_str(hx:Wl m x)(hm:m<=1000):ZcV GD .len [.str x] h=.ok (.int x.length) h:=by show(if x.length<=sizeLine then _ else _)=_;exact if_pos (by rw[YC];have:=hx.2;lia)
def ZtT(hx:Wl m x)(hm:m<=1000):opB .Mult (.str (O "q")) (.int x.length) h=.ok (.str (Zgs (O "q") x.length)) h/\Wl m (Zgs (O "q") x.length):=by
 have hq:(O "q").length=1:=by decide +kernel
 have:=hx.2;refine⟨if_pos ⟨by lia,by lia,by rw[hq];decide⟩,Zqu (by decide +kernel) _,?_⟩;rw[ZfH,hq]
 lia
def nmW(b:Str)(l p r c:Int):Str:=if r/26%4=1 then Yp b M (J (8-c))else Yp b M (J p)++lt1 ((r+5*c)%26)++Yp b (J (p+1)) (J l)
def nmQ(w:Str):Str:=if w∈[O "fn",O "rec",O "call",O "if"]then Zgs (O "q") w.length else w
def nm(b:Str)(l p r c:Int):Str:=nmQ (nmW b l p r c)
def Zqy(hb:Wl 8 b)(l p r c:Int):Wl 20 (nmW b l p r c):=by
 unfold nmW;split
 . have q:=(ZeN (h:=[]) hb (by decide) M (J (8-c))).2;exact⟨q.1,by have:=q.2;lia⟩
 . have q1:=(ZeN (h:=[]) hb (by decide) M (J p)).2;have q2:=(Zmf (GD:=λ_=>M) (h:=[]) ((r+5*c)%26) (by lia) (by lia)).2;have q3:=(ZeN (h:=[]) hb (by decide) (J (p+1)) (J l)).2;have q:=(Zf2 (h:=[]) (Zf2 (h:=[]) q1 q2 (by decide)).2 q3 (by decide)).2;exact⟨q.1,by have:=q.2;lia⟩
def Zxw(hb:Wl 8 b)(l p r c:Int):Wl 20 (nm b l p r c):=by
 unfold nm nmQ;split
 . exact(ZtT (h:=[]) (Zqy hb l p r c) (by decide)).2
 . exact Zqy hb l p r c
def ZvA:Sx:=.s 8 (.ix V1 (.bin .Mod (.bin .Add V4 (.bin .Mult K5 V6)) K26))
def Zvz:Sx:=.s 9 (.bin .Add (.bin .Add (.sl V5 M (J V3)) V8) (.sl V5 (J (.bin .Add V3 K1)) (J V2)))
def Zvv:Tx:=.q (.bin .Mod (.bin .FloorDiv V4 K26) K4) K1
def ZxF:Sx:=.s 9 (.sl V5 M (J (.bin .Sub K8 V6)))
def Zvu:Exs:=.z (.Ci_ "fn") (.Ci_ "rec") (.Ci_ "call") (.Ci_ "if")
def ZxG:Sx:=.s 9 (.bin .Mult (.Ci_ "q") (.blt .len (.o V9)))
def Zvx:Sx:=.drp (.meth .app V7 (.o V9))
def Zvw:Sxs:=.w (.iff (.x .In V9 (.tupl Zvu)) (.o ZxG) .n) Zvx
def Zvy:Sxs:=.c ZvA (.c Zvz (.c (.iff Zvv (.o ZxF) .n) Zvw))
def vn(a:Option D)(l p r:Int)(b:Str)(q:Nat)(k sg wd:Option D):Ev:=[a,J (.str ZE),J (.int l),J (.int p),J (.int r),J (.str b),k,J (.ref q),sg,wd]
def ZqH(hw:Wl 20 wd)(hz:ds.length<16777216):xs2 U Zvw (vn a l p r b h.length k sg (J (.str wd))) (h++[.lst ds])=.ok (.nx,vn a l p r b h.length k sg (J (.str (nmQ wd)))) (h++[.lst (ds++[.str (nmQ wd)])]):=by
 have ap:∀w:Str,xs1 U Zvx (vn a l p r b h.length k sg (J (.str w))) (h++[.lst ds])=.ok (.nx,vn a l p r b h.length k sg (J (.str w))) (h++[.lst (ds++[.str w])]):=λw=>by have e:=ZX (ZdZ (U:=U) (S:=vn a l p r b h.length k sg (J (.str w))) (o:=.var 7) (es:=.cons (.var 9) .nil) rfl ZaU rfl (Za0 (d:=.str w) (ZaU (h:=h) (x:=.lst ds) (r:=[])) (by rw[YC];exact hz)));rw[show(h++[DO.lst ds]).set h.length (.lst (ds++[.str w]))=h++[.lst (ds++[.str w])] by simp]at e;exact e
 have i4:tst U (.ex (.cmp .In (.var 9) (.tupl Zvu))) (vn a l p r b h.length k sg (J (.str wd))) (h++[.lst ds])=.ok (Wz (wd∈[O "fn",O "rec",O "call",O "if"])) (h++[.lst ds]):=Zb9 ((Zp (x:=.str wd) rfl (Zan (xs:=[.str (O "fn"),.str (O "rec"),.str (O "call"),.str (O "if")]) rfl (by decide))).trans in4);unfold nmQ;by_cases cT:wd∈[O "fn",O "rec",O "call",O "if"]
 . rw[if_pos cT];exact(Za ((Zi (Zh i4 (decide_eq_true cT))).trans ((Za (Zl ((Zj rfl (ZeZ rfl (len_str hw (by decide)))).trans (ZtT hw (by decide)).1))).trans rfl))).trans ((Za (ap _)).trans rfl)
 . rw[if_neg cT];exact(Za ((Zf (Zh i4 (decide_eq_false cT))).trans rfl)).trans ((Za (ap _)).trans rfl)
def ZxH(hb:Wl 8 b)(hc:0<=c/\c<100)(hz:ds.length<16777216):xs2 U Zvy (vn a l p r b h.length (J (.int c)) sg wd) (h++[.lst ds])=.ok (.nx,vn a l p r b h.length (J (.int c)) (J (.str (lt1 ((r+5*c)%26)))) (J (.str (nm b l p r c)))) (h++[.lst (ds++[.str (nm b l p r c)])]):=by
 obtain⟨e1,hy⟩:=Zmf (GD:=U.GD) (h:=h++[.lst ds]) ((r+5*c)%26) (by lia) (by lia);obtain⟨f1,w1⟩:=ZeN (h:=h++[.lst ds]) hb (by decide) M (J p);obtain⟨f2,w2⟩:=ZeN (h:=h++[.lst ds]) hb (by decide) (J (p+1)) (J l);obtain⟨f3,w3⟩:=ZeN (h:=h++[.lst ds]) hb (by decide) M (J (8-c));obtain⟨c1,v1⟩:=Zf2 (h:=h++[.lst ds]) w1 hy (by decide);obtain⟨c2,v2⟩:=Zf2 (h:=h++[.lst ds]) v1 w2 (by decide);have m5:opB .Mult (.int 5) (.int c) (h++[.lst ds])=.ok (.int (5*c)) (h++[.lst ds]):=ZeO ⟨ZL (by decide) (by decide),ZL (by lia) (by lia)⟩;unfold nm nmW;generalize lt1 ((r+5*c)%26)=y at *;have x8:xs1 U ZvA (vn a l p r b h.length (J (.int c)) sg wd) (h++[.lst ds])=.ok (.nx,vn a l p r b h.length (J (.int c)) (J (.str y)) wd) (h++[.lst ds]):=Zl ((Zm (x:=.str ZE) rfl ((Zj (x:=.int (r+5*c)) ((Zj rfl ((Zj rfl rfl).trans m5)).trans rfl) rfl).trans (ZM (by decide)))).trans e1);have g1:ev U (.sl (.var 5) M (J (.var 3))) (vn a l p r b h.length (J (.int c)) (J (.str y)) wd) (h++[.lst ds])=.ok (.str (Yp b M (J p))) (h++[.lst ds]):=f1;have g2:ev U (.sl (.var 5) (J (.bin .Add (.var 3) (.ci 1))) (J (.var 2))) (vn a l p r b h.length (J (.int c)) (J (.str y)) wd) (h++[.lst ds])=.ok (.str (Yp b (J (p+1)) (J l))) (h++[.lst ds]):=f2;have g3:∀w,ev U (.sl (.var 5) M (J (.bin .Sub (.ci 8) (.var 6)))) (vn a l p r b h.length (J (.int c)) (J (.str y)) w) (h++[.lst ds])=.ok (.str (Yp b M (J (8-c)))) (h++[.lst ds]):=λ_=>f3;have x9:xs1 U Zvz (vn a l p r b h.length (J (.int c)) (J (.str y)) wd) (h++[.lst ds])=.ok (.nx,vn a l p r b h.length (J (.int c)) (J (.str y)) (J (.str (Yp b M (J p)++y++Yp b (J (p+1)) (J l))))) (h++[.lst ds]):=Zl ((Zj ((Zj g1 rfl).trans c1) g2).trans c2);have tt:tst U Zvv (vn a l p r b h.length (J (.int c)) (J (.str y)) (J (.str (Yp b M (J p)++y++Yp b (J (p+1)) (J l))))) (h++[.lst ds])=.ok (Wz (r/26%4=1)) (h++[.lst ds]):=Zfn ((Zj (x:=.int (r/26)) ((Zj rfl rfl).trans (Zdq (by decide))) rfl).trans (ZM (by decide))) rfl;refine(Za x8).trans ((Za x9).trans ?_);by_cases hr:r/26%4=1
 . rw[if_pos hr];exact(Za ((Zi (Zh tt (decide_eq_true hr))).trans ((Za (Zl (g3 _))).trans rfl))).trans (ZqH ⟨w3.1,by have:=w3.2;lia⟩ hz)
 . rw[if_neg hr];exact(Za ((Zf (Zh tt (decide_eq_false hr))).trans rfl)).trans (ZqH ⟨v2.1,by have:=v2.2;lia⟩ hz)
theorem Znv(hb:Wl 8 b):∀(ks:List Int) (fo:List Str) (k sg wd:Option D),fo.length+ks.length<=100->(∀c∈ks,0<=c/\c<100)->∃k' gy gu,
 ZQ M (.nm 6) (xs2 U Zvy) (ks.map D.int) (vn a l p r b h.length k sg wd) (h++[.lst (fo.map .str)])
  = .ok (.nx,vn a l p r b h.length k' gy gu) (h++[.lst ((fo++ks.map (nm b l p r)).map .str)])
 |[],fo,k,sg,wd,h2,h3=>⟨k,sg,wd,by rw[Oy,Oy,Ys];rfl⟩
 |c::cs,fo,k,sg,wd,h2,h3=>by rw[Os]at h2;obtain⟨k',gy,gu,e3⟩:=Znv (U:=U) (h:=h) (a:=a) (l:=l) (p:=p) (r:=r) hb cs (fo++[nm b l p r c]) (J (.int c)) (J (.str (lt1 ((r+5*c)%26)))) (J (.str (nm b l p r c))) (by rw[OA,List.length_singleton];lia) (λz hz=>h3 z (.tail _ hz));refine⟨k',gy,gu,(ZjX rfl (ZxH hb (h3 c (.head _)) (by rw[Yt];lia))).trans ?_⟩;rw[List.map_append,Oz]at e3;exact e3
def ZvD:∀k∈[[102,110],[114,101,99],[99,97,108,108],[105,102]],∀l∈[[102,110],[114,101,99],[99,97,108,108],[105,102],YK k.length 113],k=l\/k.length≠l.length\/∀i,i<4->∃j,j<4/\j≠i/\k[j]?≠l[j]? := by decide +kernel
def Znx(ne:x≠y)(a:List Nat)(h:a++x::b∈[[102,110],[114,101,99],[99,97,108,108],[105,102]]):a++y::b ∉ [[102,110],[114,101,99],[99,97,108,108],[105,102]]/\a++y::b≠YK (a++x::b).length 113:=by
 have l4:(a++x::b).length<=4:=by
  have:∀k∈[[102,110],[114,101,99],[99,97,108,108],[105,102]],k.length<=4:=by decide
  exact this _ h
 have sl:(a++x::b).length=(a++y::b).length:=by simp
 have no:∀l∈[[102,110],[114,101,99],[99,97,108,108],[105,102],YK (a++x::b).length 113],a++y::b≠l:=λl hl e=>by
  rcases ZvD _ h l hl with q|q|q
  . rw[<-e]at q;exact ne (List.cons.inj (List.append_cancel_left q)).1
  . exact q (by rw[<-e];exact sl)
  . obtain⟨j,_,nj,d⟩:=q a.length (by simp at l4;lia);rw[<-e]at d;rcases Nat.lt_or_ge j a.length with z|z
    . exact d (by rw[Oe z,Oe z])
    . rw[Om z,Om z]at d;obtain⟨m,hm⟩:∃m,j-a.length=m+1:=⟨j-a.length-1,by lia⟩
      rw[hm]at d;exact d rfl
 refine⟨λm=>no _ (Yr [YK (a++x::b).length 113] m) rfl,no _ (Ov [[102,110],[114,101,99],[99,97,108,108],[105,102]] (Ox.mpr rfl))⟩
def ZqO:w∈[O "fn",O "rec",O "call",O "if"]↔w.cps.toList∈[[102,110],[114,101,99],[99,97,108,108],[105,102]]:=by
 have e:[[102,110],[114,101,99],[99,97,108,108],[105,102]]=[O "fn",O "rec",O "call",O "if"].map (·.cps.toList):=by decide +kernel
 rw[e];refine⟨λh=>List.mem_map_of_mem h,λh=>?_⟩;obtain⟨v,hv,q⟩:=List.mem_map.mp h;have:v=w:=by obtain⟨⟨v⟩⟩:=v;obtain⟨⟨w⟩⟩:=w;cases q;rfl
 exact this▸hv
def Zkx:∀n,(Zgs (O "q") n).cps.toList=YK n 113
 |n=>by
  have:∀(n:Nat) (a:Array Nat),((YK n (O "q").cps).foldl (·++·) a).toList=a.toList++YK n 113:=by
   intro n;induction n with
   |zero=>intro a;simp
   |succ n ih=>intro a;rw[List.replicate_succ,Wr,ih,Array.toList_append,Oz,List.replicate_succ];rfl
  have q:=this n #[];simpa[Zgs]using q
def nq(hv:v.cps.toList=a++x::b)(hw:w.cps.toList=a++y::b)(ne:x≠y):nmQ v≠nmQ w:=by
 have hl:v.length=(a++x::b).length/\w.length=(a++y::b).length:=by rw[<-hv,<-hw];exact⟨by simp[Str.length],by simp[Str.length]⟩
 unfold nmQ;intro e;have e':=congrArg (·.cps.toList) e;simp only[ZqO]at e';split at e'
 . rename_i kv;rw[hv]at kv;obtain⟨k1,k2⟩:=Znx ne a kv;rw[if_neg (by rw[hw];exact k1),Zkx,hw,hl.1]at e';exact k2 e'.symm
 . split at e'
   . rename_i kw;rw[hw]at kw;obtain⟨k1,k2⟩:=Znx (YL ne) a kw;rw[Zkx,hv,hl.2]at e';exact k2 e'
   . rw[hv,hw]at e';have:=List.append_cancel_left e';exact ne (List.cons.inj this).1
def Zno(w:Str):(nmQ w).length=w.length:=by
 unfold nmQ;split
 . rw[ZfH,show(O "q").length=1 by decide +kernel,Nat.mul_one]
 . rfl
def ZsS:∀i j:Fin 26,ltr (i.val:Int)=ltr (j.val:Int)->i=j:=by decide +kernel
theorem Zxx(hb:b.length=8)(hc:0<=c/\c<5)(hd:0<=d/\d<5)(ne:c≠d):nm b l p r c≠nm b l p r d:=by
 unfold nm nmW;split
 . intro e;have e':=congrArg Str.length e;have len:∀ z:Int,0<=z/\z<5->(Yp b M (J (8-z))).length=(8-z).toNat:=λz hz=>by
     have h8:b.cps.toList.length=8:=by simpa [Str.length] using hb
     rw [StrLaws.sliceText_to ⟨by lia,by lia⟩];show (List.take (8-z-0).toNat (List.drop 0 b.cps.toList)).toArray.size=_;rw [Of,List.length_take,List.drop_zero,h8]
     lia
   rw [Zno,Zno,len c hc,len d hd] at e'
   lia
 . refine nq (a:=(Yp b M (J p)).cps.toList) (b:=(Yp b (J (p+1)) (J l)).cps.toList) (x:=ltr ((r+5*c)%26)) (y:=ltr ((r+5*d)%26)) ?_ ?_ ?_
   . show (_++#[ltr ((r+5*c)%26)]++_:Array Nat).toList=_;simp
   . show (_++#[ltr ((r+5*d)%26)]++_:Array Nat).toList=_;simp
   . intro e;have q:=ZsS ⟨((r+5*c)%26).toNat,by lia⟩ ⟨((r+5*d)%26).toNat,by lia⟩ (by
       show ltr (((r+5*c)%26).toNat:Int)=ltr (((r+5*d)%26).toNat:Int);rw [Int.toNat_of_nonneg (by lia),Int.toNat_of_nonneg (by lia)];exact e)
     have q:=Fin.mk.inj q
     lia
def Zqx(hb:b.length=8):(([0,1,2,3,4]:List Int).map (nm b l p r)).Nodup:=by
 refine List.pairwise_map.mpr (List.Pairwise.imp_of_mem (R:=λx y=>x≠y) (λ{x y} hx hy ne=>Zxx hb ?_ ?_ ne) (by decide))
 . simp at hx;lia
 . simp at hy;lia
def Zr2(H:Mkr P)(n:Nat)(v:Int)(h:Hd):∃ns:List Str,ns.length=5/\(∀x∈ns,Wl 20 x)/\ns.Nodup/\run P (n+1) (O "_law_names") [.int v] h=.ok (.ref h.length) (h++[.lst (ns.map .str)]):=by
 rw[Zg H.names rfl];have u8:Zci 0 8=[0,1,2,3,4,5,6,7].map D.int:=by rfl
 have u5:Zci 0 5=[0,1,2,3,4].map D.int:=by rfl
 have m8:opB .Mod (.int v) (.int 8) h=.ok (.int (v%8)) h:=ZM (by decide);have d8:opB .FloorDiv (.int v) (.int 8) h=.ok (.int (v/8)) h:=Zdq (by decide);have mp:opB .Mod (.int (v/8)) (.int (1+v%8)) h=.ok (.int (v/8%(1+v%8))) h:=ZM (by lia);have l7:opB .FloorDiv (.int v) (.int 64) h=.ok (.int (v/64)) h:=Zdq (by decide);obtain⟨r',b,k',hb,lI,e1⟩:=ZqN (U:=⟨P.G,P.GD,run P n,P.L⟩) (h:=h) (a:=J (.int v)) (l:=J (.int (1+v%8))) (p:=J (.int (v/8%(1+v%8)))) (f:=M) (sg:=M) (wd:=M) [0,1,2,3,4,5,6,7] (v/64) (O "") 0 M ⟨by decide +kernel,by decide +kernel⟩ (by decide +kernel) (by decide);obtain⟨k2,gy,gu,e2⟩:=Znv (U:=⟨P.G,P.GD,run P n,P.L⟩) (h:=h) (a:=J (.int v)) (l:=1+v%8) (p:=v/8%(1+v%8)) (r:=r') hb [0,1,2,3,4] [] k' M M (by decide) (by decide);refine⟨[0,1,2,3,4].map (nm b (1+v%8) (v/8%(1+v%8)) r'),rfl,λx hx=>?_,Zqx lI,?_⟩
 . obtain⟨c,_,rfl⟩:=List.mem_map.mp hx;exact Zxw hb _ _ _ _
 generalize nm b (1+v%8) (v/8%(1+v%8)) r'=F at e2 ⊢;simp only[Oy,OB]at e2;have s8:Zdo 8=Wx:=by decide
 have s5:Zdo 5=Wx:=by decide
 unfold ZE at e1;unfold vn Zvy Zvw ZvA Zvz Zvv ZxF Zvu ZxG Zvx ZE at e2;rw[<-u8]at e1;rw[<-u5]at e2
 try simp at e1
 try simp at e2
 simp[Zej,Zg0,ZF,m8,d8,mp,l7,s8,s5,e1,e2,YC]
end Gn
end
namespace Gn
open PySem L2 IV
set_option tactic.hygienic false
noncomputable abbrev Scp:=List (Str×Str)
noncomputable def pairOf(p:Str×Str):D:=.tup [.str p.1,.str p.2]
def Zpb(h:Hd)(k:Nat)(sc:Scp):Prop:=h[k]?=J (.lst (sc.map pairOf))
structure KnOk(sc:Scp)(kn:List (Key×D)):Prop where
 key:∀p∈kn,∃x,p.1=YE x/\x∈sc.map (·.1)
 val:∀p∈kn,∃s,p.2=D.str s
def ZkH(h:p∈putD kn k v):p∈kn\/p=(k,v):=by
 unfold putD at h;split at h
 . obtain⟨q,hq,e⟩:=List.mem_map.mp h;split at e
   . rename_i ek;right;rw[<-e,ek]
   . left;rw[<-e];exact hq
 . rcases OD.mp h with z|z
   . exact .inl z
   . exact .inr (Ox.mp z)
def Zp5:(putD kn k v).length<=kn.length+1:=by unfold putD;split<;>simp
def Zr8(hz:kn.length<1000):Zb3 (.ref h.length) (.str x) v (h++[.dic kn])=.ok () (h++[.dic (putD kn (.inr x) v)]):=by simp only[Zb3,ZaU,keyOf];rw[if_pos (by rw[YC];lia)];simp
theorem Znt(hs:Zpb h k sc0):∀(sc:Scp) (kn:List (Key×D)) (a b:Option D),(∀p∈sc,p∈sc0)->KnOk sc0 kn->kn.length+sc.length<=500->∃fG a' b',KnOk sc0 fG/\fG.length<=kn.length+sc.length /\
 ZQ (J (k,sc0.map pairOf)) (.two 3 4) (xs2 U (.cons (.put (.var 2) (.var 3) (.var 4)) .nil)) (sc.map pairOf) [J (.ref k),w,J (.ref h.length),a,b] (h++[.dic kn])
  = .ok (.nx,[J (.ref k),w,J (.ref h.length),a',b']) (h++[.dic fG])
 |[],kn,a,b,R,h2,h3=>by
  refine⟨kn,a,b,h2,by simp,?_⟩;have:(h++[DO.dic kn])[k]?=J (.lst (sc0.map pairOf)):=by rw[Oe (ZO hs)];exact hs
  simp[ZQ,Wk.stays,this]
 |(x,s)::sc,kn,a,b,R,h2,h3=>by
  simp only[Os]at h3;have st:(h++[DO.dic kn])[k]?=J (.lst (sc0.map pairOf)):=by rw[Oe (ZO hs)];exact hs
  have hk:KnOk sc0 (putD kn (.inr x) (.str s)):=by
   refine⟨λp hp=>?_,λp hp=>?_⟩
   . rcases ZkH hp with z|rfl
     . exact h2.key p z
     . exact⟨x,rfl,List.mem_map.mpr ⟨(x,s),R _ (by simp),rfl⟩⟩
   . rcases ZkH hp with z|rfl
     . exact h2.val p z
     . exact⟨s,rfl⟩
  have pl:=Zp5 (kn:=kn) (k:=.inr x) (v:=.str s);obtain⟨fG,a',b',q1,q2,e⟩:=Znt (U:=U) (w:=w) hs sc (putD kn (.inr x) (.str s)) (J (.str x)) (J (.str s)) (λp hp=>R p (by simp[hp])) hk (by lia);refine⟨fG,a',b',q1,by simp only[Os];lia,?_⟩;rw[Op,ZQ];simp only[Wk.stays,st,decide_true,if_true];have e2:=Zr8 (h:=h) (kn:=kn) (x:=x) (v:=.str s) (by lia);simp[pairOf,e2];simpa[pairOf]using e
def find_key(hx:YE x∈kn.map (·.1)):∃v,Zbp kn (.inr x)=J v/\(YE x,v)∈kn:=by
 induction kn with
 |nil=>simp at hx
 |cons p r ih=>
  unfold Zbp;by_cases e:p.1=YE x
  . refine⟨p.2,?_,?_⟩
    . simp[Ws,e]
    . rw[<-e];exact Oi
  . obtain⟨v,R,h2⟩:=ih (by simpa[YL e]using hx);refine⟨v,?_,Oh _ h2⟩;simpa[Ws,e,Zbp]using R
theorem Zny{sc:Scp}:∀{kn:List (Key×D)},(∀p∈kn,∃x,p.1=YE x/\x∈sc.map (·.1))->∃ss,ZeQ kn=J ss/\ss.length=kn.length/\(∀x∈ss,x∈sc.map (·.1)/\YE x∈kn.map (·.1))
 |[],_=>⟨[],rfl,rfl,by simp⟩
 |(k,v)::r,h=>by
  obtain⟨x,e,hx⟩:=h (k,v) (by simp);cases e;obtain⟨ss,e1,e2,e3⟩:=Zny (kn:=r) λp hp=>h p (by simp[hp]);refine⟨x::ss,by rw[ZeQ,e1];rfl,by simp[e2],λy hy=>?_⟩;rcases O3.mp hy with rfl|hy
  . exact⟨hx,by simp⟩
  . exact⟨(e3 y hy).1,by simp[(e3 y hy).2]⟩
theorem Zmh{U:Tb}{so:List Str}(hv:∀p∈kn,∃s,p.2=D.str s):∀(xs:List Str) (ag:List Str),(∀x∈xs,YE x∈kn.map (·.1))->ag.length+xs.length<=1000->∃ys,(∀y∈ys,y∈xs) /\
 ZG (J (h.length+1,so.map D.str)) (.nm 0) (tsto U (J (.ex (.cmp .Eq (.ix (.var 2) (.var 0)) (.var 1))))) (ev U (.var 0)) (xs.map D.str) [M,J (.str w),J (.ref h.length)] (ag.map .str) (h++[.dic kn,.lst (so.map .str)])
  = .ok ((ag++ys).map .str) (h++[.dic kn,.lst (so.map .str)])
 |[],ag,R,h2=>⟨[],by simp,by simp[ZG,Wk.stays]⟩
 |x::xs,ag,R,h2=>by
  simp only[Os]at h2;obtain⟨v,e1,hm⟩:=find_key (R x (by simp));obtain⟨s,rfl⟩:∃s,v=D.str s:=hv _ hm;have ix:Zbq U.GD (.ref h.length) (.str x) (h++[.dic kn,.lst (so.map .str)])=.ok (.str s) (h++[.dic kn,.lst (so.map .str)]):=by simp[Zbq,dicOf,e1]
  have hz:ag.length<sizeLine:=by rw[YC];lia
  by_cases hw:s=w
  . obtain⟨ys,q1,q2⟩:=Zmh (U:=U) (h:=h) (w:=w) (so:=so) hv xs (ag++[x]) (λy hy=>R y (by simp[hy])) (by simp;lia);refine⟨x::ys,λy hy=>?_,?_⟩
    . rcases O3.mp hy with rfl|hy
      . simp
      . simp[q1 y hy]
    . rw[Op,Zak];simp at q2;simp[Wk.stays,hz,ix,hw,q2]
  . obtain⟨ys,q1,q2⟩:=Zmh (U:=U) (h:=h) (w:=w) (so:=so) hv xs ag (λy hy=>R y (by simp[hy])) (by lia);refine⟨ys,λy hy=>by simp[q1 y hy],?_⟩;rw[Op,Zak];simp at q2;simp[Wk.stays,hz,ix,hw,q2]
def Zr0{P:Pg}(H:Mkr P)(n:Nat){sc:Scp}(w:Str)(hs:Zpb h k sc)(hl:sc.length<=60)(hok:∀p∈sc,Yo p.1=Wx):∃(ys:List Str) (g:Hd),(∀y∈ys,y∈sc.map (·.1))/\g.length=2 /\
 run P (n+1) (O "_law_there") [.ref k,.str w] h=.ok (.ref (h.length+2)) (h++g++[.lst (ys.map .str)]):=by
 rw[Zg H.there rfl];obtain⟨kn,a',b',hk,jJ,e1⟩:=Znt (U:=⟨P.G,P.GD,run P n,P.L⟩) (w:=J (.str w)) hs sc [] M M (λ_ hp=>hp) ⟨by simp,by simp⟩ (by simp;lia);obtain⟨ss,e2,e3,e4⟩:=Zny hk.key;have all:ss.all Yo=Wx:=by rw[OC];intro x hx;obtain⟨p,hp,rfl⟩:=List.mem_map.mp (e4 x hx).1;exact hok p hp
 have perm:=ZeM ss;obtain⟨ys,q1,q2⟩:=Zmh (U:=⟨P.G,P.GD,run P n,P.L⟩) (h:=h) (kn:=kn) (w:=w) (so:=Zc8 ss) hk.val (Zc8 ss) [] (λx hx=>(e4 x (perm.mem_iff.mp hx)).2) (by rw[perm.length_eq];simp at jJ ⊢;lia);refine⟨ys,[.dic kn,.lst ((Zc8 ss).map .str)],λy hy=>(e4 y (perm.mem_iff.mp (q1 y hy))).1,rfl,?_⟩;have iI:ZcV P.GD .srt [.ref h.length] (h++[.dic kn])=.ok (.ref (h.length+1)) (h++[.dic kn,.lst ((Zc8 ss).map .str)]):=by show Zgl P.GD [.ref h.length] (h++[.dic kn])=_;simp only[Zgl,dicOf,ZaU,Yz,e2];rw[if_pos ⟨by simp at jJ;lia,all⟩];simp
 have dz:ZaV (.ref k) (h++[DO.dic []])=J ⟨J (k,sc.map pairOf),sc.map pairOf⟩:=by
  have:(h++[DO.dic []])[k]?=J (.lst (sc.map pairOf)):=by rw[Oe (ZO hs)];exact hs
  simp[ZaV,this]
 have dw:ZaV (.ref (h.length+1)) (h++[DO.dic kn,.lst ((Zc8 ss).map .str)])=J ⟨J (h.length+1,(Zc8 ss).map .str),(Zc8 ss).map .str⟩:=by simp[ZaV]
 simp at q2 e1;simp[Zei,ZgY,ZF,Zd8,Zfi,dz,e1,iI,dw,Zdj,q2]
set_option tactic.hygienic true
section
structure Ctx(cs:List Int)(ns:List Str)(h:Hd)(i j m k:Nat)(sc:Scp)(a b:Int):Prop where
 st:St3 h i j cs a b
 nm:h[m]?=J (.lst (ns.map .str))
 n5:ns.length=5
 nok:∀x∈ns,Wl 20 x
 nd:ns.Nodup
 sca:Zpb h k sc
 sco:∀p∈sc,Wl 20 p.1
 im:i≠m
 ik:i≠k
 ab:0<=a
variable {P:Pg}{cs:List Int}{ns:List Str}{h h':Hd}{i j m k:Nat}{sc:Scp}{a b a' b':Int}
def Ctx.up(c:Ctx cs ns h i j m k sc a b)(u:Up i h h')(st:St3 h' i j cs a' b')(ab:0<=a'):Ctx cs ns h' i j m k sc a' b':=⟨st,u.at c.nm (YL c.im),c.n5,c.nok,c.nd,u.at c.sca (YL c.ik),c.sco,c.im,c.ik,ab⟩
def St3.app(s:St3 h i j cs a b):St3 (h++g) i j cs a b:=⟨by rw[Oe (ZO s.1)];exact s.1,by rw[Oe (ZO s.2.1)];exact s.2.1,s.2.2⟩
theorem Ctx.app(c:Ctx cs ns h i j m k sc a b):Ctx cs ns (h++g) i j m k sc a b:=c.up Up.app c.st.app c.ab
def Ctx.name(c:Ctx cs ns h i j m k sc a b)(v:Int)(h0:0<=v)(h5:v<5):∃x,Zbq GD (.ref m) (.int v) h=.ok (.str x) h/\Wl 20 x/\ns[v.toNat]?=J x:=by
 obtain⟨q,rfl⟩:∃q:Nat,v=q:=⟨v.toNat,by lia⟩
 have hq:q<ns.length:=by have:=c.n5;lia
 refine⟨ns[q],?_,c.nok _ (List.getElem_mem hq),Og hq⟩;rw[Z0 c.nm,IV.ZbH,O2,Og hq];rfl
noncomputable def A(r:Nat):Int:=4^(r+1)
def ZlE(r:Nat):0<A r:=Int.pow_pos (by decide)
def Zwk(r:Nat):A (r+1)=4*A r:=by unfold A;rw[Int.pow_succ];lia
inductive Made(cs:List Int)(h:Hd)(i j:Nat)(sc:Scp)(a mx:Int)(dm:Nat)(r:qe D):Prop
 |mk (t:T) (h':Hd) (a' b':Int) (e:r=.ok (T.d t) h') (u:Up i h h') (s:St3 h' i j cs a' b') (l1:a<=a') (l2:a'<=a+mx) (c:Cl (sc.map (·.1)) t) (p:dep t<=dm)
def Zn5(P:Pg)(r n0:Nat):Prop:=∀(n:Nat) (cs:List Int) (ns:List Str) (h:Hd) (i j m k:Nat) (sc:Scp) (a b:Int) (w:Str) (room:Int),room<=r->Ctx cs ns h i j m k sc a b->sc.length+2*r<=50->a+A r<2^50 ->
 Made cs h i j sc a (A r) (3*r+3) (run P (n+n0) (O "_law_any") [.str w,.ref k,.ref i,.ref m,.int room] h)
def ZrB(H:Mkr P)(n:Nat)(c:Ctx cs ns h i j m k sc a b)(w:Str)(room:Int)(hl:sc.length<=50)(ha:a<2^50)(T1 T2 T3:Option D):∃(v:Int) (w':Str) (ys:List Str) (h':Hd) (l:Nat),
 xs2 ⟨P.G,P.GD,run P (n+2),P.L⟩ (.cons ZbR (.cons ZcM (.cons ZbQ (.cons ZcL (.cons ZbP .nil))))) [J (.str w),J (.ref k),J (.ref i),J (.ref m),J (.int room),T1,T2,T3,M,M] h
  = .ok (.nx,[J (.str w'),J (.ref k),J (.ref i),J (.ref m),J (.int room),J (.int v),J (.int (v/87)),J (.ref l),M,M]) h'/\Up i h h'/\Ctx cs ns h' i j m k sc (a+1) (b-1)/\h'[l]?=J (.lst (ys.map .str))/\(∀y∈ys,y∈sc.map (·.1)):=by
 have i1:=c.st.1;have lt:=ZO i1;have p1:Zb3 (.ref i) (.int 2) (.int (b-1)) h=.ok () (h.set i (.lst [.ref j,.int a,.int (b-1)])):=by simp only[Zb3,i1];rfl
 have s1:St3 (h.set i (.lst [.ref j,.int a,.int (b-1)])) i j cs a (b-1):=⟨by rw[Ol lt],by rw[Oc c.st.2.2];exact c.st.2.1,c.st.2.2⟩
 have c1:=c.up Up.set s1 c.ab;obtain⟨v,e2,_⟩:=ZlS H n s1 ⟨c.ab,ha⟩;have lt1:i<(h.set i (.lst [.ref j,.int a,.int (b-1)])).length:=by simpa using lt
 have s2:St3 ((h.set i (.lst [.ref j,.int a,.int (b-1)])).set i (.lst [.ref j,.int (a+1),.int (b-1)])) i j cs (a+1) (b-1):=⟨by rw[Ol lt1],by rw[Oc c.st.2.2];exact s1.2.1,c.st.2.2⟩
 have c2:=c1.up Up.set s2 (by have:=c.ab;lia);generalize hh2:(h.set i (.lst [.ref j,.int a,.int (b-1)])).set i (.lst [.ref j,.int (a+1),.int (b-1)])=h2 at e2 s2 c2;have u2:Up i h h2:=hh2▸Up.set.trans Up.set;have kH:∀h,opB .Mod (.int v) (.int 29) h=.ok (.int (v%29)) h:=λh=>ZM (by decide);have l9:∀h,opB .FloorDiv (.int v) (.int 29) h=.ok (.int (v/29)) h:=λh=>Zdq (by decide);have m3:∀h,opB .Mod (.int (v/29)) (.int 3) h=.ok (.int (v/29%3)) h:=λh=>ZM (by decide);have lZ:∀h,opB .FloorDiv (.int v) (.int 87) h=.ok (.int (v/87)) h:=λh=>Zdq (by decide);have lv:Zbq P.GD (.ref i) (.int 2) h=.ok (.int b) h:=by rw[Z0 i1];simp
 have fq:∃(w':Str) (h3:Hd),xs1 ⟨P.G,P.GD,run P (n+2),P.L⟩ ZbQ [J (.str w),J (.ref k),J (.ref i),J (.ref m),J (.int room),J (.int v),T2,T3,M,M] h2
  = .ok (.nx,[J (.str w'),J (.ref k),J (.ref i),J (.ref m),J (.int room),J (.int v),T2,T3,M,M]) h3/\Up i h2 h3/\Ctx cs ns h3 i j m k sc (a+1) (b-1):=by
  have tt:tst (P.tbl (n+2)) (.ex (.cmp .Eq (.bin .Mod (.var 5) (.ci 29)) (.ci 0))) [J (.str w),J (.ref k),J (.ref i),J (.ref m),J (.int room),J (.int v),T2,T3,M,M] h2=.ok (Wz (v%29=0)) h2:=Zfn ((Zj rfl rfl).trans (kH h2)) rfl;by_cases hv:v%29=0
  . have go:∀w':Str,atI [D.str (O "n"),.str (O "f"),.str (O "g")] (v/29%3)=J (D.str w')->xs1 (P.tbl (n+2)) ZbQ [J (.str w),J (.ref k),J (.ref i),J (.ref m),J (.int room),J (.int v),T2,T3,M,M] h2
     = .ok (.nx,[J (.str w'),J (.ref k),J (.ref i),J (.ref m),J (.int room),J (.int v),T2,T3,M,M]) (h2++[.lst [.str (O "n"),.str (O "f"),.str (O "g")]]):=λw' e=>
     (Zi (Zh tt (decide_eq_true hv))).trans ((Za (Zl (Zit e rfl ((Zj (x:=.int (v/29)) ((Zj rfl rfl).trans (l9 _)) rfl).trans (m3 _)) (by decide)))).trans rfl)
    have q:v/29%3=0\/v/29%3=1\/v/29%3=2:=by lia
    rcases q with q|q|q
    . exact⟨O "n",_,go _ (by rw[q];rfl),Up.app,c2.app⟩
    . exact⟨O "f",_,go _ (by rw[q];rfl),Up.app,c2.app⟩
    . exact⟨O "g",_,go _ (by rw[q];rfl),Up.app,c2.app⟩
  . exact⟨w,h2,(Zf (Zh tt (decide_eq_false hv))).trans rfl,Up.refl,c2⟩
 obtain⟨w',h3,e3,u3,c3⟩:=fq;obtain⟨ys,g,hy,hg,e5⟩:=Zr0 H (n+1) w' c3.sca (by lia) (λp hp=>(c3.sco p hp).1);refine⟨v,w',ys,h3++g++[.lst (ys.map .str)],h3.length+2,?_,(u2.trans u3).trans (Up.app.trans Up.app),c3.app.app,?_,hy⟩
 . have x1:xs1 ⟨P.G,P.GD,run P (n+2),P.L⟩ ZbR [J (.str w),J (.ref k),J (.ref i),J (.ref m),J (.int room),T1,T2,T3,M,M] h=.ok (.nx,[J (.str w),J (.ref k),J (.ref i),J (.ref m),J (.int room),T1,T2,T3,M,M]) (h.set i (.lst [.ref j,.int a,.int (b-1)])):=by have q:ev (P.tbl (n+2)) (.bin .Sub (.ix (.var 2) (.ci 2)) (.ci 1)) [J (.str w),J (.ref k),J (.ref i),J (.ref m),J (.int room),T1,T2,T3,M,M] h=.ok (.int (b-1)) h:=(Zj (x:=.int b) ((Zm rfl rfl).trans lv) rfl).trans rfl;rw[ZbR,ZmI];show(ev (P.tbl (n+2)) (.bin .Sub (.ix (.var 2) (.ci 2)) (.ci 1)) _ h).bnd _=_;rw[q];show(Zb3 (.ref i) (.int 2) (.int (b-1)) h).bnd _=_;rw[p1];rfl
   have x2:xs1 ⟨P.G,P.GD,run P (n+2),P.L⟩ ZcM [J (.str w),J (.ref k),J (.ref i),J (.ref m),J (.int room),T1,T2,T3,M,M] (h.set i (.lst [.ref j,.int a,.int (b-1)]))=.ok (.nx,[J (.str w),J (.ref k),J (.ref i),J (.ref m),J (.int room),J (.int v),T2,T3,M,M]) h2:=by exact Zl (Zv e2 rfl)
   have x4:∀q,xs1 ⟨P.G,P.GD,run P (n+2),P.L⟩ ZcL [J (.str w'),J (.ref k),J (.ref i),J (.ref m),J (.int room),J (.int v),q,T3,M,M] h3=.ok (.nx,[J (.str w'),J (.ref k),J (.ref i),J (.ref m),J (.int room),J (.int v),J (.int (v/87)),T3,M,M]) h3:=by exact λq=>Zl ((Zj rfl rfl).trans (lZ _))
   have x5:xs1 ⟨P.G,P.GD,run P (n+2),P.L⟩ ZbP [J (.str w'),J (.ref k),J (.ref i),J (.ref m),J (.int room),J (.int v),J (.int (v/87)),T3,M,M] h3=.ok (.nx,[J (.str w'),J (.ref k),J (.ref i),J (.ref m),J (.int room),J (.int v),J (.int (v/87)),J (.ref (h3.length+2)),M,M]) (h3++g++[.lst (ys.map .str)]):=by simp only[ZbP,ZmH,Zj0,ZfZ,ZJ,ZjZ,O0,OJ,Option.join_some,ofO_some,Zq,bind_ok,e5];rfl
   exact(Za x1).trans ((Za x2).trans ((Za e3).trans ((Za (x4 _)).trans ((Za x5).trans rfl))))
 . have:h3.length+2=(h3++g).length:=by simp[hg]
   rw[this];simp
end
set_option tactic.hygienic false
section
variable {P:Pg}{cs:List Int}{ns:List Str}{h h':Hd}{i j m k:Nat}{sc:Scp}{a b:Int}
theorem Cl.mono{sc aF:List Str}:∀ {t:T},(∀ x∈sc,x∈aF)->Cl sc t->Cl aF t
 |.num n,_,c=>c
 |.name x,s,c=>s x c
 |.fn x e,s,c=>⟨Cl.mono (t:=e) (λy hy=>by
     rcases O3.mp hy with z|z
     . rw [z];exact Oi
     . exact Oh _ (s y z)) c.1,c.2⟩
 |.rcc f x e,s,c=>⟨Cl.mono (t:=e) (λy hy=>by
     rcases O3.mp hy with z|z
     . rw [z];exact Oi
     . rcases O3.mp z with q|q
       . rw [q];exact Oh _ Oi
       . exact Oh _ (Oh _ (s y q))) c.1,c.2⟩
 |.call f e,s,c=>⟨Cl.mono s c.1,Cl.mono s c.2⟩
 |.iff p q r,s,c=>⟨Cl.mono s c.1,Cl.mono s c.2.1,Cl.mono s c.2.2⟩
 |.op w p q,s,c=>⟨Cl.mono s c.1,Cl.mono s c.2⟩
noncomputable def ZrG(z:Int):Wd:=if z=0 then .add else if z=1 then .sub else if z=2 then .mul else .lt
def wd4(z:Int)(h0:0<=z)(h4:z<4):atI [D.str (O "+"),.str (O "-"),.str (O "*"),.str (O "<")] z=J (.str (ZrG z).s):=by
 have:z=0\/z=1\/z=2\/z=3:=by lia
 rcases this with rfl|rfl|rfl|rfl<;>simp[ZrG,Wd.s]
noncomputable def me(rest:Int)(k i m:Nat)(room:Int)(a b c d:Option D):Ev:=[J (.int rest),J (.ref k),J (.ref i),J (.ref m),J (.int room),a,b,c,d]
def Zvl(H:Mkr P)(ih:Zn5 P r n0)(hn:1<=n0)(n:Nat)(c:Ctx cs ns h i j m k sc a b)(rest:Int)(room:Int)(hr:room<=r)(hl:sc.length+2*r<=50)(ha:a+2*A r<2^50):
 Made cs h i j sc a (2*A r) (3*r+4) (run P (n+n0+1) (O "_law_number") [.int rest,.ref k,.ref i,.ref m,.int room] h):=by
 have Ap:=ZlE r;rw[Zhx H.number rfl];show Made cs h i j sc a (2*A r) (3*r+4) (Ze (xs2 (P.tbl (n+n0)) ZdB (me rest k i m room M M M M) h));have x1:∀h,xs1 (P.tbl (n+n0)) Zex (me rest k i m room M M M M) h=.ok (.nx,me rest k i m room (J (.int (rest%6))) M M M) h:=λh=>rfl;rw[ZdB,Za (x1 h)];obtain⟨n1,e1⟩:∃n1,n+n0=n1+1:=⟨n+n0-1,by lia⟩
 by_cases h0:rest%6=0
 . obtain⟨t,g,e2,ct,pt⟩:=ZjB H n1 (O "n") (rest/6) h (sc.map (·.1));refine⟨t,h++g,a,b,?_,Up.app,c.st.app,by lia,by lia,ct,by lia⟩;rw[<-e1]at e2;have x2:xs1 (P.tbl (n+n0)) Zct (me rest k i m room (J (.int (rest%6))) M M M) h=.ok (.rt t.d,me rest k i m room (J (.int (rest%6))) M M M) (h++g):=(Zi (Zh (Zfn rfl rfl) (decide_eq_true h0))).trans (Zd (Za8 e2 rfl rfl));rw[Zd x2];rfl
 . have x2:xs1 (P.tbl (n+n0)) Zct (me rest k i m room (J (.int (rest%6))) M M M) h=.ok (.nx,me rest k i m room (J (.int (rest%6))) M M M) h:=(Zf (Zh (Zfn rfl rfl) (decide_eq_false h0))).trans rfl;rw[Za x2];have lt:tst (P.tbl (n+n0)) (.ex (.cmp .Lt (.var 5) (.ci 3))) (me rest k i m room (J (.int (rest%6))) M M M) h=.ok (Wz (rest%6<3)) h:=rfl;by_cases h3:rest%6<3
   . obtain⟨t1,g1,a1,b1,e2,u1,s1,l1,l2,c1,p1⟩:=ih n cs ns h i j m k sc a b (O "n") room hr c hl (by lia);have cc:=c.up u1 s1 (by have:=c.ab;lia);obtain⟨t2,g2,a2,b2,e3,u2,s2,l3,l4,c2,p2⟩:=ih n cs ns (g1++[.lst [.str (O "+"),.str (O "-"),.str (O "*"),.str (O "<")]]) i j m k sc a1 b1 (O "n") room hr cc.app hl (by lia);refine⟨.op (ZrG (rest/6%4)) t1 t2,g2,a2,b2,?_,u1.trans (Up.app.trans u2),s2,by lia,by lia,⟨c1,c2⟩,by simp only[dep];lia⟩;have w4:=wd4 (rest/6%4) (by lia) (by lia);have x3:xs1 (P.tbl (n+n0)) Zcs (me rest k i m room (J (.int (rest%6))) M M M) h=.ok (.rt (T.op (ZrG (rest/6%4)) t1 t2).d,me rest k i m room (J (.int (rest%6))) (J t1.d) M M) g2:=by refine(Zi (Zh lt (decide_eq_true h3))).trans ?_;refine(Za (ρ1:=me rest k i m room (J (.int (rest%6))) (J t1.d) M M) (R:=g1) (Za8 e2 rfl rfl)).trans ?_;exact Zd (Zu (Zan (Zc (Zit w4 rfl rfl (by simp)) (Zc rfl (Zc (Zv e3 rfl) rfl))) (by simp)))
     rw[Zd x3];rfl
   . have w3:∃ws,(ws=O "f" \/ ws=O "g")/\atI [D.str (O "f"),.str (O "f"),.str (O "g")] (rest%6-3)=J (.str ws):=by
      have:rest%6-3=0\/rest%6-3=1\/rest%6-3=2:=by lia
      rcases this with q|q|q<;>rw[q]<;>simp
     obtain⟨ws,kN,w3⟩:=w3;obtain⟨t1,g1,a1,b1,e2,u1,s1,l1,l2,c1,p1⟩:=ih n cs ns (h++[.lst [.str (O "f"),.str (O "f"),.str (O "g")]]) i j m k sc a b ws room hr c.app hl (by lia);have cc:=c.app.up u1 s1 (by have:=c.ab;lia);have dd:∃aB,Zbq P.GD (.ref g1.length) (.str ws) (g1++[.dic [(.inr (O "f"),.str (O "n")),(.inr (O "g"),.str (O "f"))]])=.ok (.str aB) (g1++[.dic [(.inr (O "f"),.str (O "n")),(.inr (O "g"),.str (O "f"))]]):=by
      rcases kN with rfl|rfl
      . exact⟨O "n",by simp[Zbq,dicOf,Zbp]⟩
      . exact⟨O "f",by simp[Zbq,dicOf,Zbp]⟩
     obtain⟨aB,dd⟩:=dd;obtain⟨t2,g2,a2,b2,e3,u2,s2,l3,l4,c2,p2⟩:=ih n cs ns (g1++[.dic [(.inr (O "f"),.str (O "n")),(.inr (O "g"),.str (O "f"))]]) i j m k sc a1 b1 aB room hr cc.app hl (by lia);refine⟨.call t1 t2,g2,a2,b2,?_,Up.app.trans (u1.trans (Up.app.trans u2)),s2,by lia,by lia,⟨c1,c2⟩,by simp only[dep];lia⟩;have x3:xs1 (P.tbl (n+n0)) Zcs (me rest k i m room (J (.int (rest%6))) M M M) h=.ok (.nx,me rest k i m room (J (.int (rest%6))) M M M) h:=(Zf (Zh lt (decide_eq_false h3))).trans rfl;have x4:xs1 (P.tbl (n+n0)) Zew (me rest k i m room (J (.int (rest%6))) M M M) h=.ok (.nx,me rest k i m room (J (.int (rest%6))) M (J (.str ws)) M) (h++[.lst [.str (O "f"),.str (O "f"),.str (O "g")]]):=Zl (i:=7) (Zit w3 rfl rfl (by simp));have x5:xs1 (P.tbl (n+n0)) Zev (me rest k i m room (J (.int (rest%6))) M (J (.str ws)) M) (h++[.lst [.str (O "f"),.str (O "f"),.str (O "g")]])=.ok (.nx,me rest k i m room (J (.int (rest%6))) M (J (.str ws)) (J t1.d)) g1:=Za8 e2 rfl rfl;have p6:ev (P.tbl (n+n0)) (.ix (.dictl (.cons (.Ci_ "f") (.cons (.Ci_ "n") (.cons (.Ci_ "g") (.cons (.Ci_ "f") .nil))))) (.var 7)) (me rest k i m room (J (.int (rest%6))) M (J (.str ws)) (J t1.d)) g1=.ok (.str aB) (g1++[.dic [(.inr (O "f"),.str (O "n")),(.inr (O "g"),.str (O "f"))]]):=dd;have x6:xs1 (P.tbl (n+n0)) Zeu (me rest k i m room (J (.int (rest%6))) M (J (.str ws)) (J t1.d)) g1=.ok (.rt (T.call t1 t2).d,me rest k i m room (J (.int (rest%6))) M (J (.str ws)) (J t1.d)) g2:=Zu (Zan (Zc rfl (Zc rfl (Zc ((ZvZ (Zc p6 rfl)).trans e3) rfl))) (by simp));rw[Za x3,Za x4,Za x5,Zd x6];rfl
def Ctx.wider(c:Ctx cs ns h i j m k sc a b)(more:Scp)(hm:∀p∈more,Wl 20 p.1):Ctx cs ns (h++[.lst (more.map pairOf),.lst ((sc++more).map pairOf)]) i j m (h.length+1) (sc++more) a b:=by
 have c1:=c.app (g:=[.lst (more.map pairOf),.lst ((sc++more).map pairOf)]);refine⟨c1.st,c1.nm,c1.n5,c1.nok,c1.nd,by unfold Zpb;simp,λp hp=>?_,c1.im,?_,c1.ab⟩
 . rcases OD.mp hp with z|z
   . exact c.sco p z
   . exact hm p z
 . have:=ZO c.st.1
   lia
def Zj3(c:Ctx cs ns h i j m k sc a b)(more:Scp)(hz:sc.length+more.length<=100):opB .Add (.ref k) (.ref h.length) (h++[.lst (more.map pairOf)])=.ok (.ref (h.length+1)) (h++[.lst (more.map pairOf),.lst ((sc++more).map pairOf)]):=by
 have hk:(h++[DO.lst (more.map pairOf)])[k]?=J (.lst (sc.map pairOf)):=by rw[Oe (ZO c.sca)];exact c.sca
 simp only[opB,ZtE,hk,ZaU];rw[if_pos (by simp;rw[YC];lia)];simp
def ZwO{sc:Scp}{x s:Str}:∀y∈(sc++[(x,s)]).map (·.1),y∈x::sc.map (·.1):=λy hy=>by
 rw[List.map_append]at hy;rcases OD.mp hy with z|z
 . exact Oh _ z
 . have:y=x:=by simpa using z
   rw[this];exact Oi
def unlike{ns:List Str}(n5:ns.length=5)(nd:ns.Nodup){x f:Str}{rest:Int}(ax:ns[(rest%5).toNat]?=J x)(af:ns[((rest%5+1+rest/15%4)%5).toNat]?=J f):f≠x:=λe=>by
 have q:=(List.getElem?_inj (i:=(rest%5).toNat) (j:=((rest%5+1+rest/15%4)%5).toNat) (by rw[n5];lia) nd).mp (by rw[ax,af,e])
 lia
noncomputable def fe(w:Str)(rest:Int)(k i m:Nat)(room:Int)(a b c d:Option D):Ev:=[J (.str w),J (.int rest),J (.ref k),J (.ref i),J (.ref m),J (.int room),a,b,c,d]
def ZxY{N:Nat}{s:Str}{w:Str}{rest:Int}{room:Int}{x:Str}{t1:T}{g1 R:Hd}(hc:opB .Add (.ref k) (.ref h.length) (h++[.lst ([(x,s)].map pairOf)])=.ok (.ref (h.length+1)) R)(e1:run P N (O "_law_any") [.str (O "n"),.ref (h.length+1),.ref i,.ref m,.int room] R=.ok t1.d g1):ev (P.tbl N) (.tupl (.cons (.Ci_ "fn") (.cons (.var 6) (.cons (.call (O "_law_any") (.cons (.Ci_ "n") (.cons (.bin .Add (.var 2) (.lstl (.cons (.tupl (.cons (.var 6) (.cons (.cst (.str s)) .nil))) .nil))) (.cons (.var 3) (.cons (.var 4) (.cons (.var 5) .nil)))))) .nil)))) (fe w rest k i m room (J (.str x)) M M M) h=.ok (T.fn x t1).d g1:=by have b:ev (P.tbl N) (.bin .Add (.var 2) (.lstl (.cons (.tupl (.cons (.var 6) (.cons (.cst (.str s)) .nil))) .nil))) (fe w rest k i m room (J (.str x)) M M M) h=.ok (.ref (h.length+1)) R:=(Zj (x:=.ref k) (y:=.ref h.length) (R:=h) (h2:=h++[.lst ([(x,s)].map pairOf)]) rfl rfl).trans hc;exact Zan (Zc rfl (Zc rfl (Zc ((ZvZ (Zc rfl (Zc b rfl))).trans e1) rfl))) (by simp)
def ZvQ(H:Mkr P){r n0:Nat}(ih:Zn5 P r n0)(n:Nat)(c:Ctx cs ns h i j m k sc a b)(w:Str)(rest:Int)(room:Int)(hr:room<=r)(hl:sc.length+2+2*r<=50)(ha:a+2*A r<2^50):
 Made cs h i j sc a (2*A r) (3*r+6) (run P (n+n0+1) (O "_law_function") [.str w,.int rest,.ref k,.ref i,.ref m,.int room] h):=by
 have Ap:=ZlE r;have f9:=c.ab;rw[Zhx H.function rfl];obtain⟨x,ex,wx,ax⟩:=c.name (GD:=P.GD) (rest%5) (by clear ih ha f9 hl hr;lia) (by clear ih ha f9 hl hr;lia);show Made cs h i j sc a (2*A r) (3*r+6) (Ze (xs2 (P.tbl (n+n0)) (.cons Zby (.cons Zar (.cons Zaq (.cons Zbx (.cons Zbw (.cons Zbv (.cons Zap (.cons Zao .nil)))))))) (fe w rest k i m room M M M M) h));have x1:xs1 (P.tbl (n+n0)) Zby (fe w rest k i m room M M M M) h=.ok (.nx,fe w rest k i m room (J (.str x)) M M M) h:=by exact Zl (i:=6) ex
 rw[Za x1];by_cases hg:w=O "g"
 . have hc:=Zj3 c [(x,O "f")] (by simp;lia);obtain⟨t1,g1,a1,b1,e1,u1,s1,l1,l2,c1,p1⟩:=ih n cs ns _ i j m (h.length+1) (sc++[(x,O "f")]) a b (O "n") room hr (c.wider [(x,O "f")] (by simp[wx])) (by simp;lia) (by lia);refine⟨.fn x t1,g1,a1,b1,?_,Up.app.trans u1,s1,l1,by lia,⟨Cl.mono (t:=t1) ZwO c1,wx⟩,by simp only[dep];lia⟩;have e:xs1 (P.tbl (n+n0)) Zar (fe w rest k i m room (J (.str x)) M M M) h=.ok (.rt (T.fn x t1).d,fe w rest k i m room (J (.str x)) M M M) g1:=by subst hg;exact(Zi rfl).trans (Zd (Zu (ZxY hc e1)))
   rw[Zd e];rfl
 have x2:xs1 (P.tbl (n+n0)) Zar (fe w rest k i m room (J (.str x)) M M M) h=.ok (.nx,fe w rest k i m room (J (.str x)) M M M) h:=by exact(Zf (Zh (Zad rfl rfl) (decide_eq_false hg))).trans rfl
 rw[Za x2];by_cases h3:rest/5%3=0
 . have hc:=Zj3 c [(x,O "n")] (by simp;lia);obtain⟨t1,g1,a1,b1,e1,u1,s1,l1,l2,c1,p1⟩:=ih n cs ns _ i j m (h.length+1) (sc++[(x,O "n")]) a b (O "n") room hr (c.wider [(x,O "n")] (by simp[wx])) (by simp;lia) (by lia);refine⟨.fn x t1,g1,a1,b1,?_,Up.app.trans u1,s1,l1,by lia,⟨Cl.mono (t:=t1) ZwO c1,wx⟩,by simp only[dep];lia⟩;have e:xs1 (P.tbl (n+n0)) Zaq (fe w rest k i m room (J (.str x)) M M M) h=.ok (.rt (T.fn x t1).d,fe w rest k i m room (J (.str x)) M M M) g1:=(Zi (Zh (Zfn (x:=rest/5%3) rfl rfl) (decide_eq_true h3))).trans (Zd (Zu (ZxY hc e1)));rw[Zd e];rfl
 have x3:xs1 (P.tbl (n+n0)) Zaq (fe w rest k i m room (J (.str x)) M M M) h=.ok (.nx,fe w rest k i m room (J (.str x)) M M M) h:=by exact(Zf (Zh (Zfn (x:=rest/5%3) rfl rfl) (decide_eq_false h3))).trans rfl
 obtain⟨f,ef,wf,af⟩:=c.name (GD:=P.GD) ((rest%5+1+rest/15%4)%5) (by clear ih ha f9 hl hr;lia) (by clear ih ha f9 hl hr;lia);have kC:f≠x:=unlike c.n5 c.nd ax af;have x4:xs1 (P.tbl (n+n0)) Zbx (fe w rest k i m room (J (.str x)) M M M) h=.ok (.nx,fe w rest k i m room (J (.str x)) (J (.str f)) M M) h:=by exact Zl (i:=7) ef
 have hc:=Zj3 c [(f,O "f"),(x,O "n")] (by simp;lia);have cw:=c.wider [(f,O "f"),(x,O "n")] (by simp[wx,wf]);have sub:∀y∈(sc++[(f,O "f"),(x,O "n")]).map (·.1),y∈x::f::sc.map (·.1):=λy hy=>by simp at hy ⊢;rcases hy with z|z|z<;>simp[z]
 generalize hh1:(h++[DO.lst ([(f,O "f"),(x,O "n")].map pairOf),.lst ((sc++[(f,O "f"),(x,O "n")]).map pairOf)])=R at hc cw;have ug:Up i h R:=by rw[<-hh1];exact Up.app
 have gJ:R.length=h.length+2:=by rw[<-hh1];simp
 have x5:xs1 (P.tbl (n+n0)) Zbw (fe w rest k i m room (J (.str x)) (J (.str f)) M M) h=.ok (.nx,fe w rest k i m room (J (.str x)) (J (.str f)) (J (.ref (h.length+1))) M) R:=by exact Zl (i:=8) ((Zj (x:=.ref k) (y:=.ref h.length) (R:=h) (h2:=h++[.lst ([(f,O "f"),(x,O "n")].map pairOf)]) rfl rfl).trans hc)
 have x6:xs1 (P.tbl (n+n0)) Zbv (fe w rest k i m room (J (.str x)) (J (.str f)) (J (.ref (h.length+1))) M) R=.ok (.nx,fe w rest k i m room (J (.str x)) (J (.str f)) (J (.ref (h.length+1))) (J (T.call (.name f) (.op .sub (.name x) (.num 1))).d)) R:=by exact rfl
 rw[Za x3,Za x4,Za x5,Za x6];generalize bK:sc++[(f,O "f"),(x,O "n")]=sc1 at cw sub hh1;have jE:sc1.length=sc.length+2:=by rw[<-bK];simp
 clear x1 x2 x3 x4 x5 x6 hc hh1 bK ex ef;have last:∀(t1:T) (g1:Hd) (a1 b1:Int),Up i R g1->St3 g1 i j cs a1 b1->a<=a1->a1<=a+A r->Cl (x::f::sc.map (·.1)) t1->dep t1<=3*r+4 ->
  xs1 (P.tbl (n+n0)) Zap (fe w rest k i m room (J (.str x)) (J (.str f)) (J (.ref (h.length+1))) (J (T.call (.name f) (.op .sub (.name x) (.num 1))).d)) R=.ok (.nx,fe w rest k i m room (J (.str x)) (J (.str f)) (J (.ref (h.length+1))) (J t1.d)) g1 ->
  Made cs h i j sc a (2*A r) (3*r+6) (Ze (xs2 (P.tbl (n+n0)) (.cons Zap (.cons Zao .nil)) (fe w rest k i m room (J (.str x)) (J (.str f)) (J (.ref (h.length+1))) (J (T.call (.name f) (.op .sub (.name x) (.num 1))).d)) R)):=by
  intro t1 g1 a1 b1 u1 s1 l1 l2 c1 p1 x7;rw[Za x7];obtain⟨t2,g2,a2,b2,e2,u2,s2,l3,l4,c2,p2⟩:=ih n cs ns g1 i j m (h.length+1) sc1 a1 b1 (O "n") (room-1) (by clear ha;lia) (cw.up u1 s1 (by clear hl ha hr;lia)) (by clear ha hr;lia) (by clear hl hr;lia);refine⟨.rcc f x (.iff (.name x) t1 t2),g2,a2,b2,?_,ug.trans (u1.trans u2),s2,Int.le_trans l1 l3,by clear hl hr ha;lia,⟨⟨Oi,c1,Cl.mono sub c2⟩,kC,wf,wx⟩,by simp only[dep];clear hl hr ha;lia⟩;have e:xs1 (P.tbl (n+n0)) Zao (fe w rest k i m room (J (.str x)) (J (.str f)) (J (.ref (h.length+1))) (J t1.d)) g1=.ok (.rt (T.rcc f x (.iff (.name x) t1 t2)).d,fe w rest k i m room (J (.str x)) (J (.str f)) (J (.ref (h.length+1))) (J t1.d)) g2:=by exact Zu (Zan (Zc rfl (Zc rfl (Zc rfl (Zc (Zan (Zc rfl (Zc rfl (Zc rfl (Zc (Zv e2 rfl) rfl)))) (by simp)) rfl)))) (by simp))
  rw[Zd e];rfl
 by_cases q0:rest/60%3=0
 . obtain⟨t1,g1,a1,b1,e1,u1,s1,l1,l2,c1,p1⟩:=ih n cs ns R i j m (h.length+1) sc1 a b (O "n") room hr cw (by clear ha hr;lia) (by clear hl hr;lia);refine last t1 g1 a1 b1 u1 s1 l1 l2 (Cl.mono sub c1) (by lia) ?_;exact(Zi (Zh (Zfn (x:=rest/60%3) rfl rfl) (decide_eq_true q0))).trans (Za (Za8 e1 rfl rfl))
 . by_cases q1:rest/60%3=1
   . have w2:∃wd:Wd,atI [D.str (O "+"),.str (O "*")] (rest/180%2)=J (.str wd.s):=by
      have:rest/180%2=0\/rest/180%2=1:=by clear ih ha hl hr q0 q1;lia
      rcases this with z|z<;>rw[z]
      . exact⟨.add,by simp[Wd.s]⟩
      . exact⟨.mul,by simp[Wd.s]⟩
     obtain⟨wd,w2⟩:=w2;obtain⟨t1,g1,a1,b1,e1,u1,s1,l1,l2,c1,p1⟩:=ih n cs ns _ i j m (h.length+1) sc1 a b (O "n") (room-1) (by clear ha;lia) (cw.app (g:=[.lst [.str (O "+"),.str (O "*")]])) (by clear ha hr;lia) (by clear hl hr;lia);refine last (.op wd t1 (.call (.name f) (.op .sub (.name x) (.num 1)))) g1 a1 b1 (Up.app.trans u1) s1 l1 l2 ⟨Cl.mono sub c1,Oh _ Oi,Oi,by show(0:Int)<=1/\(1:Int)<1000000;decide⟩ (by simp only[dep];clear hl hr ha;lia) ?_;exact(Zf (Zh (Zfn (x:=rest/60%3) rfl rfl) (decide_eq_false q0))).trans (Za ((Zi (Zh (Zfn (x:=rest/60%3) rfl rfl) (decide_eq_true q1))).trans (Za (Zl (i:=9) (Zan (Zc (Zit w2 rfl rfl (by simp)) (Zc (Zv e1 rfl) rfl)) (by simp))))))
   . refine last (.call (.name f) (.op .sub (.name x) (.num 1))) R a b Up.refl cw.st (Int.le_refl _) (by lia) ⟨Oh _ Oi,Oi,by show(0:Int)<=1/\(1:Int)<1000000;decide⟩ (by simp only[dep];lia) ?_;exact(Zf (Zh (Zfn (x:=rest/60%3) rfl rfl) (decide_eq_false q0))).trans (Za ((Zf (Zh (Zfn (x:=rest/60%3) rfl rfl) (decide_eq_false q1))).trans rfl))
theorem Znc(rd:Nat->Option PyData):∀ys:List Str,D.pys rd (ys.map D.str)=J (ys.map PyData.str)
 |[]=>rfl
 |y::ys=>by rw[Op,D.pys,Znc rd ys];rfl
def Zvm{l:Nat}{ys:List Str}(e:h[l]?=J (.lst (ys.map .str))):Zdb Wx (.ref l) (.ref h.length) (h++[.lst []])=.ok (.bl (!ys.isEmpty)) (h++[.lst []]):=by
 have e1:(h++[DO.lst []])[l]?=J (.lst (ys.map .str)):=by rw[Oe (ZO e)];exact e
 have p1:ZiG (h++[.lst []]) (.ref l)=J (.list (ys.map .str)):=by show ZiF (h++[.lst []]) 4 l=_;rw[ZiF,e1];simp[Znc]
 have p2:ZiG (h++[DO.lst []]) (.ref h.length)=J (.list []):=by show ZiF (h++[.lst []]) 4 h.length=_;rw[ZiF,ZaU];rfl
 unfold IV.Zdb;rw[p1,p2];simp only;have d0:min (PyData.list (ys.map .str)).depth (PyData.list []).depth<=1100:=by
  have:(PyData.list []).depth<=1:=by decide +kernel
  lia
 rw[if_pos d0];cases ys with
 |nil=>rfl
 |cons y r=>rfl
def Zfy{U:Tb}{qe:Sxs}{ρ':Ev}{h':Hd}{s:Sx}{A B_:Sxs}{S:Ev}{h:Hd}(e:xs2 U (.cons s A) S h=.ok (.nx,ρ') h')(q:∀ρ1 R,xs2 U A ρ1 R=.ok (.nx,ρ') h'->xs2 U B_ ρ1 R=xs2 U qe ρ' h'):xs2 U (.cons s B_) S h=xs2 U qe ρ' h':=by
 rw[ZhD]at e ⊢;cases r1:xs1 U s S h with
 |bad=>rw[r1]at e;cases e
 |exc c R=>rw[r1]at e;cases e
 |ok p R=>
  rw[r1]at e;obtain⟨fl,ρ1⟩:=p;cases fl with
  |nx=>exact q ρ1 R e
  |bk=>cases e
  |ct=>cases e
  |rt d=>cases e
def Zwo(qe:Sxs)(e:xs2 U (.cons s1 (.cons s2 (.cons s3 (.cons s4 (.cons s5 .nil))))) S h=.ok (.nx,ρ') h'):xs2 U (.cons s1 (.cons s2 (.cons s3 (.cons s4 (.cons s5 qe))))) S h=xs2 U qe ρ' h':=Zfy e λ_ _ e=>Zfy e λ_ _ e=>Zfy e λ_ _ e=>Zfy e λ_ _ e=>Zfy e λ_ _ e=>by cases e;rfl
noncomputable def ae(w:Str)(k i m:Nat)(room v q:Int)(l:Nat)(a b:Option D):Ev:=[J (.str w),J (.ref k),J (.ref i),J (.ref m),J (.int room),J (.int v),J (.int q),J (.ref l),a,b]
def any_gen(H:Mkr P)(n1:Nat)(c:Ctx cs ns h i j m k sc a b)(w:Str)(room:Int)(mx:Int)(dm:Nat)(mM:2<=dm)(hl:sc.length<=50)(ha:a<2^50)(mH:1<=mx)
 (rc:1<=room->∃r n0 n',room-1<=(r:Nat)/\Zn5 P r n0/\n1+2=n'+n0+1/\1<=n0/\sc.length+2+2*r<=50/\1+3*A r<=mx/\a+mx<2^50/\3*r+6<=dm) :
 Made cs h i j sc a mx dm (run P (n1+3) (O "_law_any") [.str w,.ref k,.ref i,.ref m,.int room] h):=by
 have f9:=c.ab;rw[Zhx H.any rfl];obtain⟨v,w',ys,h5,l,e5,u5,c5,hy,kL⟩:=ZrB H n1 c w room hl ha M M M;have st:ZF ZeS.N [.str w,.ref k,.ref i,.ref m,.int room]=[J (.str w),J (.ref k),J (.ref i),J (.ref m),J (.int room),M,M,M,M,M]:=rfl;rw[st,show ZeS.body=.cons ZbR (.cons ZcM (.cons ZbQ (.cons ZcL (.cons ZbP (.cons ZbO (.cons ZaR (.cons ZcK (.cons ZbN (.cons Za9 (.cons Zcc .nil))))))))))from rfl,Zwo _ e5];show Made cs h i j sc a mx dm (Ze (xs2 (P.tbl (n1+2)) (.cons ZbO (.cons ZaR (.cons ZcK (.cons ZbN (.cons Za9 (.cons Zcc .nil)))))) (ae w' k i m room v (v/87) l M M) h5));have nn:=Zvm hy;have t1:tst (P.tbl (n1+2)) (.ex (.cmp .NotEq (.var 7) (.lstl .nil))) (ae w' k i m room v (v/87) l M M) h5=.ok (!ys.isEmpty) (h5++[.lst []]):=Zb9 ((Zp (x:=.ref l) (y:=.ref h5.length) (R:=h5) (h2:=h5++[DO.lst []]) rfl rfl).trans nn);have t2:∀h,tst (P.tbl (n1+2)) (.ex (.cmp .Eq (.bin .Mod (.var 6) (.ci 3)) (.ci 0))) (ae w' k i m room v (v/87) l M M) h=.ok (Wz (v/87%3=0)) h:=λh=>Zfn rfl rfl;have t8:∀h,tst (P.tbl (n1+2)) (.ex (.cmp .Eq (.bin .Mod (.var 6) (.ci 8)) (.ci 0))) (ae w' k i m room v (v/87/30) l M M) h=.ok (Wz (v/87/30%8=0)) h:=λh=>Zfn rfl rfl;by_cases hn:ys.isEmpty=Wy/\v/87%3=0
 ·
  have hp:0<ys.length:=by
   cases ys with
   |nil=>simp at hn
   |cons y r=>simp
  have ix:opB .Mod (.int (v/87/3)) (.int ys.length) (h5++[.lst []])=.ok (.int (v/87/3%ys.length)) (h5++[.lst []]):=ZM (by lia);have hb:(0:Int)<=v/87/3%ys.length/\v/87/3%ys.length<ys.length:=⟨Int.emod_nonneg _ (by lia),Int.emod_lt_of_pos _ (by lia)⟩
  obtain⟨q,hq⟩:∃q:Nat,v/87/3%ys.length=q:=⟨(v/87/3%ys.length).toNat,by lia⟩
  have jF:q<ys.length:=by lia
  have jH:(h5++[DO.lst []])[l]?=J (.lst (ys.map .str)):=by rw[Oe (ZO hy)];exact hy
  have len:ZcV P.GD .len [.ref l] (h5++[.lst []])=.ok (.int ys.length) (h5++[.lst []]):=by simp only[ZcV,ZmF,seqOf,lstOf,jH];simp
  have mh:Zbq P.GD (.ref l) (.int (q:Int)) (h5++[.lst []])=.ok (.str ys[q]) (h5++[.lst []]):=by rw[Z0 jH,IV.ZbH,O2,Og jF];rfl
  refine⟨.name ys[q],h5++[.lst []],a+1,b-1,?_,u5.trans Up.app,c5.st.app,by lia,by lia,kL _ (List.getElem_mem jF),Yw _⟩;have x6:xs1 (P.tbl (n1+2)) ZbO (ae w' k i m room v (v/87) l M M) h5=.ok (.rt (T.name ys[q]).d,(ae w' k i m room v (v/87) l M M)) (h5++[.lst []]):=by have el:ev (P.tbl (n1+2)) (.blt .len (.cons (.var 7) .nil)) (ae w' k i m room v (v/87) l M M) (h5++[.lst []])=.ok (.int ys.length) (h5++[.lst []]):=len;have ei:ev (P.tbl (n1+2)) (.bin .Mod (.bin .FloorDiv (.var 6) (.ci 3)) (.blt .len (.cons (.var 7) .nil))) (ae w' k i m room v (v/87) l M M) (h5++[.lst []])=.ok (.int (q:Int)) (h5++[.lst []]):=(Zj (x:=.int (v/87/3)) rfl el).trans (ix.trans (by rw[hq]));rw[hn.1]at t1;exact(Zi (Zn4 t1 (Zh (t2 _) (decide_eq_true hn.2)))).trans (Zd (Zu (Zan (Zc rfl (Zc ((Zm (x:=.ref l) rfl ei).trans mh) rfl)) (by simp))))
  rw[Zd x6];rfl
 . have x6:xs1 (P.tbl (n1+2)) ZbO (ae w' k i m room v (v/87) l M M) h5
    = .ok (.nx,(ae w' k i m room v (v/87) l M M)) (h5++[.lst []]):=by
    cases q:ys.isEmpty with
    |true=>rw[q]at t1;exact(Zf (ZrD t1)).trans rfl
    |false=>rw[q]at t1;have h3:¬ v/87%3=0:=λz=>hn ⟨q,z⟩;exact(Zf (Zn4 t1 (Zh (t2 _) (decide_eq_false h3)))).trans rfl
   have c6:=c5.app (g:=[.lst []]);have u6:=u5.trans (Up.app (i:=i) (g:=[.lst []]));clear t1 nn;generalize hh6:h5++[.lst []]=h6 at x6 c6 u6;rw[Za x6];have kJ:Zbq P.GD (.ref i) (.int 2) h6=.ok (.int (b-1)) h6:=by rw[Z0 c6.st.1];simp
   have r1:tst (P.tbl (n1+2)) (.ex (.cmp .Lt (.var 4) (.ci 1))) (ae w' k i m room v (v/87) l M M) h6=.ok (Wz (room<1)) h6:=rfl;have r2:tst (P.tbl (n1+2)) (.ex (.cmp .Lt (.ix (.var 2) (.ci 2)) (.ci 0))) (ae w' k i m room v (v/87) l M M) h6=.ok (Wz (b-1<0)) h6:=Zb9 ((Zp (y:=.int 0) (h2:=h6) ((Zm (x:=.ref i) (y:=.int 2) rfl rfl).trans kJ) rfl).trans rfl);obtain⟨t,g,ep,ct,pt⟩:=ZjB H (n1+1) w' (v/87/3) h6 (sc.map (·.1));by_cases hr:room<1
   . refine⟨t,h6++g,a+1,b-1,?_,u6.trans Up.app,c6.st.app,by lia,by lia,ct,by lia⟩;have x7:xs1 (P.tbl (n1+2)) ZaR (ae w' k i m room v (v/87) l M M) h6=.ok (.rt t.d,(ae w' k i m room v (v/87) l M M)) (h6++g):=(Zi (Zqp (Zh r1 (decide_eq_true hr)))).trans (Zd (Za8 ep rfl rfl));rw[Zd x7];rfl
   . by_cases hb:b-1<0
     . refine⟨t,h6++g,a+1,b-1,?_,u6.trans Up.app,c6.st.app,by lia,by lia,ct,by lia⟩;have x7:xs1 (P.tbl (n1+2)) ZaR (ae w' k i m room v (v/87) l M M) h6=.ok (.rt t.d,(ae w' k i m room v (v/87) l M M)) (h6++g):=(Zi (ZhU (Zh r1 (decide_eq_false hr)) (Zh r2 (decide_eq_true hb)))).trans (Zd (Za8 ep rfl rfl));rw[Zd x7];rfl
     . obtain⟨r,n0,n',q1,ih,q2,q3,q4,q5,q6,q7⟩:=rc (by lia);have Ap:=ZlE r;have x7:xs1 (P.tbl (n1+2)) ZaR (ae w' k i m room v (v/87) l M M) h6
        = .ok (.nx,(ae w' k i m room v (v/87) l M M)) h6:=by
        exact(Zf (ZhU (Zh r1 (decide_eq_false hr)) (Zh r2 (decide_eq_false hb)))).trans rfl
       have x8:xs1 (P.tbl (n1+2)) ZcK (ae w' k i m room v (v/87) l M M) h6
        = .ok (.nx,(ae w' k i m room v (v/87/30) l M M)) h6:=by
        exact rfl
       rw[Za x7,Za x8];by_cases h8:v/87/30%8=0
       . obtain⟨t1,g1,a1,b1,e1,u1,s1,l1,l2,c1,p1⟩:=ih (n'+1) cs ns h6 i j m k sc (a+1) (b-1) (O "n") (room-1) q1 c6 (by lia) (by lia);have jZ:=c6.up u1 s1 (by lia);obtain⟨t2,g2,a2,b2,e2,u2,s2,l3,l4,c2,p2⟩:=ih (n'+1) cs ns g1 i j m k sc a1 b1 w' (room-1) q1 jZ (by lia) (by lia);have ma:=jZ.up u2 s2 (by lia);obtain⟨t3,g3,a3,b3,e3,u3,s3,l5,l6,c3,p3⟩:=ih (n'+1) cs ns g2 i j m k sc a2 b2 w' (room-1) q1 ma (by lia) (by lia);rw[show n'+1+n0=n1+2 by lia]at e1 e2 e3;refine⟨.iff t1 t2 t3,g3,a3,b3,?_,u6.trans (u1.trans (u2.trans u3)),s3,by lia,by lia,⟨c1,c2,c3⟩,by simp only[dep];lia⟩;have x9:xs1 (P.tbl (n1+2)) ZbN (ae w' k i m room v (v/87/30) l M M) h6=.ok (.rt (T.iff t1 t2 t3).d,(ae w' k i m room v (v/87/30) l (J t1.d) (J t2.d))) g3:=by refine(Zi (Zh (t8 _) (decide_eq_true h8))).trans ?_;refine(Za (ρ1:=ae w' k i m room v (v/87/30) l (J t1.d) M) (R:=g1) (Za8 e1 rfl rfl)).trans ?_;refine(Za (ρ1:=ae w' k i m room v (v/87/30) l (J t1.d) (J t2.d)) (R:=g2) (Za8 e2 rfl rfl)).trans ?_;exact Zd (Za8 e3 rfl rfl)
         rw[Zd x9];rfl
       . have x9:xs1 (P.tbl (n1+2)) ZbN (ae w' k i m room v (v/87/30) l M M) h6=.ok (.nx,(ae w' k i m room v (v/87/30) l M M)) h6:=(Zf (Zh (t8 _) (decide_eq_false h8))).trans rfl;rw[Za x9];by_cases hw:w'=O "n"
         . obtain⟨t1,g1,a1,b1,e1,u1,s1,l1,l2,c1,p1⟩:=Zvl H ih q3 n' c6 (v/87/30/8) (room-1) q1 (by lia) (by lia);rw[<-q2]at e1;refine⟨t1,g1,a1,b1,?_,u6.trans u1,s1,by lia,by lia,c1,by lia⟩;have g8:xs1 (P.tbl (n1+2)) Za9 (ae w' k i m room v (v/87/30) l M M) h6=.ok (.rt t1.d,(ae w' k i m room v (v/87/30) l M M)) g1:=(Zi (Zh (Zad rfl rfl) (decide_eq_true hw))).trans (Zd (Za8 e1 rfl rfl));rw[Zd g8];rfl
         . obtain⟨t1,g1,a1,b1,e1,u1,s1,l1,l2,c1,p1⟩:=ZvQ H ih n' c6 w' (v/87/30/8) (room-1) q1 (by lia) (by lia);rw[<-q2]at e1;refine⟨t1,g1,a1,b1,?_,u6.trans u1,s1,by lia,by lia,c1,by lia⟩;have g8:xs1 (P.tbl (n1+2)) Za9 (ae w' k i m room v (v/87/30) l M M) h6=.ok (.nx,(ae w' k i m room v (v/87/30) l M M)) h6:=(Zf (Zh (Zad rfl rfl) (decide_eq_false hw))).trans rfl;have j6:xs1 (P.tbl (n1+2)) Zcc (ae w' k i m room v (v/87/30) l M M) h6=.ok (.rt t1.d,(ae w' k i m room v (v/87/30) l M M)) g1:=Za8 e1 rfl rfl;rw[Za g8,Zd j6];rfl
theorem ZrA(H:Mkr P):∀r:Nat,Zn5 P r (2*r+3)
 |0=>λn cs ns h i j m k sc a b w room hr c hl ha=>by have:=any_gen H n c w room (A 0) 3 (by decide) (by lia) (by have:=ZlE 0;lia) (by decide) (λz=>by lia);exact this
 |r+1=>λn cs ns h i j m k sc a b w room hr c hl ha=>by have Ap:=ZlE r;have As:=Zwk r;have:=any_gen H (n+2*r+2) c w room (A (r+1)) (3*(r+1)+3) (by lia) (by lia) (by lia) (by lia) (λ_=>⟨r,2*r+3,n,by lia,ZrA H r,by lia,by lia,by lia,by lia,by lia,by lia⟩);rw[show n+(2*(r+1)+3)=n+2*r+2+3 by lia];exact this
end
set_option tactic.hygienic true
section
noncomputable def ZcC:T->List D
 |.num n=>[.str (O "num"),.int n]
 |.name x=>[.str (O "name"),.str x]
 |.fn x _=>[.str (O "fn"),.str x]
 |.rcc f x _=>[.str (O "rec"),.str f,.str x]
 |.call _ _=>[.str (O "call")]
 |.iff _ _ _=>[.str (O "if")]
 |.op w _ _=>[.str w.s]
def Zlg(t:T):t.d=.tup (ZcC t++t.parts.map T.d):=by cases t<;>rfl
noncomputable def ZjT:D->Bool
 |.str _|.int _=>Wx
 |_=>Wy
def Zmn(t:T):∀d∈ZcC t,ZjT d=Wx:=by cases t<;>simp[ZcC,ZjT]
def ZqQ(hf:ZjT d=Wx):ZcV GD .isi [d,.ty "tuple"] h=.ok (.bl Wy) h:=by
 cases d with
 |str x=>rfl
 |int x=>rfl
 |_=>cases hf
def Zs2:ZcV GD .isi [.tup xs,.ty "tuple"] h=.ok (.bl Wx) h:=rfl
abbrev isT:Tx:=.ex (.blt .isi (.w V0 (.cst (.ty "tuple"))))
theorem Ziq{U:Tb}{ag rest:List D}:∀ds:List D,(∀d∈ds,ZjT d=Wx)->ag.length<sizeLine->ZG M (.nm 0) (tsto U (J isT)) (ev U e) (ds++rest) [M] ag h=ZG M (.nm 0) (tsto U (J isT)) (ev U e) rest [M] ag h
 |[],_,_=>rfl
 |d::ds,hd,hz=>by have:=ZqQ (GD:=U.GD) (h:=h) (hd d (by simp));rw[List.cons_append,Zak];simp[Wk.stays,hz,this];exact Ziq ds (λx hx=>hd x (by simp[hx])) hz
theorem Zio{U:Tb}{f:T->Int}:∀(ts:List T) (ag:List D) (h:Hd),(∀t∈ts,∀h,∃g,ev U e [J t.d] h=.ok (.int (f t)) (h++g))->ag.length+ts.length<=1000->∃g,ZG M (.nm 0) (tsto U (J isT)) (ev U e) (ts.map T.d) [M] ag h=.ok (ag++ts.map λt=>.int (f t)) (h++g)
 |[],ag,h,_,_=>⟨[],by simp[ZG,Wk.stays]⟩
 |t::ts,ag,h,ht,hz=>by
  simp only[Os]at hz;obtain⟨g1,e1⟩:=ht t (by simp) h;obtain⟨g2,e2⟩:=Zio (U:=U) (e:=e) (f:=f) ts (ag++[.int (f t)]) (h++g1) (λx hx=>ht x (by simp[hx])) (by simp;lia);refine⟨g1++g2,?_⟩;have fI:ag.length<sizeLine:=by rw[YC];lia
  have it:ZcV U.GD .isi [t.d,.ty "tuple"] h=.ok (.bl Wx) h:=by rw[Zlg];exact Zs2
  rw[Op,Zak];simp[Wk.stays,fI,it,e1,e2]
def Zf1{U:Tb}{f:T->Int}(t:T)(h:Hd)(ht:∀s∈t.parts,∀h,∃g,ev U e [J s.d] h=.ok (.int (f s)) (h++g)):∃g,ZG M (.nm 0) (tsto U (J isT)) (ev U e) (ZcC t++t.parts.map T.d) [M] [] h=.ok (t.parts.map λs=>.int (f s)) (h++g):=by obtain⟨g,e1⟩:=Zio (f:=f) t.parts [] h ht (by cases t<;>simp[T.parts]);refine⟨g,?_⟩;rw[Ziq _ (Zmn t) (by rw[YC];simp),e1];simp
theorem ints_map(f:T->Int):∀ts:List T,intsOf (ts.map λs=>D.int (f s))=J (ts.map f)
 |[]=>rfl
 |t::ts=>by rw[Op,intsOf,ints_map f ts];rfl
variable {P:Pg}
def ZmZ(t:T):(t.size:Int)=1+(t.parts.map λs=>(s.size:Int)).sum:=by
 unfold T.size;rw[T.places_parts];have:∀ts:List T,((ts.flatMap T.places).length:Int)=(ts.map λs=>(s.places.length:Int)).sum:=by
  intro ts;induction ts with
  |nil=>rfl
  |cons t ts ih=>rw[List.flatMap_cons,OA,Op,OI,<-ih];lia
 rw[Os,<-this]
 lia
def Zdi{t s:T}(hs:s∈t.parts):dep s<dep t:=by
 cases t<;>simp[T.parts]at hs<;>simp only[dep]
 . subst hs;lia
 . subst hs;lia
 . rcases hs with rfl|rfl<;>lia
 . rcases hs with rfl|rfl|rfl<;>lia
 . rcases hs with rfl|rfl<;>lia
theorem Zm3 (H:Mkr P):∀ (d n:Nat) (t:T) (h:Hd),dep t<=d->∃ g,run P (n+d+1) (O "_law_width") [t.d] h=.ok (.int t.size) (h++g):=by
 intro d;induction d with
 |zero =>
   intro n t h hd;rw [Zg H.width rfl];obtain⟨g,e⟩:=Zf1 (U:=⟨P.G,P.GD,run P (n+0),P.L⟩) (e:=.call (O "_law_width") (.cons (.var 0) .nil)) (f:=λs=>(s.size:Int)) t h (λs hs=>by have:=Zdi hs;lia);refine⟨g++[.lst (t.parts.map λs=>.int s.size)],?_⟩;rw [ZmZ,Zlg];have sm:ZcV P.GD .sum [.ref (h++g).length] (h++g++[.lst (t.parts.map λs=>D.int s.size)])=.ok (.int (t.parts.map λs=>(s.size:Int)).sum) (h++g++[.lst (t.parts.map λs=>D.int s.size)]):=by
     simp only [ZcV,Zry,lstOf,ZaU,Yz,ints_map];rfl
   simp at sm e;simp [ZcD,Zer,ZF,ZaV,Zdj,e,sm]
 |succ d ih =>
   intro n t h hd;rw [Zg H.width rfl];obtain⟨g,e⟩:=Zf1 (U:=⟨P.G,P.GD,run P (n+(d+1)),P.L⟩) (e:=.call (O "_law_width") (.cons (.var 0) .nil)) (f:=λs=>(s.size:Int)) t h (λs hs R=>by
     have:=Zdi hs;obtain⟨g,e⟩:=ih n s R (by lia);refine⟨g,?_⟩;have e':run P (n+(d+1)) (O "_law_width") [s.d] R=.ok (.int s.size) (R++g):=e;simp [e'])
   refine⟨g++[.lst (t.parts.map λs=>.int s.size)],?_⟩;rw [ZmZ,Zlg];have sm:ZcV P.GD .sum [.ref (h++g).length] (h++g++[.lst (t.parts.map λs=>D.int s.size)])=.ok (.int (t.parts.map λs=>(s.size:Int)).sum) (h++g++[.lst (t.parts.map λs=>D.int s.size)]):=by
     simp only [ZcV,Zry,lstOf,ZaU,Yz,ints_map];rfl
   simp at sm e;simp [ZcD,Zer,ZF,ZaV,Zdj,e,sm]
end
section
variable {P:Pg}
def max2(x y:Nat):(if (1+(y:Int)) > 1+x then 1+(y:Int)else 1+x)=((max x y+1:Nat):Int):=by split<;>lia
def Zv7(t:T):Zec (t.parts.map λs=>1+(dep s:Int)) 0=dep t:=by
 cases t with
 |num n=>rfl
 |name x=>rfl
 |fn x e=>simp[T.parts,Zec,dep];lia
 |rcc f x e=>simp[T.parts,Zec,dep];lia
 |call f a=>simp only[T.parts,Zec,dep,Op,Oy,Wr,List.foldl_nil];rw[max2]
 |op w f a=>simp only[T.parts,Zec,dep,Op,Oy,Wr,List.foldl_nil];rw[max2]
 |iff c t e=>simp only[T.parts,Zec,dep,Op,Oy,Wr,List.foldl_nil];rw[max2];split<;>lia
theorem ZuI (H:Mkr P):∀ (d n:Nat) (t:T) (h:Hd),dep t<=d->∃ g,run P (n+d+1) (O "_law_deep") [t.d] h=.ok (.int (dep t)) (h++g):=by
 have fin:∀ (t:T) (h g:Hd),Zn1 (.ref (h++g).length) (.int 0) (h++g++[.lst (t.parts.map λs=>D.int (1+(dep s:Int)))])=.ok (.int (dep t)) (h++g++[.lst (t.parts.map λs=>D.int (1+(dep s:Int)))]):=by
   intro t h g;have q:intsOf (t.parts.map λs=>D.int (1+(dep s:Int)))=J (t.parts.map λs=>1+(dep s:Int)):=ints_map (λs=>1+(dep s:Int)) t.parts;simp only [Zn1,lstOf,ZaU,Yz,q,Yu,Zv7,ofO_some]
 intro d;induction d with
 |zero =>
   intro n t h hd;rw [Zg H.deep rfl];obtain⟨g,e⟩:=Zf1 (U:=⟨P.G,P.GD,run P (n+0),P.L⟩) (e:=.bin .Add (.ci 1) (.call (O "_law_deep") (.cons (.var 0) .nil))) (f:=λs=>1+(dep s:Int)) t h (λs hs=>by have:=Zdi hs;lia);refine⟨g++[.lst (t.parts.map λs=>.int (1+(dep s:Int)))],?_⟩;have sm:=fin t h g;rw [Zlg];simp at sm e;simp [Zdx,Zft,ZF,ZaV,Zdj,e,sm]
 |succ d ih =>
   intro n t h hd;rw [Zg H.deep rfl];obtain⟨g,e⟩:=Zf1 (U:=⟨P.G,P.GD,run P (n+(d+1)),P.L⟩) (e:=.bin .Add (.ci 1) (.call (O "_law_deep") (.cons (.var 0) .nil))) (f:=λs=>1+(dep s:Int)) t h (λs hs R=>by
     have:=Zdi hs;obtain⟨g,e⟩:=ih n s R (by lia);refine⟨g,?_⟩;have e':run P (n+(d+1)) (O "_law_deep") [s.d] R=.ok (.int (dep s)) (R++g):=e;simp [e'])
   refine⟨g++[.lst (t.parts.map λs=>.int (1+(dep s:Int)))],?_⟩;have sm:=fin t h g;rw [Zlg];simp at sm e;simp [Zdx,Zft,ZF,ZaV,Zdj,e,sm]
theorem Zip(H:Mkr P)(hk:h[k]?=J (.lst xs0)):∀(xs:List Int) (j:Nat) (ag:List Int),ag.length+xs.length<=1000->j+xs.length<=1000->∃cs:List Int,cs.length=ag.length+xs.length /\
 ZG (J (k,xs0)) (.two 0 1) (tsto ⟨P.G,P.GD,run P (n+1),P.L⟩ M) (ev ⟨P.G,P.GD,run P (n+1),P.L⟩ (.call (O "_law_mixed") (.cons (.var 1) (.cons (.bin .Add (.var 0) (.ci 2)) .nil)))) (xs.mapIdx λq x=>D.tup [.int ((q+j:Nat):Int),.int x]) [M,M] (ag.map .int) h
  = .ok (cs.map .int) h
 |[],j,ag,_,_=>⟨ag,by simp,by simp[ZG,Wk.stays,hk]⟩
 |x::xs,j,ag,R,h2=>by
  simp only[Os]at R h2;obtain⟨cs,q1,q2⟩:=Zip H hk xs (j+1) (ag++[mixed x ((j:Int)+2)]) (by simp;lia) (by lia);refine⟨cs,by simp at q1;simp;lia,?_⟩;have e1:=ZjC H n x ((j:Int)+2) h ⟨by lia,by lia⟩;have hz:ag.length<sizeLine:=by rw[YC];lia
  have ei:(λ(q:Nat) (x:Int)=>D.tup [.int ((q+1+j:Nat):Int),.int x])=λq x=>D.tup [.int ((q+(j+1):Nat):Int),.int x]:=by funext q x;rw[show q+1+j=q+(j+1) by lia]
  rw[List.mapIdx_cons,Zak];simp only[Wk.stays,hk,decide_true,true_and,Yt,hz,if_true,Zrs,List.set_cons_zero,List.set_cons_succ,Zoa,Zoz,Zq,bind_ok,Zj0,ZfZ,ZJ,ZjZ,O0,OJ,Option.join_some,ofO_some,Zq6,ZvX,ZsG,Nat.zero_add,e1];rw[ei];have:=q2;rw[List.map_append]at this;exact this
end
set_option tactic.hygienic false
section
variable {P:Pg}{cs:List Int}{ns:List Str}{h h':Hd}{i j m:Nat}{a b:Int}
def ZrC(H:Mkr P)(r N:Nat)(hN:2*r+3<=N)(c:Ctx cs ns h i j m k sc a b)(w:Str)(room:Int)(hr:room<=r)(hl:sc.length+2*r<=50)(ha:a+A r<2^50):
 Made cs h i j sc a (A r) (3*r+3) (run P N (O "_law_any") [.str w,.ref k,.ref i,.ref m,.int room] h):=by
 have:=ZrA H r (N-(2*r+3)) cs ns h i j m k sc a b w room hr c hl ha;rw[show N-(2*r+3)+(2*r+3)=N by lia]at this;exact this
def Zkp(H:Mkr P)(N:Nat)(t:T)(h:Hd)(hd:dep t<N):∃g,run P N (O "_law_width") [t.d] h=.ok (.int t.size) (h++g):=by obtain⟨g,e⟩:=Zm3 H (dep t) (N-dep t-1) t h (Oq _);rw[show N-dep t-1+dep t+1=N by lia]at e;exact⟨g,e⟩
def Ztl(H:Mkr P)(N:Nat)(t:T)(h:Hd)(hd:dep t<N):∃g,run P N (O "_law_deep") [t.d] h=.ok (.int (dep t)) (h++g):=by obtain⟨g,e⟩:=ZuI H (dep t) (N-dep t-1) t h (Oq _);rw[show N-dep t-1+dep t+1=N by lia]at e;exact⟨g,e⟩
def Ctx.bare(c:Ctx cs ns h i j m k sc a b):Ctx cs ns (h++[.lst []]) i j m h.length [] a b:=by
 have c1:=c.app (g:=[.lst []]);refine⟨c1.st,c1.nm,c1.n5,c1.nok,c1.nd,by unfold Zpb;simp,by simp,c1.im,?_,c1.ab⟩;have:=ZO c.st.1
 lia
noncomputable def vp(ro:D)(st:Int)(o2 o3 o4 o5 o6:Option D):Ev:=[J ro,J (.int st),o2,o3,o4,o5,o6]
def ZsT:Sxs:=.o (.iff (.x .Lt (.f "_law_width" (.o V5)) (.ci 50)) (.w (.put V3 K2 K12) (.s 5 (.tupl (.u (.Ci_ "+") V5 (.f "_law_any" (.y (.Ci_ "n") (.lstl .n) V3 V4 K6)))))) .n)
inductive Turned(cs:List Int)(ns:List Str)(h:Hd)(i j m k:Nat)(sc:Scp)(a:Int)(dm:Nat)(S:Option D->Ev)(r:qe (Fl×Ev)):Prop
 |mk (t:T) (h':Hd) (a' b':Int) (e:r=.ok (.nx,S (J t.d)) h') (c:Cl [] t) (d:dep t<=dm) (u:Up i h h') (x:Ctx cs ns h' i j m k sc a' b') (l:a'<=a+65536)
def turn(H:Mkr P)(hN:40<=N)(c:Ctx cs ns h i j m k sc a b)(ct:Cl [] t)(hd:dep t<=30)(ha:a<2^45)(ro:D)(st:Int)(o2 o6:Option D):Turned cs ns h i j m k sc a (max (dep t) 21+1) (λo=>vp ro st o2 (J (.ref i)) (J (.ref m)) o o6)
 (xs2 (P.tbl N) ZsT (vp ro st o2 (J (.ref i)) (J (.ref m)) (J t.d) o6) h):=by
 have A6:A 6=16384:=by decide
 obtain⟨g,ew⟩:=Zkp H N t h (by lia);have c1:=c.app (g:=g);have te:tst (P.tbl N) (.ex (.cmp .Lt (.call (O "_law_width") (.cons (.var 5) .nil)) (.ci 50))) (vp ro st o2 (J (.ref i)) (J (.ref m)) (J t.d) o6) h=.ok (Wz ((t.size:Int)<50)) (h++g):=Zvt (Zv ew rfl) rfl;by_cases hw:(t.size:Int)<50
 . have p1:Zb3 (.ref i) (.int 2) (.int 12) (h++g)=.ok () ((h++g).set i (.lst [.ref j,.int a,.int 12])):=by simp only[Zb3,c1.st.1];rfl
   have s1:St3 ((h++g).set i (.lst [.ref j,.int a,.int 12])) i j cs a 12:=⟨by rw[Ol (ZO c1.st.1)],by rw[Oc c1.st.2.2];exact c1.st.2.1,c1.st.2.2⟩
   obtain⟨h2,p1,u1,c2⟩:∃h2,Zb3 (.ref i) (.int 2) (.int 12) (h++g)=.ok () h2/\Up i h h2/\Ctx cs ns h2 i j m k sc a 12:=⟨_,p1,Up.app.trans Up.set,c1.up Up.set s1 c.ab⟩
   obtain⟨t1,h3,a1,b1,e1,u3,s3,l1,l2,c3,p3⟩:=ZrC H 6 N (by lia) c2.bare (O "n") 6 (by decide) (by simp) (by rw[A6];lia);have u4:=u1.trans ((Up.app (i:=i) (g:=[.lst []])).trans u3);have x1:xs1 (P.tbl N) (.put (.var 3) (.ci 2) (.ci 12)) (vp ro st o2 (J (.ref i)) (J (.ref m)) (J t.d) o6) (h++g)=.ok (.nx,vp ro st o2 (J (.ref i)) (J (.ref m)) (J t.d) o6) h2:=by show qe.bnd (Zb3 (.ref i) (.int 2) (.int 12) (h++g)) _=_;rw[p1];rfl
   refine⟨.op .add t t1,h3,a1,b1,?_,⟨ct,c3⟩,by simp only[dep];lia,u4,c.up u4 s3 (by have:=c.ab;lia),by rw[A6]at l2;lia⟩;refine(Za ((Zi (Zh te (decide_eq_true hw))).trans ((Za x1).trans ((Za (Zl (Zan (Zc rfl (Zc rfl (Zc (Zv e1 (Zc rfl (Zc (Zij rfl (by simp)) rfl))) rfl))) (by simp)))).trans rfl)))).trans rfl
 . exact⟨t,h++g,a,b,(Za ((Zf (Zh te (decide_eq_false hw))).trans rfl)).trans rfl,ct,by lia,Up.app,c1,by lia⟩
def Zw2(zs:List Int)(st:Int)(hz:zs.length<=100):∃ys:List Int,ys.length<=100/\∀h:Hd,ZfK (.ro (zs.map D.int)) (J st) M h=.ok (.ref h.length) (h++[.lst (ys.map .int)]):=by
 refine⟨(zs.drop (HT.sIx zs.length 0 (J st))).take (HT.sIx zs.length zs.length M-HT.sIx zs.length 0 (J st)),?_,λh=>?_⟩
 . rw[List.length_take,List.length_drop]
   lia
 . show Zdr (.lst (cutD (zs.map D.int) (J st) M)) h=_;simp[cutD,List.map_drop,List.map_take]
inductive Begun(h:Hd)(S:Option D->Option D->Option D->Ev)(r:Sxs->qe (Fl×Ev))(U:Tb):Prop
 |mk (cs:List Int) (ns:List Str) (h':Hd) (i j m:Nat) (e:∀s,r s=xs2 U s (S (J (.ref j)) (J (.ref i)) (J (.ref m))) h') (c:Ctx cs ns (h'++[.lst []]) i j m h'.length [] 1 26) (l:h.length<=i) (u:Up i h h')
def ZuY(H:Mkr P)(hN:40<=N)(zs:List Int)(st:Int)(h:Hd)(hz:zs.length<=100):Begun h (λo2 o3 o4=>vp (.ro (zs.map .int)) st o2 o3 o4 M M) (λs=>xs2 (P.tbl N) (.cons ZaH (.cons ZdV (.cons ZdU s))) (vp (.ro (zs.map .int)) st M M M M M) h) (P.tbl N):=by
 obtain⟨N,rfl⟩:∃N3,N=N3+2:=⟨N-2,by lia⟩
 obtain⟨ys,mD,bU⟩:=Zw2 zs st hz;obtain⟨cs,gM,ec⟩:=Zip H (n:=N+1) (h:=h++[.lst (ys.map .int)]) (k:=h.length) (xs0:=ys.map .int) (by simp) ys 0 [] (by simp;lia) (by lia);have en:Zeo (ys.map D.int)=ys.mapIdx λq x=>D.tup [.int ((q+0:Nat):Int),.int x]:=by unfold Zeo;apply List.ext_getElem?;intro q;simp[List.getElem?_mapIdx];cases ys[q]?<;>rfl
 have ei:evi (P.tbl (N+2)) (.enu (.sl (.var 0) (J (.var 1)) M)) (vp (.ro (zs.map .int)) st M M M M M) h=.ok ⟨J (h.length,ys.map .int),Zeo (ys.map D.int)⟩ (h++[.lst (ys.map .int)]):=by rw[Zte,show ev (P.tbl (N+2)) (.sl (.var 0) (J (.var 1)) M) (vp (.ro (zs.map .int)) st M M M M M) h=.ok (.ref h.length) (h++[.lst (ys.map .int)])from bU h,Zq];simp[ZiS]
 rw[<-en]at ec;have x1:xs1 (P.tbl (N+2)) ZaH (vp (.ro (zs.map .int)) st M M M M M) h=.ok (.nx,vp (.ro (zs.map .int)) st (J (.ref (h++[DO.lst (ys.map .int)]).length)) M M M M) (h++[.lst (ys.map .int)]++[.lst (cs.map .int)]):=Zl (Zlc ei ec);generalize D.ro (zs.map .int)=ro at *;obtain⟨R,j,u1,k1,lj,x1⟩:∃(R:Hd) (j:Nat),Up R.length h R/\R[j]?=J (.lst (cs.map .int))/\j<R.length/\xs1 (P.tbl (N+2)) ZaH (vp ro st M M M M M) h=.ok (.nx,vp ro st (J (.ref j)) M M M M) R:=⟨_,_,Up.app.trans Up.app,ZaU,by simp,x1⟩
 have s2:St3 (R++[.lst [.ref j,.int 0,.int 26]]) R.length j cs 0 26:=⟨ZaU,by rw[Oe lj];exact k1,by lia⟩
 obtain⟨v,e3,_⟩:=ZlS H N s2 (by decide);rw[ZkG]at e3;obtain⟨ns,n5,nok,kB,e4⟩:=Zr2 H (N+1) v (R++[.lst [.ref j,.int 1,.int 26]]);have ln:=u1.1;refine⟨cs,ns,R++[.lst [.ref j,.int 1,.int 26]]++[.lst (ns.map .str)],R.length,j,(R++[DO.lst [.ref j,.int 1,.int 26]]).length,λs=>?_,⟨⟨by simp,by simp[Oe lj,k1],by lia⟩,by simp,n5,nok,kB,by unfold Zpb;simp,by simp,by simp,by simp,by decide⟩,ln,?_⟩
 . exact(Za x1).trans ((Za (Zl (Zij (Zc rfl (Zc rfl (Zc rfl rfl))) (by simp)))).trans ((Za (Zl (Zv e4 (Zc (Zv e3 rfl) rfl)))).trans rfl))
 . rw[Oz];exact⟨by simp;lia,λm a n=>by rw[Oe (by lia)];exact u1.2 m a n⟩
inductive Sixth(h:Hd)(i:Nat)(S:Option D->Ev)(r:qe (Fl×Ev)):Prop
 |mk (t:T) (h':Hd) (e:r=.ok (.nx,S (J t.d)) h') (c:Cl [] t) (s:t.size<=100) (d:dep t<=20) (u:Up i h h')
def ZuX(H:Mkr P)(hN:40<=N)(c:Ctx cs ns h i j m k sc a b)(ct:Cl [] t)(hd:dep t<=26)(ha:a<2^50)(ro:D)(st:Int)(o2 o4 o6:Option D):Sixth h i (λo=>vp ro st o2 (J (.ref i)) o4 o o6) (xs1 (P.tbl N) ZbY (vp ro st o2 (J (.ref i)) o4 (J t.d) o6) h):=by
 obtain⟨g1,ew⟩:=Zkp H N t h (by lia);obtain⟨g2,ed⟩:=Ztl H N t (h++g1) (by lia);have tw:tst (P.tbl N) (.ex (.cmp .Gt (.call (O "_law_width") (.cons (.var 5) .nil)) (.ci 100))) (vp ro st o2 (J (.ref i)) o4 (J t.d) o6) h=.ok (Wz ((100:Int)<t.size)) (h++g1):=ZvP (Zv ew rfl) rfl;have td:tst (P.tbl N) (.ex (.cmp .Gt (.call (O "_law_deep") (.cons (.var 5) .nil)) (.ci 20))) (vp ro st o2 (J (.ref i)) o4 (J t.d) o6) (h++g1)=.ok (Wz ((20:Int)<dep t)) (h++g1++g2):=ZvP (Zv ed rfl) rfl;have plain:∀{q:Sxs} (g:Hd),∃t' h',xs2 (P.tbl N) (.cons (.set (.nm 5) (.call (O "_law_plain") (.cons (.Ci_ "n") (.cons (.call (O "_law_next") (.cons (.var 3) .nil)) .nil)))) .nil) (vp ro st o2 (J (.ref i)) o4 (J t.d) o6) (h++g)=.ok (.nx,vp ro st o2 (J (.ref i)) o4 (J (T.d t')) o6) h'/\Cl [] t'/\dep t'<=2/\t'.size<=4/\Up i h h':=λg=>by
  obtain⟨N,rfl⟩:∃N3,N=N3+2:=⟨N-2,by lia⟩
  obtain⟨v,e8,_⟩:=ZlS H N (c.app (g:=g)).st ⟨c.ab,ha⟩;obtain⟨tp,gp,e9,q1,q2,q3⟩:=ZjB H (N+1) (O "n") v ((h++g).set i (.lst [.ref j,.int (a+1),.int b])) [];exact⟨tp,_,(Za (Zl (Zv e9 (Zc rfl (Zc (Zv e8 rfl) rfl))))).trans rfl,q1,q2,q3,(Up.app.trans Up.set).trans Up.app⟩
 by_cases hw:(100:Int)<t.size
 . obtain⟨t',h',e,q1,q2,q3,u⟩:=plain (q:=.nil) g1;exact⟨t',h',(Zi (Zqp (Zh tw (decide_eq_true hw)))).trans e,q1,by lia,by lia,u⟩
 . have jl:=Zh tw (decide_eq_false hw);by_cases hq:(20:Int)<dep t
   . obtain⟨t',h',e,q1,q2,q3,u⟩:=plain (q:=.nil) (g1++g2);rw[<-Oz]at e;exact⟨t',h',(Zi (ZhU jl (Zh td (decide_eq_true hq)))).trans e,q1,by lia,by lia,u⟩
   . exact⟨t,_,(Zf (ZhU jl (Zh td (decide_eq_false hq)))).trans rfl,ct,by lia,by lia,Up.app.trans Up.app⟩
def Zom(H:Mkr P)(hN:40<=N)(zs:List Int)(st:Int)(h:Hd)(hz:zs.length<=100):∃t h',run P (N+1) (O "_law_program") [.ro (zs.map .int),.int st] h=.ok (T.d t) h'/\Cl [] t/\t.size<=100/\dep t<=20/\h.length<=h'.length/\∀q,q<h.length->h'[q]?=h[q]? := by
 rw[Zhx H.program rfl];have A7:A 7=65536:=by decide
 cases ZuY H hN zs st h hz with
 |mk cs ns h3 i j m e3 c4 li u3=>
 cases ZrC H 7 N (by lia) c4 (O "n") 7 (by decide) (by decide) (by rw[A7];decide)with
 |mk t4 h4 a4 b4 e5 u4 s4 l1 l2 ct4 d4=>
 rw[A7]at l2;cases turn H hN (c4.up u4 s4 (by lia)) ct4 (by lia) (by lia) (.ro (zs.map .int)) st (J (.ref j)) (J (.int 0))with
 |mk t5 h5 a5 b5 e6 ct5 d5 u5 c6 l4=>
 cases turn H hN c6 ct5 (by lia) (by lia) (.ro (zs.map .int)) st (J (.ref j)) (J (.int 1))with
 |mk t6 h6 a6 b6 e7 ct6 d6 u6 c7 l6=>
 cases ZuX H hN c7 ct6 (by lia) (by lia) (.ro (zs.map .int)) st (J (.ref j)) (J (.ref m)) (J (.int 1))with
 |mk t hh x6 ct sz dt u=>
 have u8:=(u3.trans ((Up.app (i:=i) (g:=[.lst []])).trans ((u4.trans u5).trans u6))).trans u;refine⟨t,hh,?_,ct,sz,dt,u8.1,λq hq=>u8.2 q hq (by lia)⟩;have x5:xs1 (P.tbl N) ZbZ (vp (.ro (zs.map .int)) st (J (.ref j)) (J (.ref i)) (J (.ref m)) (J t4.d) M) h4=.ok (.nx,vp (.ro (zs.map .int)) st (J (.ref j)) (J (.ref i)) (J (.ref m)) (J t6.d) (J (.int 1))) h6:=(Zdv (w:=⟨M,[.int 0,.int 1]⟩) rfl).trans ((ZjX rfl e6).trans ((ZjX rfl e7).trans rfl));exact(congrArg Ze ((e3 (.cons ZdT (.cons ZbZ (.cons ZbY (.cons ZdS .nil))))).trans ((Za (Zl (Zv e5 (Zc rfl (Zc (Zij rfl (by simp)) rfl))))).trans ((Za x5).trans ((Za x6).trans rfl))))).trans rfl
end
end Gn
namespace Rw
open PySem L2 IV Gn
section
def ZH:Sxs:=.y (.iff (.ors (.c (.nq (.ix V1 K0) (.Ci_ "num")) (.one (.nq (.ix V2 K0) (.Ci_ "num"))))) (.o (.ret (.cst .non))) .n) (.iff (.q V0 (.Ci_ "<")) (.o (.ret (.tupl (.w (.Ci_ "num") (.ite (.x .Lt (.ix V1 K1) (.ix V2 K1)) K1 K0))))) .n) (.iff (.q V0 (.Ci_ "+")) (.o (.ret (.tupl (.w (.Ci_ "num") (.bin .Mod (.bin .Add (.ix V1 K1) (.ix V2 K1)) (.glo (O "BEYOND"))))))) .n) (.iff (.q V0 (.Ci_ "-")) (.o (.ret (.tupl (.w (.Ci_ "num") (.bin .Mod (.bin .Sub (.ix V1 K1) (.ix V2 K1)) (.glo (O "BEYOND"))))))) .n) (.ret (.tupl (.w (.Ci_ "num") (.bin .Mod (.bin .Mult (.ix V1 K1) (.ix V2 K1)) (.glo (O "BEYOND"))))))
def ZfR:Fd:=fd_ 3 ["word","first","second"] ZH
mutual
inductive Th where
 |num (n:Int)|clo (E:T) (ar:Ar)
inductive Ar where
 |nil|cons (x:Str) (v:Th) (r:Ar)
end
inductive Wt where
 |arg (A:T) (ar:Ar)|fn (V:Th)|iff (t e:T) (ar:Ar)|right (w:Wd) (F:T) (ar:Ar)|left (w:Wd) (V:Th)
inductive Sta where
 |go (E:T) (ar:Ar) (rest:List Wt)|back (V:Th) (rest:List Wt)
inductive Ans where
 |quiet (s:Sta)|loud (s:Sta)|value|stuck
noncomputable def Ar.get(x:Str):Ar->Option Th
 |.nil=>M
 |.cons y v r=>if y=x then J v else r.get x
noncomputable def Ar.len:Ar->Nat
 |.nil=>0
 |.cons _ _ r=>r.len+1
variable {P:Pg}{h:Hd}
noncomputable def wk(w:Wd)(a b:Int):Int:=match w with
 |.lt=>if a<b then 1 else 0
 |.add=>(a+b)%1000000
 |.sub=>(a-b)%1000000
 |.mul=>a*b%1000000
def worked_nn(hw:P.tb.lookup (O "worked")=J ZfR)(hb:P.G (O "BEYOND")=J (.int 1000000))(n:Nat)(w:Wd)(hx:0<=x/\x<1000000)(hy:0<=y/\y<1000000):run P (n+1) (O "worked") [.str w.s,(T.num x).d,(T.num y).d] h=.ok (T.num (wk w x y)).d h:=by
 rw[Zg hw (by rfl)];have gb:∀S,ev (P.tbl n) (.glo (O "BEYOND")) S h=.ok (.int 1000000) h:=λS=>by show qe.ofO (P.G (O "BEYOND")) h=_;rw[hb];rfl
 have m2:opB .Mult (.int x) (.int y) h=.ok (.int (x*y)) h:=ZeO ⟨ZL (by lia) (by lia),ZL (by lia) (by lia)⟩;have fin:∀(S:Ev) (e:Ex) (z:Int),ev (P.tbl n) e S h=.ok (.int z) h->xs1 (P.tbl n) (.ret (.tupl (.cons (.Ci_ "num") (.cons (.bin .Mod e (.glo (O "BEYOND"))) .nil)))) S h=.ok (.rt (T.num (z%1000000)).d,S) h:=λS e z q=>Zu (Zan (Zc rfl (Zc ((Zj q (gb S)).trans (ZM (by decide))) rfl)) (by simp))
 show Ze (xs2 (P.tbl n) ZH [J (.str w.s),J (T.num x).d,J (T.num y).d] h)=_;rw[nx1 (U:=P.tbl n) (ss:=ZH) (ρ1:=[J (.str w.s),J (T.num x).d,J (T.num y).d]) (h2:=h) rfl rfl];cases w with
 |lt=>by_cases e:x<y<;>simp[ZH,tlS,T.d,Wd.s,wk,e,YC]
 |add=>rw[nx1 (U:=P.tbl n) (ss:=tlS ZH) (ρ1:=[J (.str Wd.add.s),J (T.num x).d,J (T.num y).d]) (h2:=h) rfl rfl];exact rt1 (U:=P.tbl n) (ss:=tlS (tlS ZH)) ((Zi rfl).trans (Zd (fin _ _ (x+y) rfl))) rfl
 |sub=>rw[nx1 (U:=P.tbl n) (ss:=tlS ZH) (ρ1:=[J (.str Wd.sub.s),J (T.num x).d,J (T.num y).d]) (h2:=h) rfl rfl,nx1 (U:=P.tbl n) (ss:=tlS (tlS ZH)) (ρ1:=[J (.str Wd.sub.s),J (T.num x).d,J (T.num y).d]) (h2:=h) rfl rfl];exact rt1 (U:=P.tbl n) (ss:=tlS (tlS (tlS ZH))) ((Zi rfl).trans (Zd (fin _ _ (x-y) rfl))) rfl
 |mul=>rw[nx1 (U:=P.tbl n) (ss:=tlS ZH) (ρ1:=[J (.str Wd.mul.s),J (T.num x).d,J (T.num y).d]) (h2:=h) rfl rfl,nx1 (U:=P.tbl n) (ss:=tlS (tlS ZH)) (ρ1:=[J (.str Wd.mul.s),J (T.num x).d,J (T.num y).d]) (h2:=h) rfl rfl,nx1 (U:=P.tbl n) (ss:=tlS (tlS (tlS ZH))) (ρ1:=[J (.str Wd.mul.s),J (T.num x).d,J (T.num y).d]) (h2:=h) rfl rfl];exact rt1 (U:=P.tbl n) (ss:=tlS (tlS (tlS (tlS ZH)))) (fin _ _ (x*y) m2) rfl
end
section
variable {h:Hd}
noncomputable def isFn:T->Bool
 |.fn _ _|.rcc _ _ _=>Wx
 |_=>Wy
noncomputable def Ar.keys:Ar->List Str
 |.nil=>[]
 |.cons x _ r=>x::r.keys
theorem Ar.get_some:∀{ar:Ar},x∈ar.keys->∃v,ar.get x=J v
 |.nil,h=>by simp[Ar.keys]at h
 |.cons y v r,h=>by
  by_cases e:y=x
  . exact⟨v,by simp[Ar.get,e]⟩
  . have:x∈r.keys:=by
     simp[Ar.keys]at h;rcases h with z|z
     . exact absurd z.symm e
     . exact z
    obtain⟨u,q⟩:=Ar.get_some this;exact⟨u,by simp[Ar.get,e,q]⟩
mutual
def Zhw:Th->Prop
 |.num n=>0<=n/\n<1000000
 |.clo E ar=>isFn E=Wx/\Cl ar.keys E/\ArOk ar
def ArOk:Ar->Prop
 |.nil=>True
 |.cons _ v r=>Zhw v/\ArOk r
end
def ZmS(E:T)(ar:Ar):Option Th:=match E with
 |.num n=>J (.num n)
 |.name x=>ar.get x
 |.fn x e=>J (.clo (.fn x e) ar)
 |.rcc f x e=>J (.clo (.rcc f x e) ar)
 |_=>M
def step:Sta->Ans
 |.go E ar rest=>match E with
  |.call F A=>.quiet (.go F ar (.arg A ar::rest))
  |.iff C t e=>.quiet (.go C ar (.iff t e ar::rest))
  |.op w x y=>.quiet (.go x ar (.right w y ar::rest))
  |E=>match ZmS E ar with
   |some v=>.quiet (.back v rest)
   |none=>.stuck
 |.back V rest=>match rest with
  |[]=>.value
  |.arg A ar::r=>.quiet (.go A ar (.fn V::r))
  |.right w F ar::r=>.quiet (.go F ar (.left w V::r))
  |.fn W::r=>match W with
   |.clo (.fn x e) ar=>.loud (.go e (.cons x V ar) r)
   |.clo (.rcc f x e) ar=>.loud (.go e (.cons x V (.cons f (.clo (.rcc f x e) ar) ar)) r)
   |_=>.stuck
  |.iff t e ar::r=>match V with
   |.num z=>.loud (.go (if z=0 then e else t) ar r)
   |_=>.stuck
  |.left w W::r=>match W,V with
   |.num a,.num b=>.loud (.back (.num (wk w a b)) r)
   |_,_=>.stuck
end
end Rw
section
set_option maxHeartbeats 2000000
namespace Rw
open PySem L2 IV Gn
def ZiR:Wt->Prop
 |.arg A ar=>Cl ar.keys A/\ArOk ar
 |.fn V=>Zhw V
 |.iff t e ar=>Cl ar.keys t/\Cl ar.keys e/\ArOk ar
 |.right _ F ar=>Cl ar.keys F/\ArOk ar
 |.left _ V=>Zhw V
def ZiB:Sta->Prop
 |.go E ar rest=>Cl ar.keys E/\ArOk ar/\∀w∈rest,ZiR w
 |.back V rest=>Zhw V/\∀w∈rest,ZiR w
end Rw
end
namespace IV
open PySem L2
mutual
def D.pure:D->Bool
 |.non|.bl _|.int _|.str _=>Wx
 |.tup xs=>D.pures xs
 |_=>Wy
def D.pures:List D->Bool
 |[]=>Wx
 |x::xs=>D.pure x&&D.pures xs
end
mutual
def D.dp:D->Nat
 |.tup xs=>D.dps xs+1
 |_=>0
def D.dps:List D->Nat
 |[]=>0
 |x::xs=>max (D.dp x) (D.dps xs)
end
mutual
theorem Znd:∀d:D,d.pure=Wx->∃p,D.py rd d=J p/\p.depth<=d.dp/\YQ p p=Wx
 |.non,_=>⟨.none,rfl,Oq _,rfl⟩
 |.bl b,_=>⟨.bool b,rfl,Oq _,by simp[YQ]⟩
 |.int b,_=>⟨.int b,rfl,Oq _,by simp[YQ]⟩
 |.str b,_=>⟨.str b,rfl,Oq _,by simp[YQ]⟩
 |.tup xs,h=>by
  obtain⟨ps,e1,e2,e3⟩:=pys_same (rd:=rd) xs (by simpa[D.pure]using h);refine⟨.tuple ps,by simp[D.py,e1],?_,?_⟩
  . simp only[PyData.depth,D.dp];lia
  . simpa[YQ]using e3
 |.ref _,h=>by cases h
 |.ty _,h=>by cases h
 |.ro _,h=>by cases h
 |.kd _,h=>by cases h
theorem pys_same:∀ds:List D,D.pures ds=Wx->∃ps,D.pys rd ds=J ps/\PyData.depthAll ps<=D.dps ds/\PyData.eqvAll ps ps=Wx
 |[],_=>⟨[],rfl,Oq _,by simp[PyData.eqvAll]⟩
 |x::xs,h=>by
  rw[D.pures,Oa]at h;obtain⟨p,a1,a2,a3⟩:=Znd (rd:=rd) x h.1;obtain⟨ps,b1,b2,b3⟩:=pys_same (rd:=rd) xs h.2;refine⟨p::ps,by simp[D.pys,a1,b1],?_,?_⟩
  . simp only[PyData.depthAll,D.dps];lia
  . simp[PyData.eqvAll,a3,b3]
end
def ZoI(hp:d.pure=Wx)(hd:d.dp<=1100):Zdb n d d h=.ok (.bl (!n)) h:=by obtain⟨p,e1,e2,e3⟩:=Znd (rd:=ZiF h 4) d hp;unfold Zdb;rw[show ZiG h d=J p from e1];simp only;rw[if_pos (by lia),e3];cases n<;>rfl
end IV
namespace Rw
open PySem L2 IV Gn
theorem Zjw:∀{ar:Ar},ArOk ar->ar.get x=J v->Zhw v
 |.nil,_,h=>by simp[Ar.get]at h
 |.cons y u r,a,h=>by
  by_cases e:y=x
  . simp[Ar.get,e]at h;subst h;exact a.1
  . simp[Ar.get,e]at h;exact Zjw a.2 h
def wk_ok(w:Wd)(a b:Int):0<=wk w a b/\wk w a b<1000000:=by
 cases w<;>simp only[wk]
 . lia
 . lia
 . exact⟨Int.emod_nonneg _ (by decide),Int.emod_lt_of_pos _ (by decide)⟩
 . split<;>lia
def Zay{α:Type}{p:α->Prop}{x:α}{xs:List α}(a:p x)(b:∀y∈xs,p y):∀y∈x::xs,p y:=by
 intro y hy;rcases O3.mp hy with rfl|hy
 . exact a
 . exact b y hy
end Rw
namespace Tm
open PySem L2 IV
def ZaB:Sxs:=.w (.iff (.x .NotIn (.ix V0 K0) (.glo (O "FORMS"))) (.o (.ret (.tupl .n))) .n) (.ret (.sl V0 (J K1) (J (.bin .Add K1 (.ix (.ix (.glo (O "FORMS")) (.ix V0 K0)) K0)))))
def ZbE:Fd:=fd_ 1 ["E"] ZaB
def ZmC:Sxs:=.w (.iff (.x .NotIn (.ix V0 K0) (.glo (O "FORMS"))) (.o (.ret V0)) .n) (.ret (.sl V0 M (J (.bin .Add K1 (.ix (.ix (.glo (O "FORMS")) (.ix V0 K0)) K0)))))
def Zig:Fd:=fd_ 1 ["E"] ZmC
def ZiQ:Sxs:=.w (.iff (.x .NotIn (.ix V0 K0) (.glo (O "FORMS"))) (.o (.ret K0)) .n) (.ret (.ix (.ix (.glo (O "FORMS")) (.ix V0 K0)) K1))
def Zfe:Fd:=fd_ 1 ["front"] ZiQ
def ZtB:Sxs:=.u (.s 1 (.lstl .n)) (.forr (.nm 2) (.rev V0) (.w (.s 3 (.comp [O "k",O "done"] [M,J 1] (.rng (.f "count_parts" (.o V2))) (.nm 0) M (.meth .pop V1 .n))) (.drp (.meth .app V1 (.o (.bin .Add V2 (.blt .tup (.o V3)))))))) (.ret (.ix V1 K0))
def ZnE:Fd:=fd_ 1 ["fronts","done","front","parts"] ZtB
def ZmD:Sxs:=.w (.forr (.two 2 3) (.pl V1) (.o (.iff (.q V2 V0) (.o (.ret V3)) .n))) (.ret (.cst .non))
def Zih:Fd:=fd_ 2 ["name","around","known","thing"] ZmD
def Zrv:Sxs:=.w (.iff (.q (.ix V0 K0) (.Ci_ "clo")) (.o (.ret (.sl V0 (J K1) M))) .n) (.ret (.tupl (.w V0 (.tupl .n))))
def Zk7:Fd:=fd_ 1 ["thing"] Zrv
def ZmA:Sxs:=.w (.iff (.nq (.ix V0 K0) (.Ci_ "name")) (.o (.ret (.cst .non))) .n) (.ret (.f "bound_to" (.w (.ix V0 K1) V1)))
def Zic:Fd:=fd_ 2 ["place","around"] ZmA
def Zrt:Sxs:=.o (.ret (.bin .Add (.blt .tup (.o (.comp [O "name"] [M] (.pl (.f "bound_names" (.o V0))) (.nm 0) M (.tupl (.w V0 (.cst .non)))))) V1))
def Zk6:Fd:=fd_ 2 ["place","around"] Zrt
def Zey:Sxs:=.w (.sa "Pen" V0 "most" V1) (.sa "Pen" V0 "used" K0)
def Za3:Fd:=fd_ 2 ["self","most"] Zey
noncomputable def Zmz(x:Sx):Sxs:=(.cons (.iff (.ex (.cmp .Eq (.att [O "Pen"] (.var 0) (O "used")) (.att [O "Pen"] (.var 0) (O "most")))) (.cons x .nil) .nil) (.cons (.auga [O "Pen"] (.var 0) (O "used") (.ci 1)) .nil))
def Zmq(x:Sx):Fd:=⟨[O "self"],[O "self"],Zmz x⟩
def Zkl:Sxs:=.z (.s 3 (.lstl .n)) (.s 4 (.lstl (.o (.tupl (.w V1 V2))))) (.whl (.ex V4) (.u (.s 5 (.meth .pop V4 .n)) (.s 6 (.f "meant_by" (.w (.ix V5 K0) (.ix V5 K1)))) (.iff (.x .Is V6 (.cst .non)) (.z (.drp (.m "Pen" "take_place" V0 .n)) (.drp (.meth .app V3 (.o (.f "front_of" (.o (.ix V5 K0)))))) (.s 7 (.f "within" (.w (.ix V5 K0) (.ix V5 K1)))) (.drp (.meth .ext V4 (.o (.comp [O "part",O "inner"] [M,J 7] (.rev (.f "parts_of" (.o (.ix V5 K0)))) (.nm 0) M (.tupl (.w V0 V1))))))) (.o (.drp (.meth .app V4 (.o (.f "opened" (.o V6))))))))) (.ret (.f "built" (.o V3)))
def ZfY:Fd:=fd_ 3 ["self","E","around","fronts","waiting","pair","thing","inner"] Zkl
structure Trb(P:Pg):Prop extends Gn.Tre P where
 bound_names:P.tb.lookup (O "bound_names")=J ZbE
 front_of:P.tb.lookup (O "front_of")=J Zig
 count_parts:P.tb.lookup (O "count_parts")=J Zfe
 built:P.tb.lookup (O "built")=J ZnE
 bound_to:P.tb.lookup (O "bound_to")=J Zih
 opened:P.tb.lookup (O "opened")=J Zk7
 meant_by:P.tb.lookup (O "meant_by")=J Zic
 within:P.tb.lookup (O "within")=J Zk6
 n_Pen___init__:P.tb.lookup (mnm (O "Pen") (O "__init__"))=M
 Pen___init__:P.ms.lookup (mnm (O "Pen") (O "__init__"))=J Za3
 n_Pen_take_place:P.tb.lookup (mnm (O "Pen") (O "take_place"))=M
 tk:∃x,P.ms.lookup (mnm (O "Pen") (O "take_place"))=J (Zmq x)
 n_Pen_filled:P.tb.lookup (mnm (O "Pen") (O "filled"))=M
 Pen_filled:P.ms.lookup (mnm (O "Pen") (O "filled"))=J ZfY
section
section
variable {w:Wd}
@[simp]def Zpl:(w.s=O "num")↔False:=by cases w<;>simp[Wd.s]
@[simp]def ZmN:(w.s=O "name")↔False:=by cases w<;>simp[Wd.s]
@[simp]def ZmO:(w.s=O "call")↔False:=by cases w<;>simp[Wd.s]
@[simp]def Zpm:(w.s=O "if")↔False:=by cases w<;>simp[Wd.s]
@[simp]def Zkq:Zbp Gn.Zef (.inr w.s)=J (.tup [.int 0,.int 2]):=by cases w<;>rfl
end
noncomputable abbrev Ar:=List (Str×Option T)
noncomputable def get:Ar->Str->Option T
 |[],_=>M
 |(y,v)::r,x=>if y=x then v else get r x
end
def sub:Ar->T->T
 |_,.num n=>.num n
 |ar,.name x=>(get ar x).getD (.name x)
 |ar,.fn x e=>.fn x (sub ((x,M)::ar) e)
 |ar,.rcc f x e=>.rcc f x (sub ((f,M)::(x,M)::ar) e)
 |ar,.call f a=>.call (sub ar f) (sub ar a)
 |ar,.iff c t e=>.iff (sub ar c) (sub ar t) (sub ar e)
 |ar,.op w a b=>.op w (sub ar a) (sub ar b)
def NN(ar:Ar):Prop:=∀x,get ar x=M
def NN.cons(h:NN ar)(y:Str):NN ((y,M)::ar):=λx=>by
 unfold get;split
 . rfl
 . exact h x
theorem ZbS:∀(t:T) {ar:Ar},NN ar->sub ar t=t
 |.num _,_,_=>rfl
 |.name x,_,h=>by rw[sub,h x];rfl
 |.fn x e,_,h=>by rw[sub,ZbS e (h.cons x)]
 |.rcc f x e,_,h=>by rw[sub,ZbS e ((h.cons x).cons f)]
 |.call f a,_,h=>by rw[sub,ZbS f h,ZbS a h]
 |.iff c t e,_,h=>by rw[sub,ZbS c h,ZbS t h,ZbS e h]
 |.op w a b,_,h=>by rw[sub,ZbS a h,ZbS b h]
def Zb(t:T):t.size=1+(t.parts.map T.size).sum:=by
 unfold T.size;rw[T.places_parts];simp only[Os,List.length_flatMap]
 lia
def Zk(t:T):1<=t.size:=by rw[Zb];lia
end Tm
namespace Rw
open PySem L2 IV
mutual
def rd:Th->T
 |.num n=>.num n
 |.clo E ar=>Tm.sub (ra ar) E
def ra:Ar->List (Str×Option T)
 |.nil=>[]
 |.cons x v r=>(x,J (rd v))::ra r
end
end Rw
namespace Tm
open PySem L2 IV
section
variable {P:Pg}
def Zdd(e:h[j]?=J (.lst L))(b:ZbL g d S=J ρ1)(q:body ρ1 h=.ok (.nx,ρ2) h2):ZQ (J (j,L)) g body (d::ds) S h=ZQ (J (j,L)) g body ds ρ2 h2:=by
 have:Wk.stays (J (j,L)) h=Wx:=by simp[Wk.stays,e]
 rw[ZQ,if_pos this,b];simp only;rw[q];rfl
def Zeg(e:h[j]?=J (.lst L)):ZQ (J (j,L)) g body [] S h=.ok (.nx,S) h:=by
 have:Wk.stays (J (j,L)) h=Wx:=by simp[Wk.stays,e]
 rw[ZQ,if_pos this]
noncomputable def Zbj(mo:D)(u:Int):DO:=.ins (O "Pen") [(O "most",mo),(O "used",.int u)]
def Lim(mo:D)(z:Int):Prop:=mo=.non\/∃m:Int,mo=.int m/\z<=m
def ZwZ(H:Trb P)(n:Nat)(mo:D)(h:Hd):Zg5 (run P (n+1)) (O "Pen") [mo] h=.ok (.ref h.length) (h++[Zbj mo 0]):=by unfold Zg5;rw[Zz H.n_Pen___init__ H.Pen___init__ (by rfl)];simp[Za3,Zey,ZF,Zgr,ZhQ,YC,Zbj]
def Zs3:IV.Zdb Wy (D.int u) D.non h=.ok (D.bl Wy) h:=by
 have e:YQ (.int u) .none=Wy:=by simp[YQ]
 show(if min (PyData.int u).depth PyData.none.depth<=1100 then qe.ok (D.bl (if Wy then !YQ (.int u) .none else YQ (.int u) .none)) h else .bad)=_;rw[if_pos (by simp[PyData.depth]),e];rfl
def ZpU(H:Trb P)(n:Nat)(lm:Lim mo (u+1))(hp:h[pk]?=J (Zbj mo u)):run P (n+1) (mnm (O "Pen") (O "take_place")) [.ref pk] h=.ok .non (h.set pk (Zbj mo (u+1))):=by
 obtain⟨x,ht⟩:=H.tk;rw[Zz H.n_Pen_take_place ht (by rfl)];have ne:IV.Zdb Wy (D.int u) mo h=.ok (D.bl Wy) h:=by
  rcases lm with rfl|⟨m,rfl,q⟩
  . exact Zs3
  . have:¬ u=m:=by lia
    simp[this]
 unfold Zbj at hp ⊢;simp[Zmq,Zmz,ZF,ZgB,Zah,hp,Wm,ne,Zgr,ZhQ]
def Wid(P:Pg):Prop:=∃m,P.ms.lookup (mnm (O "Pen") (O "take_place"))=J (Zmq (.rai (O "Wide") (.cst m)))
def Zkz(H:Trb P)(w:Wid P)(n:Nat)(hp:h[pk]?=J (Zbj (.int u) u)):run P (n+1) (mnm (O "Pen") (O "take_place")) [.ref pk] h=.exc (O "Wide") h:=by
 obtain⟨m,ht⟩:=w;rw[Zz H.n_Pen_take_place ht (by rfl)];have t1:tst (P.tbl n) (.ex (.cmp .Eq (.att [O "Pen"] (.var 0) (O "used")) (.att [O "Pen"] (.var 0) (O "most")))) [J (.ref pk)] h=.ok Wx h:=by unfold Zbj at hp;simp[ZgB,Zah,hp,Wm]
 exact congrArg Ze (Zc6 (r:=tlS (Zmz (.rai (O "Wide") (.cst m)))) ((Zi t1).trans (Zc6 (ZwX rfl))))
theorem Za1:∀(xs:List Str) (ar:Ar) {x:Str}{V:T},get (xs.map (λy=>(y,M))++ar) x=J V->get ar x=J V
 |[],ar,x,V,e=>e
 |y::xs,ar,x,V,e=>by
  rw[Op,List.cons_append,get]at e;split at e
  . cases e
  . exact Za1 xs ar e
def Zst{t s:T}(hs:s∈t.parts):s.size+1<=t.size:=by
 rw[Zb t];have:∀l:List T,s∈l->s.size<=(l.map T.size).sum:=by
  intro l;induction l with
  |nil=>intro z;cases z
  |cons a r ih=>
   intro z;rw[Op,OI];rcases O3.mp z with rfl|z
   . lia
   . have:=ih z;lia
 have:=this _ hs
 lia
theorem grown{h0 h:Hd}(hl:h0.length<=h.length)(old:∀ i,i<h0.length->h[i]?=h0[i]?):∃ g,h=h0++g:=⟨h.drop h0.length,by
 apply List.ext_getElem?;intro i;rcases Nat.lt_or_ge i h0.length with q|q
 . rw [old i q,Oe q]
 . rw [Om q,List.getElem?_drop];congr 1
   lia⟩
def Aft(h0 h:Hd)(pk:Nat)(mo:D)(u:Int):Prop:=h[pk]?=J (Zbj mo u)/\h0.length<=h.length/\∀i,i<h0.length->i≠pk->h[i]?=h0[i]?
noncomputable abbrev Fil:=List (Str×T)
noncomputable def Fil.ar(f:Fil):Ar:=f.map λp=>(p.1,J p.2)
end
section
variable {h:Hd}
noncomputable def isV:T->Bool
 |.num _|.fn _ _|.rcc _ _ _=>Wx
 |_=>Wy
def pth:T->List (T×Nat)
 |.call f a=>if isV f then(if isV a then []else(.call f a,2)::pth a)else(.call f a,1)::pth f
 |.op w f a=>if isV f then(if isV a then []else(.op w f a,2)::pth a)else(.op w f a,1)::pth f
 |.iff c t e=>if isV c then []else(.iff c t e,1)::pth c
 |_=>[]
def bot:T->T
 |.call f a=>if isV f then(if isV a then .call f a else bot a)else bot f
 |.op w f a=>if isV f then(if isV a then .op w f a else bot a)else bot f
 |.iff c t e=>if isV c then .iff c t e else bot c
 |t=>t
noncomputable def Zbk:T->Nat->T->T
 |.call _ a,1,u=>.call u a
 |.call f _,2,u=>.call f u
 |.op w _ a,1,u=>.op w u a
 |.op w f _,2,u=>.op w f u
 |.iff _ t e,1,u=>.iff u t e
 |s,_,_=>s
def ZaJ:List (T×Nat)->T->T
 |[],u=>u
 |(s,k)::r,u=>Zbk s k (ZaJ r u)
def p1c:Zbk (.call f a) 1 u=.call u a:=rfl
def p2c:Zbk (.call f a) 2 u=.call f u:=rfl
def p1o:Zbk (.op w f a) 1 u=.op w u a:=rfl
def p2o:Zbk (.op w f a) 2 u=.op w f u:=rfl
def p1i:Zbk (.iff c t e) 1 u=.iff u t e:=rfl
def Zeh(f:Str)(F:T)(x:Str)(A:T):Fil:=if f=x then [(x,A)]else [(f,F),(x,A)]
def bec:T->Option T
 |.call F A=>match F with
  |.fn x e=>J (sub (Fil.ar [(x,A)]) e)
  |.rcc f x e=>J (sub (Fil.ar (Zeh f (.rcc f x e) x A)) e)
  |_=>M
 |.iff c t e=>match c with
  |.num z=>J (if z=0 then e else t)
  |_=>M
 |.op w a b=>match a,b with
  |.num a,.num b=>J (.num (_root_.Rw.wk w a b))
  |_,_=>M
 |_=>M
def next(t:T):Option T:=(bec (bot t)).map (ZaJ (pth t))
noncomputable def oT:Option T->D
 |some t=>t.d
 |none=>.non
theorem ZcN(hM:1<=qd):∀(t:T) (ar:Ar),(∀x V,get ar x=J V->V.size<=qd)->(sub ar t).size<=t.size*qd
 |.num _,_,_=>by simp[sub,T.size,T.places];lia
 |.name x,ar,hv=>by
  cases e:get ar x with
  |none=>simp[sub,e,T.size,T.places];lia
  |some V=>have:=hv x V e;simp[sub,e];simp[T.size,T.places]at *;lia
 |.fn x e,ar,hv=>by
  have ih:=ZcN hM e ((x,M)::ar) (λy V q=>hv y V (Za1 [x] ar q));rw[sub,Zb,Zb (.fn x e)];simp[T.parts,Nat.add_mul]at ih ⊢
  lia
 |.rcc f x e,ar,hv=>by
  have ih:=ZcN hM e ((f,M)::(x,M)::ar) (λy V q=>hv y V (Za1 [f,x] ar q));rw[sub,Zb,Zb (.rcc f x e)];simp[T.parts,Nat.add_mul]at ih ⊢
  lia
 |.call f a,ar,hv=>by
  have i1:=ZcN hM f ar hv;have i2:=ZcN hM a ar hv;rw[sub,Zb,Zb (.call f a)];simp[T.parts,Nat.add_mul]at i1 i2 ⊢
  lia
 |.op w f a,ar,hv=>by
  have i1:=ZcN hM f ar hv;have i2:=ZcN hM a ar hv;rw[sub,Zb,Zb (.op w f a)];simp[T.parts,Nat.add_mul]at i1 i2 ⊢
  lia
 |.iff c t e,ar,hv=>by
  have i1:=ZcN hM c ar hv;have i2:=ZcN hM t ar hv;have i3:=ZcN hM e ar hv;rw[sub,Zb,Zb (.iff c t e)];simp[T.parts,Nat.add_mul]at i1 i2 i3 ⊢
  lia
theorem ZjW:∀(f:Fil) {x:Str}{V:T},get f.ar x=J V->(x,V)∈f
 |[],x,V,e=>by cases e
 |(y,W)::r,x,V,e=>by
  rw[Fil.ar,Op,get]at e;split at e
  . rename_i q;cases e;rw[<-q];exact Oi
  . exact Oh _ (ZjW r e)
def Zq1{t:T}{f:Fil}(hs:∀p∈f,p.2.size<=300):(sub f.ar t).size<=t.size*300:=ZcN (qd:=300) (by lia) t f.ar λx V e=>hs (x,V) (ZjW f e)
def Red:T->Prop
 |.call f a=>isV f=Wx/\isV a=Wx
 |.op _ f a=>isV f=Wx/\isV a=Wx
 |.iff c _ _=>isV c=Wx
 |_=>False
theorem ZeV:∀t:T,isV t=Wy->Gn.Cl [] t->Red (bot t)/\Gn.Cl [] (bot t)/\(bot t).size<=t.size
 |.num _,nv,_=>by cases nv
 |.name x,_,c=>by cases c
 |.fn _ _,nv,_=>by cases nv
 |.rcc _ _ _,nv,_=>by cases nv
 |.call f a,_,c=>by
  have z:(T.call f a).size=1+(f.size+a.size):=by rw[Zb];simp[T.parts]
  simp only[bot];split
  . split
    . exact⟨⟨by assumption,by assumption⟩,c,Oq _⟩
    . rename_i q;have ih:=ZeV a (by simpa using q) c.2;exact⟨ih.1,ih.2.1,by lia⟩
  . rename_i q;have ih:=ZeV f (by simpa using q) c.1;exact⟨ih.1,ih.2.1,by lia⟩
 |.op w f a,_,c=>by
  have z:(T.op w f a).size=1+(f.size+a.size):=by rw[Zb];simp[T.parts]
  simp only[bot];split
  . split
    . exact⟨⟨by assumption,by assumption⟩,c,Oq _⟩
    . rename_i q;have ih:=ZeV a (by simpa using q) c.2;exact⟨ih.1,ih.2.1,by lia⟩
  . rename_i q;have ih:=ZeV f (by simpa using q) c.1;exact⟨ih.1,ih.2.1,by lia⟩
 |.iff f a b,_,c=>by
  have z:(T.iff f a b).size=1+(f.size+(a.size+b.size)):=by rw[Zb];simp[T.parts]
  simp only[bot];split
  . exact⟨by assumption,c,Oq _⟩
  . rename_i q;have ih:=ZeV f (by simpa using q) c.1;exact⟨ih.1,ih.2.1,by lia⟩
def Kp(ar:Ar)(sc aF:List Str):Prop:=∀x∈sc,(∃V,get ar x=J V/\Gn.Cl [] V)\/(get ar x=M/\x∈aF)
def Kp.bind(k:Kp ar sc aF)(y:Str):Kp ((y,M)::ar) (y::sc) (y::aF):=λx hx=>by
 unfold get;by_cases e:y=x
 . rw[if_pos e];exact .inr ⟨rfl,by rw[e];exact Oi⟩
 . rw[if_neg e];rcases O3.mp hx with z|z
   . exact absurd z.symm e
   . rcases k x z with q|q
     . exact .inl q
     . exact .inr ⟨q.1,Oh _ q.2⟩
def Kp.two(k:Kp ar sc aF)(f x:Str):Kp ((f,M)::(x,M)::ar) (x::f::sc) (x::f::aF):=λz hz=>by
 have q:=(k.bind x).bind f z (by simp at hz ⊢;rcases hz with h|h|h<;>simp[h]);rcases q with q|q
 . exact .inl q
 . exact .inr ⟨q.1,by have:=q.2;simp at this ⊢;rcases this with h|h|h<;>simp[h]⟩
theorem ZbW:∀(t:T) {ar:Ar}{sc aF:List Str},Kp ar sc aF->Gn.Cl sc t->Gn.Cl aF (sub ar t)
 |.num _,_,_,_,_,c=>c
 |.name x,ar,sc,aF,k,c=>by
  rcases k x c with⟨V,e,cv⟩|⟨e,m⟩
  . rw[sub,e];exact Gn.Cl.mono (λy hy=>by cases hy) cv
  . rw[sub,e];exact m
 |.fn x e,_,_,_,k,c=>⟨ZbW e (k.bind x) c.1,c.2⟩
 |.rcc f x e,_,_,_,k,c=>⟨ZbW e (k.two f x) c.1,c.2⟩
 |.call f a,_,_,_,k,c=>⟨ZbW f k c.1,ZbW a k c.2⟩
 |.iff f a b,_,_,_,k,c=>⟨ZbW f k c.1,ZbW a k c.2.1,ZbW b k c.2.2⟩
 |.op _ f a,_,_,_,k,c=>⟨ZbW f k c.1,ZbW a k c.2⟩
def d_s(q:a<=b+qd):a+1<=b+1+qd:=by lia
def d_m{a b c d qd:Nat}(p:a<=b+qd)(q:c<=d+qd):max a c<=max b d+qd:=Nat.max_le.mpr ⟨OE p (Nat.add_le_add_right (Nat.le_max_left _ _) _),OE q (Nat.add_le_add_right (Nat.le_max_right _ _) _)⟩
theorem ZaG{qd:Nat}:∀(t:T) (ar:Ar),(∀x V,get ar x=J V->Gn.dep V<=qd)->Gn.dep (sub ar t)<=Gn.dep t+qd
 |.num _,_,_=>Yw _
 |.name x,ar,hv=>by
  cases e:get ar x with
  |none=>simp[sub,e,Gn.dep]
  |some V=>have:=hv x V e;simp[sub,e];lia
 |.fn x e,ar,hv=>d_s (ZaG e ((x,M)::ar) (λy V q=>hv y V (Za1 [x] ar q)))
 |.rcc f x e,ar,hv=>d_s (ZaG e ((f,M)::(x,M)::ar) (λy V q=>hv y V (Za1 [f,x] ar q)))
 |.call f a,ar,hv=>d_s (d_m (ZaG f ar hv) (ZaG a ar hv))
 |.op w f a,ar,hv=>d_s (d_m (ZaG f ar hv) (ZaG a ar hv))
 |.iff c t e,ar,hv=>d_s (d_m (ZaG c ar hv) (d_m (ZaG t ar hv) (ZaG e ar hv)))
def zc(f a:T):(T.call f a).size=1+(f.size+a.size):=by rw[Zb];simp[T.parts]
def zo(w:Wd)(f a:T):(T.op w f a).size=1+(f.size+a.size):=by rw[Zb];simp[T.parts]
def zi(f a b:T):(T.iff f a b).size=1+(f.size+(a.size+b.size)):=by rw[Zb];simp[T.parts]
def zf(x:Str)(e:T):(T.fn x e).size=1+e.size:=by rw[Zb];simp[T.parts]
def zr(f x:Str)(e:T):(T.rcc f x e).size=1+e.size:=by rw[Zb];simp[T.parts]
def l_2{a b c d:Nat}(p:a<c)(q:b<d):max a b<c+d:=Nat.max_lt.mpr ⟨Ot p (Nat.le_add_right _ _),Ot q (Wb _ _)⟩
def l_1{a c:Nat}(p:a<c):a+1<1+c:=by lia
theorem Zcp:∀t:T,Gn.dep t<t.size
 |.num _=>by simp[Gn.dep,T.size,T.places]
 |.name _=>by simp[Gn.dep,T.size,T.places]
 |.fn x e=>by rw[zf];exact l_1 (Zcp e)
 |.rcc f x e=>by rw[zr];exact l_1 (Zcp e)
 |.call f a=>by rw[zc];exact l_1 (l_2 (Zcp f) (Zcp a))
 |.op w f a=>by rw[zo];exact l_1 (l_2 (Zcp f) (Zcp a))
 |.iff c t e=>by rw[zi];exact l_1 (l_2 (Zcp c) (l_2 (Zcp t) (Zcp e)))
def Zq2{f:Fil}(hc:∀p∈f,Gn.Cl [] p.2)(sc:List Str)(hk:∀x∈sc,x∈f.map (·.1)):Kp f.ar sc []:=λx hx=>by
 have:∀(f:Fil),(∀p∈f,Gn.Cl [] p.2)->x∈f.map (·.1)->∃V,get f.ar x=J V/\Gn.Cl [] V:=by
  intro f;induction f with
  |nil=>intro _ z;cases z
  |cons p r ih=>
   intro hc z;rw[Fil.ar,Op,get];by_cases e:p.1=x
   . rw[if_pos e];exact⟨p.2,rfl,hc p Oi⟩
   . rw[if_neg e];rw[Op]at z;rcases O3.mp z with q|q
     . exact absurd q.symm e
     . exact ih (λp hp=>hc p (Oh _ hp)) q
 exact .inl (this f hc (hk x hx))
def Zty(t u:T)(r:Red t)(c:Gn.Cl [] t)(hz:t.size<=300)(e:bec t=J u):Gn.Cl [] u/\u.size<=t.size*300:=by
 cases t with
 |call F A=>
  have z:=zc F A;cases F with
  |fn x b=>cases e;have zb:=zf x b;have fo:=Zq1 (t:=b) (f:=[(x,A)]) (by simp;lia);refine⟨ZbW b (Zq2 (by simp;exact c.2) [x] (by simp)) c.1.1,OE fo (Nat.mul_le_mul_right _ (by rw[z,zb];lia))⟩
  |rcc f x b=>
   cases e;have zb:=zr f x b;have mem:∀p∈Zeh f (.rcc f x b) x A,p.2=.rcc f x b\/p.2=A:=by
    intro p hp;unfold Zeh at hp;split at hp
    . simp at hp;rw[hp];exact .inr rfl
    . simp at hp;rcases hp with rfl|rfl
      . exact .inl rfl
      . exact .inr rfl
   have fo:=Zq1 (t:=b) (f:=Zeh f (.rcc f x b) x A) (λp hp=>by rcases mem p hp with q|q<;>rw[q]<;>lia);refine⟨ZbW b (Zq2 (λp hp=>by rcases mem p hp with q|q<;>rw[q];exact c.1;exact c.2) [x,f] (by unfold Zeh;split<;>simp_all)) c.1.1,OE fo (Nat.mul_le_mul_right _ (by rw[z,zb];lia))⟩
  |_=>cases e
 |iff a b d=>
  have z:=zi a b d;cases a with
  |num m=>
   simp only[bec,Option.some.injEq]at e;subst e;split
   . exact⟨c.2.2,by lia⟩
   . exact⟨c.2.1,by lia⟩
  |_=>cases e
 |op w a b=>
  cases a with
  |num x=>
   cases b with
   |num y=>cases e;have:=_root_.Rw.wk_ok w x y;exact⟨this,by simp[T.size,T.places]⟩
   |_=>cases e
  |_=>cases e
 |_=>cases r
def Zqd:∀(t:T) (u:T),Gn.Cl [] t->Gn.Cl [] u->Gn.Cl [] (ZaJ (pth t) u)/\(ZaJ (pth t) u).size<=t.size+u.size:=by
 have two:∀a b c u:Nat,a<=b+u->1+(a+c)<=1+(b+c)+u:=λa b c u q=>by lia
 have fj:∀a b c u:Nat,a<=b+u->1+(c+a)<=1+(c+b)+u:=λa b c u q=>by lia
 have z2:=zc;have o2:=zo;have i2:=zi;intro t u;induction t with
 |num _=>exact λ_ cu=>⟨cu,Wb _ _⟩
 |name _=>exact λ_ cu=>⟨cu,Wb _ _⟩
 |fn _ _ _=>exact λ_ cu=>⟨cu,Wb _ _⟩
 |rcc _ _ _ _=>exact λ_ cu=>⟨cu,Wb _ _⟩
 |call f a q1 q2=>
  intro c cu;cases hf:isV f with
  |false=>simp only[pth,hf,ZaJ,p1c,p2c,p1o,p2o,p1i,OG,if_false];exact⟨⟨(q1 c.1 cu).1,c.2⟩,by rw[z2,z2];exact two _ _ _ _ (q1 c.1 cu).2⟩
  |true=>
   cases ha:isV a with
   |false=>simp only[pth,hf,ha,ZaJ,p1c,p2c,p1o,p2o,p1i,OG,if_false,if_true];exact⟨⟨c.1,(q2 c.2 cu).1⟩,by rw[z2,z2];exact fj _ _ _ _ (q2 c.2 cu).2⟩
   |true=>simp only[pth,hf,ha,ZaJ,if_true];exact⟨cu,Wb _ _⟩
 |op w f a q1 q2=>
  intro c cu;cases hf:isV f with
  |false=>simp only[pth,hf,ZaJ,p1c,p2c,p1o,p2o,p1i,OG,if_false];exact⟨⟨(q1 c.1 cu).1,c.2⟩,by rw[o2,o2];exact two _ _ _ _ (q1 c.1 cu).2⟩
  |true=>
   cases ha:isV a with
   |false=>simp only[pth,hf,ha,ZaJ,p1c,p2c,p1o,p2o,p1i,OG,if_false,if_true];exact⟨⟨c.1,(q2 c.2 cu).1⟩,by rw[o2,o2];exact fj _ _ _ _ (q2 c.2 cu).2⟩
   |true=>simp only[pth,hf,ha,ZaJ,if_true];exact⟨cu,Wb _ _⟩
 |iff f a b q1 q2 q3=>
  intro c cu;cases hf:isV f with
  |false=>simp only[pth,hf,ZaJ,p1c,p2c,p1o,p2o,p1i,OG,if_false];exact⟨⟨(q1 c.1 cu).1,c.2.1,c.2.2⟩,by rw[i2,i2];exact two _ _ _ _ (q1 c.1 cu).2⟩
  |true=>simp only[pth,hf,ZaJ,if_true];exact⟨cu,Wb _ _⟩
def Zqz{t u:T}(nv:isV t=Wy)(c:Gn.Cl [] t)(hz:t.size<=120)(e:next t=J u):Gn.Cl [] u/\u.size<=40000:=by obtain⟨v,e1,rfl⟩:=Oo.mp e;obtain⟨r1,r2,r3⟩:=ZeV t nv c;obtain⟨b1,b2⟩:=Zty (bot t) v r1 r2 (by lia) e1;obtain⟨p1,p2⟩:=Zqd t v c b1;have:(bot t).size*300<=120*300:=Nat.mul_le_mul_right _ (by lia);exact⟨p1,by lia⟩
def Ztj(b A:T){x:Str}:Gn.dep b+Gn.dep A<=2*Gn.dep (.call (.fn x b) A):=by
 show _<=2*(max (Gn.dep b+1) (Gn.dep A)+1)
 lia
def Zrc(b A:T):Gn.dep b+max (Gn.dep (.rcc f x b)) (Gn.dep A)<=2*Gn.dep (.call (.rcc f x b) A):=by
 show Gn.dep b+max (Gn.dep b+1) (Gn.dep A)<=2*(max (Gn.dep b+1) (Gn.dep A)+1)
 lia
def ZoX(a b d:T):Gn.dep d<=2*Gn.dep (.iff a b d):=by
 show _<=2*(max (Gn.dep a) (max (Gn.dep b) (Gn.dep d))+1)
 lia
def Zmw(a b d:T):Gn.dep b<=2*Gn.dep (.iff a b d):=by
 show _<=2*(max (Gn.dep a) (max (Gn.dep b) (Gn.dep d))+1)
 lia
theorem Ztz(t u:T)(e:bec t=J u):Gn.dep u<=2*Gn.dep t:=by
 cases t with
 |call F A =>
   cases F with
   |fn x b =>
     cases e;have dd:=ZaG (qd:=Gn.dep A) b (Fil.ar [(x,A)]) (λy V q=>by have:=ZjW [(x,A)] q;simp at this;rw [this.2];exact Oq _);exact OE dd (Ztj _ _)
   |rcc f x b =>
     cases e;have dd:=ZaG (qd:=max (Gn.dep (.rcc f x b)) (Gn.dep A)) b (Fil.ar (Zeh f (.rcc f x b) x A)) (λy V q=>by
       have m:=ZjW _ q;unfold Zeh at m;split at m
       . simp at m;rw [m.2];exact Nat.le_max_right _ _
       . simp at m;rcases m with m|m
         . rw [m.2];exact Nat.le_max_left _ _
         . rw [m.2];exact Nat.le_max_right _ _)
     exact OE dd (Zrc _ _)
   |_=>cases e
 |iff a b d =>
   cases a with
   |num m =>
     simp only [bec,Option.some.injEq] at e;subst e;split
     . exact ZoX _ _ _
     . exact Zmw _ _ _
   |_=>cases e
 |op w a b =>
   cases a with
   |num x =>
     cases b with
     |num y=>cases e;exact Yw _
     |_=>cases e
   |_=>cases e
 |_=>cases e
def Zqe(u:T):∀t:T,Gn.dep (ZaJ (pth t) u)<=max (Gn.dep t) ((pth t).length+Gn.dep u)/\(pth t).length+Gn.dep (bot t)<=Gn.dep t:=by
 have m1:∀a b c n u:Nat,a<=max b (n+u)->max a c+1<=max (max b c+1) (n+1+u):=λa b c n u q=>by
  refine Nat.max_lt.mpr ⟨?_,Ot (Nat.lt_succ_of_le (Nat.le_max_right b c)) (Nat.le_max_left _ _)⟩;rcases Nat.le_total b (n+u)with h|h
  . rw[Nat.max_eq_right h]at q;exact Ot (by lia:a<n+1+u) (Nat.le_max_right _ _)
  . rw[Nat.max_eq_left h]at q;exact Ot (Nat.lt_succ_of_le (OE q (Nat.le_max_left b c))) (Nat.le_max_left _ _)
 have m2:∀a b c n u:Nat,a<=max b (n+u)->max c a+1<=max (max c b+1) (n+1+u):=λa b c n u q=>by rw[Nat.max_comm c a,Nat.max_comm c b];exact m1 a b c n u q
 have m3:∀b c n d:Nat,n+d<=b->n+1+d<=max b c+1:=λb c n d q=>OE (by lia:n+1+d<=b+1) (Nat.succ_le_succ (Nat.le_max_left _ _));have m4:∀b c n d:Nat,n+d<=b->n+1+d<=max c b+1:=λb c n d q=>OE (by lia:n+1+d<=b+1) (Nat.succ_le_succ (Nat.le_max_right _ _));have m0:∀d u:Nat,u<=max d (0+u):=λd u=>by lia
 have m5:∀d:Nat,0+d<=d:=λd=>by lia
 intro t;induction t with
 |num _=>exact⟨m0 _ _,m5 _⟩
 |name _=>exact⟨m0 _ _,m5 _⟩
 |fn _ _ _=>exact⟨m0 _ _,m5 _⟩
 |rcc _ _ _ _=>exact⟨m0 _ _,m5 _⟩
 |call f a q1 q2=>
  cases hf:isV f with
  |false=>simp only[pth,hf,ZaJ,p1c,p2c,p1o,p2o,p1i,bot,OG,if_false,Os];exact⟨m1 _ _ _ _ _ q1.1,m3 _ _ _ _ q1.2⟩
  |true=>
   cases ha:isV a with
   |false=>simp only[pth,hf,ha,ZaJ,p1c,p2c,p1o,p2o,p1i,bot,OG,if_false,if_true,Os];exact⟨m2 _ _ _ _ _ q2.1,m4 _ _ _ _ q2.2⟩
   |true=>simp only[pth,hf,ha,ZaJ,bot,if_true];exact⟨m0 _ _,m5 _⟩
 |op w f a q1 q2=>
  cases hf:isV f with
  |false=>simp only[pth,hf,ZaJ,p1c,p2c,p1o,p2o,p1i,bot,OG,if_false,Os];exact⟨m1 _ _ _ _ _ q1.1,m3 _ _ _ _ q1.2⟩
  |true=>
   cases ha:isV a with
   |false=>simp only[pth,hf,ha,ZaJ,p1c,p2c,p1o,p2o,p1i,bot,OG,if_false,if_true,Os];exact⟨m2 _ _ _ _ _ q2.1,m4 _ _ _ _ q2.2⟩
   |true=>simp only[pth,hf,ha,ZaJ,bot,if_true];exact⟨m0 _ _,m5 _⟩
 |iff f a b q1 q2 q3=>
  cases hf:isV f with
  |false=>simp only[pth,hf,ZaJ,p1c,p2c,p1o,p2o,p1i,bot,OG,if_false,Os];exact⟨m1 _ _ _ _ _ q1.1,m3 _ _ _ _ q1.2⟩
  |true=>simp only[pth,hf,ZaJ,bot,if_true];exact⟨m0 _ _,m5 _⟩
def ZsL(nv:isV t=Wy)(c:Gn.Cl [] t)(hz:t.size<=120)(e:next t=J u):Gn.Cl [] u/\u.size<=40000/\Gn.dep u<=240:=by
 obtain⟨p1,p2⟩:=Zqz nv c hz e;obtain⟨v,e1,rfl⟩:=Oo.mp e;have d1:=Ztz (bot t) v e1;obtain⟨d2,d3⟩:=Zqe v t;have dl:=Zcp t;refine⟨p1,p2,?_⟩;generalize Gn.dep (ZaJ (pth t) v)=a at *;generalize Gn.dep (bot t)=b at *;generalize Gn.dep v=d at *;generalize Gn.dep t=f at *;generalize (pth t).length=n at *;clear e e1 p1 p2 nv c
 lia
end
end Tm
namespace Rw
open PySem L2 IV Gn
theorem ZqV(x:Str):∀ar:Ar,Tm.get (ra ar) x=(ar.get x).map rd
 |.nil=>rfl
 |.cons y v r=>by
  rw[ra,Tm.get,Ar.get];split
  . rfl
  . exact ZqV x r
mutual
theorem ZtU:∀v:Th,Zhw v->Cl [] (rd v)
 |.num n,h=>by rw[rd];exact h
 |.clo E ar,h=>by rw[rd];exact Tm.ZbW E (kp_ra ar h.2.2) h.2.1
theorem kp_ra:∀ar:Ar,ArOk ar->Tm.Kp (ra ar) ar.keys []
 |.nil,_=>λx hx=>by cases hx
 |.cons y v r,h=>λx hx=>by
  rw[ra,Tm.get];split
  . exact .inl ⟨rd v,rfl,ZtU v h.1⟩
  . rename_i ne;rcases O3.mp hx with e|hx
    . exact absurd e.symm ne
    . exact kp_ra r h.2 x hx
end
theorem ZlF:∀{ar:Ar}{x:Str}{V:T},ArOk ar->Tm.get (ra ar) x=J V->Cl [] V
 |.nil,x,V,_,e=>by cases e
 |.cons y v r,x,V,h,e=>by
  rw[ra,Tm.get]at e;split at e
  . cases e;exact ZtU v h.1
  . exact ZlF h.2 e
def Zok(h:Zhw v):Tm.isV (rd v)=Wx:=by
 cases v with
 |num n=>rfl
 |clo E ar=>
  cases E with
  |fn x e=>rfl
  |rcc f x e=>rfl
  |_=>cases h.1
theorem ZcO:∀(t:T) {sc:List Str}{ar:List (Str×Option T)},Cl sc t->(∀y∈sc,Tm.get ar y=M)->Tm.sub ar t=t
 |.num _,_,_,_,_=>rfl
 |.name x,_,_,c,n=>by rw[Tm.sub,n x c];rfl
 |.fn x e,sc,ar,c,n=>by
  rw[Tm.sub,ZcO e (sc:=x::sc) c.1 λy hy=>?_];rw[Tm.get];split
  . rfl
  . rename_i ne;rcases O3.mp hy with q|q
    . exact absurd q.symm ne
    . exact n y q
 |.rcc f x e,sc,ar,c,n=>by
  rw[Tm.sub,ZcO e (sc:=x::f::sc) c.1 λy hy=>?_];rw[Tm.get];split
  . rfl
  . rename_i nf;rw[Tm.get];split
    . rfl
    . rename_i nx;rcases O3.mp hy with q|q
      . exact absurd q.symm nx
      . rcases O3.mp q with q|q
        . exact absurd q.symm nf
        . exact n y q
 |.call f a,_,_,c,n=>by rw[Tm.sub,ZcO f c.1 n,ZcO a c.2 n]
 |.iff p q r,_,_,c,n=>by rw[Tm.sub,ZcO p c.1 n,ZcO q c.2.1 n,ZcO r c.2.2 n]
 |.op w f a,_,_,c,n=>by rw[Tm.sub,ZcO f c.1 n,ZcO a c.2 n]
def Cmp(r t k:List (Str×Option T)):Prop:=∀x,(∃V,Tm.get r x=J V/\Tm.get k x=J V/\Cl [] V)\/(Tm.get r x=M/\Tm.get k x=Tm.get t x)
def Cmp.none(c:Cmp r t k)(y:Str):Cmp ((y,M)::r) ((y,M)::t) ((y,M)::k):=λx=>by
 simp only[Tm.get];split
 . exact .inr ⟨rfl,rfl⟩
 . exact c x
theorem ZaD:∀(e:T) {r t k:List (Str×Option T)},Cmp r t k->Tm.sub t (Tm.sub r e)=Tm.sub k e
 |.num _,_,_,_,_=>rfl
 |.name x,r,t,k,c=>by
  rcases c x with⟨V,e1,e2,cl⟩|⟨e1,e2⟩
  . simp only[Tm.sub,e1,e2,Option.getD_some];exact ZcO V cl (λy hy=>by cases hy)
  . simp only[Tm.sub,e1,e2,Option.getD_none]
 |.fn x e,_,_,_,c=>by rw[Tm.sub,Tm.sub,Tm.sub,ZaD e (c.none x)]
 |.rcc f x e,_,_,_,c=>by rw[Tm.sub,Tm.sub,Tm.sub,ZaD e ((c.none x).none f)]
 |.call f a,_,_,_,c=>by rw[Tm.sub,Tm.sub,Tm.sub,ZaD f c,ZaD a c]
 |.iff p q s,_,_,_,c=>by rw[Tm.sub,Tm.sub,Tm.sub,ZaD p c,ZaD q c,ZaD s c]
 |.op w f a,_,_,_,c=>by rw[Tm.sub,Tm.sub,Tm.sub,ZaD f c,ZaD a c]
def Zuu{x:Str}{A:T}(ok:ArOk ar):Tm.sub [(x,J A)] (Tm.sub ((x,M)::ra ar) e)=Tm.sub ((x,J A)::ra ar) e:=by
 refine ZaD e λy=>?_;simp only[Tm.get];split
 . exact .inr ⟨rfl,rfl⟩
 . cases q:Tm.get (ra ar) y with
   |none=>exact .inr ⟨rfl,rfl⟩
   |some V=>exact .inl ⟨V,rfl,rfl,ZlF ok q⟩
def ZrR{f x:Str}(ne:f≠x){F A:T}(ok:ArOk ar):Tm.sub [(f,J F),(x,J A)] (Tm.sub ((f,M)::(x,M)::ra ar) e)=Tm.sub ((x,J A)::(f,J F)::ra ar) e:=by
 refine ZaD e λy=>?_;simp only[Tm.get];by_cases q1:f=y
 . subst q1;rw[if_pos rfl,if_neg (YL ne),if_pos rfl,if_pos rfl];exact .inr ⟨rfl,rfl⟩
 . rw[if_neg q1,if_neg q1,if_neg q1];by_cases q2:x=y
   . rw[if_pos q2,if_pos q2,if_pos q2];exact .inr ⟨rfl,rfl⟩
   . rw[if_neg q2,if_neg q2,if_neg q2];cases q:Tm.get (ra ar) y with
     |none=>exact .inr ⟨rfl,rfl⟩
     |some V=>exact .inl ⟨V,rfl,rfl,ZlF ok q⟩
def fw:Wt->T->T
 |.arg A ar,t=>.call t (Tm.sub (ra ar) A)
 |.fn V,t=>.call (rd V) t
 |.iff a b ar,t=>.iff t (Tm.sub (ra ar) a) (Tm.sub (ra ar) b)
 |.right w F ar,t=>.op w t (Tm.sub (ra ar) F)
 |.left w V,t=>.op w (rd V) t
def rnd(ws:List Wt)(t:T):T:=ws.foldl (λt w=>fw w t) t
def read:Sta->T
 |.go E ar ws=>rnd ws (Tm.sub (ra ar) E)
 |.back V ws=>rnd ws (rd V)
structure Wn(t t':T)(k:Nat)(f:T->T):Prop where
 v:Tm.isV t'=Wy
 l:(Tm.pth t').length=(Tm.pth t).length+k
 b:Tm.bot t'=Tm.bot t
 p:∀u,Tm.ZaJ (Tm.pth t') u=f (Tm.ZaJ (Tm.pth t) u)
def ZxU(ok:ZiR w)(nv:Tm.isV t=Wy):Wn t (fw w t) 1 (fw w):=by
 cases w with
 |arg A ar=>exact⟨rfl,by simp[fw,Tm.pth,nv],by simp[fw,Tm.bot,nv],λu=>by simp[fw,Tm.pth,nv,Tm.ZaJ,Tm.Zbk]⟩
 |fn V=>have v:=Zok ok;exact⟨rfl,by simp[fw,Tm.pth,nv,v],by simp[fw,Tm.bot,nv,v],λu=>by simp[fw,Tm.pth,nv,v,Tm.ZaJ,Tm.Zbk]⟩
 |iff a b ar=>exact⟨rfl,by simp[fw,Tm.pth,nv],by simp[fw,Tm.bot,nv],λu=>by simp[fw,Tm.pth,nv,Tm.ZaJ,Tm.Zbk]⟩
 |right w F ar=>exact⟨rfl,by simp[fw,Tm.pth,nv],by simp[fw,Tm.bot,nv],λu=>by simp[fw,Tm.pth,nv,Tm.ZaJ,Tm.Zbk]⟩
 |left w V=>have v:=Zok ok;exact⟨rfl,by simp[fw,Tm.pth,nv,v],by simp[fw,Tm.bot,nv,v],λu=>by simp[fw,Tm.pth,nv,v,Tm.ZaJ,Tm.Zbk]⟩
theorem ZpO:∀(ws:List Wt) {t:T},(∀w∈ws,ZiR w)->Tm.isV t=Wy->Wn t (rnd ws t) ws.length (rnd ws)
 |[],t,_,nv=>⟨nv,rfl,rfl,λ_=>rfl⟩
 |w::ws,t,ok,nv=>by have a:=ZxU (ok w Oi) nv;have b:=ZpO ws (λx hx=>ok x (Oh _ hx)) a.v;exact⟨b.v,by rw[show rnd (w::ws) t=rnd ws (fw w t)from rfl,b.l,a.l,Os];lia,b.b.trans a.b,λu=>by rw[show rnd (w::ws) t=rnd ws (fw w t)from rfl,b.p,a.p];rfl⟩
def ZuB(ok:∀w∈ws,ZiR w)(nv:Tm.isV t=Wy)(hp:Tm.pth t=[])(hb:Tm.bot t=t):Tm.isV (rnd ws t)=Wy/\Tm.next (rnd ws t)=(Tm.bec t).map (rnd ws)/\(Tm.pth (rnd ws t)).length=ws.length:=by have a:=ZpO ws ok nv;refine⟨a.v,?_,by rw[a.l,hp];exact Nat.zero_add _⟩;unfold Tm.next;rw[a.b,hb];refine congrArg (λf=>(Tm.bec t).map f) ?_;funext u;rw[a.p,hp];rfl
def At(s:Sta):Prop:=Tm.isV (read s)=Wy/\∃V ws,s=.back V ws/\(Tm.pth (read s)).length+1=ws.length
def Sim(s:Sta):Ans->Prop
 |.quiet s'=>read s'=read s
 |.loud s'=>At s/\Tm.next (read s)=J (read s')
 |.value=>∃V,s=.back V []/\Tm.isV (read s)=Wx
 |.stuck=>At s/\Tm.next (read s)=M
def ZfE(s:Sta)(ok:ZiB s):Sim s (step s):=by
 cases s with
 |go E ar ws=>
  cases E with
  |num z=>exact rfl
  |name x=>
   obtain⟨v,e⟩:=Ar.get_some (ar:=ar) ok.1;have:step (.go (.name x) ar ws)=.quiet (.back v ws):=by simp only[step,ZmS,e]
   rw[this];show rnd ws (rd v)=rnd ws (Tm.sub (ra ar) (.name x));rw[Tm.sub,ZqV,e];rfl
  |fn x e=>exact rfl
  |rcc f x e=>exact rfl
  |call F A=>exact rfl
  |iff C t e=>exact rfl
  |op w x y=>exact rfl
 |back V ws=>
  cases ws with
  |nil=>exact⟨V,rfl,Zok ok.1⟩
  |cons w r=>
   have cH:∀x∈r,ZiR x:=λx hx=>ok.2 x (Oh _ hx);have aY:=ok.2 w Oi;have vV:=Zok ok.1;have gm:∀t:T,fw w (rd V)=t->Tm.isV t=Wy->Tm.pth t=[]->Tm.bot t=t->At (.back V (w::r))/\Tm.next (read (.back V (w::r)))=(Tm.bec t).map (rnd r):=λt e nv hp hb=>by
    have q:=ZuB cH nv hp hb;have e2:read (.back V (w::r))=rnd r t:=by rw[<-e];rfl
    exact⟨⟨by rw[e2];exact q.1,V,w::r,rfl,by rw[e2,q.2.2];rfl⟩,by rw[e2];exact q.2.1⟩
   cases w with
   |arg A ar=>exact rfl
   |right w F ar=>exact rfl
   |fn W=>
    have vW:=Zok aY;obtain⟨a,n⟩:=gm _ rfl rfl (by simp[fw,Tm.pth,vV,vW]) (by simp[fw,Tm.bot,vV,vW]);cases W with
    |num z=>exact⟨a,n⟩
    |clo E ar=>
     cases E with
     |fn x e=>refine⟨a,n.trans ?_⟩;show J (rnd r (Tm.sub [(x,J (rd V))] (Tm.sub ((x,M)::ra ar) e)))=J (rnd r (Tm.sub ((x,J (rd V))::ra ar) e));rw[Zuu aY.2.2]
     |rcc f x e=>refine⟨a,n.trans ?_⟩;have ne:=aY.2.1.2.1;show J (rnd r (Tm.sub (Tm.Fil.ar (Tm.Zeh f (rd (.clo (.rcc f x e) ar)) x (rd V))) (Tm.sub ((f,M)::(x,M)::ra ar) e)))=J (rnd r (Tm.sub ((x,J (rd V))::(f,J (rd (.clo (.rcc f x e) ar)))::ra ar) e));rw[<-ZrR ne aY.2.2,Tm.Zeh,if_neg ne];rfl
     |_=>cases aY.1
   |iff t e ar=>
    obtain⟨a,n⟩:=gm _ rfl rfl (by simp[fw,Tm.pth,vV]) (by simp[fw,Tm.bot,vV]);cases V with
    |num z=>refine⟨a,n.trans ?_⟩;show J (rnd r (if z=0 then Tm.sub (ra ar) e else Tm.sub (ra ar) t))=J (rnd r (Tm.sub (ra ar) (if z=0 then e else t)));split<;>rfl
    |clo E cC=>
     cases E with
     |fn x e=>exact⟨a,n⟩
     |rcc f x e=>exact⟨a,n⟩
     |_=>cases ok.1.1
   |left w W=>
    have vW:=Zok aY;obtain⟨a,n⟩:=gm _ rfl rfl (by simp[fw,Tm.pth,vV,vW]) (by simp[fw,Tm.bot,vV,vW]);cases W with
    |num y=>
     cases V with
     |num z=>exact⟨a,n⟩
     |clo E cC=>
      cases E with
      |fn x e=>exact⟨a,n⟩
      |rcc f x e=>exact⟨a,n⟩
      |_=>cases ok.1.1
    |clo E cC=>
     cases E with
     |fn x e=>exact⟨a,n⟩
     |rcc f x e=>exact⟨a,n⟩
     |_=>cases aY.1
section
variable {N:Nat}
def Bd(N:Nat)(E:T)(ar:Ar):Prop:=ar.len+2*E.size<=2*N
mutual
def ThN(N:Nat):Th->Prop
 |.num _=>True
 |.clo E ar=>Bd N E ar/\ArN N ar
def ArN(N:Nat):Ar->Prop
 |.nil=>True
 |.cons _ v r=>ThN N v/\ArN N r
end
def WtN(N:Nat):Wt->Prop
 |.arg A ar=>Bd N A ar/\ArN N ar
 |.fn V=>ThN N V
 |.iff t e ar=>(Bd N t ar/\Bd N e ar)/\ArN N ar
 |.right _ F ar=>Bd N F ar/\ArN N ar
 |.left _ V=>ThN N V
def StN(N:Nat):Sta->Prop
 |.go E ar ws=>Bd N E ar/\ArN N ar/\∀w∈ws,WtN N w
 |.back V ws=>ThN N V/\∀w∈ws,WtN N w
theorem ZlC:∀{ar:Ar},ArN N ar->ar.get x=J v->ThN N v
 |.nil,_,e=>by cases e
 |.cons y u r,h,e=>by
  rw[Ar.get]at e;split at e
  . cases e;exact h.1
  . exact ZlC h.2 e
def Zdz(h:Bd N E ar)(hf:F∈E.parts):Bd N F ar:=by
 have:=Tm.Zst hf;unfold Bd at *
 lia
def Zku(ok:ZiB s)(b:StN N s)(e:step s=.quiet s'\/step s=.loud s'):ZiB s'/\StN N s':=by
 cases s with
 |go E ar ws=>
  cases E with
  |num z=>rcases e with e|e<;>cases e;exact⟨⟨ok.1,ok.2.2⟩,trivial,b.2.2⟩
  |name x=>
   obtain⟨v,q⟩:=Ar.get_some (ar:=ar) ok.1;have:step (.go (.name x) ar ws)=.quiet (.back v ws):=by simp only[step,ZmS,q]
   rw[this]at e;rcases e with e|e<;>cases e;exact⟨⟨Zjw ok.2.1 q,ok.2.2⟩,ZlC b.2.1 q,b.2.2⟩
  |fn x f=>rcases e with e|e<;>cases e;exact⟨⟨⟨rfl,ok.1,ok.2.1⟩,ok.2.2⟩,⟨b.1,b.2.1⟩,b.2.2⟩
  |rcc g x f=>rcases e with e|e<;>cases e;exact⟨⟨⟨rfl,ok.1,ok.2.1⟩,ok.2.2⟩,⟨b.1,b.2.1⟩,b.2.2⟩
  |call F A=>rcases e with e|e<;>cases e;exact⟨⟨ok.1.1,ok.2.1,Zay ⟨ok.1.2,ok.2.1⟩ ok.2.2⟩,Zdz b.1 (by simp[T.parts]),b.2.1,Zay ⟨Zdz b.1 (by simp[T.parts]),b.2.1⟩ b.2.2⟩
  |iff C t f=>rcases e with e|e<;>cases e;exact⟨⟨ok.1.1,ok.2.1,Zay ⟨ok.1.2.1,ok.1.2.2,ok.2.1⟩ ok.2.2⟩,Zdz b.1 (by simp[T.parts]),b.2.1,Zay ⟨⟨Zdz b.1 (by simp[T.parts]),Zdz b.1 (by simp[T.parts])⟩,b.2.1⟩ b.2.2⟩
  |op w x y=>rcases e with e|e<;>cases e;exact⟨⟨ok.1.1,ok.2.1,Zay ⟨ok.1.2,ok.2.1⟩ ok.2.2⟩,Zdz b.1 (by simp[T.parts]),b.2.1,Zay ⟨Zdz b.1 (by simp[T.parts]),b.2.1⟩ b.2.2⟩
 |back V ws=>
  cases ws with
  |nil=>rcases e with e|e<;>cases e
  |cons w r=>
   have cH:∀x∈r,ZiR x:=λx hx=>ok.2 x (Oh _ hx);have br:∀x∈r,WtN N x:=λx hx=>b.2 x (Oh _ hx);have aY:=ok.2 w Oi;have bw:=b.2 w Oi;cases w with
   |arg A ar=>rcases e with e|e<;>cases e;exact⟨⟨aY.1,aY.2,Zay ok.1 cH⟩,bw.1,bw.2,Zay b.1 br⟩
   |right w F ar=>rcases e with e|e<;>cases e;exact⟨⟨aY.1,aY.2,Zay ok.1 cH⟩,bw.1,bw.2,Zay b.1 br⟩
   |fn W=>
    cases W with
    |num z=>rcases e with e|e<;>cases e
    |clo E ar=>
     cases E with
     |fn x f=>
      rcases e with e|e<;>cases e;refine⟨⟨aY.2.1.1,⟨ok.1,aY.2.2⟩,cH⟩,?_,⟨b.1,bw.2⟩,br⟩;have R:=bw.1;have h2:=Tm.Zb (.fn x f);simp only[T.parts,Op,Oy,OI,List.sum_nil]at h2;unfold Bd at *;rw[Ar.len]
      lia
     |rcc g x f=>
      rcases e with e|e<;>cases e;refine⟨⟨aY.2.1.1,⟨ok.1,aY,aY.2.2⟩,cH⟩,?_,⟨b.1,bw,bw.2⟩,br⟩;have R:=bw.1;have h2:=Tm.Zb (.rcc g x f);simp only[T.parts,Op,Oy,OI,List.sum_nil]at h2;unfold Bd at *;rw[Ar.len,Ar.len]
      lia
     |_=>cases aY.1
   |iff t f ar=>
    cases V with
    |num z=>
     rcases e with e|e<;>cases e;by_cases q:z=0
     . simp only[q,if_true];exact⟨⟨aY.2.1,aY.2.2,cH⟩,bw.1.2,bw.2,br⟩
     . simp only[if_neg q];exact⟨⟨aY.1,aY.2.2,cH⟩,bw.1.1,bw.2,br⟩
    |clo E cC=>rcases e with e|e<;>cases e
   |left w W=>
    cases W with
    |num y=>
     cases V with
     |num z=>rcases e with e|e<;>cases e;exact⟨⟨wk_ok w y z,cH⟩,trivial,br⟩
     |clo E cC=>rcases e with e|e<;>cases e
    |clo E cC=>rcases e with e|e<;>cases e
def Zta(w:Wt)(t:T):t.size+1<=(fw w t).size:=by
 cases w with
 |arg A ar=>rw[fw,Tm.Zb (.call _ _)];simp[T.parts];lia
 |fn V=>rw[fw,Tm.Zb (.call _ _)];simp[T.parts];lia
 |iff a b ar=>rw[fw,Tm.Zb (.iff _ _ _)];simp[T.parts];lia
 |right w F ar=>rw[fw,Tm.Zb (.op _ _ _)];simp[T.parts];lia
 |left w V=>rw[fw,Tm.Zb (.op _ _ _)];simp[T.parts];lia
theorem ZfG:∀(ws:List Wt) (t:T),t.size+ws.length<=(rnd ws t).size
 |[],_=>Oq _
 |w::ws,t=>by
  have a:=Zta w t;have b:=ZfG ws (fw w t);rw[Os,show rnd (w::ws) t=rnd ws (fw w t)from rfl]
  lia
noncomputable def wts:Sta->List Wt
 |.go _ _ ws=>ws
 |.back _ ws=>ws
end
end Rw
namespace Ce
open PySem L2 IV
set_option tactic.hygienic false
def ZaB:Sxs:=.w (.iff (.x .NotIn (.ix V0 K0) (.glo (O "FORMS"))) (.o (.ret (.tupl .n))) .n) (.ret (.sl V0 (J K1) (J (.bin .Add K1 (.ix (.ix (.glo (O "FORMS")) (.ix V0 K0)) K0)))))
def ZbE:Fd:=fd_ 1 ["E"] ZaB
def ZaM:Sxs:=.w (.iff (.x .NotIn (.ix V0 K0) (.glo (O "FORMS"))) (.o (.ret (.tupl .n))) .n) (.ret (.sl V0 (J (.bin .Add K1 (.ix (.ix (.glo (O "FORMS")) (.ix V0 K0)) K0))) M))
def Zdw:Fd:=fd_ 1 ["E"] ZaM
def Zhg:Sxs:=.w (.iff (.x .Is V0 (.cst .non)) (.o (.ret (.tupl (.o (.Ci_ "stuck"))))) .n) (.ret (.tupl (.w (.Ci_ "loud") V0)))
def ZdL:Fd:=fd_ 1 ["state"] Zhg
def Zrw:Sxs:=.w (.iff (.nq (.ix V0 K0) (.Ci_ "num")) (.o (.ret (.cst .non))) .n) (.ret (.ite (.q (.ix V0 K1) K0) V2 V1))
def Zk9:Fd:=fd_ 3 ["C","T","E"] Zrw
def ZH:Sxs:=.y (.iff (.ors (.c (.nq (.ix V1 K0) (.Ci_ "num")) (.one (.nq (.ix V2 K0) (.Ci_ "num"))))) (.o (.ret (.cst .non))) .n) (.iff (.q V0 (.Ci_ "<")) (.o (.ret (.tupl (.w (.Ci_ "num") (.ite (.x .Lt (.ix V1 K1) (.ix V2 K1)) K1 K0))))) .n) (.iff (.q V0 (.Ci_ "+")) (.o (.ret (.tupl (.w (.Ci_ "num") (.bin .Mod (.bin .Add (.ix V1 K1) (.ix V2 K1)) (.glo (O "BEYOND"))))))) .n) (.iff (.q V0 (.Ci_ "-")) (.o (.ret (.tupl (.w (.Ci_ "num") (.bin .Mod (.bin .Sub (.ix V1 K1) (.ix V2 K1)) (.glo (O "BEYOND"))))))) .n) (.ret (.tupl (.w (.Ci_ "num") (.bin .Mod (.bin .Mult (.ix V1 K1) (.ix V2 K1)) (.glo (O "BEYOND"))))))
def ZfR:Fd:=fd_ 3 ["word","first","second"] ZH
def Zkk:Sxs:=.o (.ret (.tupl (.z K0 (.tupl .n) (.tupl .n) (.tupl .n))))
def ZfW:Fd:=fd_ 1 ["code"] Zkk
def Zmy:Sxs:=.u (.iff (.q (.ix V0 K0) (.Ci_ "num")) (.o (.ret V0)) .n) (.iff (.q (.ix V0 K0) (.Ci_ "fetch")) (.o (.ret (.ix V1 (.ix V0 K1)))) .n) (.ret (.tupl (.z (.Ci_ "clo") (.ix V0 K1) (.ix V0 K2) V1)))
def Zia:Fd:=fd_ 2 ["row","around"] Zmy
def ZiK:Sxs:=.u (.iff (.q (.ix V0 K0) (.Ci_ "jump")) (.o (.ret (.bin .Add (.tupl (.o (.ix V0 K1))) (.sl V1 (J K1) M)))) .n) (.iff (.q (.ix V0 K0) (.Ci_ "back")) (.w (.s 2 (.ix (.ix V1 K3) K0)) (.ret (.tupl (.z (.ix V2 K0) (.ix V1 K1) (.ix V2 K1) (.sl (.ix V1 K3) (J K1) M))))) .n) (.ret (.tupl (.z (.bin .Add (.ix V1 K0) K1) (.bin .Add (.ix V1 K1) (.tupl (.o (.f "thing_of" (.w V0 (.ix V1 K2)))))) (.ix V1 K2) (.ix V1 K3))))
def Zfa:Fd:=fd_ 2 ["row","state","below"] ZiK
def Zo7:Sxs:=.w (.iff (.q (.blt .len (.o (.ix V0 K2))) K1) (.o (.ret (.bin .Add (.tupl (.o V1)) (.ix V0 K3)))) .n) (.ret (.bin .Add (.tupl (.w V1 V0)) (.ix V0 K3)))
def Zjf:Fd:=fd_ 2 ["W","V"] Zo7
def Zo8:Sxs:=.u (.s 2 (.ix V0 (.neg K2))) (.iff (.q (.ix V2 K0) (.Ci_ "num")) (.o (.ret (.cst .non))) .n) (.ret (.tupl (.z (.ix V2 K1) (.sl V0 M (J (.neg K2))) (.f "entered" (.w V2 (.ix V0 (.neg K1)))) V1)))
def Zjh:Fd:=fd_ 2 ["stack","pile","W"] Zo8
def Zjt:Sxs:=.u (.s 2 (.f "chosen" (.u (.ix (.ix V1 K1) (.neg K1)) (.bin .Add (.ix V1 K0) K1) V0))) (.iff (.x .Is V2 (.cst .non)) (.o (.ret (.cst .non))) .n) (.ret (.tupl (.z V2 (.sl (.ix V1 K1) M (J (.neg K1))) (.ix V1 K2) (.ix V1 K3))))
def Zje:Fd:=fd_ 2 ["L","state","at"] Zjt
def Ziu:Sxs:=.z (.s 2 (.ix V1 K1)) (.s 3 (.f "worked" (.u V0 (.ix V2 (.neg K2)) (.ix V2 (.neg K1))))) (.iff (.x .Is V3 (.cst .non)) (.o (.ret (.cst .non))) .n) (.ret (.tupl (.z (.bin .Add (.ix V1 K0) K1) (.bin .Add (.sl V2 M (J (.neg K2))) (.tupl (.o V3))) (.ix V1 K2) (.ix V1 K3))))
def Zfm:Fd:=fd_ 2 ["word","state","stack","N"] Ziu
def Zka:Sxs:=.z (.iff (.q (.ix V0 K0) (.Ci_ "call")) (.o (.ret (.f "applied" (.w (.ix V1 K1) (.bin .Add (.tupl (.o (.tupl (.w (.bin .Add (.ix V1 K0) K1) (.ix V1 K2))))) (.ix V1 K3)))))) .n) (.iff (.q (.ix V0 K0) (.Ci_ "hop")) (.o (.ret (.f "applied" (.w (.ix V1 K1) (.ix V1 K3))))) .n) (.iff (.q (.ix V0 K0) (.Ci_ "unless")) (.o (.ret (.f "gone_on" (.w (.ix V0 K1) V1)))) .n) (.ret (.f "reckoned" (.w (.ix V0 K1) V1)))
def ZfS:Fd:=fd_ 2 ["row","state"] Zka
def Zlt:Sxs:=.z (.s 2 (.ix V0 (.ix V1 K0))) (.iff (.q (.ix V2 K0) (.Ci_ "end")) (.o (.ret (.tupl (.o (.Ci_ "value"))))) .n) (.iff (.x .In (.ix V2 K0) (.glo (O "LOUD"))) (.o (.ret (.f "loud_or_stuck" (.o (.f "loud_state" (.w V2 V1)))))) .n) (.ret (.tupl (.w (.Ci_ "quiet") (.f "quiet_state" (.w V2 V1)))))
def ZgV:Fd:=fd_ 2 ["code","state","row"] Zlt
def Zgk:Sxs:=.z (.s 1 K0) (.s 2 (.lstl (.o V0))) (.whl (.ex V2) (.u (.s 3 (.meth .pop V2 .n)) (.aug 1 .Add (.ite (.q (.ix V3 K0) (.Ci_ "if")) K2 K1)) (.iff (.nt (.ex (.f "bound_names" (.o V3)))) (.o (.drp (.meth .ext V2 (.o (.f "parts_of" (.o V3)))))) .n))) (.ret V1)
def ZfV:Fd:=fd_ 1 ["E","count","waiting","place"] Zgk
def ZiN:Sx:=.iff (.q (.ix V0 K0) (.Ci_ "call")) (.o (.ret (.lstl (.u (.tupl (.u (.Ci_ "part") (.ix V0 K1) (.cst (.bl Wy)))) (.tupl (.u (.Ci_ "part") (.ix V0 K2) (.cst (.bl Wy)))) (.tupl (.w (.Ci_ "row") (.ite (.ex V1) (.tupl (.o (.Ci_ "hop"))) (.tupl (.o (.Ci_ "call")))))))))) .n
def ZiM:Sx:=.iff (.q (.ix V0 K0) (.Ci_ "if")) (.o (.ret (.lstl (.y (.tupl (.u (.Ci_ "part") (.ix V0 K1) (.cst (.bl Wy)))) (.tupl (.w (.Ci_ "row") (.tupl (.w (.Ci_ "unless") (.bin .Add (.f "count_rows" (.o (.ix V0 K2))) K2))))) (.tupl (.u (.Ci_ "part") (.ix V0 K2) V1)) (.tupl (.w (.Ci_ "row") (.tupl (.w (.Ci_ "jump") (.bin .Add (.f "count_rows" (.o (.ix V0 K3))) K1))))) (.tupl (.u (.Ci_ "part") (.ix V0 K3) V1)))))) .n
def ZiL:Sx:=.ret (.lstl (.u (.tupl (.u (.Ci_ "part") (.ix V0 K1) (.cst (.bl Wy)))) (.tupl (.u (.Ci_ "part") (.ix V0 K2) (.cst (.bl Wy)))) (.tupl (.w (.Ci_ "row") (.tupl (.w (.Ci_ "work") (.ix V0 K0)))))))
def Zlq:Sxs:=.u ZiN ZiM ZiL
def ZgT:Fd:=fd_ 2 ["E","last"] Zlq
def Zgj:Sxs:=.u (.s 1 (.lstl (.o K0))) (.forr (.nm 2) (.pl V0) (.o (.drp (.meth .app V1 (.o (.bin .Add (.ix V1 (.neg K1)) (.blt .len (.o (.a "Unit" V2 "rows"))))))))) (.ret V1)
def ZfU:Fd:=fd_ 1 ["units","firsts","unit"] Zgj
def Ziv:Sxs:=.u (.iff (.x .In (.ix V0 K0) (.glo (O "LEADING"))) (.o (.ret (.tupl (.w (.ix V0 K0) (.bin .Add V1 (.ix V0 K1)))))) .n) (.iff (.q (.ix V0 K0) (.Ci_ "close")) (.o (.ret (.tupl (.u (.Ci_ "close") (.ix V2 (.ix V0 K1)) (.ix V0 K2))))) .n) (.ret V0)
def Zib:Fd:=fd_ 3 ["row","first","firsts"] Ziv
def ZlA:Sx:=.s 1 (.mk (O "Coder") .n)
def Zlz:Sx:=.drp (.m "Coder" "begin_unit" V1 (.u V0 (.tupl .n) (.Ci_ "end")))
def Zly:Sx:=.drp (.m "Coder" "do_all" V1 .n)
def Zlx:Sx:=.s 2 (.f "first_rows" (.o (.a "Coder" V1 "units")))
def Zlw:Sx:=.s 3 (.lstl .n)
def Zg2:Sx:=.forr (.nm 4) (.pl (.a "Coder" V1 "units")) (.w (.s 5 (.blt .len (.o V3))) (.drp (.meth .ext V3 (.o (.comp [O "row",O "first",O "firsts"] [M,J 5,J 2] (.pl (.a "Unit" V4 "rows")) (.nm 0) M (.f "numbered" (.u V0 V1 V2)))))))
def Zlv:Sx:=.ret V3
def Zju:Sxs:=.c ZlA (.c Zlz (.y Zly Zlx Zlw Zg2 Zlv))
def Zjg:Fd:=fd_ 1 ["E","coder","firsts","code","unit","first"] Zju
def ZdW:Sxs:=.w (.sa "Unit" V0 "around" V1) (.sa "Unit" V0 "rows" (.lstl .n))
def ZaE:Fd:=fd_ 2 ["self","around"] ZdW
def Ziz:Sxs:=.o (.iff (.x .In (.ix V1 K0) (.glo (O "LEADING"))) (.o (.drp (.meth .app (.a "Unit" V0 "rows") (.o (.tupl (.w (.ix V1 K0) (.bin .Add (.blt .len (.o (.a "Unit" V0 "rows"))) (.ix V1 K1)))))))) (.o (.drp (.meth .app (.a "Unit" V0 "rows") (.o V1)))))
def Za2:Fd:=fd_ 2 ["self","row"] Ziz
def Zdm:Sxs:=.w (.sa "Coder" V0 "units" (.lstl .n)) (.sa "Coder" V0 "waiting" (.lstl .n))
def Zam:Fd:=fd_ 1 ["self"] Zdm
def ZgM:Sxs:=.o (.drp (.meth .ext (.a "Coder" V0 "waiting") (.o (.comp [O "piece",O "unit"] [M,J 1] (.rev V2) (.nm 0) M (.tupl (.w V1 V0))))))
def Zdh:Fd:=fd_ 3 ["self","unit","pieces"] ZgM
def ZeJ:Sx:=.s 4 (.mk (O "Unit") (.o V2))
def ZeI:Sx:=.drp (.meth .app (.a "Coder" V0 "units") (.o V4))
def ZeH:Sx:=.drp (.m "Coder" "wait_for" V0 (.w V4 (.lstl (.w (.tupl (.u (.Ci_ "part") V1 (.cmp .Eq V3 (.Ci_ "back")))) (.tupl (.w (.Ci_ "row") (.tupl (.o V3))))))))
def Zfw:Sxs:=.u ZeJ ZeI ZeH
def Zco:Fd:=fd_ 4 ["self","E","around","ended","unit"] Zfw
def Zc5:Sx:=.s 3 (.trev (.f "bound_names" (.o V2)))
def Zc4:Sx:=.drp (.m "Unit" "add_row" V1 (.o (.tupl (.u (.Ci_ "close") (.blt .len (.o (.a "Coder" V0 "units"))) V3))))
def Zc3:Sx:=.drp (.m "Coder" "begin_unit" V0 (.u (.ix (.f "parts_of" (.o V2)) K0) (.bin .Add V3 (.a "Unit" V1 "around")) (.Ci_ "back")))
def ZdH:Sxs:=.u Zc5 Zc4 Zc3
def Za7:Fd:=fd_ 3 ["self","unit","E","names"] ZdH
def Zb1:Sxs:=.o (.iff (.q (.ix V2 K0) (.Ci_ "num")) (.o (.drp (.m "Unit" "add_row" V1 (.o V2)))) (.o (.iff (.q (.ix V2 K0) (.Ci_ "name")) (.o (.drp (.m "Unit" "add_row" V1 (.o (.tupl (.w (.Ci_ "fetch") (.tix (.a "Unit" V1 "around") (.ix V2 K1)))))))) (.o (.iff (.ex (.f "bound_names" (.o V2))) (.o (.drp (.m "Coder" "begin_function" V0 (.w V1 V2)))) (.o (.drp (.m "Coder" "wait_for" V0 (.w V1 (.f "pieces_of" (.w V2 V3)))))))))))
def ZdM:Fd:=fd_ 4 ["self","unit","E","last"] Zb1
def ZiA:Sxs:=.o (.whl (.ex (.a "Coder" V0 "waiting")) (.u (.s 1 (.meth .pop (.a "Coder" V0 "waiting") .n)) (.s 2 (.ix V1 K1)) (.iff (.q (.ix V2 K0) (.Ci_ "row")) (.o (.drp (.m "Unit" "add_row" (.ix V1 K0) (.o (.ix V2 K1))))) (.o (.drp (.m "Coder" "do_part" V0 (.u (.ix V1 K0) (.ix V2 K1) (.ix V2 K2))))))))
def Zen:Fd:=fd_ 1 ["self","pair","piece"] ZiA
structure Cod(P:Pg):Prop where
 bound_names:P.tb.lookup (O "bound_names")=J ZbE
 parts_of:P.tb.lookup (O "parts_of")=J Zdw
 loud_or_stuck:P.tb.lookup (O "loud_or_stuck")=J ZdL
 chosen:P.tb.lookup (O "chosen")=J Zk9
 worked:P.tb.lookup (O "worked")=J ZfR
 code_begun:P.tb.lookup (O "code_begun")=J ZfW
 thing_of:P.tb.lookup (O "thing_of")=J Zia
 quiet_state:P.tb.lookup (O "quiet_state")=J Zfa
 entered:P.tb.lookup (O "entered")=J Zjf
 applied:P.tb.lookup (O "applied")=J Zjh
 gone_on:P.tb.lookup (O "gone_on")=J Zje
 reckoned:P.tb.lookup (O "reckoned")=J Zfm
 loud_state:P.tb.lookup (O "loud_state")=J ZfS
 code_step:P.tb.lookup (O "code_step")=J ZgV
 count_rows:P.tb.lookup (O "count_rows")=J ZfV
 pieces_of:P.tb.lookup (O "pieces_of")=J ZgT
 first_rows:P.tb.lookup (O "first_rows")=J ZfU
 numbered:P.tb.lookup (O "numbered")=J Zib
 code_of:P.tb.lookup (O "code_of")=J Zjg
 n_Unit___init__:P.tb.lookup (mnm (O "Unit") (O "__init__"))=M
 Unit___init__:P.ms.lookup (mnm (O "Unit") (O "__init__"))=J ZaE
 n_Unit_add_row:P.tb.lookup (mnm (O "Unit") (O "add_row"))=M
 Unit_add_row:P.ms.lookup (mnm (O "Unit") (O "add_row"))=J Za2
 n_Coder___init__:P.tb.lookup (mnm (O "Coder") (O "__init__"))=M
 Coder___init__:P.ms.lookup (mnm (O "Coder") (O "__init__"))=J Zam
 n_Coder_wait_for:P.tb.lookup (mnm (O "Coder") (O "wait_for"))=M
 Coder_wait_for:P.ms.lookup (mnm (O "Coder") (O "wait_for"))=J Zdh
 n_Coder_begin_unit:P.tb.lookup (mnm (O "Coder") (O "begin_unit"))=M
 Coder_begin_unit:P.ms.lookup (mnm (O "Coder") (O "begin_unit"))=J Zco
 n_Coder_begin_function:P.tb.lookup (mnm (O "Coder") (O "begin_function"))=M
 Coder_begin_function:P.ms.lookup (mnm (O "Coder") (O "begin_function"))=J Za7
 n_Coder_do_part:P.tb.lookup (mnm (O "Coder") (O "do_part"))=M
 Coder_do_part:P.ms.lookup (mnm (O "Coder") (O "do_part"))=J ZdM
 n_Coder_do_all:P.tb.lookup (mnm (O "Coder") (O "do_all"))=M
 Coder_do_all:P.ms.lookup (mnm (O "Coder") (O "do_all"))=J Zen
 g:P.G (O "FORMS")=J (.kd (O "FORMS"))
 gl:P.G (O "LEADING")=J (.tup [.str (O "unless"),.str (O "jump")])
 go:P.G (O "LOUD")=J (.tup [.str (O "call"),.str (O "hop"),.str (O "unless"),.str (O "work")])
 gb:P.G (O "BEYOND")=J (.int 1000000)
 gd:P.GD (O "FORMS")=J Gn.Zef
 big:1000000<=P.L
section
variable {P:Pg}
noncomputable def bnd:T->List Str
 |.fn x _=>[x]
 |.rcc f x _=>[f,x]
 |_=>[]
section
variable {w:Wd}
@[simp]def Zpl:(w.s=O "num")↔False:=by cases w<;>simp[Wd.s]
@[simp]def ZmN:(w.s=O "name")↔False:=by cases w<;>simp[Wd.s]
@[simp]def ZmO:(w.s=O "call")↔False:=by cases w<;>simp[Wd.s]
@[simp]def Zpm:(w.s=O "if")↔False:=by cases w<;>simp[Wd.s]
@[simp]def Zkq:Zbp Gn.Zef (.inr w.s)=J (.tup [.int 0,.int 2]):=by cases w<;>rfl
end
def Cod.tre(H:Cod P):Gn.Tre P:=⟨H.parts_of,H.g,H.gd,H.big⟩
def Zhz(H:Cod P)(n:Nat)(t:T)(h:Hd):run P (n+1) (O "bound_names") [t.d] h=.ok (.tup ((bnd t).map .str)) h:=by
 have no:∀(w:Str) (ds:List D),Zbp Gn.Zef (.inr w)=M->run P (n+1) (O "bound_names") [.tup (.str w::ds)] h=.ok (.tup []) h:=λw ds e=>by have w:xs2 (P.tbl n) ZaB [J (.tup (.str w::ds))] h=.ok (.rt (.tup []),_) h:=Zd ((Zi (Gn.ZhB H.tre ⟨rfl,rfl⟩ Gn.Zk0 e)).trans (Zd (Zu (d:=.tup []) rfl)));exact(Zg H.bound_names rfl).trans (congrArg Ze w)
 have yes:∀(w:Str) (ds:List D) (a b:Int),Zbp Gn.Zef (.inr w)=J (.tup [.int a,.int b])->run P (n+1) (O "bound_names") [.tup (.str w::ds)] h=.ok (.tup (cutD (.str w::ds) (J 1) (J (1+a)))) h:=λw ds a b e=>by have w:xs2 (P.tbl n) ZaB [J (.tup (.str w::ds))] h=.ok (.rt (.tup (cutD (.str w::ds) (J 1) (J (1+a)))),_) h:=(Za ((Zf (Gn.ZhB H.tre ⟨rfl,rfl⟩ Gn.Zk0 e)).trans rfl)).trans (Zd (Zu ((Gn.ZiW (x:=.tup (.str w::ds)) rfl rfl (Gn.ZnF (Gn.ZqZ H.tre ⟨rfl,rfl⟩ e))).trans rfl)));exact(Zg H.bound_names rfl).trans (congrArg Ze w)
 cases t with
 |num z=>exact no (O "num") _ rfl
 |name x=>exact no (O "name") _ rfl
 |fn x e=>exact yes (O "fn") _ 1 1 rfl
 |rcc f x e=>exact yes (O "rec") _ 2 1 rfl
 |call f a=>exact yes (O "call") _ 0 2 rfl
 |iff c a b=>exact yes (O "if") _ 0 3 rfl
 |op w a b=>exact yes w.s _ 0 2 Zkq
theorem Zhy(H:Cod P)(n:Nat)(t:T)(h:Hd):run P (n+1) (O "parts_of") [t.d] h=.ok (.tup (t.parts.map T.d)) h:=Gn.Zhy H.tre n t h
noncomputable def cnt:T->Nat
 |.call f a=>cnt f+cnt a+1
 |.op _ a b=>cnt a+cnt b+1
 |.iff c t e=>cnt c+cnt t+cnt e+2
 |_=>1
def inn(t:T):List T:=if bnd t=[]then t.parts else []
noncomputable def one:T->Int
 |.iff _ _ _=>2
 |_=>1
def Ztm(t:T):(cnt t:Int)=one t+((inn t).map cnt).sum:=by cases t<;>simp[cnt,one,inn,bnd,T.parts]<;>lia
def Zb(t:T):t.size=1+(t.parts.map T.size).sum:=by
 unfold T.size;rw[T.places_parts];simp only[Os,List.length_flatMap]
 lia
def ZpK(t:T):1+((inn t).map T.size).sum<=t.size:=by
 rw[Zb t];unfold inn;split
 . lia
 . simp
def Zk(t:T):1<=t.size:=by rw[Zb];lia
theorem ZkU:∀W:List T,W.length<=(W.map T.size).sum
 |[]=>by simp
 |t::W=>by
  have:=Zk t;have:=ZkU W;simp
  lia
def lc1:Sx:=.s 3 (.meth .pop V2 .n)
def lc2:Ex:=.ite (.q (.ix V3 K0) (.Ci_ "if")) K2 K1
def lc3:Sx:=.iff (.nt (.ex (.f "bound_names" (.o V3)))) (.o (.drp (.meth .ext V2 (.o (.f "parts_of" (.o V3)))))) .n
def ZkS:Sxs:=.u lc1 (.aug 1 .Add lc2) lc3
def Zfx{U:Tb}(p:ev U o S h=.ok (.ref i) R)(hc:R[i]?=J (.ins C fs))(hl:fs.lookup f=J d):ev U (.att [C] o f) S h=.ok d R:=by rw[Zq7,p];simp only[Zq,ZgB,Zah,hc,if_pos (Ox.mpr rfl),hl];rfl
def Zfl{U:Tb}(p:ev U o S h=.ok (.tup (x::ds)) R):ev U (.ix o (.ci 0)) S h=.ok x R:=by refine(Zm p rfl).trans ?_;show qe.ofO (atI (x::ds) 0) R=_;rw[Zjv];rfl
def Zyd{U:Tb}(a:S[i]?=J (J (.int x)))(q:ev U e S h=.ok (.int y) R):xs1 U (.aug i .Add e) S h=.ok (.nx,S.set i (J (.int (x+y)))) R:=by show qe.bind (qe.ofO (S[i]?).join h) _=_;rw[a];show qe.bind (ev U e S h) _=_;rw[q];rfl
section
variable {h:Hd}
def ZyY:ZcB .pop (.ref h.length) [] (h++[.lst (l++[d])])=.ok d (h++[.lst l]):=(Zdc ZaU).trans (by rw[ZkG])
def Zy9(hz:l.length+xs.length<=sizeLine):ZcB .ext (.ref h.length) [.tup xs] (h++[.lst l])=.ok .non (h++[.lst (l++xs)]):=by simp only[ZcB,ZaU,ZiI,ZsR];rw[if_pos hz,ZkG]
end
def Zx3{U:Tb}(t:T)(h:Hd)(a b c):ev U lc2 [a,b,c,J t.d] h=.ok (.int (one t)) h:=by
 have e:∀(w:Str) (ds:List D),ev U lc2 [a,b,c,J (.tup (.str w::ds))] h=.ok (.int (if w=O "if" then 2 else 1)) h:=λw ds=>by
  unfold lc2;rw[Zq4,Zad (x:=w) (Zfl rfl) rfl,Zq];split
  . rename_i z;rw[if_pos (of_decide_eq_true z)];rfl
  . rename_i z;rw[if_neg λy=>z (decide_eq_true y)];rfl
 cases t with
 |op w x y=>exact(e w.s _).trans (by rw[if_neg λz=>Zpm.mp z];rfl)
 |_=>exact e _ _
theorem Znw(H:Cod P){h:Hd}(n:Nat):∀(fuel:Nat) (W:List T) (c:Int) (p:Option D),(W.map T.size).sum<fuel->(W.map T.size).sum<=900000->∃p',
 Z4 (tst (P.tbl (n+1)) (.ex (.var 2))) (xs2 (P.tbl (n+1)) ZkS) fuel [J E,J (.int c),J (.ref h.length),p] (h++[.lst (W.map T.d)])
  = .ok (.nx,[J E,J (.int (c+(W.map cnt).sum)),J (.ref h.length),p']) (h++[.lst []])
 |0,W,c,p,R,h2=>by lia
 |fuel+1,W,c,p,R,h2=>by
  rcases List.eq_nil_or_concat W with rfl|⟨V,t,rfl⟩
  . exact⟨p,(Zfz (ZgO (ys:=[]) rfl ZaU)).trans (by rw[Oy,List.sum_nil,Int.natCast_zero,Int.add_zero])⟩
  . rw[List.concat_eq_append,List.map_append,List.sum_append]at R h2;rw[List.concat_eq_append,List.map_append];have e1:=ZpK t;have e2:=Ztm t;have e3:=ZkU V;have e4:t.parts.length<=3:=by cases t<;>simp[T.parts]
    simp only[Op,Oy,OI,List.sum_nil]at R h2;obtain⟨p',e⟩:=Znw H (h:=h) (E:=E) n fuel (V++inn t) (c+one t) (J t.d) (by rw[List.map_append,List.sum_append];lia) (by rw[List.map_append,List.sum_append];lia);rw[List.map_append]at e;refine⟨p',(Zdn (Zh (ZgO rfl ZaU) (by simp)) ((Za (Zl (ZdZ rfl ZaU rfl ZyY))).trans ((Za (Zyd rfl (Zx3 t _ _ _ _))).trans (Za (R:=h++[.lst (V.map T.d++(inn t).map T.d)]) ?_)))).trans (e.trans ?_)⟩
    . have rb:=Zhz H n t (h++[.lst (V.map T.d)]);unfold inn;cases hb:bnd t with
      |nil=>rw[hb]at rb;rw[if_pos rfl];exact(Zi (Zf7 rb rfl rfl)).trans ((Za (ZX (ZdZ rfl ZaU (Zc (Zv (Zhy H n t _) rfl) rfl) (Zy9 (by rw[YC,Yt,Yt];lia))))).trans rfl)
      |cons y ys=>rw[hb]at rb;rw[if_neg (by simp),Oy,Ys];exact(Zf (Zf7 rb rfl rfl)).trans rfl
    . rw[show c+one t+(((V++inn t).map cnt).sum:Int)=c+((V++[t]).map cnt).sum by simp;lia]
def Zm8(H:Cod P)(n:Nat)(t:T)(h:Hd)(hz:t.size<=1000):run P (n+2) (O "count_rows") [t.d] h=.ok (.int (cnt t)) (h++[.lst []]):=by rw[Zg H.count_rows rfl];obtain⟨p',e⟩:=Znw H (h:=h) (E:=t.d) n P.L [t] 0 M (by have:=H.big;simp;lia) (by simp;lia);rw[show(0+(([t].map cnt).sum:Nat):Int)=cnt t by simp]at e;have w:xs2 (P.tbl (n+1)) Zgk [J t.d,M,M,M] h=.ok (.rt (.int (cnt t)),_) (h++[.lst []]):=(Za (Zl rfl)).trans ((Za (Zl (Zij (xs:=[t.d]) rfl (by decide:1<=1000)))).trans ((Za (s:=.whl (.ex (.var 2)) ZkS) (T:=P.tbl (n+1)) e).trans (Zd (Zu rfl))));exact congrArg Ze w
end
set_option tactic.hygienic true
section
inductive Rw where
 |num (n:Int)|fetch (i:Nat)|close (k:Int) (ns:List Str)|work (w:Wd)|call|hop|unl (k:Int)|jmp (k:Int)|back|fin
noncomputable def Rw.d:Rw->D
 |.num n=>.tup [.str (O "num"),.int n]
 |.fetch i=>.tup [.str (O "fetch"),.int (i:Int)]
 |.close k ns=>.tup [.str (O "close"),.int k,.tup (ns.map .str)]
 |.work w=>.tup [.str (O "work"),.str w.s]
 |.call=>.tup [.str (O "call")]
 |.hop=>.tup [.str (O "hop")]
 |.unl k=>.tup [.str (O "unless"),.int k]
 |.jmp k=>.tup [.str (O "jump"),.int k]
 |.back=>.tup [.str (O "back")]
 |.fin=>.tup [.str (O "end")]
noncomputable def wd:Rw->String
 |.num _ => "num" |.fetch _ => "fetch" |.close _ _ => "close" |.work _ => "work" |.call => "call" |.hop => "hop" |.unl _ => "unless" |.jmp _ => "jump" |.back => "back" |.fin => "end"
def Zlf(r:Rw):∃ds,r.d=.tup (.str (Str.ofString (wd r))::ds):=by cases r<;>exact⟨_,rfl⟩
noncomputable def Rw.up(p:Int):Rw->Rw
 |.unl k=>.unl (p+k)
 |.jmp k=>.jmp (p+k)
 |r=>r
inductive It where
 |row (r:Rw)|part (t:T) (last:Bool)
noncomputable def It.d:It->D
 |.row r=>.tup [.str (O "row"),r.d]
 |.part t b=>.tup [.str (O "part"),t.d,.bl b]
def its(last:Bool):T->List It
 |.call f a=>[.part f Wy,.part a Wy,.row (if last then .hop else .call)]
 |.op w a b=>[.part a Wy,.part b Wy,.row (.work w)]
 |.iff c t e=>[.part c Wy,.row (.unl (cnt t+2)),.part t last,.row (.jmp (cnt e+1)),.part e last]
 |_=>[]
structure Un where
 u:Nat
 r:Nat
 sc:List Str
 rows:List Rw
structure St(h0 h:Hd)(c us w:Nat)(U:List Un)(ws:List D):Prop where
 qc:h[c]?=J (.ins (O "Coder") [(O "units",.ref us),(O "waiting",.ref w)])
 qs:h[us]?=J (.lst (U.map λx=>.ref x.u))
 qw:h[w]?=J (.lst ws)
 qu:∀x∈U,h[x.u]?=J (.ins (O "Unit") [(O "around",.tup (x.sc.map .str)),(O "rows",.ref x.r)])
 qr:∀x∈U,h[x.r]?=J (.lst (x.rows.map Rw.d))
 nd:(U.map Un.r).Nodup
 d1:us≠w
 d2:∀x∈U,us≠x.r
 d3:∀x∈U,w≠x.r
 o1:h0.length<=us
 o2:h0.length<=w
 o3:∀x∈U,h0.length<=x.r
 ol:h0.length<=h.length
 old:∀i,i<h0.length->h[i]?=h0[i]?
variable {h0 h:Hd}{c us w:Nat}{U A B_:List Un}{x:Un}{ws:List D}
def Zaj(e:h[i]?=J o):i<h.length:=by
 rcases Nat.lt_or_ge i h.length with q|q
 . exact q
 . rw[List.getElem?_eq_none q]at e;cases e
def keep{i:Nat}{o:DO}{g:Hd}(e:h[i]?=J o):(h++g)[i]?=J o:=by rw[Oe (Zaj e)];exact e
def St.app(q:St h0 h c us w U ws){g:Hd}:St h0 (h++g) c us w U ws:=⟨keep q.qc,keep q.qs,keep q.qw,λx hx=>keep (q.qu x hx),λx hx=>keep (q.qr x hx),q.nd,q.d1,q.d2,q.d3,q.o1,q.o2,q.o3,by have:=q.ol;simp;lia,λi hi=>by rw[Oe (by have:=q.ol;lia)];exact q.old i hi⟩
def ZfM{i j:Nat}{C fs l}(e:h[i]?=J (.ins C fs))(e':h[j]?=J (.lst l)):j≠i:=by intro q;rw[q,e]at e';cases e'
def St.setW(q:St h0 h c us w U ws)(vs:List D):St h0 (h.set w (.lst vs)) c us w U vs:=by
 refine⟨?_,?_,?_,λx hx=>?_,λx hx=>?_,q.nd,q.d1,q.d2,q.d3,q.o1,q.o2,q.o3,by simpa using q.ol,λi hi=>by rw[Oc (by have:=q.o2;lia)];exact q.old i hi⟩
 . rw[Oc (ZfM q.qc q.qw)];exact q.qc
 . rw[Oc q.d1.symm];exact q.qs
 . rw[Ol (Zaj q.qw)]
 . rw[Oc (ZfM (q.qu x hx) q.qw)];exact q.qu x hx
 . rw[Oc (q.d3 x hx)];exact q.qr x hx
def St.setR(q:St h0 h c us w (A++x::B_) ws)(vs:List Rw):St h0 (h.set x.r (.lst (vs.map Rw.d))) c us w (A++{x with rows:=vs}::B_) ws:=by
 have hx:x∈A++x::B_:=by simp
 have hr:=q.qr x hx;have hn:=q.nd;rw[List.map_append,Op,List.nodup_append]at hn;obtain⟨n1,n2,n3⟩:=hn;rw[List.nodup_cons]at n2;have ne:∀y,y∈A\/y∈B_->x.r≠y.r:=by
  intro y hy e;rcases hy with hy|hy
  . exact n3 y.r (List.mem_map_of_mem hy) x.r (Oi) e.symm
  . exact n2.1 (e▸List.mem_map_of_mem hy)
 have mem:∀y,y∈A++{x with rows:=vs}::B_->y={x with rows:=vs}\/(y∈A\/y∈B_):=by
  intro y hy;rcases OD.mp hy with hy|hy
  . exact .inr (.inl hy)
  . rcases O3.mp hy with hy|hy
    . exact .inl hy
    . exact .inr (.inr hy)
 have old:∀y,y∈A\/y∈B_->y∈A++x::B_:=by intro y hy;rcases hy with hy|hy<;>simp[hy]
 refine⟨?_,?_,?_,λy hy=>?_,λy hy=>?_,?_,q.d1,λy hy=>?_,λy hy=>?_,q.o1,q.o2,λy hy=>?_,by simpa using q.ol,λi hi=>by rw[Oc (by have:=q.o3 x hx;lia)];exact q.old i hi⟩
 . rw[Oc (ZfM q.qc hr)];exact q.qc
 . rw[Oc (q.d2 x hx).symm];have:=q.qs;simpa using this
 . rw[Oc (q.d3 x hx).symm];exact q.qw
 . rcases mem y hy with rfl|hy
   . rw[Oc (ZfM (q.qu x hx) hr)];exact q.qu x hx
   . rw[Oc (ZfM (q.qu y (old y hy)) hr)];exact q.qu y (old y hy)
 . rcases mem y hy with rfl|hy
   . rw[Ol (Zaj hr)]
   . rw[Oc (ne y hy)];exact q.qr y (old y hy)
 . have:=q.nd;simpa using this
 . rcases mem y hy with rfl|hy
   . exact q.d2 x hx
   . exact q.d2 y (old y hy)
 . rcases mem y hy with rfl|hy
   . exact q.d3 x hx
   . exact q.d3 y (old y hy)
 . rcases mem y hy with rfl|hy
   . exact q.o3 x hx
   . exact q.o3 y (old y hy)
def St.more(q:St h0 h c us w U ws)(sc:List Str):St h0 (List.set (h++[.ins (O "Unit") [(O "around",.tup (sc.map .str)),(O "rows",.ref (h.length+1))],.lst []]) us (.lst ((U.map λx=>.ref x.u)++[.ref h.length]))) c us w (U++[⟨h.length,h.length+1,sc,[]⟩]) ws:=by
 have q1:=q.app (g:=[.ins (O "Unit") [(O "around",.tup (sc.map .str)),(O "rows",.ref (h.length+1))],.lst []]);have lu:=Zaj q.qs;have new:∀y,y∈U++[⟨h.length,h.length+1,sc,[]⟩]->y∈U\/y=⟨h.length,h.length+1,sc,[]⟩:=λy hy=>by simpa using hy
 refine⟨?_,?_,?_,λy hy=>?_,λy hy=>?_,?_,q.d1,λy hy=>?_,λy hy=>?_,q.o1,q.o2,λy hy=>?_,by have:=q.ol;simp;lia,λi hi=>by rw[Oc (by have:=q.o1;lia)];exact q1.old i hi⟩
 . rw[Oc (ZfM q1.qc q1.qs)];exact q1.qc
 . rw[Ol (by simp;lia)];simp
 . rw[Oc q.d1];exact q1.qw
 . rcases new y hy with hy|rfl
   . rw[Oc (ZfM (q1.qu y hy) q1.qs)];exact q1.qu y hy
   . rw[Oc (by simp only;lia)];simp
 . rcases new y hy with hy|rfl
   . rw[Oc (q.d2 y hy)];exact q1.qr y hy
   . rw[Oc (by simp only;lia)];simp
 . rw[List.map_append,List.nodup_append];refine⟨q.nd,by simp,λa ha b hb e=>?_⟩;obtain⟨y,hy,rfl⟩:=List.mem_map.mp ha;have:=Zaj (q.qr y hy);simp at hb
   lia
 . rcases new y hy with hy|rfl
   . exact q.d2 y hy
   . simp only;lia
 . rcases new y hy with hy|rfl
   . exact q.d3 y hy
   . have:=Zaj q.qw;simp only;lia
 . rcases new y hy with hy|rfl
   . exact q.o3 y hy
   . have:=q.ol;simp only;lia
end
set_option tactic.hygienic false
section
variable {P:Pg}{h0 h:Hd}{c us w:Nat}{U:List Un}{x:Un}{ws:List D}
def ZtS{U:Tb}(q:ev U e S h=.ok (.int z) R):ev U (.tupl (.cons (.cst (.str a)) (.cons (.tupl (.cons (.cst (.str b)) (.cons e .nil))) .nil))) S h=.ok (.tup [.str a,.tup [.str b,.int z]]) R:=Zan (xs:=[_,_]) (Zc rfl (Zc (Zan (xs:=[_,_]) (Zc rfl (Zc q rfl)) (show 2<=1000 by decide)) rfl)) (show 2<=1000 by decide)
def ZpV(H:Cod P)(n:Nat)(t:T)(last:Bool)(h:Hd)(hz:t.size<=1000)(ht:its last t≠[]):∃g,run P (n+3) (O "pieces_of") [t.d,.bl last] h=.ok (.ref (h++g).length) ((h++g)++[.lst ((its last t).map It.d)]):=by
 rw[Zg H.pieces_of rfl];cases t with
 |call f a=>exact⟨[],by rw[Ys];cases last<;>exact rfl⟩
 |op w a b=>refine⟨[],?_⟩;rw[Ys];exact congrArg Ze ((Za ((Zf (Zh (Zad (x:=w.s) rfl rfl) (decide_eq_false ZmO.mp))).trans rfl)).trans ((Za ((Zf (Zh (Zad (x:=w.s) rfl rfl) (decide_eq_false Zpm.mp))).trans rfl)).trans (Zd (Zu rfl))))
 |iff c t e=>rw[Zb]at hz;simp only[T.parts,Op,Oy,OI,List.sum_nil]at hz;refine⟨[.lst []]++[.lst []],?_⟩;rw[<-Oz];exact congrArg Ze ((Za ((Zf rfl).trans rfl)).trans (Zd ((Zi rfl).trans (Zd (Zu (Zij (xs:=[_,_,_,_,_]) (Zc rfl (Zc (ZtS ((Zj (Zv (Zm8 H n t h (by lia)) rfl) rfl).trans rfl)) (Zc rfl (Zc (ZtS ((Zj (Zv (Zm8 H n e _ (by lia)) rfl) rfl).trans rfl)) (Zc rfl rfl))))) (show 5<=1000 by decide)))))))
 |_=>exact absurd rfl ht
def Zs5{GD:Str->Option (List (Key×D))}{h:Hd}{x:String}:opC GD .In (.str (Str.ofString x)) (.tup [.str (O "unless"),.str (O "jump")]) h=.ok (.bl (Wz (x="unless" \/ x="jump"))) h:=by have:=@ZaZ GD h [O "unless",O "jump"] (Str.ofString x);simpa using this
def ZpD(H:Cod P)(n:Nat)(r:Rw)(p:ev (P.tbl n) e S h=.ok r.d h):tst (P.tbl n) (.ex (.cmp .In (.ix e (.ci 0)) (.glo (O "LEADING")))) S h=.ok (Wz (wd r="unless" \/ wd r="jump")) h:=by obtain⟨ds,ed⟩:=Zlf r;rw[ed]at p;exact Zb9 ((Zp (Zfl p) (by rw[Zik,show(P.tbl n).G _=_ from H.gl];rfl)).trans Zs5)
def Zna(H:Cod P)(n:Nat)(q:St h0 h c us w U ws)(hx:x∈U)(az:Rw)(hz:x.rows.length<=100000):
 run P (n+1) (mnm (O "Unit") (O "add_row")) [.ref x.u,az.d] h=.ok .non (h.set x.r (.lst ((x.rows++[az.up x.rows.length]).map Rw.d))):=by
 rw[Zz H.n_Unit_add_row H.Unit_add_row rfl,List.map_append];have qr:=q.qr x hx;have ea:∀d,ev (P.tbl n) (.att [O "Unit"] (.var 0) (O "rows")) [J (.ref x.u),d] h=.ok (.ref x.r) h:=λd=>Zfx rfl (q.qu x hx) rfl;have app:∀{e o d},ev (P.tbl n) e [J (.ref x.u),o] h=.ok d h->xs2 (P.tbl n) (.cons (.drp (.meth .app (.att [O "Unit"] (.var 0) (O "rows")) (.cons e .nil))) .nil) [J (.ref x.u),o] h=.ok (.nx,[J (.ref x.u),o]) (h.set x.r (.lst (x.rows.map Rw.d++[d]))):=λp=>(Za (ZX (ZdZ (ea _) qr (Zc p rfl) (Za0 qr (by rw[Yt,YC];lia))))).trans rfl;have t:=ZpD H n (e:=.var 1) (S:=[J (.ref x.u),J az.d]) (h:=h) az rfl;have two:∀{s:Str}{z:Int},ev (P.tbl n) (.tupl (.cons (.ix (.var 1) (.ci 0)) (.cons (.bin .Add (.blt .len (.cons (.att [O "Unit"] (.var 0) (O "rows")) .nil)) (.ix (.var 1) (.ci 1))) .nil))) [J (.ref x.u),J (.tup [.str s,.int z])] h=.ok (.tup [.str s,.int (x.rows.length+z)]) h:=λ{s z}=>Zan (Zc (Zfl rfl) (Zc ((Zj (ZeZ (Zc (ea _) rfl) (Zi8 qr)) (y:=.int z) rfl).trans (by rw[Yt];rfl)) rfl)) (show 2<=1000 by decide)
 have go:wd az ≠ "unless" -> wd az ≠ "jump" -> az.up x.rows.length=az->Ze (xs2 (P.tbl n) Za2.body (ZF Za2.N [.ref x.u,az.d]) h)=.ok .non (h.set x.r (.lst (x.rows.map Rw.d++[az.up x.rows.length].map Rw.d))):=λw1 w2 e=>by rw[e];exact congrArg Ze ((Za ((Zf (Zh t (decide_eq_false λz=>z.elim w1 w2))).trans (app rfl))).trans rfl)
 cases az with
 |unl k=>exact congrArg Ze ((Za ((Zi (Zh t (decide_eq_true (.inl rfl)))).trans (app two))).trans rfl)
 |jmp k=>exact congrArg Ze ((Za ((Zi (Zh t (decide_eq_true (.inr rfl)))).trans (app two))).trans rfl)
 |_=>exact go (by simp[wd]) (by simp[wd]) rfl
theorem ZqK{U:Tb}{u k:Nat}{ps:List D}(e:h[k]?=J (.lst ps)):∀(ds ag:List D),ag.length+ds.length<=1000 ->
 ZG (J (k,ps)) (.nm 0) (tsto U M) (ev U (.tupl (.cons (.var 1) (.cons (.var 0) .nil)))) ds [M,J (.ref u)] ag h=.ok (ag++ds.map λd=>.tup [.ref u,d]) h
 |[],ag,hz=>by simp[ZG,Wk.stays,e]
 |d::ds,ag,hz=>by
  have ih:=ZqK (U:=U) (u:=u) e ds (ag++[.tup [.ref u,d]]) (by simp at hz ⊢;lia);have fI:ag.length<16777216:=by simp at hz;lia
  rw[Zak];simp[Wk.stays,e,fI,YC];simpa using ih
def ZvT{U:Tb}(p:ev U e S h=.ok (.ref i) R)(l:R[i]?=J (.lst ys)):evi U (.rev e) S h=.ok ⟨J (i,ys),ys.reverse⟩ R:=by rw[Ztd,p,Zq];simp only[Zpo,l];rfl
def Zt2(e:h[i]?=J (.lst ys))(l:h[j]?=J (.lst zs))(hz:ys.length+zs.length<=sizeLine):ZcB .ext (.ref i) [.ref j] h=.ok .non (h.set i (.lst (ys++zs))):=by simp only[ZcB,e,ZiI,ZsR,l];rw[if_pos hz]
def ZpT(H:Cod P)(n:Nat)(q:St h0 h c us w U ws){u k:Nat}{ps:List D}(e:h[k]?=J (.lst ps))(hp:ps.length<=1000)(hz:ws.length<=100000):
 run P (n+1) (mnm (O "Coder") (O "wait_for")) [.ref c,.ref u,.ref k] h=.ok .non (List.set (h++[DO.lst (ps.reverse.map λd=>.tup [.ref u,d])]) w (.lst (ws++ps.reverse.map λd=>.tup [.ref u,d]))):=by
 rw[Zz H.n_Coder_wait_for H.Coder_wait_for rfl];have ec:=ZqK (U:=P.tbl n) (u:=u) e ps.reverse [] (by simp;lia);exact congrArg Ze ((Za (ZX (ZdZ (Zfx rfl q.qc rfl) q.qw (Zc (Zlc (ZvT rfl e) ec) rfl) (Zt2 (keep q.qw) ZaU (by rw[YC];simp;lia))))).trans rfl)
def ZuD(H:Cod P)(n:Nat)(sc:List Str):Zg5 (run P (n+1)) (O "Unit") [.tup (sc.map .str)] h=.ok (.ref h.length) (h++[.ins (O "Unit") [(O "around",.tup (sc.map .str)),(O "rows",.ref (h.length+1))],.lst []]):=by unfold Zg5;rw[Zz H.n_Unit___init__ H.Unit___init__ (by rfl)];generalize sc.map D.str=ds;simp[ZaE,ZdW,ZF,Zgr,ZhQ,YC]
def Zvp{U:Tb}(p:evs U es S h=.ok xs R)(q:Zg5 U.C C xs R=r):ev U (.mk C es) S h=r:=by rw[Zt3,p];exact q
noncomputable def ZdX(u:Nat)(is:List It):List D:=(is.map λi=>D.tup [.ref u,i.d]).reverse
def Zm9(H:Cod P)(n:Nat)(q:St h0 h c us w U ws)(t:T)(sc:List Str)(fn:Bool)(hU:U.length<=100000)(hw:ws.length<=100000):
 ∃h' y,run P (n+2) (mnm (O "Coder") (O "begin_unit")) [.ref c,t.d,.tup (sc.map .str),.str (Str.ofString (if fn then "back" else "end"))] h=.ok .non h'
  /\ y.sc=sc/\y.rows=[]/\St h0 h' c us w (U++[y]) (ws++ZdX y.u [.part t fn,.row (if fn then .back else .fin)]):=by
 rw[Zz H.n_Coder_begin_unit H.Coder_begin_unit rfl];have qa:=q.app (g:=[.ins (O "Unit") [(O "around",.tup (sc.map .str)),(O "rows",.ref (h.length+1))],.lst []]);have x2:=Za0 (d:=.ref h.length) qa.qs (by rw[YC];simp;lia);have q1:=q.more sc;generalize hh:List.set (h++[.ins (O "Unit") [(O "around",.tup (sc.map .str)),(O "rows",.ref (h.length+1))],.lst []]) us (.lst ((U.map λx=>.ref x.u)++[.ref h.length]))=R at q1 x2;have q2:=q1.app (g:=[.lst ([It.part t fn,.row (if fn then .back else .fin)].map It.d)]);have ew:=ZpT H n q2 (u:=h.length) (k:=R.length) (ps:=[It.part t fn,.row (if fn then .back else .fin)].map It.d) ZaU (show 2<=1000 by decide) hw;refine⟨_,⟨h.length,h.length+1,sc,[]⟩,?_,rfl,rfl,(q2.app (g:=[.lst (([It.part t fn,.row (if fn then .back else .fin)].map It.d).reverse.map λd=>D.tup [.ref h.length,d])])).setW (ws++([It.part t fn,.row (if fn then .back else .fin)].map It.d).reverse.map λd=>D.tup [.ref h.length,d])⟩;exact congrArg Ze ((Za (Zl (Zvp rfl (ZuD H n sc)))).trans ((Za (ZX (ZdZ (Zfx rfl qa.qc rfl) qa.qs rfl x2))).trans ((Za (ZX (ZB rfl q1.qc rfl (Zc rfl (Zc (Zij (xs:=[_,_]) (by cases fn<;>exact rfl) (show 2<=1000 by decide)) rfl)) ew))).trans rfl)))
end
set_option tactic.hygienic true
section
variable {P:Pg}{h0 h:Hd}{c us w:Nat}{A B_:List Un}{x:Un}{ws:List D}
theorem Zgv:∀{sc:List Str},y∈sc->∃i,Tx.place y sc=J i/\i<sc.length
 |[],h=>by cases h
 |z::r,h=>by
  unfold Tx.place;by_cases e:z=y
  . exact⟨0,by rw[if_pos e],by simp⟩
  . rw[if_neg e];have:y∈r:=by
     rcases O3.mp h with q|q
     . exact absurd q.symm e
     . exact q
    obtain⟨i,e1,e2⟩:=Zgv this;exact⟨i+1,by rw[e1];rfl,by simp;lia⟩
def ZrT(ss:List Str):strsOf (ss.map D.str)=J ss:=by
 induction ss with
 |nil=>rfl
 |cons s r ih=>simp[strsOf,ih]
def ZuM(H:Cod P)(n:Nat)(q:St h0 h c us w (A++x::B_) ws)(t e:T)(hp:t.parts=[e])(hb:bnd t≠[])(hx:x.rows.length<=100000)(hU:(A++x::B_).length<=90000)(hw:ws.length<=100000)(hs:x.sc.length<=100000):
 ∃h' y,run P (n+3) (mnm (O "Coder") (O "begin_function")) [.ref c,.ref x.u,t.d] h=.ok .non h'/\y.sc=(bnd t).reverse++x.sc/\y.rows=[]
  /\ St h0 h' c us w ((A++{x with rows:=x.rows++[.close (A++x::B_).length (bnd t).reverse]}::B_)++[y]) (ws++ZdX y.u [.part e Wx,.row .back]):=by
 rw[Zz H.n_Coder_begin_function H.Coder_begin_function rfl];have cJ:x∈A++x::B_:=by simp
 have ea:=Zna H (n+1) q cJ (.close (A++x::B_).length (bnd t).reverse) hx;have q1:=q.setR (x.rows++[.close (A++x::B_).length (bnd t).reverse]);simp only[Rw.up]at ea;generalize h.set x.r (.lst ((x.rows++[Rw.close (A++x::B_).length (bnd t).reverse]).map Rw.d))=R at ea q1;have ep:=Zhy H (n+1) t R;rw[hp]at ep;obtain⟨h',y,e3,y1,y2,q3⟩:=Zm9 H n q1 e ((bnd t).reverse++x.sc) Wx (by simp at hU ⊢;lia) hw;refine⟨h',y,?_,y1,y2,q3⟩;have kP:Zrx (.tup ((bnd t).map .str)) h=.ok (.tup ((bnd t).reverse.map .str)) h:=by
  cases iY:bnd t with
  |nil=>exact absurd iY hb
  |cons b r=>rw[List.map_reverse];rfl
 have kR:opB .Add (.tup ((bnd t).reverse.map .str)) (.tup (x.sc.map .str)) R=.ok (.tup (((bnd t).reverse++x.sc).map .str)) R:=by
  have bl:(bnd t).length<=2:=by cases t<;>simp[bnd]
  rw[Zb6 (by rw[YC];simp;lia),List.map_append]
 exact congrArg Ze ((Za (Zl (by rw[Ztg,Zv (Zhz H (n+1) t h) rfl];exact kP))).trans ((Za (ZX (ZB rfl (q.qu x cJ) rfl (Zc (Zan (xs:=[_,_,_]) (Zc rfl (Zc ((ZeZ (Zc (Zfx rfl q.qc rfl) rfl) (Zi8 q.qs)).trans (by rw[Yt])) rfl)) (show 3<=1000 by decide)) rfl) ea))).trans ((Za (ZX (ZB rfl q1.qc rfl (Zc ((Zm (Zv ep rfl) rfl).trans rfl) (Zc ((Zj rfl (Zfx rfl (q1.qu {x with rows:=x.rows++[.close (A++x::B_).length (bnd t).reverse]} (by simp)) rfl)).trans kR) rfl)) e3))).trans rfl)))
end
set_option tactic.hygienic false
section
variable {P:Pg}{h0 h:Hd}{c us w:Nat}{A B_:List Un}{x:Un}{ws:List D}
def leaf(sc:List Str):T->Option Rw
 |.num n=>J (.num n)
 |.name y=>(Tx.place y sc).map .fetch
 |_=>M
def ZuH(H:Cod P)(n:Nat)(q:St h0 h c us w (A++x::B_) ws)(t:T)(last:Bool)(hr:leaf x.sc t=J r)(hx:x.rows.length<=100000):
 ∃h',run P (n+4) (mnm (O "Coder") (O "do_part")) [.ref c,.ref x.u,t.d,.bl last] h=.ok .non h'/\St h0 h' c us w (A++{x with rows:=x.rows++[r]}::B_) ws:=by
 rw[Zz H.n_Coder_do_part H.Coder_do_part rfl];have cJ:x∈A++x::B_:=by simp
 have hu:=q.qu x cJ;cases t with
 |num m=>cases hr;exact⟨_,congrArg Ze ((Za ((Zi rfl).trans ((Za (ZX (ZB rfl hu rfl rfl (Zna H (n+2) q cJ (.num m) hx)))).trans rfl))).trans rfl),q.setR _⟩
 |name y=>
  obtain⟨i,e1,rfl⟩:=Oo.mp hr;have ei:Zo9 (.tup (x.sc.map .str)) (.str y) h=.ok (.int (i:Int)) h:=by unfold Zo9;simp only[ZrT,e1];rfl
  refine⟨_,congrArg Ze ((Za ((Zf rfl).trans ((Za ((Zi rfl).trans ((Za (ZX (ZB rfl hu rfl (Zc (Zan (xs:=[_,_]) (Zc rfl (Zc (by rw[ZvU,Zfx rfl hu rfl];exact ei) rfl)) (show 2<=1000 by decide)) rfl) (Zna H (n+2) q cJ (.fetch i) hx)))).trans rfl))).trans rfl))).trans rfl),q.setR _⟩
 |_=>cases hr
def ZpX(H:Cod P)(n:Nat)(q:St h0 h c us w (A++x::B_) ws)(t e:T)(last:Bool)(hp:t.parts=[e])(hb:bnd t≠[])(hx:x.rows.length<=100000)(hU:(A++x::B_).length<=90000)(hw:ws.length<=100000)(hs:x.sc.length<=100000):
 ∃h' y,run P (n+4) (mnm (O "Coder") (O "do_part")) [.ref c,.ref x.u,t.d,.bl last] h=.ok .non h'/\y.sc=(bnd t).reverse++x.sc/\y.rows=[]
  /\ St h0 h' c us w ((A++{x with rows:=x.rows++[.close (A++x::B_).length (bnd t).reverse]}::B_)++[y]) (ws++ZdX y.u [.part e Wx,.row .back]):=by
 rw[Zz H.n_Coder_do_part H.Coder_do_part (by rfl)];obtain⟨h',y,e1,y1,y2,q1⟩:=ZuM H n q t e hp hb hx hU hw hs;refine⟨h',y,?_,y1,y2,q1⟩;have ha:∀(w:Str) (ds:List D),t.d=.tup (.str w::ds)->w≠O "num" -> w≠O "name" -> Ze (xs2 (P.tbl (n+3)) Zb1 [J (.ref c),J (.ref x.u),J t.d,J (.bl last)] h)=.ok .non h':=λw ds ed n1 n2=>by
  have eb:=Zhz H (n+2) t h;cases gN:bnd t with
  |nil=>exact absurd gN hb
  |cons b r=>rw[gN]at eb;rw[ed]at e1 eb ⊢;exact congrArg Ze ((Za ((Zf (Zh (Zad (Zfl rfl) rfl) (decide_eq_false n1))).trans ((Za ((Zf (Zh (Zad (Zfl rfl) rfl) (decide_eq_false n2))).trans ((Za ((Zi (Zf7 eb rfl rfl)).trans ((Za (ZX (ZB rfl q.qc rfl rfl e1))).trans rfl))).trans rfl))).trans rfl))).trans rfl)
 cases t with
 |fn a b=>exact ha _ _ rfl (by decide) (by decide)
 |rcc f a b=>exact ha _ _ rfl (by decide) (by decide)
 |_=>exact absurd rfl hb
def ZuG(H:Cod P)(n:Nat)(q:St h0 h c us w (A++x::B_) ws)(t:T)(last:Bool)(ht:its last t≠[])(hz:t.size<=1000)(hw:ws.length<=100000):
 ∃h',run P (n+4) (mnm (O "Coder") (O "do_part")) [.ref c,.ref x.u,t.d,.bl last] h=.ok .non h'/\St h0 h' c us w (A++x::B_) (ws++ZdX x.u (its last t)):=by
 rw[Zz H.n_Coder_do_part H.Coder_do_part (by rfl)];obtain⟨g,e1⟩:=ZpV H n t last h hz ht;have q2:St h0 (h++g++[.lst ((its last t).map It.d)]) c us w (A++x::B_) ws:=q.app.app;have hl:(its last t).length<=5:=by cases t<;>simp[its]
 have e2:=ZpT H (n+2) q2 (u:=x.u) (k:=(h++g).length) (ps:=(its last t).map It.d) ZaU (by simp;lia) hw;have q3:=(q2.app (g:=[.lst (((its last t).map It.d).reverse.map λd=>.tup [.ref x.u,d])])).setW (ws++((its last t).map It.d).reverse.map λd=>.tup [.ref x.u,d]);generalize (List.set (h++g++[.lst ((its last t).map It.d)]++[DO.lst (((its last t).map It.d).reverse.map λd=>.tup [.ref x.u,d])]) w (.lst (ws++((its last t).map It.d).reverse.map λd=>.tup [.ref x.u,d])))=h2 at e2 q3;rw[show((its last t).map It.d).reverse.map (λd=>D.tup [.ref x.u,d])=ZdX x.u (its last t) by simp[ZdX,List.map_reverse,Function.comp_def]]at q3;refine⟨h2,?_,q3⟩;have ha:∀(w:Str) (ds:List D),t.d=.tup (.str w::ds)->w≠O "num" -> w≠O "name" -> bnd t=[]->Ze (xs2 (P.tbl (n+3)) Zb1 [J (.ref c),J (.ref x.u),J t.d,J (.bl last)] h)=.ok .non h2:=λw ds ed n1 n2 hb=>by have eb:=Zhz H (n+2) t h;rw[hb]at eb;rw[ed]at e1 eb ⊢;exact congrArg Ze ((Za ((Zf (Zh (Zad (Zfl rfl) rfl) (decide_eq_false n1))).trans ((Za ((Zf (Zh (Zad (Zfl rfl) rfl) (decide_eq_false n2))).trans ((Za ((Zf (Zf7 eb rfl rfl)).trans ((Za (ZX (ZB rfl q.qc rfl (Zc rfl (Zc (Zv e1 rfl) rfl)) e2))).trans rfl))).trans rfl))).trans rfl))).trans rfl)
 cases t with
 |call f a=>exact ha _ _ rfl (by decide) (by decide) rfl
 |op wd a b=>exact ha _ _ rfl Zpl.mp ZmN.mp rfl
 |iff a b d=>exact ha _ _ rfl (by decide) (by decide) rfl
 |_=>exact absurd rfl ht
def ZqF:Sxs:=.u (.s 1 (.meth .pop (.a "Coder" V0 "waiting") .n)) (.s 2 (.ix V1 K1)) (.iff (.q (.ix V2 K0) (.Ci_ "row")) (.o (.drp (.m "Unit" "add_row" (.ix V1 K0) (.o (.ix V2 K1))))) (.o (.drp (.m "Coder" "do_part" V0 (.u (.ix V1 K0) (.ix V2 K1) (.ix V2 K2))))))
def loop(P:Pg)(n c fuel:Nat)(pr pc:Option D)(h:Hd):qe (Fl×Ev):=Z4 (tst ⟨P.G,P.GD,run P (n+4),P.L⟩ (.ex (.att [O "Coder"] (.var 0) (O "waiting")))) (xs2 ⟨P.G,P.GD,run P (n+4),P.L⟩ ZqF) fuel [J (.ref c),pr,pc] h
inductive Sr(h0:Hd)(P:Pg)(n c us w:Nat)(A B_:List Un)(x:Un)(rr:Rw)(ws:List D)(h:Hd)(fuel:Nat)(pr pc:Option D):Prop
 |mk (h':Hd) (cE cF:Option D) (e:loop P n c (fuel+1) pr pc h=loop P n c fuel cE cF h') (q:St h0 h' c us w (A++{x with rows:=x.rows++[rr.up x.rows.length]}::B_) ws)
def s_row(H:Cod P)(n fuel:Nat)(q:St h0 h c us w (A++x::B_) (ws++[.tup [.ref x.u,(It.row rr).d]]))(hx:x.rows.length<=100000)(pr pc:Option D):
 Sr h0 P n c us w A B_ x rr ws h fuel pr pc:=by
 have cJ:x∈A++x::B_:=by simp
 have q1:=q.setW ws;have bX:=Zdc (h:=h) (i:=w) q.qw;generalize h.set w (.lst ws)=hp at q1 bX;exact⟨_,J (.tup [.ref x.u,(It.row rr).d]),J (It.row rr).d,Zdn (Zh (ZgO (Zfx rfl q.qc rfl) q.qw) (by simp)) ((Za (Zl (ZdZ (Zfx rfl q.qc rfl) q.qw rfl bX))).trans ((Za (Zl rfl)).trans ((Za ((Zi rfl).trans ((Za (ZX (ZB rfl (q1.qu x cJ) rfl rfl (Zna H (n+3) q1 cJ rr hx)))).trans rfl))).trans rfl))),q1.setR _⟩
def ZlP(H:Cod P)(n fuel:Nat)(t:T)(last:Bool)(q:St h0 h c us w (A++x::B_) (ws++[.tup [.ref x.u,(It.part t last).d]]))(pr pc:Option D):
 ∃hp,St h0 hp c us w (A++x::B_) ws/\∀h',run P (n+4) (mnm (O "Coder") (O "do_part")) [.ref c,.ref x.u,t.d,.bl last] hp=.ok .non h'->∃cE cF,loop P n c (fuel+1) pr pc h=loop P n c fuel cE cF h':=by
 have q1:=q.setW ws;have bX:=Zdc (h:=h) (i:=w) q.qw;generalize h.set w (.lst ws)=hp at q1 bX;exact⟨hp,q1,λh' e=>⟨J (.tup [.ref x.u,(It.part t last).d]),J (It.part t last).d,Zdn (Zh (ZgO (Zfx rfl q.qc rfl) q.qw) (by simp)) ((Za (Zl (ZdZ (Zfx rfl q.qc rfl) q.qw rfl bX))).trans ((Za (Zl rfl)).trans ((Za ((Zf rfl).trans ((Za (ZX (ZB rfl q1.qc rfl rfl e))).trans rfl))).trans rfl)))⟩⟩
end
section
def comp:T->List Str->Bool->Nat->Nat->List Rw×List (List Rw)
 |.num n,_,_,_,_=>([.num n],[])
 |.name y,sc,_,_,_=>([.fetch ((Tx.place y sc).getD 0)],[])
 |.fn y e,sc,_,_,k=>([.close k [y]],((comp e (y::sc) Wx 0 (k+1)).1++[.back])::(comp e (y::sc) Wx 0 (k+1)).2)
 |.rcc f y e,sc,_,_,k=>([.close k [y,f]],((comp e (y::f::sc) Wx 0 (k+1)).1++[.back])::(comp e (y::f::sc) Wx 0 (k+1)).2)
 |.call f a,sc,l,p,k=>
  ((comp f sc Wy p k).1++((comp a sc Wy (p+cnt f) (k+(comp f sc Wy p k).2.length)).1++[if l then .hop else .call]),
   (comp f sc Wy p k).2++(comp a sc Wy (p+cnt f) (k+(comp f sc Wy p k).2.length)).2)
 |.op w f a,sc,_,p,k=>
  ((comp f sc Wy p k).1++((comp a sc Wy (p+cnt f) (k+(comp f sc Wy p k).2.length)).1++[.work w]),
   (comp f sc Wy p k).2++(comp a sc Wy (p+cnt f) (k+(comp f sc Wy p k).2.length)).2)
 |.iff c t e,sc,l,p,k=>
  ((comp c sc Wy p k).1++(.unl ((p+cnt c+1+cnt t+1:Nat):Int)::((comp t sc l (p+cnt c+1) (k+(comp c sc Wy p k).2.length)).1 ++
   (.jmp ((p+cnt c+1+cnt t+1+cnt e:Nat):Int)::(comp e sc l (p+cnt c+1+cnt t+1) (k+(comp c sc Wy p k).2.length+(comp t sc l (p+cnt c+1) (k+(comp c sc Wy p k).2.length)).2.length)).1))),
   (comp c sc Wy p k).2++((comp t sc l (p+cnt c+1) (k+(comp c sc Wy p k).2.length)).2 ++
    (comp e sc l (p+cnt c+1+cnt t+1) (k+(comp c sc Wy p k).2.length+(comp t sc l (p+cnt c+1) (k+(comp c sc Wy p k).2.length)).2.length)).2))
theorem ZA:∀(t:T) (sc:List Str) (l:Bool) (p k:Nat),(comp t sc l p k).1.length=cnt t
 |.num _,_,_,_,_=>rfl
 |.name _,_,_,_,_=>rfl
 |.fn _ _,_,_,_,_=>rfl
 |.rcc _ _ _,_,_,_,_=>rfl
 |.call f a,sc,l,p,k=>by simp[comp,ZA f,ZA a,cnt];lia
 |.op w f a,sc,l,p,k=>by simp[comp,ZA f,ZA a,cnt];lia
 |.iff c t e,sc,l,p,k=>by simp[comp,ZA c,ZA t,ZA e,cnt];lia
noncomputable def cost:T->Nat
 |.num _=>1
 |.name _=>1
 |.fn _ e=>cost e+2
 |.rcc _ _ e=>cost e+2
 |.call f a=>cost f+cost a+2
 |.op _ f a=>cost f+cost a+2
 |.iff c t e=>cost c+cost t+cost e+3
theorem ZcT:∀t:T,cnt t<=2*t.size
 |.num _=>by simp[cnt,T.size,T.places]
 |.name _=>by simp[cnt,T.size,T.places]
 |.fn _ e=>by rw[Zb];simp[cnt,T.parts];lia
 |.rcc _ _ e=>by rw[Zb];simp[cnt,T.parts];lia
 |.call f a=>by have:=ZcT f;have:=ZcT a;rw[Zb];simp[cnt,T.parts];lia
 |.op _ f a=>by have:=ZcT f;have:=ZcT a;rw[Zb];simp[cnt,T.parts];lia
 |.iff c t e=>by have:=ZcT c;have:=ZcT t;have:=ZcT e;rw[Zb];simp[cnt,T.parts];lia
theorem units_le:∀(t:T) (sc:List Str) (l:Bool) (p k:Nat),(comp t sc l p k).2.length+1<=t.size
 |.num _,_,_,_,_=>by simp[comp,T.size,T.places]
 |.name _,_,_,_,_=>by simp[comp,T.size,T.places]
 |.fn y e,sc,l,p,k=>by have:=units_le e (y::sc) Wx 0 (k+1);rw[Zb];simp[comp,T.parts];lia
 |.rcc f y e,sc,l,p,k=>by have:=units_le e (y::f::sc) Wx 0 (k+1);rw[Zb];simp[comp,T.parts];lia
 |.call f a,sc,l,p,k=>by have:=units_le f sc Wy p k;have:=units_le a sc Wy (p+cnt f) (k+(comp f sc Wy p k).2.length);rw[Zb];simp[comp,T.parts];lia
 |.op w f a,sc,l,p,k=>by have:=units_le f sc Wy p k;have:=units_le a sc Wy (p+cnt f) (k+(comp f sc Wy p k).2.length);rw[Zb];simp[comp,T.parts];lia
 |.iff c t e,sc,l,p,k=>by
  have:=units_le c sc Wy p k;have:=units_le t sc l (p+cnt c+1) (k+(comp c sc Wy p k).2.length);have:=units_le e sc l (p+cnt c+1+cnt t+1) (k+(comp c sc Wy p k).2.length+(comp t sc l (p+cnt c+1) (k+(comp c sc Wy p k).2.length)).2.length);rw[Zb];simp[comp,T.parts]
  lia
variable {P:Pg}{h0:Hd}{c us w:Nat}
structure Ri(m:Nat)(A B_:List Un)(x:Un)(ws:List D):Prop where
 z:m<=2000
 r:x.rows.length+m<=50000
 u:2*(A++x::B_).length+m<=100000
 w:2*ws.length+5*m<=100000
 s:x.sc.length+m<=50000
abbrev Rm(t:T):=Ri (2*t.size)
inductive Dn(h0:Hd)(P:Pg)(n c us w:Nat)(t:T)(last:Bool)(A B_:List Un)(x:Un)(ws:List D)(h:Hd)(fuel:Nat)(pr pc:Option D):Prop
 |mk (h':Hd) (cE cF:Option D) (N:List Un) (e:loop P n c (fuel+cost t) pr pc h=loop P n c fuel cE cF h') (m:N.map Un.rows=(comp t x.sc last x.rows.length (A++x::B_).length).2)
  (q:St h0 h' c us w (A++{x with rows:=x.rows++(comp t x.sc last x.rows.length (A++x::B_).length).1}::(B_++N)) ws)
def Done(h0:Hd)(P:Pg)(n c us w:Nat)(t:T)(last:Bool)(A B_:List Un)(x:Un)(ws:List D)(h:Hd):Prop:=∀fuel pr pc,Dn h0 P n c us w t last A B_ x ws h fuel pr pc
def Zjj(H:Cod P)(n:Nat)(t:T)(last:Bool)(rm:Rm t A B_ x ws)(hr:leaf x.sc t=J r)(hc:(comp t x.sc last x.rows.length (A++x::B_).length)=([r],[]))(R:cost t=1)
 (q:St h0 h c us w (A++x::B_) (ws++[.tup [.ref x.u,(It.part t last).d]])):Done h0 P n c us w t last A B_ x ws h:=by
 intro fuel pr pc;have mG:=rm.r;obtain⟨hp,q1,k⟩:=ZlP H n fuel t last q pr pc;obtain⟨h',e1,q2⟩:=ZuH H n q1 t last hr (by lia);obtain⟨cE,cF,e2⟩:=k h' e1;refine⟨h',cE,cF,[],by rw[R];exact e2,by rw[hc];rfl,?_⟩;rw[hc];simpa using q2
end
section
variable {P:Pg}{h0:Hd}{c us w:Nat}
def map_len{N:List Un}(e:N.map Un.rows=l):N.length=l.length:=by rw[<-e];simp
def Zld(H:Cod P)(n:Nat)(t e:T)(last:Bool)(rm:Rm t A B_ x ws)(hp:t.parts=[e])(hb:bnd t≠[])(cg:cost t=cost e+2)
 (hc:comp t x.sc last x.rows.length (A++x::B_).length=([.close (A++x::B_).length (bnd t).reverse],((comp e ((bnd t).reverse++x.sc) Wx 0 ((A++x::B_).length+1)).1++[.back])::(comp e ((bnd t).reverse++x.sc) Wx 0 ((A++x::B_).length+1)).2))
 (ih:∀(A' B':List Un) (x':Un) (aB:List D) (h':Hd),x'.sc=(bnd t).reverse++x.sc->Rm e A' B' x' aB->St h0 h' c us w (A'++x'::B') (aB++[.tup [.ref x'.u,(It.part e Wx).d]])->Done h0 P n c us w e Wx A' B' x' aB h')
 (q:St h0 h c us w (A++x::B_) (ws++[.tup [.ref x.u,(It.part t last).d]])):Done h0 P n c us w t last A B_ x ws h:=by
 intro fuel pr pc;obtain⟨r5,r1,r2,r3,r4⟩:=rm;have sz:t.size=1+e.size:=by rw[Zb,hp];simp
 have ep:=Zk e;have bl:(bnd t).length<=2:=by cases t<;>simp[bnd]
 obtain⟨kU,q1,k⟩:=ZlP H n (fuel+1+cost e) t last q pr pc;obtain⟨R,y,e1,y1,y2,q2⟩:=ZpX H n q1 t e last hp hb (by lia) (by lia) (by lia) (by lia);obtain⟨bS,bT,e2⟩:=k R e1;have pe:ws++ZdX y.u [.part e Wx,.row .back]=(ws++[.tup [.ref y.u,(It.row .back).d]])++[.tup [.ref y.u,(It.part e Wx).d]]:=by simp[ZdX]
 rw[pe]at q2;have bN:((A++{x with rows:=x.rows++[Rw.close (A++x::B_).length (bnd t).reverse]}::B_)++[y]).length=(A++x::B_).length+1:=by simp;lia
 have kg:Rm e (A++{x with rows:=x.rows++[Rw.close (A++x::B_).length (bnd t).reverse]}::B_) [] y (ws++[.tup [.ref y.u,(It.row .back).d]]):=⟨by lia,by rw[y2];simp;lia,by rw[bN];lia,by simp;lia,by rw[y1];simp;lia⟩
 obtain⟨h2,cP,cQ,N,e3,n3,q3⟩:=ih _ [] y _ R y1 kg q2 (fuel+1) bS bT;rw[y1,y2,bN]at n3 q3;simp only[List.length_nil,OB]at n3 q3;obtain⟨h3,km,kt,e4,q4⟩:=s_row H n fuel q3 (by simp only[ZA];have:=ZcT e;lia) cP cQ;refine⟨h3,km,kt,{y with rows:=(comp e ((bnd t).reverse++x.sc) Wx 0 ((A++x::B_).length+1)).1++[Rw.back]}::N,?_,?_,?_⟩
 . rw[cg,show fuel+(cost e+2)=fuel+1+cost e+1 by lia,e2,e3,e4]
 . rw[hc,Op,n3]
 . rw[hc];simpa[Rw.up,y1]using q4
noncomputable def It.cnt:It->Nat
 |.row _=>1
 |.part t _=>Ce.cnt t
def It.wt:It->Nat
 |.row _=>1
 |.part t _=>2*t.size
noncomputable def It.cost:It->Nat
 |.row _=>1
 |.part t _=>Ce.cost t
def It.comp(sc:List Str)(p k:Nat):It->List Rw×List (List Rw)
 |.row r=>([r.up p],[])
 |.part t l=>Ce.comp t sc l p k
def Zj2(sc:List Str):List It->Nat->Nat->List Rw×List (List Rw)
 |[],_,_=>([],[])
 |i::is,p,k=>((i.comp sc p k).1++(Zj2 sc is (p+i.cnt) (k+(i.comp sc p k).2.length)).1,(i.comp sc p k).2++(Zj2 sc is (p+i.cnt) (k+(i.comp sc p k).2.length)).2)
def PI(h0:Hd)(P:Pg)(n c us w:Nat)(sc:List Str):List It->Prop
 |[]=>True
 |.row _::is=>PI h0 P n c us w sc is
 |.part t l::is=>(∀(A B_:List Un) (x:Un) (ws:List D) (h:Hd),x.sc=sc->Rm t A B_ x ws->St h0 h c us w (A++x::B_) (ws++[.tup [.ref x.u,(It.part t l).d]])->Done h0 P n c us w t l A B_ x ws h)/\PI h0 P n c us w sc is
inductive Di(h0:Hd)(P:Pg)(n c us w:Nat)(co:Nat)(cp:List Rw×List (List Rw))(A B_:List Un)(x:Un)(ws:List D)(h:Hd)(fuel:Nat)(pr pc:Option D):Prop
 |mk (h':Hd) (cE cF:Option D) (N:List Un) (e:loop P n c (fuel+co) pr pc h=loop P n c fuel cE cF h') (m:N.map Un.rows=cp.2) (q:St h0 h' c us w (A++{x with rows:=x.rows++cp.1}::(B_++N)) ws)
theorem Zpi:∀is:List It,is.length<=(is.map It.wt).sum
 |[]=>Oq _
 |i::is=>by
  have:=Zpi is;have:1<=i.wt:=by
   cases i with
   |row _=>exact Oq _
   |part t _=>have:=Zk t;show 1<=2*t.size;lia
  rw[Op,OI,Os]
  lia
def ZxQ(i:It)(sc:List Str)(p k:Nat):(i.comp sc p k).1.length=i.cnt/\i.cnt<=i.wt/\2*(i.comp sc p k).2.length<=i.wt:=by
 cases i with
 |row r=>exact⟨rfl,Oq _,Yw _⟩
 |part t l=>exact⟨ZA t sc l p k,ZcT t,by have:=units_le t sc l p k;show 2*(Ce.comp t sc l p k).2.length<=2*t.size;lia⟩
theorem items(H:Cod P)(n:Nat):∀(is:List It) (A B_:List Un) (x:Un) (ws:List D) (h:Hd),PI h0 P n c us w x.sc is->Ri (is.map It.wt).sum A B_ x ws->St h0 h c us w (A++x::B_) (ws++ZdX x.u is)->∀fuel pr pc,
 Di h0 P n c us w (is.map It.cost).sum (Zj2 x.sc is x.rows.length (A++x::B_).length) A B_ x ws h fuel pr pc
 |[],A,B_,x,ws,h,pi,ri,q,fuel,pr,pc=>⟨h,pr,pc,[],rfl,rfl,by simpa[ZdX,Zj2]using q⟩
 |i::is,A,B_,x,ws,h,pi,ri,q,fuel,pr,pc=>by
  rw[Op,OI]at ri;obtain⟨z,r,u,w',s⟩:=ri;have l0:=ZxQ i x.sc x.rows.length (A++x::B_).length;have lw:=Zpi is;rw[show ws++ZdX x.u (i::is)=(ws++ZdX x.u is)++[.tup [.ref x.u,i.d]] by simp[ZdX]]at q;have st:PI h0 P n c us w x.sc is/\Di h0 P n c us w i.cost (i.comp x.sc x.rows.length (A++x::B_).length) A B_ x (ws++ZdX x.u is) h (fuel+(is.map It.cost).sum) pr pc:=by
   cases i with
   |row rr=>obtain⟨R,bS,bT,e1,q1⟩:=s_row H n (fuel+(is.map It.cost).sum) q (by lia) pr pc;exact⟨pi,R,bS,bT,[],e1,rfl,by rw[Ys];exact q1⟩
   |part t l=>rw[show(It.part t l).wt=2*t.size from rfl]at z r u w' s;obtain⟨R,bS,bT,N,e1,m,q1⟩:=pi.1 A B_ x _ h rfl ⟨by lia,by lia,by lia,by simp only[OA,ZdX,List.length_reverse,Yt];lia,by lia⟩ q (fuel+(is.map It.cost).sum) pr pc;exact⟨pi.2,R,bS,bT,N,e1,m,q1⟩
  obtain⟨kq,R,bS,bT,N,e1,m,q1⟩:=st;have ml:=map_len m;have lx:(x.rows++(i.comp x.sc x.rows.length (A++x::B_).length).1).length=x.rows.length+i.cnt:=by rw[OA,l0.1]
  have lu:(A++{x with rows:=x.rows++(i.comp x.sc x.rows.length (A++x::B_).length).1}::(B_++N)).length=(A++x::B_).length+(i.comp x.sc x.rows.length (A++x::B_).length).2.length:=by rw[<-ml];simp only[OA,Os];lia
  obtain⟨h2,cP,cQ,N2,e2,m2,q2⟩:=items H n is A (B_++N) {x with rows:=x.rows++(i.comp x.sc x.rows.length (A++x::B_).length).1} ws R kq ⟨by lia,by rw[lx];lia,by rw[lu];lia,by lia,by show x.sc.length+_<=_;lia⟩ q1 fuel bS bT;rw[lx,lu]at m2 q2;refine⟨h2,cP,cQ,N++N2,?_,?_,?_⟩
  . rw[Op,OI,YW i.cost,<-Nat.add_assoc];exact e1.trans e2
  . rw[List.map_append,m,m2];rfl
  . rw[<-Oz,show(Zj2 x.sc (i::is) x.rows.length (A++x::B_).length).1=_++_ from rfl,<-Oz];exact q2
def Zim(H:Cod P)(n:Nat)(t:T)(last:Bool)(rm:Rm t A B_ x ws)(ht:its last t≠[])(hw:((its last t).map It.wt).sum<=2*t.size)(cg:cost t=((its last t).map It.cost).sum+1)(hc:comp t x.sc last x.rows.length (A++x::B_).length=Zj2 x.sc (its last t) x.rows.length (A++x::B_).length)
 (pi:PI h0 P n c us w x.sc (its last t)) (q:St h0 h c us w (A++x::B_) (ws++[.tup [.ref x.u,(It.part t last).d]])):Done h0 P n c us w t last A B_ x ws h:=by
 intro fuel pr pc;obtain⟨z,r,u,w',s⟩:=rm;obtain⟨kU,q1,k⟩:=ZlP H n (fuel+((its last t).map It.cost).sum) t last q pr pc;obtain⟨R,e1,q2⟩:=ZuG H n q1 t last ht (by lia) (by lia);obtain⟨bS,bT,e2⟩:=k R e1;obtain⟨h2,cP,cQ,N,e3,m,q3⟩:=items H n (its last t) A B_ x ws R pi ⟨by lia,by lia,by lia,by lia,by lia⟩ q2 fuel bS bT;rw[<-hc]at m q3;exact⟨h2,cP,cQ,N,by rw[cg];exact e2.trans e3,m,q3⟩
theorem ZiH(H:Cod P)(n:Nat):∀ (t:T) (last:Bool) (A B_:List Un) (x:Un) (ws:List D) (h:Hd),Gn.Cl x.sc t->Rm t A B_ x ws->St h0 h c us w (A++x::B_) (ws++[.tup [.ref x.u,(It.part t last).d]])->Done h0 P n c us w t last A B_ x ws h
 |.num m,last,A,B_,x,ws,h,hc,rm,q=>Zjj H n (.num m) last rm (r:=.num m) rfl rfl rfl q
 |.name y,last,A,B_,x,ws,h,hc,rm,q=>by
   obtain⟨i,e1,_⟩:=Zgv (show y∈x.sc from hc);exact Zjj H n (.name y) last rm (r:=.fetch i) (by simp [leaf,e1]) (by simp [comp,e1]) rfl q
 |.fn y e,last,A,B_,x,ws,h,hc,rm,q=>Zld H n (.fn y e) e last rm rfl (by simp [bnd]) rfl (by simp [comp,bnd]) (λA' B' x' aB h' hs rm' q'=>ZiH H n e Wx A' B' x' aB h' (by rw [hs];exact hc.1) rm' q') q
 |.rcc f y e,last,A,B_,x,ws,h,hc,rm,q=>Zld H n (.rcc f y e) e last rm rfl (by simp [bnd]) rfl (by simp [comp,bnd]) (λA' B' x' aB h' hs rm' q'=>ZiH H n e Wx A' B' x' aB h' (by rw [hs];exact hc.1) rm' q') q
 |.call f a,last,A,B_,x,ws,h,hc,rm,q=>Zim H n (.call f a) last rm nofun (by rw [Zb];simp [its,It.wt,T.parts];lia) (by simp [its,It.cost,cost];lia) (by cases last<;>simp [comp,Zj2,its,It.comp,It.cnt,Rw.up])
     ⟨λA' B' x' aB h' hs rm' q'=>ZiH H n f Wy A' B' x' aB h' (by rw [hs];exact hc.1) rm' q',λA' B' x' aB h' hs rm' q'=>ZiH H n a Wy A' B' x' aB h' (by rw [hs];exact hc.2) rm' q',trivial⟩ q
 |.op wd f a,last,A,B_,x,ws,h,hc,rm,q=>Zim H n (.op wd f a) last rm nofun (by rw [Zb];simp [its,It.wt,T.parts];lia) (by simp [its,It.cost,cost];lia) (by simp [comp,Zj2,its,It.comp,It.cnt,Rw.up])
     ⟨λA' B' x' aB h' hs rm' q'=>ZiH H n f Wy A' B' x' aB h' (by rw [hs];exact hc.1) rm' q',λA' B' x' aB h' hs rm' q'=>ZiH H n a Wy A' B' x' aB h' (by rw [hs];exact hc.2) rm' q',trivial⟩ q
 |.iff f a b,last,A,B_,x,ws,h,hc,rm,q=>Zim H n (.iff f a b) last rm nofun (by rw [Zb];simp [its,It.wt,T.parts];lia) (by simp [its,It.cost,cost];lia) (by
       simp only [comp,Zj2,its,It.comp,It.cnt,Rw.up,List.length_nil,Nat.add_zero,Ys,OB,List.cons_append];rw [show ((x.rows.length+cnt f:Nat):Int)+((cnt a:Int)+2)=((x.rows.length+cnt f+1+cnt a+1:Nat):Int) by lia,show ((x.rows.length+cnt f+1+cnt a:Nat):Int)+((cnt b:Int)+1)=((x.rows.length+cnt f+1+cnt a+1+cnt b:Nat):Int) by lia])
     ⟨λA' B' x' aB h' hs rm' q'=>ZiH H n f Wy A' B' x' aB h' (by rw [hs];exact hc.1) rm' q',λA' B' x' aB h' hs rm' q'=>ZiH H n a last A' B' x' aB h' (by rw [hs];exact hc.2.1) rm' q',λA' B' x' aB h' hs rm' q'=>ZiH H n b last A' B' x' aB h' (by rw [hs];exact hc.2.2) rm' q',trivial⟩ q
end
section
variable {P:Pg}{h0 h:Hd}{c us w:Nat}{U A:List Un}{x:Un}{ws:List D}
def ZqG(n fuel:Nat)(q:St h0 h c us w U [])(pr pc:Option D):loop P n c (fuel+1) pr pc h=.ok (.nx,[J (.ref c),pr,pc]) h:=by exact Zfz (Zh (ZgO (Zfx rfl q.qc rfl) q.qw) rfl)
def Zw3(H:Cod P)(n:Nat)(t:T)(ct:Gn.Cl [] t)(hz:t.size<=1000)(hs:x.sc=[])(hr:x.rows=[])(q:St h0 h c us w [x] (ZdX x.u [.part t Wy,.row .fin])):
 ∃h' y N,run P (n+5) (mnm (O "Coder") (O "do_all")) [.ref c] h=.ok .non h'/\St h0 h' c us w (y::N) []/\(y::N).map Un.rows=((comp t [] Wy 0 1).1++[.fin])::(comp t [] Wy 0 1).2:=by
 rw[Zz H.n_Coder_do_all H.Coder_do_all (by rfl)];have cl:∀t:T,cost t<=3*t.size:=by
  intro t;induction t with
  |num m=>simp[cost,T.size,T.places]
  |name m=>simp[cost,T.size,T.places]
  |fn y e ih=>rw[Zb];simp[cost,T.parts];lia
  |rcc f y e ih=>rw[Zb];simp[cost,T.parts];lia
  |call f a i1 i2=>rw[Zb];simp[cost,T.parts];lia
  |op wd f a i1 i2=>rw[Zb];simp[cost,T.parts];lia
  |iff a b d i1 i2 i3=>rw[Zb];simp[cost,T.parts];lia
 have hb:=H.big;have mO:=cl t;obtain⟨m,hm⟩:∃m,P.L=(m+1+1)+cost t:=⟨P.L-2-cost t,by lia⟩
 have pe:ZdX x.u [.part t Wy,.row .fin]=[D.tup [.ref x.u,(It.row .fin).d]]++[.tup [.ref x.u,(It.part t Wy).d]]:=by simp[ZdX]
 rw[pe]at q;obtain⟨R,bS,bT,N,e1,n1,q1⟩:=ZiH H n t Wy [] [] x _ h (by rw[hs];exact ct) ⟨by lia,by rw[hr];simp;lia,by simp;lia,by simp;lia,by rw[hs];simp;lia⟩ q (m+1+1) M M;rw[hs,hr]at n1 q1;simp only[OB,List.length_nil,Os,Nat.zero_add]at n1 q1;obtain⟨h2,cP,cQ,e2,q2⟩:=s_row H n (m+1) (A:=[]) (ws:=[]) (by simpa using q1) (by simp only[ZA];have:=ZcT t;lia) bS bT;have e3:=ZqG (P:=P) n m q2 cP cQ;refine⟨h2,_,N,?_,q2,?_⟩
 . have e4:loop P n c P.L M M h=.ok (.nx,[J (.ref c),cP,cQ]) h2:=by rw[hm,e1,e2,e3]
   exact congrArg Ze ((Za (s:=.whl (.ex (.att [O "Coder"] (.var 0) (O "waiting"))) ZqF) (T:=P.tbl (n+4)) e4).trans rfl)
 . rw[Op,n1];simp[Rw.up]
noncomputable def ZbJ(a:Nat):List (List Rw)->List Nat
 |[]=>[a]
 |r::rs=>a::ZbJ (a+r.length) rs
noncomputable def nmb(a:Nat)(F:List Nat):Rw->Rw
 |.unl k=>.unl (a+k)
 |.jmp k=>.jmp (a+k)
 |.close k ns=>.close (((F[k.toNat]?).getD 0:Nat):Int) ns
 |r=>r
def flat(F:List Nat)(a:Nat):List (List Rw)->List Rw
 |[]=>[]
 |r::rs=>r.map (nmb a F)++flat F (a+r.length) rs
def Zi7:Sxs:=.o (.drp (.meth .app V1 (.o (.bin .Add (.ix V1 (.neg K1)) (.blt .len (.o (.a "Unit" V2 "rows")))))))
def Zdd{j:Nat}{L:List D}{g:Tg}{body:Ev->Hd->qe (Fl×Ev)}{d:D}{ds:List D}{S:Ev}{h:Hd}(e:h[j]?=J (.lst L)):ZQ (J (j,L)) g body (d::ds) S h=match ZbL g d S with
 |none=>.bad
 |some ρ1=>(body ρ1 h).bnd λp h2=>match p with
  |(.nx,ρ2)=>ZQ (J (j,L)) g body ds ρ2 h2
  |(.ct,ρ2)=>ZQ (J (j,L)) g body ds ρ2 h2
  |(.bk,ρ2)=>.ok (.nx,ρ2) h2
  |(.rt d,ρ2)=>.ok (.rt d,ρ2) h2:=by
 have:Wk.stays (J (j,L)) h=Wx:=by simp[Wk.stays,e]
 rw[ZQ,if_pos this];rfl
def Zq0(e:h[j]?=J (.lst L))(b:ZbL g d S=J ρ1)(q:body ρ1 h=.ok (.nx,ρ2) h2):ZQ (J (j,L)) g body (d::ds) S h=ZQ (J (j,L)) g body ds ρ2 h2:=by rw[Zdd e,b];simp only;rw[q];rfl
def Zmt{U:Tb}(p:ev U e S h=.ok (.ref i) R)(l:R[i]?=J (.lst ys)):evi U (.pl e) S h=.ok ⟨J (i,ys),ys⟩ R:=by rw[Zmu,p,Zq];simp only[ZaV,l];rfl
def Zeg{j:Nat}{L:List D}{g:Tg}{body:Ev->Hd->qe (Fl×Ev)}{S:Ev}{h:Hd}(e:h[j]?=J (.lst L)):ZQ (J (j,L)) g body [] S h=.ok (.nx,S) h:=by
 have:Wk.stays (J (j,L)) h=Wx:=by simp[Wk.stays,e]
 rw[ZQ,if_pos this]
theorem ZkX{T:Tb}(q:St h0 h c us w U ws){o0:Option D}:∀(V:List Un) (ag:List D) (a:Nat) (un:Option D),(∀y∈V,y∈U)->ag.length+V.length<=100000->∃dh,
 ZQ (J (us,U.map λx=>D.ref x.u)) (.nm 2) (xs2 T Zi7) (V.map λx=>D.ref x.u) [o0,J (.ref h.length),un] (h++[.lst (ag++[.int (a:Int)])])
  = .ok (.nx,[o0,J (.ref h.length),dh]) (h++[.lst (ag++(ZbJ a (V.map Un.rows)).map λ(n:Nat)=>D.int (n:Int))])
 |[],ag,a,un,hV,hz=>⟨un,by rw[Oy,Zeg (keep q.qs)];simp[ZbJ]⟩
 |y::V,ag,a,un,hV,hz=>by
  obtain⟨dh,e⟩:=ZkX (T:=T) q (o0:=o0) V (ag++[.int (a:Int)]) (a+y.rows.length) (J (.ref y.u)) (λz hz=>hV z (Oh _ hz)) (by simp at hz ⊢;lia);have hy:=hV y Oi;have k2:(h++[DO.lst (ag++[.int (a:Int)])])[y.r]?=_:=keep (q.qr y hy);have ix:Zbq T.GD (.ref h.length) (.int (-1)) (h++[.lst (ag++[.int (a:Int)])])=.ok (.int (a:Int)) (h++[.lst (ag++[.int (a:Int)])]):=by rw[Z0 ZaU,IV.ZeK];rfl
  have x:xs2 T Zi7 [o0,J (.ref h.length),J (.ref y.u)] (h++[.lst (ag++[.int (a:Int)])])=.ok (.nx,[o0,J (.ref h.length),J (.ref y.u)]) (h++[.lst (ag++[.int (a:Int)]++[.int ((a+y.rows.length:Nat):Int)])]):=(Za (ZX (ZdZ rfl ZaU (Zc ((Zj ((Zm rfl rfl).trans ix) (ZeZ (Zc (Zfx rfl (keep (q.qu y hy)) rfl) rfl) (Zi8 k2))).trans (by rw[Yt];rfl)) rfl) ((Za0 ZaU (by rw[YC];simp at hz ⊢;lia)).trans (by rw[ZkG,Int.natCast_add]))))).trans rfl
  exact⟨dh,(Zq0 (keep q.qs) rfl x).trans (e.trans (by rw[Oz];rfl))⟩
def ZpY(H:Cod P)(n:Nat)(q:St h0 h c us w U ws)(hU:U.length<=90000):run P (n+1) (O "first_rows") [.ref us] h=.ok (.ref h.length) (h++[.lst ((ZbJ 0 (U.map Un.rows)).map λ(n:Nat)=>D.int (n:Int))]):=by rw[Zg H.first_rows (by rfl)];obtain⟨un,e⟩:=ZkX (T:=P.tbl n) q (o0:=J (.ref us)) U [] 0 M (λy hy=>hy) (by simp;lia);have w:xs2 (P.tbl n) Zgj [J (.ref us),M,M] h=.ok (.rt (.ref h.length),_) _:=(Za (Zl (Zij (xs:=[_]) rfl (show 1<=1000 by decide)))).trans ((Za ((Zdv (Zmt rfl (keep q.qs))).trans e)).trans (Zd (Zu rfl)));exact congrArg Ze w
end
section
variable {P:Pg}{h0:Hd}{c us w:Nat}{U:List Un}{ws:List D}
def Zd1(m:Nat):Rw->Prop
 |.close k _=>∃i:Nat,k=i/\i<m
 |_=>True
noncomputable def Fd'(F:List Nat):List D:=F.map λ(n:Nat)=>D.int (n:Int)
def Zw0(H:Cod P)(n:Nat)(r:Rw)(a fk:Nat)(F:List Nat)(h:Hd)(hf:h[fk]?=J (.lst (Fd' F)))(hr:Zd1 F.length r):run P (n+1) (O "numbered") [r.d,.int (a:Int),.ref fk] h=.ok (nmb a F r).d h:=by
 rw[Zg H.numbered rfl];have t:=ZpD H n (e:=.var 0) (S:=[J r.d,J (.int (a:Int)),J (.ref fk)]) (h:=h) r rfl;have go:wd r ≠ "unless" -> wd r ≠ "jump" -> Str.ofString (wd r)≠O "close" -> nmb a F r=r->Ze (xs2 (P.tbl n) Ziv [J r.d,J (.int (a:Int)),J (.ref fk)] h)=.ok (nmb a F r).d h:=λw1 w2 w3 e=>by rw[e];obtain⟨ds,ed⟩:=Zlf r;rw[ed]at t ⊢;exact congrArg Ze ((Za ((Zf (Zh t (decide_eq_false λz=>z.elim w1 w2))).trans rfl)).trans ((Za ((Zf (Zh (Zad (Zfl rfl) rfl) (decide_eq_false w3))).trans rfl)).trans (Zd (Zu rfl))))
 cases r with
 |close k ns=>
  obtain⟨i,rfl,hi⟩:=hr;have e:Zbq (P.tbl n).GD (.ref fk) (.int (i:Int)) h=.ok (.int ((F[i]'hi:Nat):Int)) h:=by rw[Z0 hf,IV.ZbH];simp[Fd',hi]
  exact(congrArg Ze ((Za ((Zf (Zh t (decide_eq_false (by simp[wd])))).trans rfl)).trans (Zd ((Zi rfl).trans (Zd (Zu (Zan (xs:=[_,_,_]) (Zc rfl (Zc ((Zm rfl rfl).trans e) rfl)) (show 3<=1000 by decide)))))))).trans (by simp[nmb,Rw.d,hi])
 |unl k=>exact congrArg Ze (Zd ((Zi (Zh t (decide_eq_true (.inl rfl)))).trans (Zd (Zu rfl))))
 |jmp k=>exact congrArg Ze (Zd ((Zi (Zh t (decide_eq_true (.inr rfl)))).trans (Zd (Zu rfl))))
 |_=>exact go (by simp[wd]) (by simp[wd]) (by simp[wd]) rfl
theorem Zt0(H:Cod P)(n:Nat){k a fk:Nat}(e:h[k]?=J (.lst ps))(hf:h[fk]?=J (.lst (Fd' F))):∀(ds:List Rw) (ag:List D),ag.length+ds.length<=100000->(∀r∈ds,Zd1 F.length r) ->
 ZG (J (k,ps)) (.nm 0) (tsto ⟨P.G,P.GD,run P (n+1),P.L⟩ M) (ev ⟨P.G,P.GD,run P (n+1),P.L⟩ (.call (O "numbered") (.cons (.var 0) (.cons (.var 1) (.cons (.var 2) .nil))))) (ds.map Rw.d) [M,J (.int (a:Int)),J (.ref fk)] ag h=.ok (ag++(ds.map (nmb a F)).map Rw.d) h
 |[],ag,hz,hc=>by simp[ZG,Wk.stays,e]
 |d::ds,ag,hz,hc=>by
  have ih:=Zt0 H n (a:=a) e hf ds (ag++[(nmb a F d).d]) (by simp at hz ⊢;lia) (λr hr=>hc r (Oh _ hr));have fI:ag.length<16777216:=by simp at hz;lia
  have en:=Zw0 H n d a fk F h hf (hc d Oi);rw[Op,Zak];simp[Wk.stays,e,fI,YC,en];simpa using ih
structure Ct(h0 h:Hd)(c us w ck fk:Nat)(U:List Un)(ws:List D)(F:List Nat)(cs:List Rw):Prop where
 q:St h0 h c us w U ws
 f:h[fk]?=J (.lst (Fd' F))
 k:h[ck]?=J (.lst (cs.map Rw.d))
 n1:ck≠us
 n2:ck≠w
 n3:ck≠fk
 n4:∀y∈U,ck≠y.r
 n5:h0.length<=ck
theorem Ct.app(z:Ct h0 h c us w ck fk U ws F cs):Ct h0 (h++g) c us w ck fk U ws F cs:=⟨z.q.app,keep z.f,keep z.k,z.n1,z.n2,z.n3,z.n4,z.n5⟩
theorem Ct.set(z:Ct h0 h c us w ck fk U ws F cs)(ds:List Rw):Ct h0 (h.set ck (.lst (ds.map Rw.d))) c us w ck fk U ws F ds:=by
 have q:=z.q;refine⟨⟨?_,?_,?_,λy hy=>?_,λy hy=>?_,q.nd,q.d1,q.d2,q.d3,q.o1,q.o2,q.o3,by simpa using q.ol,λi hi=>by rw[Oc (by have:=z.n5;lia)];exact q.old i hi⟩,?_,?_,z.n1,z.n2,z.n3,z.n4,z.n5⟩
 . rw[Oc (ZfM q.qc z.k)];exact q.qc
 . rw[Oc z.n1];exact q.qs
 . rw[Oc z.n2];exact q.qw
 . rw[Oc (ZfM (q.qu y hy) z.k)];exact q.qu y hy
 . rw[Oc (z.n4 y hy)];exact q.qr y hy
 . rw[Oc z.n3];exact z.f
 . rw[Ol (Zaj z.k)]
def ZsU:Sxs:=.w (.s 5 (.blt .len (.o V3))) (.drp (.meth .ext V3 (.o (.comp [O "row",O "first",O "firsts"] [M,J 5,J 2] (.pl (.a "Unit" V4 "rows")) (.nm 0) M (.f "numbered" (.u V0 V1 V2))))))
theorem ZqM(H:Cod P)(n:Nat):∀(V:List Un) (cs:List Rw) (h:Hd) (un fs:Option D),(∀y∈V,y∈U)->(∀y∈V,∀r∈y.rows,Zd1 F.length r)->cs.length+(V.map λy=>y.rows.length).sum<=50000->Ct h0 h c us w ck fk U ws F cs->∃h' dh be,
 ZQ (J (us,U.map λx=>D.ref x.u)) (.nm 4) (xs2 ⟨P.G,P.GD,run P (n+1),P.L⟩ ZsU) (V.map λx=>D.ref x.u) [o0,o1,J (.ref fk),J (.ref ck),un,fs] h=.ok (.nx,[o0,o1,J (.ref fk),J (.ref ck),dh,be]) h'
  /\ Ct h0 h' c us w ck fk U ws F (cs++flat F cs.length (V.map Un.rows))
 |[],cs,h,un,fs,hV,hc,hz,z=>⟨h,un,fs,by rw[Oy,Zeg z.q.qs],by simpa[flat]using z⟩
 |y::V,cs,h,un,fs,hV,hc,hz,z=>by
  have hy:=hV y Oi;simp only[Op,OI]at hz;have ec:=Zt0 H n (a:=cs.length) (z.q.qr y hy) z.f y.rows [] (by simp;lia) (hc y Oi);have z1:=(z.app (g:=[.lst ((y.rows.map (nmb cs.length F)).map Rw.d)])).set (cs++y.rows.map (nmb cs.length F));obtain⟨h',dh,be,e,z2⟩:=ZqM H n (o0:=o0) (o1:=o1) V _ _ (J (.ref y.u)) (J (.int (cs.length:Int))) (λr hr=>hV r (Oh _ hr)) (λr hr=>hc r (Oh _ hr)) (by simp;lia) z1;refine⟨h',dh,be,?_,?_⟩
  . refine(Zq0 z.q.qs rfl ?_).trans e;rw[List.map_append];exact(Za (Zl ((ZeZ rfl (Zi8 z.k)).trans (by rw[Yt])))).trans ((Za (ZX (ZdZ rfl z.k (Zc (Zlc (Zmt (Zfx rfl (z.q.qu y hy) rfl) (z.q.qr y hy)) ec) rfl) (Zt2 (keep z.k) ZaU (by rw[YC];simp;lia))))).trans rfl)
  . have hl:(cs++y.rows.map (nmb cs.length F)).length=cs.length+y.rows.length:=by simp
    rw[hl]at z2;simpa[flat]using z2
end
set_option tactic.hygienic true
section
variable {P:Pg}
def Zd1.mono(h:m<=k)(c:Zd1 m r):Zd1 k r:=by
 cases r with
 |close a ns=>obtain⟨i,e,q⟩:=c;exact⟨i,e,by lia⟩
 |_=>trivial
theorem ZkI:∀(L:List (List Rw)) (a:Nat),(ZbJ a L).length=L.length+1
 |[],a=>rfl
 |r::L,a=>by simp[ZbJ,ZkI L]
def Rows(X:List Rw×List (List Rw))(Q:Rw->Prop):Prop:=(∀r∈X.1,Q r)/\∀u∈X.2,∀r∈u,Q r
def Rows.imp(h:Rows X Q)(f:∀r,Q r->Q' r):Rows X Q':=⟨λr hr=>f r (h.1 r hr),λu hu r hr=>f r (h.2 u hu r hr)⟩
def Zpv(hx:Rows X (Zd1 (k+X.2.length)))(hy:Rows Y (Zd1 (k+X.2.length+Y.2.length)))(h0:∀{m},Zd1 m r0):Rows (X.1++(Y.1++[r0]),X.2++Y.2) (Zd1 (k+(X.2++Y.2).length)):=by
 have bI:=hx.imp (λr hr=>hr.mono (k:=k+(X.2++Y.2).length) (by simp));have cI:=hy.imp (λr hr=>hr.mono (k:=k+(X.2++Y.2).length) (by simp;lia));refine⟨?_,?_⟩
 . intro r hr;simp only[OD,Ox]at hr;rcases hr with hr|hr|rfl
   . exact bI.1 r hr
   . exact cI.1 r hr
   . exact h0
 . intro u hu r hr;rcases OD.mp hu with hu|hu
   . exact bI.2 u hu r hr
   . exact cI.2 u hu r hr
def ZpA(hx:Rows X (Zd1 (k+X.2.length)))(hy:Rows Y (Zd1 (k+X.2.length+Y.2.length)))(hz:Rows Z_ (Zd1 (k+X.2.length+Y.2.length+Z_.2.length))):Rows (X.1++(.unl a::(Y.1++(.jmp b::Z_.1))),X.2++(Y.2++Z_.2)) (Zd1 (k+(X.2++(Y.2++Z_.2)).length)):=by
 have bI:=hx.imp (λr hr=>hr.mono (k:=k+(X.2++(Y.2++Z_.2)).length) (by simp));have cI:=hy.imp (λr hr=>hr.mono (k:=k+(X.2++(Y.2++Z_.2)).length) (by simp;lia));have eT:=hz.imp (λr hr=>hr.mono (k:=k+(X.2++(Y.2++Z_.2)).length) (by simp;lia));refine⟨?_,?_⟩
 . intro r hr;simp only[OD,O3]at hr;rcases hr with hr|rfl|hr|rfl|hr
   . exact bI.1 r hr
   . trivial
   . exact cI.1 r hr
   . trivial
   . exact eT.1 r hr
 . intro u hu r hr;simp only[OD]at hu;rcases hu with hu|hu|hu
   . exact bI.2 u hu r hr
   . exact cI.2 u hu r hr
   . exact eT.2 u hu r hr
theorem Zaz:∀(t:T) (sc:List Str) (l:Bool) (p k:Nat),Rows (comp t sc l p k) (Zd1 (k+(comp t sc l p k).2.length))
 |.num _,_,_,_,_=>by simp[comp,Rows,Zd1]
 |.name _,_,_,_,_=>by simp[comp,Rows,Zd1]
 |.fn y e,sc,l,p,k=>by
  have ih:=Zaz e (y::sc) Wx 0 (k+1);have fH:=ih.imp (λr hr=>hr.mono (k:=k+((comp e (y::sc) Wx 0 (k+1)).2.length+1)) (by lia));refine⟨?_,?_⟩
  . intro r hr;simp[comp]at hr;subst hr;exact⟨k,rfl,by simp[comp]⟩
  . intro u hu r hr;simp only[comp,O3]at hu;rcases hu with rfl|hu
    . rcases OD.mp hr with hr|hr
      . exact fH.1 r hr
      . simp at hr;subst hr;trivial
    . exact fH.2 u hu r hr
 |.rcc f y e,sc,l,p,k=>by
  have ih:=Zaz e (y::f::sc) Wx 0 (k+1);have fH:=ih.imp (λr hr=>hr.mono (k:=k+((comp e (y::f::sc) Wx 0 (k+1)).2.length+1)) (by lia));refine⟨?_,?_⟩
  . intro r hr;simp[comp]at hr;subst hr;exact⟨k,rfl,by simp[comp]⟩
  . intro u hu r hr;simp only[comp,O3]at hu;rcases hu with rfl|hu
    . rcases OD.mp hr with hr|hr
      . exact fH.1 r hr
      . simp at hr;subst hr;trivial
    . exact fH.2 u hu r hr
 |.call f a,sc,l,p,k=>Zpv (Zaz f sc Wy p k) (Zaz a sc Wy (p+cnt f) (k+(comp f sc Wy p k).2.length)) (by cases l<;>(intro m;trivial))
 |.op w f a,sc,l,p,k=>Zpv (Zaz f sc Wy p k) (Zaz a sc Wy (p+cnt f) (k+(comp f sc Wy p k).2.length)) trivial
 |.iff c t e,sc,l,p,k=>ZpA (Zaz c sc Wy p k) (Zaz t sc l (p+cnt c+1) (k+(comp c sc Wy p k).2.length))
  (Zaz e sc l (p+cnt c+1+cnt t+1) (k+(comp c sc Wy p k).2.length+(comp t sc l (p+cnt c+1) (k+(comp c sc Wy p k).2.length)).2.length))
def units(t:T):List (List Rw):=((comp t [] Wy 0 1).1++[.fin])::(comp t [] Wy 0 1).2
def code(t:T):List Rw:=flat (ZbJ 0 (units t)) 0 (units t)
def Zpt(t:T):∀u∈units t,∀r∈u,Zd1 (ZbJ 0 (units t)).length r:=by
 have q:=Zaz t [] Wy 0 1;have q':=q.imp (λr hr=>hr.mono (k:=(ZbJ 0 (units t)).length) (by rw[ZkI];simp[units];lia));intro u hu r hr;simp only[units,O3]at hu;rcases hu with rfl|hu
 . rcases OD.mp hr with hr|hr
   . exact q'.1 r hr
   . simp at hr;subst hr;trivial
 . exact q'.2 u hu r hr
theorem ZaY:∀(t:T) (sc:List Str) (l:Bool) (p k:Nat),(comp t sc l p k).1.length+((comp t sc l p k).2.map List.length).sum<=3*t.size
 |.num _,_,_,_,_=>by simp[comp,T.size,T.places]
 |.name _,_,_,_,_=>by simp[comp,T.size,T.places]
 |.fn y e,sc,l,p,k=>by have:=ZaY e (y::sc) Wx 0 (k+1);rw[Zb];simp[comp,T.parts];lia
 |.rcc f y e,sc,l,p,k=>by have:=ZaY e (y::f::sc) Wx 0 (k+1);rw[Zb];simp[comp,T.parts];lia
 |.call f a,sc,l,p,k=>by have:=ZaY f sc Wy p k;have:=ZaY a sc Wy (p+cnt f) (k+(comp f sc Wy p k).2.length);rw[Zb];simp[comp,T.parts];lia
 |.op w f a,sc,l,p,k=>by have:=ZaY f sc Wy p k;have:=ZaY a sc Wy (p+cnt f) (k+(comp f sc Wy p k).2.length);rw[Zb];simp[comp,T.parts];lia
 |.iff c t e,sc,l,p,k=>by
  have:=ZaY c sc Wy p k;have:=ZaY t sc l (p+cnt c+1) (k+(comp c sc Wy p k).2.length);have:=ZaY e sc l (p+cnt c+1+cnt t+1) (k+(comp c sc Wy p k).2.length+(comp t sc l (p+cnt c+1) (k+(comp c sc Wy p k).2.length)).2.length);rw[Zb];simp[comp,T.parts]
  lia
def Zr4(H:Cod P)(n:Nat)(h:Hd):Zg5 (run P (n+1)) (O "Coder") [] h=.ok (.ref h.length) (h++[.ins (O "Coder") [(O "units",.ref (h.length+1)),(O "waiting",.ref (h.length+2))],.lst [],.lst []]):=by unfold Zg5;rw[Zz H.n_Coder___init__ H.Coder___init__ (by rfl)];simp[Zam,Zdm,ZF,Zgr,ZhQ,YC]
theorem ZuK (H:Cod P) (n:Nat) (t:T) (ct:Gn.Cl [] t) (hz:t.size<=1000) (h:Hd):∃ h' k,run P (n+6) (O "code_of") [t.d] h=.ok (.ref k) h'/\h'[k]?=J (.lst ((code t).map Rw.d))/\h.length<=k/\h.length<=h'.length/\∀ i,i<h.length->h'[i]?=h[i]? := by
 rw [Zg H.code_of (by rfl)];have e0:=Zr4 H (n+4) h;have q0:St h (h++[.ins (O "Coder") [(O "units",.ref (h.length+1)),(O "waiting",.ref (h.length+2))],.lst [],.lst []]) h.length (h.length+1) (h.length+2) [] [] :=
   ⟨by simp,by simp,by simp,by simp,by simp,by simp,by lia,by simp,by simp,by lia,by lia,by simp,by simp,λi hi=>by rw [Oe hi]⟩
 have c0:=q0.qc;generalize (h++[.ins (O "Coder") [(O "units",.ref (h.length+1)),(O "waiting",.ref (h.length+2))],.lst [],.lst []])=R at *;obtain⟨h2,y,e1,y1,y2,q1⟩:=Zm9 H (n+3) q0 t [] Wy (by simp) (by simp);simp only [OB] at q1;have c1:=q1.qc;obtain⟨h3,z,N,e2,q2,er⟩:=Zw3 H n t ct hz y1 y2 q1;have c2:=q2.qc;have hl:(z::N).length=(units t).length:=by rw [<-Yt (f:=Un.rows),er];rfl
 have hu:=units_le t [] Wy 0 1;have e3:=ZpY H (n+4) q2 (by rw [hl];simp [units];lia);rw [er] at e3;have q3:Ct h (h3++[.lst (Fd' (ZbJ 0 (units t)))]++[.lst []]) h.length (h.length+1) (h.length+2) (h3.length+1) h3.length (z::N) [] (ZbJ 0 (units t)) []:=by
   have l1:=Zaj q2.qs;have l2:=Zaj q2.qw;exact⟨q2.app.app,by simp [Fd'],by simp,by lia,by lia,by lia,λx hx=>by have:=Zaj (q2.qr x hx);lia,by have:=q2.ol;lia⟩
 have k2:(h3++[DO.lst (Fd' (ZbJ 0 (units t)))]++[.lst []])[h.length+1]?=_:=q3.q.qs;have k3:(h3++[DO.lst (Fd' (ZbJ 0 (units t)))]++[.lst []])[h.length]?=_:=q3.q.qc;have ir:∀ u∈z::N,u.rows∈units t:=λu hu=>by
   have:u.rows∈(z::N).map Un.rows:=List.mem_map_of_mem hu;rw [er] at this;exact this
 obtain⟨h4,un,fs,e4,q4⟩:=ZqM H (n+4) (o0:=J t.d) (o1:=J (.ref h.length)) (z::N) [] _ M M (λy hy=>hy) (λy hy r hr=>Zpt t y.rows (ir y hy) r hr) (by
     have:((z::N).map λy=>y.rows.length).sum=((units t).map List.length).sum:=by
       rw [show (λy:Un=>y.rows.length)=List.length ∘ Un.rows from rfl,<-List.map_map,er];rfl
     rw [this];have:=ZaY t [] Wy 0 1;simp [units]
     lia) q3
 refine⟨h4,h3.length+1,?_,?_,by have:=q2.ol;lia,q4.q.ol,q4.q.old⟩
 . have x5:∀ S,ev (P.tbl (n+5)) (.lstl .nil) S (h3++[.lst (Fd' (ZbJ 0 (units t)))])=.ok (.ref (h3.length+1)) (h3++[.lst (Fd' (ZbJ 0 (units t)))]++[.lst []]):=λS=>(Zij (xs:=[]) rfl (by decide)).trans (by rw [OA];rfl);have x6:xs1 (P.tbl (n+5)) Zg2 [J t.d,J (.ref h.length),J (.ref h3.length),J (.ref (h3.length+1)),M,M] _=_:=(Zdv (Zmt (Zfx rfl k3 rfl) k2)).trans e4;have w:xs2 (P.tbl (n+5)) Zju [J t.d,M,M,M,M,M] h=.ok (.rt (.ref (h3.length+1)),_) h4:=(Za (Zl (Zvp rfl e0))).trans ((Za (ZX (ZB rfl c0 rfl rfl e1))).trans ((Za (ZX (ZB rfl c1 rfl rfl e2))).trans ((Za (Zl (Zv e3 (Zc (Zfx rfl c2 rfl) rfl)))).trans ((Za (Zl (x5 _))).trans ((Za x6).trans (Zd (Zu rfl)))))));exact congrArg Ze w
 . have:=q4.k;rw [er] at this;simpa [code,units] using this
end
set_option tactic.hygienic false
section
noncomputable def off(L:List (List Rw))(i:Nat):Nat:=((L.take i).map List.length).sum
theorem Znf:∀(L:List (List Rw)) (a i:Nat),i<=L.length->(ZbJ a L)[i]?=J (a+off L i)
 |[],a,i,h=>by simp at h;subst h;simp[ZbJ,off]
 |r::L,a,0,h=>by simp[ZbJ,off]
 |r::L,a,i+1,h=>by
  have:=Znf L (a+r.length) i (by simpa using h);simp[ZbJ,this,off]
  lia
theorem ZnD(F:List Nat):∀(L:List (List Rw)) (a i j:Nat) (u:List Rw) (r:Rw),L[i]?=J u->u[j]?=J r->(flat F a L)[off L i+j]?=J (nmb (a+off L i) F r)
 |[],a,i,j,u,r,hi,hj=>by simp at hi
 |v::L,a,0,j,u,r,hi,hj=>by simp at hi;subst hi;have hl:=(Ob.mp hj).1;rw[flat,show off (v::L) 0=0 by simp[off],Nat.zero_add,Oe (by simpa using hl),O2,hj];rfl
 |v::L,a,i+1,j,u,r,hi,hj=>by
  have ih:=ZnD F L (a+v.length) i j u r (by simpa using hi) hj;have e:off (v::L) (i+1)=v.length+off L i:=by simp[off]
  rw[flat,e,Om (by simp;lia)];rw[show v.length+off L i+j-(v.map (nmb a F)).length=off L i+j by simp;lia,ih];congr 2
  lia
def Plc(L:List (List Rw))(i p:Nat)(rs:List Rw):Prop:=∃u,L[i]?=J u/\∀j r,rs[j]?=J r->u[p+j]?=J r
def Uts(L:List (List Rw))(k:Nat)(us:List (List Rw)):Prop:=∀j u,us[j]?=J u->L[k+j]?=J u
variable {L:List (List Rw)}{i p k:Nat}
def Plc.left(h:Plc L i p (a++b)):Plc L i p a:=by obtain⟨u,R,h2⟩:=h;exact⟨u,R,λj r hr=>h2 j r (by rw[Oe (Ob.mp hr).1];exact hr)⟩
def Plc.right(h:Plc L i p (a++b)):Plc L i (p+a.length) b:=by
 obtain⟨u,R,h2⟩:=h;refine⟨u,R,λj r hr=>?_⟩;have:=h2 (a.length+j) r (by rw[Om (by lia)];simpa using hr);rw[<-this];congr 1
 lia
def Plc.head(h:Plc L i p (r::b)):(flat (ZbJ 0 L) 0 L)[off L i+p]?=J (nmb (off L i) (ZbJ 0 L) r):=by obtain⟨u,R,h2⟩:=h;have:=ZnD (ZbJ 0 L) L 0 i p u r R (by simpa using h2 0 r rfl);simpa using this
def Plc.tail(h:Plc L i p (r::b)):Plc L i (p+1) b:=Plc.right (a:=[r]) h
def Uts.left(h:Uts L k (a++b)):Uts L k a:=λj u hu=>h j u (by rw[Oe (Ob.mp hu).1];exact hu)
def Uts.right(h:Uts L k (a++b)):Uts L (k+a.length) b:=λj u hu=>by
 have:=h (a.length+j) u (by rw[Om (by lia)];simpa using hu);rw[<-this];congr 1
 lia
def Uts.head(h:Uts L k (r::b)):Plc L k 0 r:=⟨r,by simpa using h 0 r rfl,λj x hx=>by simpa using hx⟩
def Uts.len(h:Uts L k (r::b)):k<L.length:=(Ob.mp (show L[k]?=J r by simpa using h 0 r rfl)).1
def Uts.tail(h:Uts L k (r::b)):Uts L (k+1) b:=Uts.right (a:=[r]) h
end
section
noncomputable def ZY(z:Int):D:=.tup [.str (O "num"),.int z]
noncomputable def Z2(q:Nat)(ns:List Str)(ds:List D):D:=.tup [.str (O "clo"),.int q,.tup (ns.map .str),.tup ds]
structure Ma where
 p:Nat
 S_:List D
 E:List D
 pl:List (Nat×List D)
noncomputable def fr(f:Nat×List D):D:=.tup [.int (f.1:Int),.tup f.2]
def Ma.d(s:Ma):D:=.tup [.int (s.p:Int),.tup s.S_,.tup s.E,.tup (s.pl.map fr)]
inductive Ans where
 |quiet (s:Ma)|loud (s:Ma)|value|stuck
noncomputable def Ans.d:Ans->D
 |.quiet s=>.tup [.str (O "quiet"),s.d]
 |.loud s=>.tup [.str (O "loud"),s.d]
 |.value=>.tup [.str (O "value")]
 |.stuck=>.tup [.str (O "stuck")]
section
variable {α:Type}{l:List α}{a b:α}
def Zrz:atI (l++[a,b]) (-1)=J b:=by have:=ZeK (l:=l++[a]) (x:=b);simpa using this
def Zn2:atI (l++[a,b]) (-2)=J a:=by
 unfold atI ixN;rw[if_neg (by decide),if_pos (by simp;lia)];have:(-2+((l++[a,b]).length:Int)).toNat=l.length:=by simp;lia
 simp only[Yz,this];simp
end
def Zv9:cutD (l++[a]) M (J (-1))=l:=by
 have e:HT.sIx (l++[a]).length (l++[a]).length (J (-1))=l.length:=by simp[HT.sIx];lia
 have e0:HT.sIx (l++[a]).length 0 M=0:=by simp[HT.sIx]
 unfold cutD;rw[e,e0];simp
def Zrf:cutD (l++[a,b]) M (J (-2))=l:=by
 have e:HT.sIx (l++[a,b]).length (l++[a,b]).length (J (-2))=l.length:=by simp[HT.sIx];lia
 have e0:HT.sIx (l++[a,b]).length 0 M=0:=by simp[HT.sIx]
 unfold cutD;rw[e,e0];simp
variable {P:Pg}{h:Hd}
def Zs4:opC GD .In (.str (Str.ofString x)) (.tup [.str (O "call"),.str (O "hop"),.str (O "unless"),.str (O "work")]) h=.ok (.bl (Wz (x="call" \/ x="hop" \/ x="unless" \/ x="work"))) h:=by have:=@ZaZ GD h [O "call",O "hop",O "unless",O "work"] (Str.ofString x);simpa using this
def psh(E:List D):Rw->Option D
 |.num z=>J (ZY z)
 |.fetch i=>E[i]?
 |.close q ns=>J (.tup [.str (O "clo"),.int q,.tup (ns.map .str),.tup E])
 |_=>M
def ZcR(e:atI E i=J x):Zbq GD (.tup E) (.int i) h=.ok x h:=by show qe.ofO (atI E i) h=_;rw[e];rfl
def Zm4(H:Cod P)(n:Nat)(r:Rw)(E:List D)(hx:psh E r=J x):run P (n+1) (O "thing_of") [r.d,.tup E] h=.ok x h:=by
 rw[Zg H.thing_of rfl];cases r with
 |num z=>cases hx;exact rfl
 |fetch i=>exact congrArg Ze ((Za ((Zf rfl).trans rfl)).trans (Zd ((Zi rfl).trans (Zd (Zu ((Zm rfl rfl).trans (ZcR (by rw[IV.ZbH];exact hx))))))))
 |close q ns=>cases hx;exact rfl
 |_=>cases hx
def Zr1(H:Cod P)(n:Nat)(r:Rw)(s:Ma)(hx:psh s.E r=J x)(hz:s.S_.length<=10000):run P (n+2) (O "quiet_state") [r.d,s.d] h=.ok (Ma.d ⟨s.p+1,s.S_++[x],s.E,s.pl⟩) h:=by
 rw[Zg H.quiet_state rfl];have e1:=Zm4 H n (h:=h) r s.E hx;have hw:Str.ofString (wd r)≠O "jump" /\ Str.ofString (wd r)≠O "back" := by cases r<;>first|(cases hx;done)|simp[wd]
 obtain⟨ds,ed⟩:=Zlf r;rw[ed]at e1 ⊢;exact congrArg Ze ((Za ((Zf (Zh (Zad (Zfl rfl) rfl) (decide_eq_false hw.1))).trans rfl)).trans ((Za ((Zf (Zh (Zad (Zfl rfl) rfl) (decide_eq_false hw.2))).trans rfl)).trans (Zd (Zu (Zan (xs:=[_,_,_,_]) (Zc rfl (Zc ((Zj (x:=.tup s.S_) rfl (Zan (xs:=[_]) (Zc (Zv e1 rfl) rfl) (show 1<=1000 by decide))).trans (Zb6 (by rw[YC];simp;lia))) rfl)) (show 4<=1000 by decide))))))
def ZlT(H:Cod P)(n:Nat)(q:Nat)(s:Ma):run P (n+1) (O "quiet_state") [(Rw.jmp q).d,s.d] h=.ok (Ma.d ⟨q,s.S_,s.E,s.pl⟩) h:=by rw[Zg H.quiet_state (by rfl)];have c1:∀a b c d:D,opB .Add (.tup [a]) (.tup [b,c,d]) h=.ok (.tup [a,b,c,d]) h:=λa b c d=>Zb6 (by rw[YC];simp);exact rfl
def Zx7:cutD (a::l) (J 1) M=l:=by simp[cutD,HT.sIx]
def ZuN(H:Cod P)(n:Nat)(p q:Nat)(S_ E ds:List D)(pl:List (Nat×List D)):run P (n+1) (O "quiet_state") [Rw.back.d,Ma.d ⟨p,S_,E,(q,ds)::pl⟩] h=.ok (Ma.d ⟨q,S_,ds,pl⟩) h:=by rw[Zg H.quiet_state rfl];exact congrArg Ze ((Za ((Zf rfl).trans rfl)).trans (Zd ((Zi rfl).trans ((Za (Zl (Zfl (x:=fr (q,ds)) rfl))).trans (Zd (Zu (Zan (xs:=[_,_,_,_]) (Zc rfl (Zc rfl (Zc rfl (Zc ((Gn.ZiW (x:=.tup (((q,ds)::pl).map fr)) rfl rfl rfl).trans (by rw[Op];show qe.ok (D.tup (cutD _ _ _)) h=_;rw[Zx7])) rfl)))) (show 4<=1000 by decide))))))))
def ent(q:Nat)(ns:List Str)(ds:List D)(v:D):List D:=if ns.length=1 then v::ds else v::Z2 q ns ds::ds
def Zop(H:Cod P)(n:Nat)(q:Nat)(ns:List Str)(ds:List D)(v:D)(hz:ds.length<=10000):run P (n+1) (O "entered") [Z2 q ns ds,v] h=.ok (.tup (ent q ns ds v)) h:=by
 rw[Zg H.entered rfl];unfold ent;have t:tst (P.tbl n) (.ex (.cmp .Eq (.blt .len (.cons (.ix (.var 0) (.ci 2)) .nil)) (.ci 1))) [J (Z2 q ns ds),J v] h=.ok (Wz (((ns.map D.str).length:Int)=1)) h:=Zfn rfl rfl;rw[Yt]at t;by_cases e:ns.length=1
 . rw[if_pos e];exact congrArg Ze (Zd ((Zi (Zh t (decide_eq_true (by lia)))).trans (Zd (Zu ((Zj rfl rfl).trans (Zb6 (xs:=[v]) (by rw[YC];simp;lia)))))))
 . rw[if_neg e];exact congrArg Ze ((Za ((Zf (Zh t (decide_eq_false (by lia)))).trans rfl)).trans (Zd (Zu ((Zj rfl rfl).trans (Zb6 (xs:=[v,Z2 q ns ds]) (by rw[YC];simp;lia))))))
def Zot(H:Cod P)(n:Nat)(z:Int)(S_:List D)(V pl:D):run P (n+2) (O "applied") [.tup (S_++[ZY z,V]),pl] h=.ok .non h:=by rw[Zg H.applied rfl];exact congrArg Ze ((Za (Zl ((Zm rfl rfl).trans (ZcR Zn2)))).trans (Zd ((Zi rfl).trans rfl)))
def Zi2(H:Cod P)(n:Nat)(q:Nat)(ns:List Str)(ds:List D)(S_:List D)(V pl:D)(hz:ds.length<=10000):run P (n+2) (O "applied") [.tup (S_++[Z2 q ns ds,V]),pl] h=.ok (.tup [.int (q:Int),.tup S_,.tup (ent q ns ds V),pl]) h:=by rw[Zg H.applied rfl];exact congrArg Ze ((Za (Zl ((Zm rfl rfl).trans (ZcR Zn2)))).trans ((Za ((Zf rfl).trans rfl)).trans (Zd (Zu (Zan (xs:=[_,_,_,_]) (Zc rfl (Zc ((Gn.ZiW (x:=.tup (S_++[Z2 q ns ds,V])) rfl rfl rfl).trans (by show qe.ok (D.tup (cutD _ _ _)) h=_;rw[Zrf])) (Zc (Zv (Zop H n q ns ds V hz) (Zc rfl (Zc ((Zm rfl rfl).trans (ZcR Zrz)) rfl))) rfl))) (show 4<=1000 by decide))))))
def ZpZ(H:Cod P)(n:Nat)(z:Int)(A B_:D):run P (n+1) (O "chosen") [ZY z,A,B_] h=.ok (if z=0 then B_ else A) h:=by
 rw[Zg H.chosen rfl];refine congrArg Ze ((Za ((Zf rfl).trans rfl)).trans (Zd (Zu ?_)));rw[Zq4,Zfn (x:=z) rfl rfl,Zq];by_cases e:z=0
 . rw[decide_eq_true e,if_pos rfl,if_pos e];rfl
 . rw[decide_eq_false e,if_neg (by decide),if_neg e];rfl
def ZjD(H:Cod P)(n:Nat)(q:Nat)(ns:List Str)(ds:List D)(A B_:D):run P (n+1) (O "chosen") [Z2 q ns ds,A,B_] h=.ok .non h:=by rw[Zg H.chosen (by rfl)];exact rfl
def ZpR(H:Cod P)(n:Nat)(w:Wd)(a b:Int)(ha:0<=a/\a<1000000)(hb:0<=b/\b<1000000):run P (n+1) (O "worked") [.str w.s,ZY a,ZY b] h=.ok (ZY (_root_.Rw.wk w a b)) h:=_root_.Rw.worked_nn H.worked H.gb n w ha hb
end
section
variable {P:Pg}{h:Hd}{C:List Rw}
def ZwQ{U:Tb}(p:ev U e S h=.ok (.tup (S_++[x])) h):ev U (.sl e M (J (.neg (.ci 1)))) S h=.ok (.tup S_) h:=(Gn.ZiW p rfl rfl).trans (by show qe.ok (D.tup (cutD _ _ _)) h=_;rw[Zv9])
def ZlV(H:Cod P)(n:Nat)(q p:Nat)(z:Int)(S_ E:List D)(pl:List (Nat×List D)):run P (n+2) (O "gone_on") [.int (q:Int),Ma.d ⟨p,S_++[ZY z],E,pl⟩] h=.ok (Ma.d ⟨if z=0 then q else p+1,S_,E,pl⟩) h:=by
 rw[Zg H.gone_on rfl];have e3:=ZpZ H n (h:=h) z (.int ((p:Int)+1)) (.int q);have go:∀m:Nat,(if z=0 then D.int q else .int ((p:Int)+1))=.int m->Ze (xs2 (P.tbl (n+1)) Zjt [J (.int q),J (Ma.d ⟨p,S_++[ZY z],E,pl⟩),M] h)=.ok (Ma.d ⟨m,S_,E,pl⟩) h:=λm e=>by rw[e]at e3;exact congrArg Ze ((Za (Zl (Zv e3 (Zc ((Zm rfl rfl).trans (ZcR ZeK)) rfl)))).trans ((Za ((Zf (ZqS (x:=.int m) rfl nofun)).trans rfl)).trans (Zd (Zu (Zan (xs:=[_,_,_,_]) (Zc rfl (Zc (ZwQ rfl) rfl)) (show 4<=1000 by decide))))))
 exact go _ (by split<;>rfl)
def ZlW(H:Cod P)(n:Nat)(q p:Nat)(k:Nat)(ns:List Str)(ds:List D)(S_ E:List D)(pl:List (Nat×List D)):run P (n+2) (O "gone_on") [.int (q:Int),Ma.d ⟨p,S_++[Z2 k ns ds],E,pl⟩] h=.ok .non h:=by rw[Zg H.gone_on rfl];exact congrArg Ze ((Za (Zl (Zv (ZjD H n k ns ds (.int ((p:Int)+1)) (.int q)) (Zc ((Zm rfl rfl).trans (ZcR ZeK)) rfl)))).trans (Zd ((Zi (ZqR rfl)).trans rfl)))
def ZuE(H:Cod P)(n:Nat)(w:Wd)(p:Nat)(a b:Int)(S_ E:List D)(pl:List (Nat×List D))(ha:0<=a/\a<1000000)(hb:0<=b/\b<1000000)(hz:S_.length<=10000):run P (n+2) (O "reckoned") [.str w.s,Ma.d ⟨p,S_++[ZY a,ZY b],E,pl⟩] h=.ok (Ma.d ⟨p+1,S_++[ZY (_root_.Rw.wk w a b)],E,pl⟩) h:=by rw[Zg H.reckoned rfl];exact congrArg Ze ((Za (Zl rfl)).trans ((Za (Zl (Zv (ZpR H n w a b ha hb) (Zc rfl (Zc ((Zm rfl rfl).trans (ZcR Zn2)) (Zc ((Zm rfl rfl).trans (ZcR Zrz)) rfl)))))).trans ((Za ((Zf (ZqS (x:=ZY _) rfl nofun)).trans rfl)).trans (Zd (Zu (Zan (xs:=[_,_,_,_]) (Zc rfl (Zc ((Zj ((Gn.ZiW (x:=.tup (S_++[ZY a,ZY b])) rfl rfl rfl).trans (by show qe.ok (D.tup (cutD _ _ _)) h=_;rw[Zrf])) rfl).trans (Zb6 (ys:=[ZY (_root_.Rw.wk w a b)]) (by rw[YC];simp;lia))) rfl)) (show 4<=1000 by decide)))))))
def Zub:D->Ans->Prop:=λd a=>(d=.non/\a=.stuck)\/∃s:Ma,d=s.d/\a=.loud s
def Zon(H:Cod P)(n:Nat)(ha:Zub d a):run P (n+1) (O "loud_or_stuck") [d] h=.ok a.d h:=by
 rw[Zg H.loud_or_stuck rfl];rcases ha with⟨rfl,rfl⟩|⟨s,rfl,rfl⟩
 . exact congrArg Ze (Zd ((Zi (ZqR rfl)).trans rfl))
 . exact congrArg Ze ((Za ((Zf (ZqS (x:=s.d) rfl nofun)).trans rfl)).trans (Zd (Zu rfl)))
def Zi0(H:Cod P)(n:Nat)(s:Ma)(hz:s.pl.length<=10000)(e:run P (n+2) (O "applied") [.tup s.S_,.tup (((s.p+1,s.E)::s.pl).map fr)] h=.ok d h):run P (n+3) (O "loud_state") [Rw.call.d,s.d] h=.ok d h:=by rw[Zg H.loud_state rfl];exact congrArg Ze (Zd ((Zi rfl).trans (Zd (Zu (Zv e (Zc rfl (Zc ((Zj rfl rfl).trans (Zb6 (xs:=[fr (s.p+1,s.E)]) (by rw[YC];simp;lia))) rfl)))))))
def ZkB(H:Cod P)(n:Nat)(s:Ma)(e:run P (n+2) (O "applied") [.tup s.S_,.tup (s.pl.map fr)] h=.ok d h):run P (n+3) (O "loud_state") [Rw.hop.d,s.d] h=.ok d h:=by rw[Zg H.loud_state rfl];exact congrArg Ze ((Za ((Zf rfl).trans rfl)).trans (Zd ((Zi rfl).trans (Zd (Zu (Zv e rfl))))))
def ZkA(H:Cod P)(n:Nat)(q:Int)(s:Ma)(e:run P (n+2) (O "gone_on") [.int q,s.d] h=.ok d h):run P (n+3) (O "loud_state") [(Rw.unl q).d,s.d] h=.ok d h:=by rw[Zg H.loud_state rfl];exact congrArg Ze ((Za ((Zf rfl).trans rfl)).trans ((Za ((Zf rfl).trans rfl)).trans (Zd ((Zi rfl).trans (Zd (Zu (Zv e rfl)))))))
def ZiZ(H:Cod P)(n:Nat)(w:Wd)(s:Ma)(e:run P (n+2) (O "reckoned") [.str w.s,s.d] h=.ok d h):run P (n+3) (O "loud_state") [(Rw.work w).d,s.d] h=.ok d h:=by rw[Zg H.loud_state rfl];exact congrArg Ze ((Za ((Zf rfl).trans rfl)).trans ((Za ((Zf rfl).trans rfl)).trans ((Za ((Zf rfl).trans rfl)).trans (Zd (Zu (Zv e rfl))))))
def ZbT{GD:Str->Option (List (Key×D))}{k p:Nat}{r:Rw}(hk:h[k]?=J (.lst (C.map Rw.d)))(hc:C[p]?=J r):Zbq GD (.ref k) (.int (p:Int)) h=.ok r.d h:=by rw[Z0 hk,IV.ZbH,O2,hc];rfl
noncomputable def ZtY:Rw->Bool
 |.call|.hop|.unl _|.work _=>Wx
 |_=>Wy
noncomputable def ZlY:Rw->Bool
 |.num _|.fetch _|.close _ _|.jmp _|.back=>Wx
 |_=>Wy
def ZlR(H:Cod P)(n:Nat)(s:Ma){k:Nat}(hk:h[k]?=J (.lst (C.map Rw.d)))(hc:C[s.p]?=J .fin):run P (n+1) (O "code_step") [.ref k,s.d] h=.ok Ans.value.d h:=by rw[Zg H.code_step rfl];exact congrArg Ze ((Za (Zl ((Zm rfl rfl).trans (ZbT hk hc)))).trans (Zd ((Zi rfl).trans (Zd (Zu rfl)))))
def ZsV{r:Rw}(hr:ZtY r=Wx):Str.ofString (wd r)≠O "end" /\ (wd r="call" \/ wd r="hop" \/ wd r="unless" \/ wd r="work"):=by cases r<;>first|(cases hr;done)|simp[wd]
def Zp3{r:Rw}(hr:ZlY r=Wx):Str.ofString (wd r)≠O "end" /\ ¬ (wd r="call" \/ wd r="hop" \/ wd r="unless" \/ wd r="work"):=by cases r<;>first|(cases hr;done)|simp[wd]
def ZpC(H:Cod P)(p:ev (P.tbl n) e S h=.ok (.str (Str.ofString x)) h):tst (P.tbl n) (.ex (.cmp .In e (.glo (O "LOUD")))) S h=.ok (Wz (x="call" \/ x="hop" \/ x="unless" \/ x="work")) h:=Zb9 ((Zp p (by rw[Zik,show(P.tbl n).G _=_ from H.go];rfl)).trans Zs4)
def Z3(H:Cod P)(n:Nat)(s:Ma){k:Nat}{r:Rw}(hk:h[k]?=J (.lst (C.map Rw.d)))(hc:C[s.p]?=J r)(hr:ZtY r=Wx){d:D}{a:Ans}(ha:Zub d a)(e1:run P (n+3) (O "loud_state") [r.d,s.d] h=.ok d h):run P (n+4) (O "code_step") [.ref k,s.d] h=.ok a.d h:=by rw[Zg H.code_step rfl];obtain⟨ds,ed⟩:=Zlf r;have e:=ZbT (GD:=P.GD) hk hc;rw[ed]at e e1;have hw:=ZsV hr;exact congrArg Ze ((Za (Zl ((Zm rfl rfl).trans e))).trans ((Za ((Zf (Zh (Zad (Zfl rfl) rfl) (decide_eq_false hw.1))).trans rfl)).trans (Zd ((Zi (Zh (ZpC (n:=n+3) H (Zfl rfl)) (decide_eq_true hw.2))).trans (Zd (Zu (Zv (Zon H (n+2) ha) (Zc (Zv e1 rfl) rfl))))))))
def Zdp(H:Cod P)(n:Nat)(s s':Ma){k:Nat}{r:Rw}(hk:h[k]?=J (.lst (C.map Rw.d)))(hc:C[s.p]?=J r)(hr:ZlY r=Wx)(e1:run P (n+3) (O "quiet_state") [r.d,s.d] h=.ok s'.d h):run P (n+4) (O "code_step") [.ref k,s.d] h=.ok (Ans.quiet s').d h:=by rw[Zg H.code_step rfl];obtain⟨ds,ed⟩:=Zlf r;have e:=ZbT (GD:=P.GD) hk hc;rw[ed]at e e1;have hw:=Zp3 hr;exact congrArg Ze ((Za (Zl ((Zm rfl rfl).trans e))).trans ((Za ((Zf (Zh (Zad (Zfl rfl) rfl) (decide_eq_false hw.1))).trans rfl)).trans ((Za ((Zf (Zh (ZpC (n:=n+3) H (Zfl rfl)) (decide_eq_false hw.2))).trans rfl)).trans (Zd (Zu (Zan (xs:=[_,_]) (Zc rfl (Zc (Zv e1 rfl) rfl)) (show 2<=1000 by decide)))))))
end
set_option tactic.hygienic true
inductive Cd(C:List Rw):List Str->Bool->Nat->T->Nat->Prop
 |num {sc:List Str}{l:Bool}{p:Nat}{n:Int}:C[p]?=J (.num n)->Cd C sc l p (.num n) (p+1)
 |name {sc:List Str}{l:Bool}{p i:Nat}{x:Str}:C[p]?=J (.fetch i)->Tx.place x sc=J i->Cd C sc l p (.name x) (p+1)
 |fn {sc:List Str}{l:Bool}{p q q':Nat}{x:Str}{e:T}:C[p]?=J (.close (q:Int) [x])->Cd C (x::sc) Wx q e q'->C[q']?=J .back->Cd C sc l p (.fn x e) (p+1)
 |rcc {sc:List Str}{l:Bool}{p q q':Nat}{f x:Str}{e:T}:C[p]?=J (.close (q:Int) [x,f])->Cd C (x::f::sc) Wx q e q'->C[q']?=J .back->Cd C sc l p (.rcc f x e) (p+1)
 |call {sc:List Str}{l:Bool}{p p1 p2:Nat}{f a:T}:Cd C sc Wy p f p1->Cd C sc Wy p1 a p2->C[p2]?=J (if l then .hop else .call)->Cd C sc l p (.call f a) (p2+1)
 |op {sc:List Str}{l:Bool}{p p1 p2:Nat}{w:Wd}{a b:T}:Cd C sc Wy p a p1->Cd C sc Wy p1 b p2->C[p2]?=J (.work w)->Cd C sc l p (.op w a b) (p2+1)
 |iff {sc:List Str}{l:Bool}{p p1 p2 p3:Nat}{c t e:T}:Cd C sc Wy p c p1->C[p1]?=J (.unl ((p2+1:Nat):Int))->Cd C sc l (p1+1) t p2->C[p2]?=J (.jmp (p3:Int))->Cd C sc l (p2+1) e p3->Cd C sc l p (.iff c t e) p3
section
variable {L:List (List Rw)}{i p k:Nat}
def Zll{ns:List Str}{r:List Rw}{us:List (List Rw)}(hp:Plc L i p [.close k ns])(hu:Uts L k (r::us)):(flat (ZbJ 0 L) 0 L)[off L i+p]?=J (.close ((off L k:Nat):Int) ns):=by
 have e:nmb (off L i) (ZbJ 0 L) (.close k ns)=.close ((off L k:Nat):Int) ns:=by have:=Znf L 0 k (Yy hu.len);simp[nmb,this]
 rw[<-e];exact hp.head
def Zrn{m:Nat}{rs:List Rw}{us:List (List Rw)}(hu:Uts L k ((rs++[.back])::us))(hm:rs.length=m):(flat (ZbJ 0 L) 0 L)[off L k+(0+m)]?=J .back:=by have:=hu.head.right.head;rw[hm]at this;exact this
theorem ZbF:∀(t:T) (sc:List Str) (l:Bool) (p k i:Nat),Gn.Cl sc t->Plc L i p (comp t sc l p k).1->Uts L k (comp t sc l p k).2->Cd (flat (ZbJ 0 L) 0 L) sc l (off L i+p) t (off L i+(p+cnt t))
 |.num m,sc,l,p,k,i,ct,hp,hu=>.num hp.head
 |.name y,sc,l,p,k,i,ct,hp,hu=>by obtain⟨j,e1,e2⟩:=Zgv (show y∈sc from ct);have hc:=hp.head;simp only[e1,Option.getD_some]at hc;exact .name hc e1
 |.fn y e,sc,l,p,k,i,ct,hp,hu=>.fn (Zll hp hu) (ZbF e (y::sc) Wx 0 (k+1) k ct.1 hu.head.left hu.tail) (Zrn hu (ZA e _ _ _ _))
 |.rcc f y e,sc,l,p,k,i,ct,hp,hu=>.rcc (Zll hp hu) (ZbF e (y::f::sc) Wx 0 (k+1) k ct.1 hu.head.left hu.tail) (Zrn hu (ZA e _ _ _ _))
 |.call f a,sc,l,p,k,i,ct,hp,hu=>by have p2:=hp.right;rw[ZA]at p2;have p3:=p2.right;rw[ZA]at p3;have:=Cd.call (l:=l) (ZbF f sc Wy p k i ct.1 hp.left hu.left) (ZbF a sc Wy (p+cnt f) _ i ct.2 p2.left hu.right) (by cases l<;>exact p3.head);rw[show off L i+(p+cnt (T.call f a))=off L i+(p+cnt f+cnt a)+1 by simp only[cnt];lia];exact this
 |.op w f a,sc,l,p,k,i,ct,hp,hu=>by have p2:=hp.right;rw[ZA]at p2;have p3:=p2.right;rw[ZA]at p3;have:=Cd.op (l:=l) (ZbF f sc Wy p k i ct.1 hp.left hu.left) (ZbF a sc Wy (p+cnt f) _ i ct.2 p2.left hu.right) p3.head;rw[show off L i+(p+cnt (T.op w f a))=off L i+(p+cnt f+cnt a)+1 by simp only[cnt];lia];exact this
 |.iff c t e,sc,l,p,k,i,ct,hp,hu=>by have p2:=hp.right;rw[ZA]at p2;have p3:=p2.tail;have p4:=p3.right;rw[ZA]at p4;have hh:=p2.head;have hj:=p4.head;simp only[nmb]at hh hj;rw[show((off L i:Nat):Int)+((p+cnt c+1+cnt t+1:Nat):Int)=((off L i+(p+cnt c+1+cnt t)+1:Nat):Int) by lia]at hh;rw[show((off L i:Nat):Int)+((p+cnt c+1+cnt t+1+cnt e:Nat):Int)=((off L i+(p+cnt c+1+cnt t+1+cnt e):Nat):Int) by lia]at hj;have:=Cd.iff (l:=l) (ZbF c sc Wy p k i ct.1 hp.left hu.left) hh (ZbF t sc l (p+cnt c+1) _ i ct.2.1 p3.left hu.right.left) hj (ZbF e sc l (p+cnt c+1+cnt t+1) _ i ct.2.2 p4.tail hu.right.right);rw[show p+cnt (T.iff c t e)=p+cnt c+1+cnt t+1+cnt e by simp[cnt];lia];exact this
end
def Ztp(t:T)(ct:Gn.Cl [] t):Cd (code t) [] Wy 0 t (cnt t)/\(code t)[cnt t]?=J .fin:=by
 have hp:Plc (units t) 0 0 ((comp t [] Wy 0 1).1++[.fin]):=⟨_,rfl,λj x hx=>by simpa using hx⟩
 have hu:Uts (units t) 1 (comp t [] Wy 0 1).2:=λj u hu=>by rw[YW];simpa[units]using hu
 have R:=hp.right.head;rw[ZA]at R;have h2:=ZbF (L:=units t) t [] Wy 0 1 0 ct hp.left hu;have z:off (units t) 0=0:=by simp[off]
 rw[z]at R h2;simp only[Nat.zero_add]at R h2;exact⟨h2,R⟩
section
inductive Stp(C:List Rw):Ma->Bool->Ma->Prop
 |push {p:Nat}{S_ E:List D}{pl:List (Nat×List D)}{r:Rw}{x:D} (hc:C[p]?=J r) (hx:psh E r=J x) (hz:S_.length<=10000):Stp C ⟨p,S_,E,pl⟩ Wy ⟨p+1,S_++[x],E,pl⟩
 |jmp {p q:Nat}{S_ E:List D}{pl:List (Nat×List D)} (hc:C[p]?=J (.jmp (q:Int))):Stp C ⟨p,S_,E,pl⟩ Wy ⟨q,S_,E,pl⟩
 |back {p q:Nat}{S_ E ds:List D}{pl:List (Nat×List D)} (hc:C[p]?=J .back):Stp C ⟨p,S_,E,(q,ds)::pl⟩ Wy ⟨q,S_,ds,pl⟩
 |call {p q:Nat}{ns:List Str}{V:D}{S_ E ds:List D}{pl:List (Nat×List D)} (hc:C[p]?=J .call) (hd:ds.length<=10000) (hp:pl.length<=10000):Stp C ⟨p,S_++[Z2 q ns ds,V],E,pl⟩ Wx ⟨q,S_,ent q ns ds V,(p+1,E)::pl⟩
 |hop {p q:Nat}{ns:List Str}{V:D}{S_ E ds:List D}{pl:List (Nat×List D)} (hc:C[p]?=J .hop) (hd:ds.length<=10000):Stp C ⟨p,S_++[Z2 q ns ds,V],E,pl⟩ Wx ⟨q,S_,ent q ns ds V,pl⟩
 |work {p:Nat}{w:Wd}{a b:Int}{S_ E:List D}{pl:List (Nat×List D)} (hc:C[p]?=J (.work w)) (ha:0<=a/\a<1000000) (hb:0<=b/\b<1000000) (hz:S_.length<=10000):Stp C ⟨p,S_++[ZY a,ZY b],E,pl⟩ Wx ⟨p+1,S_++[ZY (_root_.Rw.wk w a b)],E,pl⟩
 |unl {p q:Nat}{z:Int}{S_ E:List D}{pl:List (Nat×List D)} (hc:C[p]?=J (.unl (q:Int))):Stp C ⟨p,S_++[ZY z],E,pl⟩ Wx ⟨if z=0 then q else p+1,S_,E,pl⟩
noncomputable def Zzn(ld:Bool)(s:Ma):Ans:=if ld then .loud s else .quiet s
def Zxb{E:List D}{r:Rw}{x:D}(h:psh E r=J x):ZlY r=Wx:=by cases r<;>first|rfl|cases h
variable {P:Pg}{h:Hd}{C:List Rw}
def ZtV(H:Cod P)(n:Nat){k:Nat}{s s':Ma}{ld:Bool}(hk:h[k]?=J (.lst (C.map Rw.d)))(q:Stp C s ld s'):run P (n+4) (O "code_step") [.ref k,s.d] h=.ok (Zzn ld s').d h:=by
 cases q with
 |push hc hx hz=>exact Zdp H n _ _ hk hc (Zxb hx) (Zr1 H (n+1) _ _ hx hz)
 |jmp hc=>exact Zdp H n _ _ hk hc rfl (ZlT H (n+2) _ _)
 |back hc=>exact Zdp H n _ _ hk hc rfl (ZuN H (n+2) _ _ _ _ _ _)
 |@call p q ns V S_ E ds pl hc hd hp=>exact Z3 H n _ hk hc rfl (.inr ⟨_,rfl,rfl⟩) (Zi0 H n ⟨p,S_++[Z2 q ns ds,V],E,pl⟩ hp (Zi2 H n _ _ _ _ _ _ hd))
 |@hop p q ns V S_ E ds pl hc hd=>exact Z3 H n _ hk hc rfl (.inr ⟨⟨q,S_,ent q ns ds V,pl⟩,rfl,rfl⟩) (ZkB H n ⟨p,S_++[Z2 q ns ds,V],E,pl⟩ (Zi2 H n _ _ _ _ _ _ hd))
 |work hc ha hb hz=>exact Z3 H n _ hk hc rfl (.inr ⟨_,rfl,rfl⟩) (ZiZ H n _ _ (ZuE H n _ _ _ _ _ _ _ ha hb hz))
 |unl hc=>exact Z3 H n _ hk hc rfl (.inr ⟨_,rfl,rfl⟩) (ZkA H n _ _ (ZlV H n _ _ _ _ _ _))
end
end Ce
namespace Cs
open PySem IV Gn
open Rw (Th Ar Wt Sta Zhw ArOk ZiR ZiB StN read rnd rd ra)
open Ce (Cd Ma Z2 ZY ent psh Stp)
section
mutual
inductive Vr(C:List Ce.Rw):D->Th->Prop
 |num {z:Int}:Vr C (ZY z) (.num z)
 |fn {q q':Nat}{x:Str}{e:T}{ds:List D}{sc:List Str}{ar:Ar} (c:Cd C (x::sc) Wx q e q') (b:C[q']?=J .back) (r:Er C ds sc ar):Vr C (Z2 q [x] ds) (.clo (.fn x e) ar)
 |rcc {q q':Nat}{f x:Str}{e:T}{ds:List D}{sc:List Str}{ar:Ar} (c:Cd C (x::f::sc) Wx q e q') (b:C[q']?=J .back) (r:Er C ds sc ar):Vr C (Z2 q [x,f] ds) (.clo (.rcc f x e) ar)
inductive Er(C:List Ce.Rw):List D->List Str->Ar->Prop
 |nil:Er C [] [] .nil
 |cons {d:D}{v:Th}{ds:List D}{sc:List Str}{ar:Ar} (x:Str) (h:Vr C d v) (r:Er C ds sc ar):Er C (d::ds) (x::sc) (.cons x v ar)
end
variable {C:List Ce.Rw}
def ZbK(q:Cd C sc l p t p'):p<p':=by
 induction q with
 |num _=>lia
 |name _ _=>lia
 |fn _ _ _ _=>lia
 |rcc _ _ _ _=>lia
 |call _ _ _ a b=>lia
 |op _ _ _ a b=>lia
 |iff _ _ _ _ _ a b d=>lia
theorem Er.get:∀{ds:List D}{sc:List Str}{ar:Ar}{i:Nat},Er C ds sc ar->L2.Tx.place x sc=J i->∃d v,ds[i]?=J d/\ar.get x=J v/\Vr C d v
 |_,_,_,i,.nil,h=>by cases h
 |_,_,_,i,.cons y hv r,h=>by
  rw[L2.Tx.place]at h;rw[Ar.get];split at h
  . rename_i e;cases h;exact⟨_,_,rfl,if_pos e,hv⟩
  . rename_i ne;cases q:L2.Tx.place x _ with
    |none=>rw[q]at h;cases h
    |some j=>rw[q]at h;cases h;obtain⟨d,v,e1,e2,e3⟩:=r.get q;exact⟨d,v,by simpa using e1,by rw[if_neg ne];exact e2,e3⟩
theorem Er.len:∀{ds:List D}{sc:List Str}{ar:Ar},Er C ds sc ar->ds.length=ar.len
 |_,_,_,.nil=>rfl
 |_,_,_,.cons x h r=>by rw[Os,Ar.len,r.len]
def Hp(r:Ce.Rw)(b:Bool)(S_:List D)(ws:List Wt):Prop:=(r=.call/\(b=Wx->ws≠[]))\/(r=.hop/\b=Wx/\S_=[]/\ws=[])
def Ls(l b:Bool)(S_:List D)(ws:List Wt):Prop:=(l=Wx->b=Wx/\S_=[]/\ws=[])/\(l=Wy->b=Wx->ws≠[])
def Ls.no:Ls Wy b S_ (w::ws):=⟨nofun,nofun⟩
inductive Cx(C:List Ce.Rw):Bool->List Str->Ar->Nat->List D->List Wt->Prop
 |fin {sc:List Str}{ar:Ar}{p:Nat} (hc:C[p]?=J .fin):Cx C Wy sc ar p [] []
 |back {sc:List Str}{ar:Ar}{p:Nat} (hc:C[p]?=J .back):Cx C Wx sc ar p [] []
 |jmp {b:Bool}{sc:List Str}{ar:Ar}{p q:Nat}{S_:List D}{ws:List Wt} (hc:C[p]?=J (.jmp (q:Int))) (hq:p<q) (k:Cx C b sc ar q S_ ws):Cx C b sc ar p S_ ws
 |app {b:Bool}{sc:List Str}{ar:Ar}{p:Nat}{S_:List D}{ws:List Wt}{r:Ce.Rw}{d:D}{W:Th} (hc:C[p]?=J r) (hr:Hp r b S_ ws) (v:Vr C d W) (k:Cx C b sc ar (p+1) S_ ws):Cx C b sc ar p (S_++[d]) (.fn W::ws)
 |arg {b:Bool}{sc:List Str}{ar:Ar}{p p1:Nat}{S_:List D}{ws:List Wt}{r:Ce.Rw}{A:T} (c:Cd C sc Wy p A p1) (hc:C[p1]?=J r) (hr:Hp r b S_ ws) (k:Cx C b sc ar (p1+1) S_ ws):Cx C b sc ar p S_ (.arg A ar::ws)
 |work {b:Bool}{sc:List Str}{ar:Ar}{p:Nat}{S_:List D}{ws:List Wt}{w:Wd}{d:D}{W:Th} (hc:C[p]?=J (.work w)) (v:Vr C d W) (k:Cx C b sc ar (p+1) S_ ws):Cx C b sc ar p (S_++[d]) (.left w W::ws)
 |right {b:Bool}{sc:List Str}{ar:Ar}{p p1:Nat}{S_:List D}{ws:List Wt}{w:Wd}{F:T} (c:Cd C sc Wy p F p1) (hc:C[p1]?=J (.work w)) (k:Cx C b sc ar (p1+1) S_ ws):Cx C b sc ar p S_ (.right w F ar::ws)
 |cho {b l:Bool}{sc:List Str}{ar:Ar}{p p2 p3:Nat}{S_:List D}{ws:List Wt}{t e:T} (hc:C[p]?=J (.unl ((p2+1:Nat):Int))) (ct:Cd C sc l (p+1) t p2) (hj:C[p2]?=J (.jmp (p3:Int))) (ce:Cd C sc l (p2+1) e p3) (hl:Ls l b S_ ws) (k:Cx C b sc ar p3 S_ ws):Cx C b sc ar p S_ (.iff t e ar::ws)
inductive Dx(C:List Ce.Rw):Bool->List (Nat×List D)->List D->List Wt->Prop
 |nil:Dx C Wy [] [] []
 |cons {b:Bool}{sc:List Str}{ar:Ar}{p:Nat}{E S_ S0:List D}{ws vs:List Wt}{pl:List (Nat×List D)} (r:Er C E sc ar) (k:Cx C b sc ar p S_ ws) (hw:b=Wx->ws≠[]) (hc:∃p0,p=p0+1/\C[p0]?=J .call) (x:Dx C b pl S0 vs):Dx C Wx ((p,E)::pl) (S0++S_) (ws++vs)
inductive Rc(C:List Ce.Rw):Ma->Sta->Prop
 |go {b l:Bool}{sc:List Str}{ar:Ar}{p p':Nat}{E S_ S0:List D}{ws vs:List Wt}{pl:List (Nat×List D)}{t:T} (r:Er C E sc ar) (c:Cd C sc l p t p') (hl:Ls l b S_ ws) (k:Cx C b sc ar p' S_ ws) (x:Dx C b pl S0 vs):Rc C ⟨p,S0++S_,E,pl⟩ (.go t ar (ws++vs))
 |back {b:Bool}{sc:List Str}{ar:Ar}{p:Nat}{E S_ S0:List D}{ws vs:List Wt}{pl:List (Nat×List D)}{d:D}{V:Th} (r:Er C E sc ar) (v:Vr C d V) (k:Cx C b sc ar p S_ ws) (x:Dx C b pl S0 vs):Rc C ⟨p,S0++S_++[d],E,pl⟩ (.back V (ws++vs))
inductive Qs:Sta->Sta->Prop
 |refl {s:Sta}:Qs s s
 |step {s s' t:Sta} (e:Rw.step s=.quiet s') (q:Qs s' t):Qs s t
def Qs.trans(a:Qs s t)(b:Qs t u):Qs s u:=by
 induction a with
 |refl=>exact b
 |step e _ ih=>exact .step e (ih b)
noncomputable def atm:T->Bool
 |.num _|.name _|.fn _ _|.rcc _ _ _=>Wx
 |_=>Wy
theorem down:∀{t:T}{b l:Bool}{sc:List Str}{ar:Ar}{p p':Nat}{S_:List D}{ws vs:List Wt},Cd C sc l p t p'->Ls l b S_ ws->Cx C b sc ar p' S_ ws->∃t0 l0 p0 bF,atm t0=Wx/\Cd C sc l0 p t0 p0/\Ls l0 b S_ bF/\Cx C b sc ar p0 S_ bF/\Qs (.go t ar (ws++vs)) (.go t0 ar (bF++vs))
 |.num _,_,_,_,_,_,_,_,_,_,c,hl,k=>⟨_,_,_,_,rfl,c,hl,k,.refl⟩
 |.name _,_,_,_,_,_,_,_,_,_,c,hl,k=>⟨_,_,_,_,rfl,c,hl,k,.refl⟩
 |.fn _ _,_,_,_,_,_,_,_,_,_,c,hl,k=>⟨_,_,_,_,rfl,c,hl,k,.refl⟩
 |.rcc _ _ _,_,_,_,_,_,_,_,_,_,c,hl,k=>⟨_,_,_,_,rfl,c,hl,k,.refl⟩
 |.call f a,b,l,sc,ar,p,p',S_,ws,vs,c,hl,k=>by
  cases c with
  |call c1 c2 hc=>
   have hr:Hp (if l then .hop else .call) b S_ ws:=by
    cases l with
    |true=>exact .inr ⟨rfl,hl.1 rfl⟩
    |false=>exact .inl ⟨rfl,hl.2 rfl⟩
   obtain⟨t0,l0,p0,bF,R,h2,h3,h4,h5⟩:=down (b:=b) (vs:=vs) c1 .no (.arg c2 hc hr k);exact⟨t0,l0,p0,bF,R,h2,h3,h4,.step rfl h5⟩
 |.op w x y,b,l,sc,ar,p,p',S_,ws,vs,c,hl,k=>by
  cases c with
  |op c1 c2 hc=>obtain⟨t0,l0,p0,bF,R,h2,h3,h4,h5⟩:=down (b:=b) (vs:=vs) c1 .no (.right c2 hc k);exact⟨t0,l0,p0,bF,R,h2,h3,h4,.step rfl h5⟩
 |.iff x t e,b,l,sc,ar,p,p',S_,ws,vs,c,hl,k=>by
  cases c with
  |iff c1 hc c2 hj c3=>obtain⟨t0,l0,p0,bF,R,h2,h3,h4,h5⟩:=down (b:=b) (vs:=vs) c1 .no (.cho hc c2 hj c3 hl k);exact⟨t0,l0,p0,bF,R,h2,h3,h4,.step rfl h5⟩
end
end Cs
namespace Cs
open PySem IV Gn
open Rw (Th Ar Wt Sta Zhw ArOk ZiR ZiB StN WtN ThN read rnd rd ra wts)
open Ce (Cd Ma Z2 ZY ent psh Stp)
section
variable {C:List Ce.Rw}{N:Nat}
inductive Stk(C:List Ce.Rw):Ma->Prop
 |app {p:Nat}{r:Ce.Rw}{z:Int}{V:D}{S_ E:List D}{pl:List (Nat×List D)} (hc:C[p]?=J r) (hr:r=.call\/r=.hop) (hp:pl.length<=10000):Stk C ⟨p,S_++[ZY z,V],E,pl⟩
 |unl {p q k:Nat}{ns:List Str}{ds S_ E:List D}{pl:List (Nat×List D)} (hc:C[p]?=J (.unl (q:Int))):Stk C ⟨p,S_++[Z2 k ns ds],E,pl⟩
 |work {p:Nat}{w:Wd}{A B_:D}{S_ E:List D}{pl:List (Nat×List D)}{V W:Th} (hc:C[p]?=J (.work w)) (va:Vr C A W) (vb:Vr C B_ V) (hn:¬ ∃a b,A=ZY a/\B_=ZY b):Stk C ⟨p,S_++[A,B_],E,pl⟩
inductive Sc(C:List Ce.Rw)(s:Ma)(Z:Sta):Ce.Ans->Prop
 |quiet {s':Ma}{σ':Sta} (e:Stp C s Wy s') (r:Rc C s' σ') (q:Qs Z σ'):Sc C s Z (.quiet s')
 |loud {s':Ma}{σ0 σ1 σ':Sta} (e:Stp C s Wx s') (q0:Qs Z σ0) (h:Rw.step σ0=.loud σ1) (r:Rc C s' σ') (q:Qs σ1 σ'):Sc C s Z (.loud s')
 |value {σ0:Sta} (e:C[s.p]?=J .fin) (q:Qs Z σ0) (h:Rw.step σ0=.value):Sc C s Z .value
 |stuck {σ0:Sta} (e:Stk C s) (q:Qs Z σ0) (h:Rw.step σ0=.stuck):Sc C s Z .stuck
def Sc.pre(q:Qs Z σ0)(h:Sc C s σ0 a):Sc C s Z a:=by
 cases h with
 |quiet e r q'=>exact .quiet e r (q.trans q')
 |loud e q0 h r q'=>exact .loud e (q.trans q0) h r q'
 |value e q' h=>exact .value e (q.trans q') h
 |stuck e q' h=>exact .stuck e (q.trans q') h
def ZlL(r:Er C E sc ar)(c:Cd C sc l p t p')(hl:Ls l b S_ ws)(k:Cx C b sc ar p' S_ ws)(x:Dx C b pl S0 vs)(hz:(S0++S_).length<=10000):∃a,Sc C ⟨p,S0++S_,E,pl⟩ (.go t ar (ws++vs)) a:=by
 obtain⟨t0,l0,p0,bF,R,h2,h3,h4,h5⟩:=down (vs:=vs) c hl k;have fin:∀{rw:Ce.Rw}{d:D}{V:Th},C[p]?=J rw->psh E rw=J d->p0=p+1->Vr C d V->Rw.step (.go t0 ar (bF++vs))=.quiet (.back V (bF++vs))->∃a,Sc C ⟨p,S0++S_,E,pl⟩ (.go t ar (ws++vs)) a:=λhc hd ep hv hs=>by subst ep;exact⟨_,.quiet (.push hc hd hz) (.back r hv h4 x) (h5.trans (.step hs .refl))⟩
 cases t0 with
 |num n=>cases h2 with|num hc=>exact fin hc rfl rfl .num rfl
 |name y=>
  cases h2 with
  |name hc e=>obtain⟨d,v,e1,e2,e3⟩:=r.get e;exact fin hc e1 rfl e3 (by simp only[Rw.step,Rw.ZmS,e2])
 |fn y e=>cases h2 with|fn hc c hb=>exact fin hc rfl rfl (.fn c hb r) rfl
 |rcc f y e=>cases h2 with|rcc hc c hb=>exact fin hc rfl rfl (.rcc c hb r) rfl
 |_=>cases R
def Zyf:S0++(S_++[a])++[d]=(S0++S_)++[a,d]:=by simp
def ZpL(r:Er C E sc ar)(v:Vr C d V)(k:Cx C b sc ar p S_ ws)(x:Dx C b pl S0 vs)(hz:(S0++S_).length<=9000)(hp:pl.length<=9000)(hN:N<=5000)(ok:ZiB (.back V (ws++vs)))(on:StN N (.back V (ws++vs))):∃a,Sc C ⟨p,S0++S_++[d],E,pl⟩ (.back V (ws++vs)) a:=by
 cases k with
 |fin hc=>cases x;exact⟨_,.value hc .refl rfl⟩
 |back hc=>
  cases x with
  |cons r' k' hw cB x'=>have h:=Rc.back r' v k' x';rw[Ys];exact⟨_,.quiet (.back hc) h .refl⟩
 |jmp hc hq k=>exact⟨_,.quiet (.jmp hc) (.back r v k x) .refl⟩
 |arg c hc hr k=>obtain⟨a,h⟩:=ZlL (vs:=vs) r c .no (.app hc hr v k) x (by simp at hz ⊢;lia);rw[<-Oz]at h;exact⟨a,h.pre (.step rfl .refl)⟩
 |right c hc k=>obtain⟨a,h⟩:=ZlL (vs:=vs) r c .no (.work hc v k) x (by simp at hz ⊢;lia);rw[<-Oz]at h;exact⟨a,h.pre (.step rfl .refl)⟩
 |@app _ _ _ _ S_ ws rw dW W hc hr vW k=>
  rw[Zyf];rw[<-Oz,OA]at hz;have jr:Zhw W:=ok.2 _ Oi;have jq:ThN N W:=on.2 _ Oi;have dC:rw=.call\/rw=.hop:=hr.elim (λz=>.inl z.1) (λz=>.inr z.1);have call:∀{q q':Nat}{ns aF:List Str}{ds:List D}{e:T}{cC:Ar},dW=Z2 q ns ds->ds.length<=10000->Er C (ent q ns ds d) aF cC->Cd C aF Wx q e q'->C[q']?=J .back->Rw.step (.back V (.fn W::ws++vs))=.loud (.go e cC (ws++vs))->∃a,Sc C ⟨p,S0++S_++[dW,d],E,pl⟩ (.back V (.fn W::ws++vs)) a:=λ{q q' ns aF ds e cC} ed hd er cd hb hs=>by
   subst ed;rcases hr with⟨rfl,hw⟩|⟨rfl,rfl,rfl,rfl⟩
   . refine⟨_,.loud (.call hc hd (by lia)) .refl hs ?_ .refl⟩;have:=Rc.go (S_:=[]) (ws:=[]) er cd ⟨λ_=>⟨rfl,rfl,rfl⟩,nofun⟩ (.back hb) (.cons r k hw ⟨_,rfl,hc⟩ x);rw[Ys]at this;exact this
   . refine⟨_,.loud (.hop hc hd) .refl hs ?_ .refl⟩;exact Rc.go (S_:=[]) (ws:=[]) er cd ⟨λ_=>⟨rfl,rfl,rfl⟩,nofun⟩ (.back hb) x
  cases vW with
  |num=>exact⟨_,.stuck (.app hc dC (by lia)) .refl rfl⟩
  |fn c hb er=>have R:=jq.1;unfold Rw.Bd at R;exact call rfl (by rw[er.len];lia) (.cons _ v er) c hb rfl
  |@rcc q q' f y e ds aF cC c hb er=>have R:=jq.1;unfold Rw.Bd at R;exact call rfl (by rw[er.len];lia) (.cons _ v (.cons _ (.rcc c hb er) er)) c hb rfl
 |@work _ _ _ _ S_ ws w dW W hc vW k=>
  rw[Zyf];rw[<-Oz,OA]at hz;have jr:Zhw W:=ok.2 _ Oi;have ky:=ok.1;have st:(¬ ∃a b,dW=ZY a/\d=ZY b)->Rw.step (.back V (.left w W::ws++vs))=.stuck->∃a,Sc C ⟨p,S0++S_++[dW,d],E,pl⟩ (.back V (.left w W::ws++vs)) a:=λhn hs=>⟨_,.stuck (.work hc vW v hn) .refl hs⟩
  cases vW with
  |num=>
   cases v with
   |num=>exact⟨_,.loud (.work hc jr ky (by lia)) .refl rfl (.back r .num k x) .refl⟩
   |fn c hb er=>exact st (λ⟨_,_,_,z⟩=>by cases z) rfl
   |rcc c hb er=>exact st (λ⟨_,_,_,z⟩=>by cases z) rfl
  |fn c hb er=>exact st (λ⟨_,_,z,_⟩=>by cases z) rfl
  |rcc c hb er=>exact st (λ⟨_,_,z,_⟩=>by cases z) rfl
 |@cho _ l _ _ _ p2 p3 _ ws t e hc ct hj ce hl k=>
  cases v with
  |@num z=>
   by_cases q:z=0
   . subst q;have:=Stp.unl (z:=0) (S_:=S0++S_) (E:=E) (pl:=pl) hc;rw[if_pos rfl]at this;exact⟨_,.loud this .refl rfl (.go r ce hl k x) .refl⟩
   . have:=Stp.unl (z:=z) (S_:=S0++S_) (E:=E) (pl:=pl) hc;rw[if_neg q]at this;refine⟨_,.loud this .refl rfl ?_ .refl⟩;simp only[if_neg q];exact .go r ct hl (.jmp hj (Nat.lt_of_succ_lt (ZbK ce)) k) x
  |fn c hb er=>exact⟨_,.stuck (.unl hc) .refl rfl⟩
  |rcc c hb er=>exact⟨_,.stuck (.unl hc) .refl rfl⟩
def Cx.lens(k:Cx C b sc ar p S_ ws):S_.length<=ws.length:=by
 induction k with
 |fin _=>exact Oq _
 |back _=>exact Oq _
 |jmp _ _ _ ih=>exact ih
 |app _ _ _ _ ih=>simpa using ih
 |arg _ _ _ _ ih=>exact Nat.le_succ_of_le ih
 |work _ _ _ ih=>simpa using ih
 |right _ _ _ ih=>exact Nat.le_succ_of_le ih
 |cho _ _ _ _ _ _ ih=>exact Nat.le_succ_of_le ih
theorem Dx.lens(x:Dx C b pl S_ vs):S_.length<=vs.length/\pl.length<=vs.length+(if b then 1 else 0):=by
 induction x with
 |nil=>exact⟨Oq _,Oq _⟩
 |@cons b _ _ _ _ _ _ ws _ _ r k hw hc x ih=>
  have R:=k.lens;simp only[OA,Os,if_true];refine⟨by lia,?_⟩;cases b with
  |false=>simp only[OG,if_false]at ih;lia
  |true=>
   have h2:0<ws.length:=List.length_pos_iff.mpr (hw rfl);simp only[if_true]at ih
   lia
theorem Rc.lens(r:Rc C s Z):s.S_.length<=(wts Z).length+1/\s.pl.length<=(wts Z).length+1:=by
 cases r with
 |@go b _ _ _ _ _ _ _ _ _ _ _ _ r c hl k x=>have R:=k.lens;have h2:=x.lens;simp only[wts,OA];refine⟨by lia,?_⟩;split at h2<;>lia
 |@back b _ _ _ _ _ _ _ _ _ _ _ r v k x=>have R:=k.lens;have h2:=x.lens;simp only[wts,OA,Os,List.length_nil];refine⟨by lia,?_⟩;split at h2<;>lia
def sim(r:Rc C s Z)(hz:(wts Z).length<=8000)(hN:N<=5000)(ok:ZiB Z)(on:StN N Z):∃a,Sc C s Z a:=by
 have hl:=r.lens;cases r with
 |go r c fS k x=>exact ZlL r c fS k x (by simp only at hl;lia)
 |back r v k x=>exact ZpL r v k x (by simp only[OA]at hl ⊢;lia) (by simp only at hl;lia) hN ok on
end
end Cs
namespace Pw
open PySem L2 IV
def Zcd:Sxs:=.w (.drp (.m "Pen" "take_place" V0 .n)) (.ret (.bin .Add V1 V2))
def ZfX:Fd:=fd_ 3 ["self","front","parts"] Zcd
def ZmE:Sxs:=.w (.s 2 (.f "opened" (.o V1))) (.ret (.m "Pen" "filled" V0 (.w (.ix V2 K0) (.ix V2 K1))))
def Zii:Fd:=fd_ 2 ["self","thing","pair"] ZmE
structure Pnw(P:Pg):Prop where
 t:Tm.Trb P
 wd:Tm.Wid P
 gw:P.G (O "WIDEST")=J (.int 120)
 n_Pen_joined:P.tb.lookup (mnm (O "Pen") (O "joined"))=M
 Pen_joined:P.ms.lookup (mnm (O "Pen") (O "joined"))=J ZfX
 n_Pen_told:P.tb.lookup (mnm (O "Pen") (O "told"))=M
 Pen_told:P.ms.lookup (mnm (O "Pen") (O "told"))=J Zii
end Pw
namespace Pw
open PySem L2 IV Tm
section
variable {P:Pg}{h0 h:Hd}{pk:Nat}
def ZwV(q:ev U e S h=r):Ze (xs2 U (.cons (.ret e) .nil) S h)=r:=by rw[xs2,Zjx,q];cases r<;>rfl
section
variable {u N:Nat}(H:Pnw P)(n:Nat)(hN:1<=N)(jR:N<=45000)
include H hN jR
omit hN jR
theorem Zoo(fs ps:List D)(a:Aft h0 h pk (.int 120) (u:Int))(hu:u<120)(hz:fs.length+ps.length<=1000):run P (n+2) (mnm (O "Pen") (O "joined")) [.ref pk,.tup fs,.tup ps] h=.ok (.tup (fs++ps)) (h.set pk (Zbj (.int 120) ((u:Int)+1))):=by have e:=ZpU H.t n (u:=(u:Int)) (.inr ⟨120,rfl,by lia⟩) a.1;rw[Zz H.n_Pen_joined H.Pen_joined (by rfl)];have x1:xs1 (P.tbl (n+1)) (hdS Zcd) [J (.ref pk),J (.tup fs),J (.tup ps)] h=.ok (.nx,[J (.ref pk),J (.tup fs),J (.tup ps)]) (h.set pk (Zbj (.int 120) ((u:Int)+1))):=ZX (ZB rfl a.1 rfl rfl e);exact(congrArg Ze (nx1 (U:=P.tbl (n+1)) (ss:=Zcd) x1 rfl)).trans (ZwV ((Zj rfl rfl).trans (Zb6 (by rw[YC];lia))))
theorem ZpW(fs ps:List D)(a:Aft h0 h pk (.int 120) (120:Int)):run P (n+2) (mnm (O "Pen") (O "joined")) [.ref pk,.tup fs,.tup ps] h=.exc (O "Wide") h:=by have e:=Zkz H.t H.wd n a.1;rw[Zz H.n_Pen_joined H.Pen_joined (by rfl)];exact congrArg Ze (Zc6 (U:=P.tbl (n+1)) (r:=tlS Zcd) (Zil (ZB rfl a.1 rfl rfl e)))
end
end
end Pw
namespace Cr
open PySem L2 IV
def Zhe:Tx:=.q (.blt .len (.o V0)) K1
def Zfu:Sx:=.ret (.tupl (.u (.Ci_ "fn") (.ix V0 K0) V1))
def Zha:Sxs:=.o Zfu
def Zhu:Sx:=.iff Zhe Zha .n
def Zht:Sx:=.ret (.tupl (.z (.Ci_ "rec") (.ix V0 K1) (.ix V0 K0) V1))
def ZiP:Sxs:=.w Zhu Zht
def Zfd:Fd:=fd_ 2 ["names","E"] ZiP
def ZeG:Sx:=.sa "Decoder" V0 "code" V1
def ZeF:Sx:=.sa "Decoder" V0 "at" (.ix V2 K0)
def ZeE:Sx:=.seta [O "Decoder",O "Unit"] V0 (O "around") (.ix V2 K2)
def ZeD:Sx:=.sa "Decoder" V0 "pile" (.ix V2 K3)
def ZeC:Sx:=.sa "Decoder" V0 "pen" (.mk (O "Pen") (.o (.glo (O "WIDEST"))))
def ZeB:Sx:=.sa "Decoder" V0 "done" (.lstl .n)
def ZeA:Sx:=.sa "Decoder" V0 "begun" (.lstl .n)
def Zcw:Sxs:=.c ZeG (.c ZeF (.y ZeE ZeD ZeC ZeB ZeA))
def ZaK:Fd:=fd_ 3 ["self","code","state"] Zcw
def Zfv:Sx:=.drp (.m "Pen" "take_place" (.a "Decoder" V0 "pen") .n)
def Zcq:Tx:=.q (.ix V1 K0) (.Ci_ "clo")
def Zd3:Sx:=.drp (.meth .app (.a "Decoder" V0 "begun") (.o (.tupl (.z (.Ci_ "function") (.ix V1 K2) (.a "Decoder" V0 "at") (.att [O "Decoder",O "Unit"] V0 (O "around"))))))
def Zbn:Sx:=.sa "Decoder" V0 "at" (.ix V1 K1)
def Zaf:Sx:=.seta [O "Decoder",O "Unit"] V0 (O "around") (.bin .Add (.blt .tup (.o (.comp [O "name"] [M] (.pl (.ix V1 K2)) (.nm 0) M (.tupl (.w (.Ci_ "name") V0))))) (.ix V1 K3))
def Zd4:Sx:=.drp (.meth .app (.a "Decoder" V0 "done") (.o V1))
def Z5:Sxs:=.u Zd3 Zbn Zaf
def ZaL:Sxs:=.o Zd4
def Zcv:Sx:=.iff Zcq Z5 ZaL
def Zbz:Sxs:=.w Zfv Zcv
def Zde:Fd:=fd_ 2 ["self","thing"] Zbz
def ZV:Sx:=.s 3 (.blt .tup (.o (.sl (.a "Decoder" V0 "done") (J (.neg V2)) M)))
def ZU:Sx:=.sa "Decoder" V0 "done" (.sl (.a "Decoder" V0 "done") M (J (.neg V2)))
def ZaC:Sx:=.drp (.meth .app (.a "Decoder" V0 "done") (.o (.m "Pen" "joined" (.a "Decoder" V0 "pen") (.w (.tupl (.o V1)) V3))))
def ZdE:Sxs:=.u ZV ZU ZaC
def Za4:Fd:=fd_ 3 ["self","word","count","parts"] ZdE
def ZcZ:Sx:=.ret (.ands (.w (.cmp .Gt (.blt .len (.o (.a "Decoder" V0 "begun"))) K0) (.cmp .Eq (.ix (.ix (.a "Decoder" V0 "begun") (.neg K1)) K0) (.Ci_ "if"))))
def Zbb:Sxs:=.o ZcZ
def Za5:Fd:=fd_ 1 ["self"] Zbb
def Zc0:Sx:=.ret (.ands (.w (.m "Decoder" "is_within_if" V0 .n) (.cmp .Eq (.ix (.ix (.a "Decoder" V0 "begun") (.neg K1)) K1) (.a "Decoder" V0 "at"))))
def Zbc:Sxs:=.o Zc0
def Za6:Fd:=fd_ 1 ["self"] Zbc
def Zbt:Tx:=.nt (.ex (.m "Decoder" "is_within_if" V0 .n))
def Ze3:Sx:=.sa "Decoder" V0 "at" (.ix V1 K1)
def Zgy:Sxs:=.o Ze3
def ZgK:Sx:=.iff Zbt Zgy .n
def Zba:Sxs:=.o ZgK
def Zem:Fd:=fd_ 2 ["self","row"] Zba
def Zau:Tx:=.ex (.a "Decoder" V0 "begun")
def Zbe:Sx:=.s 1 (.meth .pop (.a "Decoder" V0 "begun") .n)
def Zbd:Sx:=.drp (.meth .app (.a "Decoder" V0 "done") (.o (.f "function_of" (.w (.ix V1 K1) (.meth .pop (.a "Decoder" V0 "done") .n)))))
def Z7:Sx:=.sa "Decoder" V0 "at" (.ix V1 K2)
def ZK:Sx:=.seta [O "Decoder",O "Unit"] V0 (O "around") (.ix V1 K3)
def ZdF:Sx:=.sa "Decoder" V0 "at" (.ix (.ix (.a "Decoder" V0 "pile") K0) K0)
def Zbf:Sx:=.seta [O "Decoder",O "Unit"] V0 (O "around") (.ix (.ix (.a "Decoder" V0 "pile") K0) K1)
def Z8:Sx:=.sa "Decoder" V0 "pile" (.sl (.a "Decoder" V0 "pile") (J K1) M)
def ZeW:Sxs:=.z Zbe Zbd Z7 ZK
def Ze0:Sxs:=.u ZdF Zbf Z8
def Ze4:Sx:=.iff Zau ZeW Ze0
def ZR:Sxs:=.o Ze4
def ZcE:Fd:=fd_ 1 ["self","function"] ZR
def Zcr:Tx:=.x .In (.ix V1 K0) (.glo (O "CALLS"))
def Zd5:Sx:=.drp (.m "Decoder" "put_together" V0 (.w (.Ci_ "call") K2))
def Zd2:Tx:=.q (.ix V1 K0) (.Ci_ "work")
def Zc1:Sx:=.drp (.m "Decoder" "put_together" V0 (.w (.ix V1 K1) K2))
def ZcU:Tx:=.q (.ix V1 K0) (.Ci_ "unless")
def Zce:Sx:=.drp (.meth .app (.a "Decoder" V0 "begun") (.o (.tupl (.w (.Ci_ "if") (.ix (.ix (.a "Decoder" V0 "code") (.bin .Sub (.ix V1 K1) K1)) K1)))))
def Zcb:Tx:=.q (.ix V1 K0) (.Ci_ "jump")
def ZbA:Sx:=.drp (.m "Decoder" "jump" V0 (.o V1))
def Zbu:Tx:=.q (.ix V1 K0) (.Ci_ "back")
def ZaS:Sx:=.drp (.m "Decoder" "go_back" V0 .n)
def ZaT:Sx:=.drp (.m "Decoder" "put_on" V0 (.o (.f "thing_of" (.w V1 (.att [O "Decoder",O "Unit"] V0 (O "around"))))))
def Zbr:Sxs:=.o ZaS
def Zbs:Sxs:=.o ZaT
def ZbB:Sx:=.iff Zbu Zbr Zbs
def Zb8:Sxs:=.o ZbA
def Zca:Sxs:=.o ZbB
def Zcf:Sx:=.iff Zcb Zb8 Zca
def ZcQ:Sxs:=.o Zce
def ZcS:Sxs:=.o Zcf
def Zc2:Sx:=.iff ZcU ZcQ ZcS
def ZdY:Sxs:=.o Zc1
def Zd0:Sxs:=.o Zc2
def Zd6:Sx:=.iff Zd2 ZdY Zd0
def Zfj:Sxs:=.o Zd5
def Zfo:Sxs:=.o Zd6
def ZaN:Sx:=.iff Zcr Zfj Zfo
def Zas:Sxs:=.o ZaN
def Zdf:Fd:=fd_ 2 ["self","row"] Zas
def Zav:Tx:=.ex (.m "Decoder" "is_behind_if" V0 .n)
def ZdG:Sx:=.drp (.meth .pop (.a "Decoder" V0 "begun") .n)
def Zbg:Sx:=.drp (.m "Decoder" "put_together" V0 (.w (.Ci_ "if") K3))
def Z9:Sx:=.auga [O "Decoder"] V0 (O "at") K1
def Zbh:Sx:=.drp (.m "Decoder" "do_row" V0 (.o (.ix (.a "Decoder" V0 "code") (.bin .Sub (.a "Decoder" V0 "at") K1))))
def ZeX:Sxs:=.w ZdG Zbg
def Ze1:Sxs:=.w Z9 Zbh
def Ze5:Sx:=.iff Zav ZeX Ze1
def ZS:Sxs:=.o Ze5
def ZcF:Fd:=fd_ 1 ["self"] ZS
def Zx:Sx:=.drp (.m "Decoder" "put_on" V0 (.o V1))
def Zbm:Tx:=.ex (.a "Decoder" V0 "begun")
def Zdl:Sx:=.drp (.m "Decoder" "do_next" V0 .n)
def Zbl:Sxs:=.o Zdl
def Zn:Sx:=.whl Zbm Zbl
def Ze2:Sxs:=.w Zx Zn
def Zb4:Fd:=fd_ 2 ["self","thing"] Ze2
def Z6:Tx:=.ors (.c (.ex (.a "Decoder" V0 "begun")) (.one (.nq (.ix (.ix (.a "Decoder" V0 "code") (.a "Decoder" V0 "at")) K0) (.Ci_ "end"))))
def Zez:Sx:=.drp (.m "Decoder" "do_next" V0 .n)
def Zcn:Sxs:=.o Zez
def Zaa:Sx:=.whl Z6 Zcn
def ZaO:Sx:=.ret (.ix (.a "Decoder" V0 "done") K0)
def ZgL:Sxs:=.w Zaa ZaO
def Zdg:Fd:=fd_ 1 ["self"] ZgL
def ZcY:Sx:=.s 2 (.mk (O "Decoder") (.w V0 V1))
def ZiJ:Ix:=.pl (.ix V1 K1)
def Zhv:Sx:=.drp (.m "Decoder" "put_whole" V2 (.o V3))
def Zab:Sxs:=.o Zhv
def ZcX:Sx:=.forr (.nm 3) ZiJ Zab
def ZbG:Sx:=.ret (.m "Decoder" "do_all" V2 .n)
def Zlu:Sxs:=.u ZcY ZcX ZbG
def ZgW:Fd:=fd_ 2 ["code","state","decoder","thing"] Zlu
structure Dec(P:Pg):Prop where
 c:Ce.Cod P
 p:Pw.Pnw P
 gc:P.G (O "CALLS")=J (.tup [.str (O "call"),.str (O "hop")])
 function_of:P.tb.lookup (O "function_of")=J Zfd
 n_Decoder___init__:P.tb.lookup (mnm (O "Decoder") (O "__init__"))=M
 Decoder___init__:P.ms.lookup (mnm (O "Decoder") (O "__init__"))=J ZaK
 n_Decoder_put_on:P.tb.lookup (mnm (O "Decoder") (O "put_on"))=M
 Decoder_put_on:P.ms.lookup (mnm (O "Decoder") (O "put_on"))=J Zde
 n_Decoder_put_together:P.tb.lookup (mnm (O "Decoder") (O "put_together"))=M
 Decoder_put_together:P.ms.lookup (mnm (O "Decoder") (O "put_together"))=J Za4
 n_Decoder_is_within_if:P.tb.lookup (mnm (O "Decoder") (O "is_within_if"))=M
 Decoder_is_within_if:P.ms.lookup (mnm (O "Decoder") (O "is_within_if"))=J Za5
 n_Decoder_is_behind_if:P.tb.lookup (mnm (O "Decoder") (O "is_behind_if"))=M
 Decoder_is_behind_if:P.ms.lookup (mnm (O "Decoder") (O "is_behind_if"))=J Za6
 n_Decoder_jump:P.tb.lookup (mnm (O "Decoder") (O "jump"))=M
 Decoder_jump:P.ms.lookup (mnm (O "Decoder") (O "jump"))=J Zem
 n_Decoder_go_back:P.tb.lookup (mnm (O "Decoder") (O "go_back"))=M
 Decoder_go_back:P.ms.lookup (mnm (O "Decoder") (O "go_back"))=J ZcE
 n_Decoder_do_row:P.tb.lookup (mnm (O "Decoder") (O "do_row"))=M
 Decoder_do_row:P.ms.lookup (mnm (O "Decoder") (O "do_row"))=J Zdf
 n_Decoder_do_next:P.tb.lookup (mnm (O "Decoder") (O "do_next"))=M
 Decoder_do_next:P.ms.lookup (mnm (O "Decoder") (O "do_next"))=J ZcF
 n_Decoder_put_whole:P.tb.lookup (mnm (O "Decoder") (O "put_whole"))=M
 Decoder_put_whole:P.ms.lookup (mnm (O "Decoder") (O "put_whole"))=J Zb4
 n_Decoder_do_all:P.tb.lookup (mnm (O "Decoder") (O "do_all"))=M
 Decoder_do_all:P.ms.lookup (mnm (O "Decoder") (O "do_all"))=J Zdg
 code_read:P.tb.lookup (O "code_read")=J ZgW
end Cr
namespace Cr
open PySem L2 IV
open Tm (Zbj grown)
open Ce (fr Z2 ZY keep Zaj ZbT)
section
variable {P:Pg}{h0 h:Hd}{C:List Ce.Rw}{k c pk bk dk p u:Nat}{A dn:List D}{pl:List (Nat×List D)}
def Zf0(k p:Nat)(A:List D)(pl:List (Nat×List D))(pk dk bk:Nat):DO:=.ins (O "Decoder") [(O "code",.ref k),(O "at",.int (p:Int)),(O "around",.tup A),(O "pile",.tup (pl.map fr)),(O "pen",.ref pk),(O "done",.ref dk),(O "begun",.ref bk)]
inductive Bg where
 |fn (ns:List Str) (p:Nat) (A:List D)|iff (q:Nat)
def Bg.d:Bg->D
 |.fn ns p A=>.tup [.str (O "function"),.tup (ns.map .str),.int (p:Int),.tup A]
 |.iff q=>.tup [.str (O "if"),.int (q:Int)]
variable {bg:List Bg}
noncomputable def tp(bg:List Bg):Option Nat:=match bg.getLast? with
 |some (.iff q)=>J q
 |_=>M
structure Dq(C:List Ce.Rw)(k c pk bk:Nat)(h0 h:Hd)(dk p:Nat)(A:List D)(pl:List (Nat×List D))(dn:List D)(bg:List Bg)(u:Nat):Prop where
 o:h[c]?=J (Zf0 k p A pl pk dk bk)
 q:h[pk]?=J (Zbj (.int 120) (u:Int))
 d:h[dk]?=J (.lst dn)
 b:h[bk]?=J (.lst (bg.map Bg.d))
 kc:h[k]?=J (.lst (C.map Ce.Rw.d))
 ne:dk≠bk
 ok:k<h0.length
 oc:h0.length<=c
 op:h0.length<=pk
 od:h0.length<=dk
 ob:h0.length<=bk
 ol:h0.length<=h.length
 old:∀i,i<h0.length->h[i]?=h0[i]?
def Ds(C:List Ce.Rw)(k c pk bk:Nat)(h0 h:Hd)(p:Nat)(A:List D)(pl:List (Nat×List D))(dn:List D)(bg:List Bg)(u:Nat):Prop:=∃dk,Dq C k c pk bk h0 h dk p A pl dn bg u
def neq{i j:Nat}{a b:DO}(e:h[i]?=J a)(e':h[j]?=J b)(n:a≠b):i≠j:=λz=>by rw[z,e']at e;cases e;exact n rfl
section
variable (s:Dq C k c pk bk h0 h dk p A pl dn bg u)
include s
theorem Dq.cp:c≠pk:=neq s.o s.q (by simp[Zf0,Zbj])
theorem Dq.cd:c≠dk:=neq s.o s.d nofun
theorem Dq.cb:c≠bk:=neq s.o s.b nofun
theorem Dq.pd:pk≠dk:=neq s.q s.d nofun
theorem Dq.pb:pk≠bk:=neq s.q s.b nofun
theorem Dq.app(g:Hd):Dq C k c pk bk h0 (h++g) dk p A pl dn bg u:=⟨keep s.o,keep s.q,keep s.d,keep s.b,keep s.kc,s.ne,s.ok,s.oc,s.op,s.od,s.ob,by have:=s.ol;simp;lia,λi hi=>by rw[Oe (by have:=s.ol;lia)];exact s.old i hi⟩
theorem Dq.set{i:Nat}{o:DO}(hi:h0.length<=i):(∀j,j≠i->(h.set i o)[j]?=h[j]?)/\h0.length<=(h.set i o).length/\∀j,j<h0.length->(h.set i o)[j]?=h0[j]? :=⟨λj hj=>Oc (YL hj),by simpa using s.ol,λj hj=>by rw[Oc (by lia)];exact s.old j hj⟩
theorem Dq.setO(p':Nat)(A':List D)(bD:List (Nat×List D)):Dq C k c pk bk h0 (h.set c (Zf0 k p' A' bD pk dk bk)) dk p' A' bD dn bg u:=by have z:=s.set (o:=Zf0 k p' A' bD pk dk bk) s.oc;exact⟨by rw[Ol (Zaj s.o)],by rw[z.1 _ (YL s.cp)];exact s.q,by rw[z.1 _ (YL s.cd)];exact s.d,by rw[z.1 _ (YL s.cb)];exact s.b,by rw[z.1 _ (by have:=s.ok;have:=s.oc;lia)];exact s.kc,s.ne,s.ok,s.oc,s.op,s.od,s.ob,z.2.1,z.2.2⟩
theorem Dq.setN{dk':Nat}{aH:List D}(e:h[dk']?=J (.lst aH))(ne:dk'≠bk)(o:h0.length<=dk'):Dq C k c pk bk h0 (h.set c (Zf0 k p A pl pk dk' bk)) dk' p A pl aH bg u:=by have z:=s.set (o:=Zf0 k p A pl pk dk' bk) s.oc;exact⟨by rw[Ol (Zaj s.o)],by rw[z.1 _ (YL s.cp)];exact s.q,by rw[z.1 _ (YL (neq s.o e nofun))];exact e,by rw[z.1 _ (YL s.cb)];exact s.b,by rw[z.1 _ (by have:=s.ok;have:=s.oc;lia)];exact s.kc,ne,s.ok,s.oc,s.op,o,s.ob,z.2.1,z.2.2⟩
theorem Dq.setD(aH:List D):Dq C k c pk bk h0 (h.set dk (.lst aH)) dk p A pl aH bg u:=by have z:=s.set (o:=.lst aH) s.od;exact⟨by rw[z.1 _ s.cd];exact s.o,by rw[z.1 _ s.pd];exact s.q,by rw[Ol (Zaj s.d)],by rw[z.1 _ (YL s.ne)];exact s.b,by rw[z.1 _ (by have:=s.ok;have:=s.od;lia)];exact s.kc,s.ne,s.ok,s.oc,s.op,s.od,s.ob,z.2.1,z.2.2⟩
theorem Dq.setB(a7:List Bg):Dq C k c pk bk h0 (h.set bk (.lst (a7.map Bg.d))) dk p A pl dn a7 u:=by have z:=s.set (o:=.lst (a7.map Bg.d)) s.ob;exact⟨by rw[z.1 _ s.cb];exact s.o,by rw[z.1 _ s.pb];exact s.q,by rw[z.1 _ s.ne];exact s.d,by rw[Ol (Zaj s.b)],by rw[z.1 _ (by have:=s.ok;have:=s.ob;lia)];exact s.kc,s.ne,s.ok,s.oc,s.op,s.od,s.ob,z.2.1,z.2.2⟩
theorem Dq.setP(u':Nat):Dq C k c pk bk h0 (h.set pk (Zbj (.int 120) (u':Int))) dk p A pl dn bg u':=by have z:=s.set (o:=Zbj (.int 120) (u':Int)) s.op;exact⟨by rw[z.1 _ s.cp];exact s.o,by rw[Ol (Zaj s.q)],by rw[z.1 _ (YL s.pd)];exact s.d,by rw[z.1 _ (YL s.pb)];exact s.b,by rw[z.1 _ (by have:=s.ok;have:=s.op;lia)];exact s.kc,s.ne,s.ok,s.oc,s.op,s.od,s.ob,z.2.1,z.2.2⟩
theorem Dq.gone:∃g,h=h0++g:=grown s.ol s.old
end
section
variable {U:Tb}{S:Ev}{R:Hd}{Cs:List Str}{f:Str}{fs:List (Str×D)}{d:D}{e:Ex}
def g_a(hρ:(S[0]?).join=J (.ref c))(hc:h[c]?=J (.ins (O "Decoder") fs))(hC:O "Decoder" ∈ Cs)(hl:fs.lookup f=J d):ev U (.att Cs (.var 0) f) S h=.ok d h:=by rw[Zq7,ZjZ,hρ];simp only[ofO_some,Zq,ZgB,Zah,hc,if_pos hC,hl]
def s_a(q:ev U e S h=.ok d R)(hρ:(S[0]?).join=J (.ref c))(hc:R[c]?=J (.ins (O "Decoder") fs))(hC:O "Decoder" ∈ Cs)(hf:fs.length<1000):xs1 U (.seta Cs (.var 0) f e) S h=.ok (.nx,S) (R.set c (.ins (O "Decoder") (ZhQ f d fs))):=by rw[Zpd,q,Zq,ZjZ,hρ];simp only[ofO_some,Zq,Zgr,hc,if_pos (show O "Decoder" ∈ Cs/\fs.length<1000 from⟨hC,hf⟩)]
end
def Zae:O "Decoder" ∈ [O "Decoder"]:=by simp
def cls2:O "Decoder" ∈ [O "Decoder",O "Unit"]:=by simp
def Znz(e:h[i]?=J (.lst (l++[x]))):Zbq GD (.ref i) (.int (-1)) h=.ok x h:=by rw[Z0 e,IV.ZeK];rfl
def Zky(H:Dec P)(n:Nat)(s:Dq C k c pk bk h0 h dk p A pl dn bg u):run P (n+1) (mnm (O "Decoder") (O "is_within_if")) [.ref c] h=.ok (.bl (tp bg).isSome) h:=by
 rw[Zz H.n_Decoder_is_within_if H.Decoder_is_within_if (by rfl)];have eb:ev (P.tbl n) (.att [O "Decoder"] (.var 0) (O "begun")) [J (.ref c)] h=.ok (.ref bk) h:=g_a rfl s.o Zae rfl;have el:ev (P.tbl n) (.blt .len (.cons (.att [O "Decoder"] (.var 0) (O "begun")) .nil)) [J (.ref c)] h=.ok (.int (bg.length:Int)) h:=by refine(ZeZ (Zc eb rfl) (Zi8 s.b)).trans ?_;rw[Yt]
 have e1:ev (P.tbl n) (.cmp .Gt (.blt .len (.cons (.att [O "Decoder"] (.var 0) (O "begun")) .nil)) (.ci 0)) [J (.ref c)] h=.ok (.bl (Wz ((0:Int)<bg.length))) h:=(Zp el rfl).trans rfl;have fin:∀b,evAnd (P.tbl n) (.cons (.cmp .Gt (.blt .len (.cons (.att [O "Decoder"] (.var 0) (O "begun")) .nil)) (.ci 0)) (.cons (.cmp .Eq (.ix (.ix (.att [O "Decoder"] (.var 0) (O "begun")) (.neg (.ci 1))) (.ci 0)) (.Ci_ "if")) .nil)) [J (.ref c)] h=.ok (.bl b) h->Ze (xs2 (P.tbl n) Zbb [J (.ref c)] h)=.ok (.bl b) h:=λb e=>congrArg Ze (Zd (Zu (ZnJ.trans e)));refine fin _ ?_;rw[Zji,e1];rcases List.eq_nil_or_concat bg with rfl|⟨l,x,rfl⟩
 . rfl
 . rw[decide_eq_true (by simp)];have sb:=s.b;rw[List.concat_eq_append,List.map_append]at sb;have e2:ev (P.tbl n) (.ix (.att [O "Decoder"] (.var 0) (O "begun")) (.neg (.ci 1))) [J (.ref c)] h=.ok x.d h:=(Zm eb rfl).trans (Znz sb);show ev (P.tbl n) (.cmp .Eq _ _) [J (.ref c)] h=_;cases x with
   |fn ns q B_=>refine(Zp (x:=.str (O "function")) ((Zm e2 rfl).trans rfl) rfl).trans ?_;rw[Zea,Zck];simp[tp]
   |iff q=>refine(Zp (x:=.str (O "if")) ((Zm e2 rfl).trans rfl) rfl).trans ?_;rw[Zea,Zck];simp[tp]
def ZkE(H:Dec P)(n:Nat)(s:Dq C k c pk bk h0 h dk p A pl dn bg u):run P (n+2) (mnm (O "Decoder") (O "is_behind_if")) [.ref c] h=.ok (.bl (Wz (tp bg=J p))) h:=by
 rw[Zz H.n_Decoder_is_behind_if H.Decoder_is_behind_if (by rfl)];have ew:ev (P.tbl (n+1)) (.mcl (O "Decoder") (O "is_within_if") (.var 0) .nil) [J (.ref c)] h=.ok (.bl (tp bg).isSome) h:=ZB rfl s.o rfl rfl (Zky H n s);have fin:∀b,evAnd (P.tbl (n+1)) (.cons (.mcl (O "Decoder") (O "is_within_if") (.var 0) .nil) (.cons (.cmp .Eq (.ix (.ix (.att [O "Decoder"] (.var 0) (O "begun")) (.neg (.ci 1))) (.ci 1)) (.att [O "Decoder"] (.var 0) (O "at"))) .nil)) [J (.ref c)] h=.ok (.bl b) h->Ze (xs2 (P.tbl (n+1)) Zbc [J (.ref c)] h)=.ok (.bl b) h:=λb e=>congrArg Ze (Zd (Zu (ZnJ.trans e)));refine fin _ ?_;rw[Zji,ew];cases q:tp bg with
 |none=>rfl
 |some j=>
  rcases List.eq_nil_or_concat bg with rfl|⟨l,x,rfl⟩
  . cases q
  . have sb:=s.b;rw[List.concat_eq_append,List.map_append]at sb;cases x with
    |fn ns q' B_=>simp[tp]at q
    |iff i=>
     have:i=j:=by simpa[tp]using q
     subst this;have eb:ev (P.tbl (n+1)) (.att [O "Decoder"] (.var 0) (O "begun")) [J (.ref c)] h=.ok (.ref bk) h:=g_a rfl s.o Zae rfl;have e2:ev (P.tbl (n+1)) (.ix (.att [O "Decoder"] (.var 0) (O "begun")) (.neg (.ci 1))) [J (.ref c)] h=.ok (Bg.iff i).d h:=(Zm eb rfl).trans (Znz sb);refine(Zp (x:=.int (i:Int)) (y:=.int (p:Int)) ((Zm e2 rfl).trans rfl) (g_a rfl s.o Zae rfl)).trans ?_;rw[Zea,ZhV];congr 2;simp only[Option.some.injEq];rw[Bool.eq_iff_iff,if_neg (by simp),decide_eq_true_iff,decide_eq_true_iff]
     lia
end
section
variable {P:Pg}{h0 h:Hd}{C:List Ce.Rw}{k c pk bk dk p u:Nat}{A dn:List D}{pl:List (Nat×List D)}{bg:List Bg}
def Zre(hr:r≠[]):cutD (l++r) (J (-(r.length:Int))) M=r:=by
 have hp:0<r.length:=List.length_pos_iff.mpr hr;have e:HT.sIx (l++r).length 0 (J (-(r.length:Int)))=l.length:=by simp[HT.sIx];lia
 have e0:HT.sIx (l++r).length (l++r).length M=(l++r).length:=by simp[HT.sIx]
 unfold cutD;rw[e,e0];simp
def Zrg(hr:r≠[]):cutD (l++r) M (J (-(r.length:Int)))=l:=by
 have hp:0<r.length:=List.length_pos_iff.mpr hr;have e:HT.sIx (l++r).length (l++r).length (J (-(r.length:Int)))=l.length:=by simp[HT.sIx];lia
 have e0:HT.sIx (l++r).length 0 M=0:=by simp[HT.sIx]
 unfold cutD;rw[e,e0];simp
inductive On(C:List Ce.Rw)(k c pk bk:Nat)(h0:Hd)(p:Nat)(A:List D)(pl:List (Nat×List D))(dn:List D)(bg:List Bg)(u:Nat):qe D->Prop
 |ok {h':Hd} (le:u<=120) (s:Ds C k c pk bk h0 h' p A pl dn bg u):On C k c pk bk h0 p A pl dn bg u (.ok .non h')
 |ex {g:Hd} (lt:120<u):On C k c pk bk h0 p A pl dn bg u (.exc (O "Wide") (h0++g))
def Zgw(q:ev U e S h=r)(o:On C k c pk bk h0 p A pl dn bg u r):On C k c pk bk h0 p A pl dn bg u (Ze (xs2 U (.cons (.drp e) .nil) S h)):=by
 cases o with
 |ok le s=>rw[Za (ZX q)];exact .ok le s
 |ex lt=>rw[Zc6 (Zil q)];exact .ex lt
noncomputable def vp(c:Nat)(w:D)(m:Nat)(o:Option D):Ev:=[J (.ref c),J w,J (.int (m:Int)),o]
def ZlU(H:Dec P)(n:Nat)(s:Dq C k c pk bk h0 h dk p A pl (dn++ps) bg u)(hu:u<=120)(hr:ps≠[])(eW:ps.length<=10)(hd:dn.length<=1000):On C k c pk bk h0 p A pl (dn++[.tup (.str w::ps)]) bg (u+1) (run P (n+3) (mnm (O "Decoder") (O "put_together")) [.ref c,.str w,.int (ps.length:Int)] h):=by
 rw[Zz H.n_Decoder_put_together H.Decoder_put_together (by rfl)];have s1:=s.app [.lst ps];have s2:=s.app ([.lst ps]++[.lst dn]);rw[<-Oz]at s2;have x1:xs1 (P.tbl (n+2)) ZV (vp c (.str w) ps.length M) h=.ok (.nx,vp c (.str w) ps.length (J (.tup ps))) (h++[.lst ps]):=by
  have q:ev (P.tbl (n+2)) (.sl (.att [O "Decoder"] (.var 0) (O "done")) (J (.neg (.var 2))) M) (vp c (.str w) ps.length M) h=.ok (.ref h.length) (h++[.lst ps]):=by rw[Zlb,g_a (d:=.ref dk) rfl s.o Zae rfl,Zq];show ZfK (.ref dk) (J (-(ps.length:Int))) M h=_;simp only[ZfK,lstOf,s.d];rw[Zre hr];rfl
  exact Zl (ZeZ (Zc q rfl) (Zpx (ys:=ps) (by simp)))
 have x2:∃h2,xs1 (P.tbl (n+2)) ZU (vp c (.str w) ps.length (J (.tup ps))) (h++[.lst ps])=.ok (.nx,vp c (.str w) ps.length (J (.tup ps))) h2/\Dq C k c pk bk h0 h2 (h.length+1) p A pl dn bg u:=by
  have q:ev (P.tbl (n+2)) (.sl (.att [O "Decoder"] (.var 0) (O "done")) M (J (.neg (.var 2)))) (vp c (.str w) ps.length (J (.tup ps))) (h++[.lst ps])=.ok (.ref (h.length+1)) (h++[.lst ps]++[.lst dn]):=by rw[Zlb,g_a (d:=.ref dk) rfl s1.o Zae rfl,Zq];show ZfK (.ref dk) M (J (-(ps.length:Int))) (h++[.lst ps])=_;simp only[ZfK,lstOf,s1.d];rw[Zrg hr];simp[Zdr]
  refine⟨_,s_a q rfl s2.o Zae (by simp),?_⟩;exact s2.setN (dk':=h.length+1) (by simp) (by have:=Zaj s.b;lia) (by have:=s.ol;lia)
 obtain⟨h2,x2,s3⟩:=x2;show On C k c pk bk h0 p A pl (dn++[.tup (.str w::ps)]) bg (u+1) (Ze (xs2 (P.tbl (n+2)) (.cons ZV (.cons ZU (.cons ZaC .nil))) (vp c (.str w) ps.length M) h));rw[Za x1,Za x2];have ed:ev (P.tbl (n+2)) (.att [O "Decoder"] (.var 0) (O "done")) (vp c (.str w) ps.length (J (.tup ps))) h2=.ok (.ref (h.length+1)) h2:=g_a rfl s3.o Zae rfl;have ep:ev (P.tbl (n+2)) (.att [O "Decoder"] (.var 0) (O "pen")) (vp c (.str w) ps.length (J (.tup ps))) h2=.ok (.ref pk) h2:=g_a rfl s3.o Zae rfl;have es:evs (P.tbl (n+2)) (.cons (.tupl (.cons (.var 1) .nil)) (.cons (.var 3) .nil)) (vp c (.str w) ps.length (J (.tup ps))) h2=.ok [.tup [.str w],.tup ps] h2:=rfl;have af:Tm.Aft h2 h2 pk (.int 120) (u:Int):=⟨s3.q,Oq _,λ_ _ _=>rfl⟩
 by_cases q:u=120
 . subst q;have ej:=ZB ep s3.q rfl es (Pw.ZpW H.p n [.str w] ps af);have em:ev (P.tbl (n+2)) (.meth .app (.att [O "Decoder"] (.var 0) (O "done")) (.cons (.mcl (O "Pen") (O "joined") (.att [O "Decoder"] (.var 0) (O "pen")) (.cons (.tupl (.cons (.var 1) .nil)) (.cons (.var 3) .nil))) .nil)) (vp c (.str w) ps.length (J (.tup ps))) h2=.exc (O "Wide") h2:=by rw[ZnG,ed,Zq,Zjc s3.d,if_pos rfl,ZxZ ej];rfl
   obtain⟨g,rfl⟩:=s3.gone;exact Zgw em (.ex (by lia))
 . have ej:=ZB ep s3.q rfl es (Pw.Zoo H.p n [.str w] ps af (by lia) (by simp;lia));have s4:=s3.setP (u+1);rw[show((u:Int)+1)=((u+1:Nat):Int) by lia]at ej;have em:=ZdZ (m:=.app) ed s3.d (Zc ej ZJ) (Za0 s4.d (by rw[YC];lia));exact Zgw em (.ok (by lia) ⟨_,s4.setD _⟩)
def Zol(H:Dec P)(n:Nat)(s:Dq C k c pk bk h0 h dk p A pl dn bg u)(hu:u<120):run P (n+1) (mnm (O "Pen") (O "take_place")) [.ref pk] h=.ok .non (h.set pk (Zbj (.int 120) ((u+1:Nat):Int))):=Tm.ZpU H.p.t n (.inr ⟨120,rfl,by lia⟩) s.q
noncomputable def vt(c:Nat)(d:D):Ev:=[J (.ref c),J d]
def ZtW(H:Dec P)(n:Nat)(s:Dq C k c pk bk h0 h dk p A pl dn bg 120):On C k c pk bk h0 p' A' pl aH a7 121 (run P (n+2) (mnm (O "Decoder") (O "put_on")) [.ref c,d] h):=by rw[Zz H.n_Decoder_put_on H.Decoder_put_on (by rfl)];have ep:ev (P.tbl (n+1)) (.att [O "Decoder"] (.var 0) (O "pen")) (vt c d) h=.ok (.ref pk) h:=g_a rfl s.o Zae rfl;have q:=ZB (U:=P.tbl (n+1)) (C:=O "Pen") (m:=O "take_place") ep s.q rfl ZJ (Tm.Zkz H.p.t H.p.wd n s.q);obtain⟨g,rfl⟩:=s.gone;have x:xs2 (P.tbl (n+1)) Zbz (vt c d) (h0++g)=.exc (O "Wide") (h0++g):=Zc6 (Zil q);show On C k c pk bk h0 p' A' pl aH a7 121 (Ze (xs2 (P.tbl (n+1)) Zbz (vt c d) (h0++g)));rw[x];exact .ex (by decide)
def Zp4(H:Dec P)(n:Nat)(s:Dq C k c pk bk h0 h dk p A pl dn bg u)(hu:u<120)(ed:d=.tup (.str w::ds)):∃R,Dq C k c pk bk h0 R dk p A pl dn bg (u+1)/\run P (n+2) (mnm (O "Decoder") (O "put_on")) [.ref c,d] h=Ze (xs2 (P.tbl (n+1)) (if w=O "clo" then Z5 else ZaL) (vt c d) R):=by
 refine⟨_,s.setP (u+1),?_⟩;rw[Zz H.n_Decoder_put_on H.Decoder_put_on (by rfl)];have ep:ev (P.tbl (n+1)) (.att [O "Decoder"] (.var 0) (O "pen")) (vt c d) h=.ok (.ref pk) h:=g_a rfl s.o Zae rfl;have q:=ZB (U:=P.tbl (n+1)) (C:=O "Pen") (m:=O "take_place") ep s.q rfl ZJ (Zol H n s hu);have one:∀(U:Tb) (st:Sx) (S:Ev) (h:Hd),xs2 U (.cons st .nil) S h=xs1 U st S h:=λU st S h=>by
  rw[xs2];cases xs1 U st S h with
  |bad=>rfl
  |exc c h=>rfl
  |ok p h=>obtain⟨f,S⟩:=p;cases f<;>rfl
 have t:∀h',tst (P.tbl (n+1)) Zcq (vt c d) h'=.ok (Wz (w=O "clo")) h':=λh'=>Zad ((Zm (x:=d) rfl rfl).trans (by rw[ed];simp)) rfl;have e2:∀h',xs2 (P.tbl (n+1)) (.cons Zcv .nil) (vt c d) h'=xs2 (P.tbl (n+1)) (if w=O "clo" then Z5 else ZaL) (vt c d) h':=λh'=>by
  rw[one];by_cases z:w=O "clo"
  . rw[if_pos z];exact Zi (Zh (t h') (decide_eq_true z))
  . rw[if_neg z];exact Zf (Zh (t h') (decide_eq_false z))
 exact congrArg Ze ((Za (ZX q)).trans (e2 _))
def Zm5(H:Dec P)(n:Nat)(s:Dq C k c pk bk h0 h dk p A pl dn bg u)(hu:u<=120)(ed:d=.tup (.str w::ds))(hw:w≠O "clo")(hd:dn.length<=1000):On C k c pk bk h0 p A pl (dn++[d]) bg (u+1) (run P (n+2) (mnm (O "Decoder") (O "put_on")) [.ref c,d] h):=by
 by_cases q:u=120
 . subst q;exact ZtW H n s
 . obtain⟨R,s1,e⟩:=Zp4 H n s (by lia) ed;rw[e,if_neg hw];exact Zgw (ZdZ (m:=.app) (g_a rfl s1.o Zae rfl) s1.d (Zc rfl rfl) (Za0 s1.d (by rw[YC];lia))) (.ok (by lia) ⟨_,s1.setD _⟩)
noncomputable def names(ns:List Str):List D:=ns.map λx=>.tup [.str (O "name"),.str x]
theorem ZnR:∀(ns:List Str) (ag:List D),ag.length+ns.length<=1000->ZG M (.nm 0) (tsto U M) (ev U (.tupl (.cons (.Ci_ "name") (.cons (.var 0) .nil)))) (ns.map .str) [M] ag h=.ok (ag++names ns) h
 |[],ag,_=>by simp[ZG,Wk.stays,names]
 |x::ns,ag,hz=>by rw[Os]at hz;rw[Op,Zak,if_pos ⟨rfl,by rw[YC];lia⟩];have:=ZnR (U:=U) ns (ag++[.tup [.str (O "name"),.str x]]) (by simp;lia);rw[Oz]at this;exact this
def Zm6(H:Dec P)(n:Nat)(s:Dq C k c pk bk h0 h dk p A pl dn bg u)(hu:u<=120)(hn:ns.length<=10)(hd:ds.length<=100000)(hb:bg.length<=1000):On C k c pk bk h0 q (names ns++ds) pl dn (bg++[.fn ns p A]) (u+1) (run P (n+2) (mnm (O "Decoder") (O "put_on")) [.ref c,Z2 q ns ds] h):=by
 by_cases z:u=120
 . subst z;exact ZtW H n s
 . obtain⟨R,s1,e⟩:=Zp4 H n s (d:=Z2 q ns ds) (by lia) rfl;rw[e,if_pos rfl];have e1:evs (P.tbl (n+1)) (.cons (.tupl (.cons (.Ci_ "function") (.cons (.ix (.var 1) (.ci 2)) (.cons (.att [O "Decoder"] (.var 0) (O "at")) (.cons (.att [O "Decoder",O "Unit"] (.var 0) (O "around")) .nil))))) .nil) (vt c (Z2 q ns ds)) R=.ok [(Bg.fn ns p A).d] R:=Zc (Zan (xs:=[.str (O "function"),.tup (ns.map .str),.int (p:Int),.tup A]) (Zc rfl (Zc rfl (Zc (g_a rfl s1.o Zae rfl) (Zc (g_a rfl s1.o cls2 rfl) rfl)))) (by simp)) rfl;have x1:=ZX (U:=P.tbl (n+1)) (S:=vt c (Z2 q ns ds)) (ZdZ (m:=.app) (g_a (Cs:=[O "Decoder"]) (f:=O "begun") rfl s1.o Zae rfl) s1.b e1 (Za0 s1.b (by simp[YC];lia)));have s2:=s1.setB (bg++[.fn ns p A]);rw[List.map_append]at s2;have x2:=s_a (U:=P.tbl (n+1)) (S:=vt c (Z2 q ns ds)) (Cs:=[O "Decoder"]) (f:=O "at") (e:=.ix (.var 1) (.ci 1)) (d:=.int (q:Int)) rfl rfl s2.o Zae (by simp);have s3:=s2.setO q A pl;have ec:∀h',ev (P.tbl (n+1)) (.bin .Add (.blt .tup (.cons (.comp [O "name"] [M] (.pl (.ix (.var 1) (.ci 2))) (.nm 0) M (.tupl (.cons (.Ci_ "name") (.cons (.var 0) .nil)))) .nil)) (.ix (.var 1) (.ci 3))) (vt c (Z2 q ns ds)) h'=.ok (.tup (names ns++ds)) (h'++[.lst (names ns)]):=λh'=>(Zj (x:=.tup (names ns)) (y:=.tup ds) (ZeZ (Zc (Zlc (Zms (xs:=ns.map .str) rfl) (ZnR ns [] (by simp;lia))) rfl) (Zpx ZaU)) rfl).trans (Zb6 (by simp[names,YC];lia))
   have s4:=s3.app [.lst (names ns)];have x3:=s_a (U:=P.tbl (n+1)) (S:=vt c (Z2 q ns ds)) (Cs:=[O "Decoder",O "Unit"]) (f:=O "around") (ec _) rfl s4.o cls2 (by simp);have:=(Za (r:=.cons Zbn (.cons Zaf .nil)) x1).trans ((Za (r:=.cons Zaf .nil) x2).trans ((Za (r:=.nil) x3).trans rfl));rw[show xs2 (P.tbl (n+1)) Z5 (vt c (Z2 q ns ds)) R=_ from this];exact .ok (by lia) ⟨_,s4.setO q (names ns++ds) pl⟩
noncomputable def fnT(ns:List Str)(e:T):T:=match ns with
 |[x]=>.fn x e
 |x::f::_=>.rcc f x e
 |[]=>e
def ZpX(H:Dec P)(n:Nat){ns:List Str}(hn:ns.length=1\/ns.length=2)(e:T)(h:Hd):run P (n+1) (O "function_of") [.tup (ns.map .str),e.d] h=.ok (fnT ns e).d h:=by
 rw[Zg H.function_of (by rfl)]
 match ns,hn with
 |[x],_=>exact rfl
 |[x,f],_=>exact rfl
def Zos(H:Dec P)(n:Nat){ns:List Str}(s:Dq C k c pk bk h0 h dk p A pl (dn++[e.d]) (bg++[.fn ns q B_]) u)(hn:ns.length=1\/ns.length=2)(hu:u<=120)(hd:dn.length<=1000):On C k c pk bk h0 q B_ pl (dn++[(fnT ns e).d]) bg u (run P (n+2) (mnm (O "Decoder") (O "go_back")) [.ref c] h):=by rw[Zz H.n_Decoder_go_back H.Decoder_go_back (by rfl)];have sb:=s.b;rw[List.map_append]at sb;have eb:∀S:Ev,(S[0]?).join=J (.ref c)->ev (P.tbl (n+1)) (.att [O "Decoder"] (.var 0) (O "begun")) S h=.ok (.ref bk) h:=λS hρ=>g_a hρ s.o Zae rfl;have t:tst (P.tbl (n+1)) Zau [J (.ref c),M] h=.ok Wx h:=Zh (ZgO (eb _ rfl) sb) (by simp);have x1:xs1 (P.tbl (n+1)) Zbe [J (.ref c),M] h=.ok (.nx,[J (.ref c),J (Bg.fn ns q B_).d]) (h.set bk (.lst (bg.map Bg.d))):=Zl (ZdZ (m:=.pop) (eb _ rfl) sb ZJ (Zdc sb));have s1:=s.setB bg;have ed:∀{h':Hd}{dk':Nat}{aH:List D}{a7:List Bg}{p':Nat}{A':List D} (s':Dq C k c pk bk h0 h' dk' p' A' pl aH a7 u),ev (P.tbl (n+1)) (.att [O "Decoder"] (.var 0) (O "done")) [J (.ref c),J (Bg.fn ns q B_).d] h'=.ok (.ref dk') h':=λs'=>g_a rfl s'.o Zae rfl;have s2:=s1.setD dn;have e2:=Zc (U:=P.tbl (n+1)) (Zv (ZpX H n hn e _) (Zc (a:=.ix (.var 1) (.ci 1)) (S:=[J (.ref c),J (Bg.fn ns q B_).d]) (x:=.tup (ns.map .str)) rfl (Zc (ZdZ (m:=.pop) (ed s1) s1.d ZJ (Zdc s1.d)) ZJ))) ZJ;have x2:=ZX (ZdZ (m:=.app) (ed s1) s1.d e2 (Za0 s2.d (by rw[YC];lia)));have s3:=s2.setD (dn++[(fnT ns e).d]);have x3:=s_a (U:=P.tbl (n+1)) (S:=[J (.ref c),J (Bg.fn ns q B_).d]) (Cs:=[O "Decoder"]) (f:=O "at") (e:=.ix (.var 1) (.ci 2)) (d:=.int (q:Int)) rfl rfl s3.o Zae (by simp);have s4:=s3.setO q A pl;have x4:=s_a (U:=P.tbl (n+1)) (S:=[J (.ref c),J (Bg.fn ns q B_).d]) (Cs:=[O "Decoder",O "Unit"]) (f:=O "around") (e:=.ix (.var 1) (.ci 3)) (d:=.tup B_) rfl rfl s4.o cls2 (by simp);have w:=(Za (r:=.cons Zbd (.cons Z7 (.cons ZK .nil))) x1).trans ((Za (r:=.cons Z7 (.cons ZK .nil)) x2).trans ((Za (r:=.cons ZK .nil) x3).trans ((Za (r:=.nil) x4).trans rfl)));have w2:xs2 (P.tbl (n+1)) ZR [J (.ref c),M] h=_:=(Za ((Zi t).trans w)).trans rfl;show On C k c pk bk h0 q B_ pl (dn++[(fnT ns e).d]) bg u (Ze (xs2 (P.tbl (n+1)) ZR [J (.ref c),M] h));rw[w2];exact .ok hu ⟨_,s4.setO q B_ pl⟩
def Zor(H:Dec P)(n:Nat)(s:Dq C k c pk bk h0 h dk p A ((q,B_)::pl) dn [] u)(hu:u<=120):On C k c pk bk h0 q B_ pl dn [] u (run P (n+2) (mnm (O "Decoder") (O "go_back")) [.ref c] h):=by
 rw[Zz H.n_Decoder_go_back H.Decoder_go_back (by rfl)];have t:tst (P.tbl (n+1)) Zau [J (.ref c),M] h=.ok Wy h:=ZgO (g_a rfl s.o Zae rfl) s.b;have ep:∀{h':Hd}{p':Nat}{A':List D} (s':Dq C k c pk bk h0 h' dk p' A' ((q,B_)::pl) dn [] u),ev (P.tbl (n+1)) (.att [O "Decoder"] (.var 0) (O "pile")) [J (.ref c),M] h'=.ok (.tup (((q,B_)::pl).map fr)) h':=λs'=>g_a rfl s'.o Zae rfl;have x1:=s_a (Cs:=[O "Decoder"]) (f:=O "at") ((Zm (y:=.int 0) (b:=.ci 0) ((Zm (y:=.int 0) (b:=.ci 0) (ep s) rfl).trans (show _=qe.ok (fr (q,B_)) h by rw[Op,ZfL,Zjv];rfl)) rfl).trans (show _=qe.ok (.int (q:Int)) h by rw[fr,ZfL,Zjv];rfl)) rfl s.o Zae (by simp);have s1:=s.setO q A ((q,B_)::pl);have x2:=s_a (Cs:=[O "Decoder",O "Unit"]) (f:=O "around") ((Zm (y:=.int 1) (b:=.ci 1) ((Zm (y:=.int 0) (b:=.ci 0) (ep s1) rfl).trans (show _=qe.ok (fr (q,B_)) _ by rw[Op,ZfL,Zjv];rfl)) rfl).trans (show _=qe.ok (.tup B_) _ by rw[fr,ZfL,Zye];rfl)) rfl s1.o cls2 (by simp);have s2:=s1.setO q B_ ((q,B_)::pl);have e3:∀{h':Hd}{p':Nat}{A':List D} (s':Dq C k c pk bk h0 h' dk p' A' ((q,B_)::pl) dn [] u),ev (P.tbl (n+1)) (.sl (.att [O "Decoder"] (.var 0) (O "pile")) (J (.ci 1)) M) [J (.ref c),M] h'=.ok (.tup (pl.map fr)) h':=λ{h'}{_}{_} s'=>by rw[Zlb,ep s',Zq];show qe.ok (D.tup (cutD (fr (q,B_)::pl.map fr) (J 1) M)) h'=_;rw[ZoZ]
 have x3:=s_a (Cs:=[O "Decoder"]) (f:=O "pile") (e3 s2) rfl s2.o Zae (by simp);have w:=(Za (r:=.cons Zbf (.cons Z8 .nil)) x1).trans ((Za (r:=.cons Z8 .nil) x2).trans ((Za (r:=.nil) x3).trans rfl));have w2:xs2 (P.tbl (n+1)) ZR [J (.ref c),M] h=_:=(Za ((Zf t).trans w)).trans rfl;show On C k c pk bk h0 q B_ pl dn [] u (Ze (xs2 (P.tbl (n+1)) ZR [J (.ref c),M] h));rw[w2];exact .ok hu ⟨_,s2.setO q B_ pl⟩
def ZlT(H:Dec P)(n:Nat)(s:Dq C k c pk bk h0 h dk p A pl dn bg u)(hu:u<=120):On C k c pk bk h0 (if (tp bg).isSome then p else q) A pl dn bg u (run P (n+2) (mnm (O "Decoder") (O "jump")) [.ref c,(Ce.Rw.jmp (q:Int)).d] h):=by
 rw[Zz H.n_Decoder_jump H.Decoder_jump (by rfl)];have t:tst (P.tbl (n+1)) Zbt (vt c (Ce.Rw.jmp (q:Int)).d) h=.ok (!(tp bg).isSome) h:=by rw[Zbt,Zuk,Zb9 (ZB rfl s.o rfl rfl (Zky H n s))];rfl
 show On C k c pk bk h0 _ A pl dn bg u (Ze (xs2 (P.tbl (n+1)) Zba (vt c (Ce.Rw.jmp (q:Int)).d) h));cases z:(tp bg).isSome with
 |true=>rw[z]at t;rw[show xs2 (P.tbl (n+1)) Zba (vt c (Ce.Rw.jmp (q:Int)).d) h=.ok (.nx,vt c (Ce.Rw.jmp (q:Int)).d) h from(Za ((Zf t).trans rfl)).trans rfl];exact .ok hu ⟨_,s⟩
 |false=>rw[z]at t;have x:=s_a (U:=P.tbl (n+1)) (S:=vt c (Ce.Rw.jmp (q:Int)).d) (Cs:=[O "Decoder"]) (f:=O "at") (e:=.ix (.var 1) (.ci 1)) (d:=.int (q:Int)) rfl rfl s.o Zae (by simp);rw[show xs2 (P.tbl (n+1)) Zba (vt c (Ce.Rw.jmp (q:Int)).d) h=_ from(Za ((Zi t).trans ((Za (r:=.nil) x).trans rfl))).trans rfl];exact .ok hu ⟨_,s.setO q A pl⟩
end
end Cr
namespace Cr
open PySem L2 IV
open Tm (Zbj grown)
open Ce (fr Z2 ZY keep Zaj ZbT psh wd)
section
variable {P:Pg}{h0 h:Hd}{C:List Ce.Rw}{k c pk bk dk p u:Nat}{A dn:List D}{pl:List (Nat×List D)}{bg:List Bg}
def ZI:xs2 U (.cons s .nil) S h=xs1 U s S h:=by
 rw[xs2];cases xs1 U s S h with
 |bad=>rfl
 |exc c h=>rfl
 |ok p h=>obtain⟨f,S⟩:=p;cases f<;>rfl
def ZiY(H:Dec P)(n:Nat){r:Ce.Rw}(q:xs1 (P.tbl n) ZaN (vt c r.d) h=xs1 (P.tbl n) (.drp e) (vt c r.d) h)(z:ev (P.tbl n) e (vt c r.d) h=o)(on:On C k c pk bk h0 p' A' bD aH a7 u' o):On C k c pk bk h0 p' A' bD aH a7 u' (run P (n+1) (mnm (O "Decoder") (O "do_row")) [.ref c,r.d] h):=by
 rw[Zz H.n_Decoder_do_row H.Decoder_do_row (by rfl)];have w:xs2 (P.tbl n) Zas (vt c r.d) h=xs2 (P.tbl n) (.cons (.drp e) .nil) (vt c r.d) h:=by rw[show Zas=.cons ZaN .nil from rfl,ZI,ZI,q]
 show On C k c pk bk h0 p' A' bD aH a7 u' (Ze (xs2 (P.tbl n) Zas (vt c r.d) h));rw[w];exact Zgw z on
def ZeL(H:Dec P)(n:Nat):tst (P.tbl n) Zcr (vt c r.d) h=.ok (Wz (wd r="call" \/ wd r="hop")) h:=by
 have eg:ev (P.tbl n) (.glo (O "CALLS")) (vt c r.d) h=.ok (.tup [.str (O "call"),.str (O "hop")]) h:=by show qe.ofO (P.G (O "CALLS")) h=_;rw[H.gc];rfl
 obtain⟨ds,ed⟩:=Ce.Zlf r;refine Zb9 ((Zp (x:=.str (Str.ofString (wd r))) ((Zm (x:=r.d) rfl rfl).trans (by rw[ed];simp)) eg).trans ?_);have:=@ZaZ P.GD h [O "call",O "hop"] (Str.ofString (wd r));show opC P.GD .In (.str (Str.ofString (wd r))) (.tup [.str (O "call"),.str (O "hop")]) h=_;simpa using this
def ZaW(n:Nat)(w:String):tst (P.tbl n) (.ex (.cmp .Eq (.ix (.var 1) (.ci 0)) (.cst (.str (Str.ofString w))))) (vt c r.d) h=.ok (Wz (wd r=w)) h:=by obtain⟨ds,ed⟩:=Ce.Zlf r;refine Zh (Zad (x:=Str.ofString (wd r)) ((Zm (x:=r.d) rfl rfl).trans (by rw[ed];simp)) rfl) ?_;simp
def Zgu(H:Dec P)(n:Nat){r:Ce.Rw}(hr:r=.call\/r=.hop)(s:Dq C k c pk bk h0 h dk p A pl (dn++[a,b]) bg u)(hu:u<=120)(hd:dn.length<=1000):On C k c pk bk h0 p A pl (dn++[.tup [.str (O "call"),a,b]]) bg (u+1) (run P (n+4) (mnm (O "Decoder") (O "do_row")) [.ref c,r.d] h):=by
 have hw:wd r="call" \/ wd r="hop" := by rcases hr with rfl|rfl;exact .inl rfl;exact .inr rfl
 exact ZiY H (n+3) ((Zi (Zh (ZeL H (n+3)) (decide_eq_true hw))).trans ZI) (ZB rfl s.o rfl rfl rfl) (ZlU H n (ps:=[a,b]) s hu (by simp) (by simp) hd)
def Zgt(H:Dec P)(n:Nat){w:Wd}(s:Dq C k c pk bk h0 h dk p A pl (dn++[a,b]) bg u)(hu:u<=120)(hd:dn.length<=1000):On C k c pk bk h0 p A pl (dn++[.tup [.str w.s,a,b]]) bg (u+1) (run P (n+4) (mnm (O "Decoder") (O "do_row")) [.ref c,(Ce.Rw.work w).d] h):=ZiY H (n+3) ((Zf (Zh (ZeL H (n+3)) (by simp[wd]))).trans (ZI.trans ((Zi (Zh (ZaW (n+3) "work") (by simp[wd]))).trans ZI))) (ZB rfl s.o rfl (Zc rfl rfl) rfl) (ZlU H n (ps:=[a,b]) s hu (by simp) (by simp) hd)
def ZkC(H:Dec P)(n:Nat){q q':Nat}(s:Dq C k c pk bk h0 h dk p A pl dn bg u)(hu:u<=120)(hj:C[q]?=J (.jmp (q':Int)))(hb:bg.length<=1000):On C k c pk bk h0 p A pl dn (bg++[.iff q']) u (run P (n+4) (mnm (O "Decoder") (O "do_row")) [.ref c,(Ce.Rw.unl ((q+1:Nat):Int)).d] h):=by
 have e1:ev (P.tbl (n+3)) (.bin .Sub (.ix (.var 1) (.ci 1)) (.ci 1)) (vt c (Ce.Rw.unl ((q+1:Nat):Int)).d) h=.ok (.int (q:Int)) h:=by
  refine(Zj (x:=.int ((q+1:Nat):Int)) rfl rfl).trans ?_;rw[Znm];congr 2
  lia
 have e2:evs (P.tbl (n+3)) (.cons (.tupl (.cons (.Ci_ "if") (.cons (.ix (.ix (.att [O "Decoder"] (.var 0) (O "code")) (.bin .Sub (.ix (.var 1) (.ci 1)) (.ci 1))) (.ci 1)) .nil))) .nil) (vt c (Ce.Rw.unl ((q+1:Nat):Int)).d) h=.ok [(Bg.iff q').d] h:=Zc (Zan (xs:=[.str (O "if"),.int (q':Int)]) (Zc rfl (Zc ((Zm ((Zm (g_a rfl s.o Zae rfl) e1).trans (ZbT s.kc hj)) rfl).trans rfl) rfl)) (by simp)) rfl;have s2:=s.setB (bg++[.iff q']);rw[List.map_append]at s2;exact ZiY H (n+3) ((Zf (Zh (ZeL H (n+3)) (by simp[wd]))).trans (ZI.trans ((Zf (Zh (ZaW (n+3) "work") (by simp[wd]))).trans (ZI.trans ((Zi (Zh (ZaW (n+3) "unless") (by simp[wd]))).trans ZI))))) (ZdZ (m:=.app) (g_a rfl s.o Zae rfl) s.b e2 (Za0 s.b (by simp[YC];lia))) (.ok hu ⟨_,s2⟩)
def ZhO(H:Dec P)(n:Nat){q:Nat}(s:Dq C k c pk bk h0 h dk p A pl dn bg u)(hu:u<=120):On C k c pk bk h0 (if (tp bg).isSome then p else q) A pl dn bg u (run P (n+4) (mnm (O "Decoder") (O "do_row")) [.ref c,(Ce.Rw.jmp (q:Int)).d] h):=ZiY H (n+3) ((Zf (Zh (ZeL H (n+3)) (by simp[wd]))).trans (ZI.trans ((Zf (Zh (ZaW (n+3) "work") (by simp[wd]))).trans (ZI.trans ((Zf (Zh (ZaW (n+3) "unless") (by simp[wd]))).trans (ZI.trans ((Zi (Zh (ZaW (n+3) "jump") (by simp[wd]))).trans ZI))))))) (ZB rfl s.o rfl (Zc rfl rfl) rfl) (ZlT H (n+1) s hu)
def Zi1(H:Dec P)(n:Nat){p':Nat}(s:Dq C k c pk bk h0 h dk p A pl dn bg u)(on:On C k c pk bk h0 p' A' bD aH a7 u (run P (n+3) (mnm (O "Decoder") (O "go_back")) [.ref c] h)):On C k c pk bk h0 p' A' bD aH a7 u (run P (n+4) (mnm (O "Decoder") (O "do_row")) [.ref c,Ce.Rw.back.d] h):=ZiY H (n+3) ((Zf (Zh (ZeL H (n+3)) (by simp[wd]))).trans (ZI.trans ((Zf (Zh (ZaW (n+3) "work") (by simp[wd]))).trans (ZI.trans ((Zf (Zh (ZaW (n+3) "unless") (by simp[wd]))).trans (ZI.trans ((Zf (Zh (ZaW (n+3) "jump") (by simp[wd]))).trans (ZI.trans ((Zi (Zh (ZaW (n+3) "back") (by simp[wd]))).trans ZI))))))))) (ZB rfl s.o rfl ZJ rfl) on
def ZkD(H:Dec P)(n:Nat)(s:Dq C k c pk bk h0 h dk p A pl dn bg u)(hd:psh A r=J d)(on:On C k c pk bk h0 p' A' bD aH a7 u' (run P (n+3) (mnm (O "Decoder") (O "put_on")) [.ref c,d] h)):On C k c pk bk h0 p' A' bD aH a7 u' (run P (n+4) (mnm (O "Decoder") (O "do_row")) [.ref c,r.d] h):=by
 have hw:¬ (wd r="call" \/ wd r="hop")/\wd r ≠ "work" /\ wd r ≠ "unless" /\ wd r ≠ "jump" /\ wd r ≠ "back" := by cases r<;>first|(cases hd;done)|simp[wd]
 exact ZiY H (n+3) ((Zf (Zh (ZeL H (n+3)) (decide_eq_false hw.1))).trans (ZI.trans ((Zf (Zh (ZaW (n+3) "work") (decide_eq_false hw.2.1))).trans (ZI.trans ((Zf (Zh (ZaW (n+3) "unless") (decide_eq_false hw.2.2.1))).trans (ZI.trans ((Zf (Zh (ZaW (n+3) "jump") (decide_eq_false hw.2.2.2.1))).trans (ZI.trans ((Zf (Zh (ZaW (n+3) "back") (decide_eq_false hw.2.2.2.2))).trans ZI))))))))) (ZB rfl s.o rfl (Zc (Zv (Ce.Zm4 H.c (n+2) r A hd) (Zc rfl (Zc (g_a rfl s.o cls2 rfl) rfl))) rfl) rfl) on
def ZN(H:Dec P)(n:Nat)(s:Ds C k c pk bk h0 h p A pl dn bg u)(hb:tp bg≠J p)(hc:C[p]?=J r)(on:∀{h':Hd}{dk:Nat},Dq C k c pk bk h0 h' dk (p+1) A pl dn bg u->On C k c pk bk h0 p' A' bD aH a7 u' (run P (n+4) (mnm (O "Decoder") (O "do_row")) [.ref c,r.d] h')):On C k c pk bk h0 p' A' bD aH a7 u' (run P (n+5) (mnm (O "Decoder") (O "do_next")) [.ref c] h):=by
 obtain⟨dk,s⟩:=s;rw[Zz H.n_Decoder_do_next H.Decoder_do_next (by rfl)];have t:tst (P.tbl (n+4)) Zav [J (.ref c)] h=.ok Wy h:=(Zb9 (ZB rfl s.o rfl ZJ (ZkE H (n+2) s))).trans (by rw[decide_eq_false hb]);have s1:=s.setO (p+1) A pl;have x1:xs1 (P.tbl (n+4)) Z9 [J (.ref c)] h=.ok (.nx,[J (.ref c)]) (h.set c (Zf0 k (p+1) A pl pk dk bk)):=by have so:=s.o;unfold Zf0 at so;rw[Z9,Zpf];simp[ZgB,Zah,so,Wm,Zgr,ZhQ,Zf0]
 have ei:∀{h':Hd} (s':Dq C k c pk bk h0 h' dk (p+1) A pl dn bg u),ev (P.tbl (n+4)) (.ix (.att [O "Decoder"] (.var 0) (O "code")) (.bin .Sub (.att [O "Decoder"] (.var 0) (O "at")) (.ci 1))) [J (.ref c)] h'=.ok r.d h':=λs'=>by refine(Zm (g_a rfl s'.o Zae rfl) ((Zj (g_a (d:=.int ((p+1:Nat):Int)) rfl s'.o Zae rfl) rfl).trans (show _=qe.ok (D.int (p:Int)) _ by rw[Znm];congr 2;lia))).trans (ZbT s'.kc hc)
 have w:xs2 (P.tbl (n+4)) ZS [J (.ref c)] h=xs2 (P.tbl (n+4)) (.cons Zbh .nil) [J (.ref c)] (h.set c (Zf0 k (p+1) A pl pk dk bk)):=ZI.trans ((Zf t).trans (Za x1));show On C k c pk bk h0 p' A' bD aH a7 u' (Ze (xs2 (P.tbl (n+4)) ZS [J (.ref c)] h));rw[w];exact Zgw (ZB rfl s1.o rfl (Zc (ei s1) rfl) rfl) (on s1)
def Znp(H:Dec P)(n:Nat)(s:Ds C k c pk bk h0 h p A pl (dn++[x,y,z]) (bg++[.iff p]) u)(hu:u<=120)(hd:dn.length<=1000):On C k c pk bk h0 p A pl (dn++[.tup [.str (O "if"),x,y,z]]) bg (u+1) (run P (n+5) (mnm (O "Decoder") (O "do_next")) [.ref c] h):=by obtain⟨dk,s⟩:=s;rw[Zz H.n_Decoder_do_next H.Decoder_do_next (by rfl)];have t:tst (P.tbl (n+4)) Zav [J (.ref c)] h=.ok Wx h:=(Zb9 (ZB rfl s.o rfl ZJ (ZkE H (n+2) s))).trans (by simp[tp]);have sb:=s.b;rw[List.map_append]at sb;have x1:=ZX (U:=P.tbl (n+4)) (S:=[J (.ref c)]) (ZdZ (m:=.pop) (g_a (Cs:=[O "Decoder"]) (f:=O "begun") rfl s.o Zae rfl) sb ZJ (Zdc sb));have s1:=s.setB bg;have w:xs2 (P.tbl (n+4)) ZS [J (.ref c)] h=xs2 (P.tbl (n+4)) (.cons Zbg .nil) [J (.ref c)] (h.set bk (.lst (bg.map Bg.d))):=ZI.trans ((Zi t).trans (Za x1));show On C k c pk bk h0 p A pl (dn++[.tup [.str (O "if"),x,y,z]]) bg (u+1) (Ze (xs2 (P.tbl (n+4)) ZS [J (.ref c)] h));rw[w];exact Zgw (ZB rfl s1.o rfl (Zc rfl (Zc rfl rfl)) rfl) (ZlU H (n+1) (ps:=[x,y,z]) s1 hu (by simp) (by simp) hd)
end
end Cr
namespace Cr
open PySem L2 IV
open Rw (Th Ar ThN rd ra)
open Cs (Vr Er ZbK)
open Ce (fr Z2 ZY Cd psh)
open Tm (sub get)
section
variable {P:Pg}{h0 h:Hd}{C:List Ce.Rw}{k c pk bk n N:Nat}
structure Lpk(P:Pg)(n:Nat)(C:List Ce.Rw)(k c pk bk:Nat)(h0:Hd)(L:Bool)(W:Nat->Hd->qe (Fl×Ev)):Prop where
 ok:∀{f:Nat}{h h':Hd}{p:Nat}{A:List D}{pl:List (Nat×List D)}{dn:List D}{bg:List Bg}{u:Nat},Ds C k c pk bk h0 h p A pl dn bg u->(bg≠[]\/(L=Wx/\∃r,C[p]?=J r/\r≠.fin))->run P (n+5) (mnm (O "Decoder") (O "do_next")) [.ref c] h=.ok .non h'->W (f+1) h=W f h'
 ex:∀{f:Nat}{h h':Hd}{w:Str}{p:Nat}{A:List D}{pl:List (Nat×List D)}{dn:List D}{bg:List Bg}{u:Nat},Ds C k c pk bk h0 h p A pl dn bg u->(bg≠[]\/(L=Wx/\∃r,C[p]?=J r/\r≠.fin))->run P (n+5) (mnm (O "Decoder") (O "do_next")) [.ref c] h=.exc w h'->W (f+1) h=.exc w h'
inductive Pc(C:List Ce.Rw)(k c pk bk:Nat)(h0:Hd)(W:Nat->Hd->qe (Fl×Ev))(h:Hd)(p:Nat)(A:List D)(pl:List (Nat×List D))(dn:List D)(bg:List Bg)(u B_ X:Nat):Prop
 |ok {h':Hd}{m:Nat} (le:u<=120) (hm:m<=B_) (s:Ds C k c pk bk h0 h' p A pl dn bg u) (e:∀f,W (m+f) h=W f h'):Pc C k c pk bk h0 W h p A pl dn bg u B_ X
 |ex {g:Hd}{m:Nat} (lt:120<u) (hm:m<=X) (e:∀f,W (m+f) h=.exc (O "Wide") (h0++g)):Pc C k c pk bk h0 W h p A pl dn bg u B_ X
section
variable {W:Nat->Hd->qe (Fl×Ev)}{L:Bool}{p p1 p2 u u1 u2 B_ B1 B2 X X1 X2:Nat}{A A1 A2 dn gS jX:List D}{pl gz jn:List (Nat×List D)}{bg gU j0:List Bg}
def Pc.bind(a:Pc C k c pk bk h0 W h p1 A1 gz gS gU u1 B1 X1)(b:∀R,Ds C k c pk bk h0 R p1 A1 gz gS gU u1->u1<=120->Pc C k c pk bk h0 W R p2 A2 jn jX j0 u2 B2 X2)(hu:u1<=u2)(hB:B1+B2<=B_)(hX:X1<=X)(hY:u1<=120->B1+X2<=X):Pc C k c pk bk h0 W h p2 A2 jn jX j0 u2 B_ X:=by
 cases a with
 |ex lt hm e=>exact .ex (by lia) (by lia) e
 |@ok h' m le hm s e=>
  cases b h' s le with
  |@ok h2 m2 le2 hm2 s2 e2=>exact .ok le2 (m:=m+m2) (by lia) s2 λf=>by rw[Nat.add_assoc,e,e2]
  |@ex g m2 lt hm2 e2=>exact .ex lt (m:=m+m2) (by have:=hY le;lia) λf=>by rw[Nat.add_assoc,e,e2]
def Pc.turn(K:Lpk P n C k c pk bk h0 L W)(s:Ds C k c pk bk h0 h p A pl dn bg u)(hc:bg≠[]\/(L=Wx/\∃r,C[p]?=J r/\r≠.fin))(o:On C k c pk bk h0 p1 A1 gz gS gU u1 (run P (n+5) (mnm (O "Decoder") (O "do_next")) [.ref c] h)):Pc C k c pk bk h0 W h p1 A1 gz gS gU u1 1 1:=by
 generalize hr:run P (n+5) (mnm (O "Decoder") (O "do_next")) [.ref c] h=r at o;cases o with
 |ok le s1=>exact .ok le (m:=1) (Oq _) s1 λf=>by rw[YW];exact K.ok s hc hr
 |ex lt=>exact .ex lt (m:=1) (Oq _) λf=>by rw[YW];exact K.ex s hc hr
theorem Pc.le(a:Pc C k c pk bk h0 W h p A pl dn bg u B_ X)(R:B_<=B')(h2:X<=X'):Pc C k c pk bk h0 W h p A pl dn bg u B' X':=by
 cases a with
 |ok le hm s e=>exact .ok le (by lia) s e
 |ex lt hm e=>exact .ex lt (by lia) e
end
inductive Eu(C:List Ce.Rw)(N:Nat):List D->List Str->List (Str×Option T)->Prop
 |nil:Eu C N [] [] []
 |nm {A:List D}{sc:List Str}{S:List (Str×Option T)} (x:Str) (r:Eu C N A sc S):Eu C N ((T.name x).d::A) (x::sc) ((x,M)::S)
 |val {A:List D}{sc:List Str}{S:List (Str×Option T)}{d:D}{v:Th} (x:Str) (h:Vr C d v) (hn:ThN N v) (r:Eu C N A sc S):Eu C N (d::A) (x::sc) ((x,J (rd v))::S)
theorem Eu.of:∀{ds:List D}{sc:List Str}{ar:Ar},Er C ds sc ar->Rw.ArN N ar->Eu C N ds sc (ra ar)
 |_,_,_,.nil,_=>.nil
 |_,_,_,.cons x h r,z=>.val x h z.1 (Eu.of r z.2)
theorem Eu.get:∀{A:List D}{sc:List Str}{S:List (Str×Option T)}{i:Nat},Eu C N A sc S->Tx.place x sc=J i->∃d,A[i]?=J d/\((d=(T.name x).d/\get S x=M)\/∃v,Vr C d v/\ThN N v/\get S x=J (rd v))
 |_,_,_,i,.nil,h=>by cases h
 |_,_,_,i,.nm y r,h=>by
  rw[Tx.place]at h;rw[Tm.get];split at h
  . rename_i e;cases h;subst e;exact⟨_,rfl,.inl ⟨rfl,if_pos rfl⟩⟩
  . rename_i ne;cases q:Tx.place x _ with
    |none=>rw[q]at h;cases h
    |some j=>rw[q]at h;cases h;obtain⟨d,e1,e2⟩:=r.get q;exact⟨d,by simpa using e1,by rw[if_neg ne];exact e2⟩
 |_,_,_,i,.val y hv hn r,h=>by
  rw[Tx.place]at h;rw[Tm.get];split at h
  . rename_i e;cases h;exact⟨_,rfl,.inr ⟨_,hv,hn,if_pos e⟩⟩
  . rename_i ne;cases q:Tx.place x _ with
    |none=>rw[q]at h;cases h
    |some j=>rw[q]at h;cases h;obtain⟨d,e1,e2⟩:=r.get q;exact⟨d,by simpa using e1,by rw[if_neg ne];exact e2⟩
def Zh6(h:get r x=get t x):get ((y,o)::r) x=get ((y,o)::t) x:=by rw[Tm.get,Tm.get,h]
theorem ZC:∀(e:T) {r t:List (Str×Option T)},(∀x,get r x=get t x)->sub r e=sub t e
 |.num _,_,_,_=>rfl
 |.name x,_,_,h=>by rw[sub,sub,h x]
 |.fn x e,r,t,h=>by rw[sub,sub,ZC e λy=>Zh6 (h y)]
 |.rcc f x e,r,t,h=>by rw[sub,sub,ZC e λy=>Zh6 (Zh6 (h y))]
 |.call f a,_,_,h=>by rw[sub,sub,ZC f h,ZC a h]
 |.iff p q s,_,_,h=>by rw[sub,sub,ZC p h,ZC q h,ZC s h]
 |.op w f a,_,_,h=>by rw[sub,sub,ZC f h,ZC a h]
def Zcy:sub ((x,M)::(f,M)::r) e=sub ((f,M)::(x,M)::r) e:=ZC e λy=>by rw[Tm.get,Tm.get,Tm.get,Tm.get];split<;>split<;>rfl
end
end Cr
namespace Cr
open PySem L2 IV
open Rw (Th Ar ThN rd ra)
open Cs (Vr Er ZbK)
open Ce (fr Z2 ZY Cd psh)
open Tm (sub get Zb Zk)
section
variable {P:Pg}{h0 h:Hd}{C:List Ce.Rw}{k c pk bk n N:Nat}{W:Nat->Hd->qe (Fl×Ev)}{L:Bool}
def Nb(bg:List Bg)(p p':Nat):Prop:=∀q,tp bg=J q->q<p\/p'<=q
def Nb.at(h:Nb bg p p')(R:p<=q)(h2:q<p'):tp bg≠J q:=λz=>by have:=h q z;lia
def Nb.sub(h:Nb bg p p')(R:p<=q)(h2:q'<=p'):Nb bg q q':=λj z=>by have:=h j z;lia
def Zpz:tp (bg++[.fn ns p A])=M:=by simp[tp]
def ZhH:tp (bg++[.iff q])=J q:=by simp[tp]
def ZdI:bg++[x]≠[]:=by simp
section
variable (H:Dec P)(K:Lpk P n C k c pk bk h0 L W)(hN:2*N<=40000)
include H K
theorem Zrd(s:Ds C k c pk bk h0 h q (names ns++ds) pl dn (bg++[.fn ns p A]) (u+1))(hb:C[q']?=J .back)(hn:ns.length=1\/ns.length=2)(hu:u+1<=120)(hd:dn.length<=u)(et:t=fnT ns (sub S e))(zt:t.size=1+(sub S e).size)
 (ih:Pc C k c pk bk h0 W h q' (names ns++ds) pl (dn++[(sub S e).d]) (bg++[.fn ns p A]) (u+1+(sub S e).size) (4*(sub S e).size-3) (4*(121-(u+1)))):Pc C k c pk bk h0 W h p A pl (dn++[t.d]) bg (u+t.size) (4*t.size-4) (4*(121-u)-1):=by
 have sp:=Zk (sub S e);refine ih.bind (u2:=u+t.size) (B2:=1) (X2:=1) (λR s1 ay=>?_) (by lia) (by lia) (by lia) (λz=>by lia);rw[show u+t.size=u+1+(sub S e).size by lia,et];exact Pc.turn K s1 (.inl ZdI) (ZN H n s1 (by rw[Zpz];nofun) hb λsq=>Zi1 H n sq (Zos H (n+1) sq hn ay (by lia)))
include hN
theorem dec:∀(m:Nat) (t:T) {sc:List Str}{l:Bool}{p p' u:Nat}{A dn:List D}{pl:List (Nat×List D)}{bg:List Bg}{S:List (Str×Option T)}{h:Hd},(sub S t).size<=m->Cd C sc l p t p'->Eu C N A sc S->A.length+2*t.size<=50000->Ds C k c pk bk h0 h p A pl dn bg u->u<=120->dn.length<=u->bg.length<=2*u->(L=Wx\/bg≠[])->Nb bg p p' ->
 Pc C k c pk bk h0 W h p' A pl (dn++[(sub S t).d]) bg (u+(sub S t).size) (4*(sub S t).size-3) (4*(121-u)):=by
 intro m;induction m with
 |zero=>intro t sc l p p' u A dn pl bg S h z;have:=Zk (sub S t);lia
 |succ m ih=>
  intro t sc l p p' u A dn pl bg S h hz cd eu hA s hu hd jN hL nb;have cond:∀{q:Nat}{r:Ce.Rw},C[q]?=J r->r≠.fin->(bg≠[]\/(L=Wx/\∃r,C[q]?=J r/\r≠.fin)):=λhc nf=>hL.elim (λz=>.inr ⟨z,_,hc,nf⟩) .inl;have leaf:∀{r:Ce.Rw}{w:Str}{ds:List D}{d:D},C[p]?=J r->r≠.fin->p'=p+1->psh A r=J d->d=.tup (.str w::ds)->w≠O "clo" -> (sub S t).d=d->(sub S t).size=1->Pc C k c pk bk h0 W h p' A pl (dn++[(sub S t).d]) bg (u+(sub S t).size) (4*(sub S t).size-3) (4*(121-u)):=λ{r w ds d} hc nf ep hp ed hw e1 e2=>by rw[e1,e2,ep];refine(Pc.turn K s (cond hc nf) (ZN H n s (nb.at (Oq _) (ZbK cd)) hc λsq=>ZkD H n sq hp ?_)).le (by lia) (by lia);exact Zm5 H (n+1) sq hu ed hw (by lia)
  have cN:∀{r:Ce.Rw}{ns aF:List Str}{q q':Nat}{ds:List D}{e:T}{ρ':List (Str×Option T)},C[p]?=J r->r≠.fin->p'=p+1->psh A r=J (Z2 q ns ds)->(ns.length=1\/ns.length=2)->Cd C aF Wx q e q'->C[q']?=J .back->Eu C N (names ns++ds) aF ρ'->(names ns++ds).length+2*e.size<=50000->sub S t=fnT ns (sub ρ' e)->(sub S t).size=1+(sub ρ' e).size->Pc C k c pk bk h0 W h p' A pl (dn++[(sub S t).d]) bg (u+(sub S t).size) (4*(sub S t).size-3) (4*(121-u)):=λ{r ns aF q q' ds e ρ'} hc nf ep hp hn cq hb eq hq e1 e2=>by
   subst ep;have sp:=Zk (sub ρ' e);have hl:(names ns).length=ns.length:=by simp[names]
   rw[OA,hl]at hq;have a:Pc C k c pk bk h0 W h q (names ns++ds) pl dn (bg++[.fn ns (p+1) A]) (u+1) 1 1:=Pc.turn K s (cond hc nf) (ZN H n s (nb.at (Oq _) (ZbK cd)) hc λsq=>ZkD H n sq hp (Zm6 H (n+1) sq hu (by lia) (by lia) (by lia)));refine a.bind (B2:=4*(sub S t).size-4) (X2:=4*(121-u)-1) (λR s1 ay=>?_) (by lia) (by lia) (by lia) (λz=>by lia);exact Zrd H K s1 hb hn ay hd e1 e2 (ih e (by lia) cq eq (by rw[OA,hl];exact hq) s1 ay (by lia) (by simp;lia) (.inr ZdI) (λj z=>by rw[Zpz]at z;cases z))
  have two:∀{f a:T}{p1 p2:Nat}{w:Str},Cd C sc Wy p f p1->Cd C sc Wy p1 a p2->p'=p2+1->(sub S t).d=.tup [.str w,(sub S f).d,(sub S a).d]->(sub S t).size=1+((sub S f).size+(sub S a).size)->t.size=1+(f.size+a.size)->(∃r,C[p2]?=J r/\r≠.fin/\∀{h':Hd}{dk u':Nat}{x y:D},Dq C k c pk bk h0 h' dk (p2+1) A pl (dn++[x,y]) bg u'->u'<=120->On C k c pk bk h0 (p2+1) A pl (dn++[.tup [.str w,x,y]]) bg (u'+1) (run P (n+4) (mnm (O "Decoder") (O "do_row")) [.ref c,r.d] h'))->Pc C k c pk bk h0 W h p' A pl (dn++[(sub S t).d]) bg (u+(sub S t).size) (4*(sub S t).size-3) (4*(121-u)):=λ{f a p1 p2 w} c1 c2 ep e1 e2 e3 ⟨r,hc,nf,on⟩=>by subst ep;have l1:=ZbK c1;have l2:=ZbK c2;have sf:=Zk (sub S f);have sa:=Zk (sub S a);refine(ih f (by lia) c1 eu (by lia) s hu hd jN hL (nb.sub (Oq _) (by lia))).bind (B2:=4*(sub S a).size-2) (X2:=4*(121-(u+(sub S f).size))+1) (λR s1 ay=>?_) (by lia) (by lia) (by lia) (λz=>by lia);refine(ih a (by lia) c2 eu (by lia) s1 ay (by simp;lia) (by lia) hL (nb.sub (by lia) (by lia))).bind (B2:=1) (X2:=1) (λh2 s2 bV=>?_) (by lia) (by lia) (by lia) (λz=>by lia);rw[Oz]at s2;have o:=ZN H n s2 (nb.at (by lia) (by lia)) hc λsq=>on sq bV;rw[e1,e2,show u+(1+((sub S f).size+(sub S a).size))=u+(sub S f).size+(sub S a).size+1 by lia];exact Pc.turn K s2 (cond hc nf) o
  cases cd with
  |num hc=>exact leaf hc nofun rfl rfl rfl (by decide) rfl rfl
  |@name _ _ _ i x hc hp=>
   obtain⟨d,e1,e2⟩:=eu.get hp;rcases e2 with⟨rfl,eg⟩|⟨v,hv,hn,eg⟩
   . exact leaf hc nofun rfl e1 rfl (by decide) (by rw[sub,eg];rfl) (by rw[sub,eg];rfl)
   . have es:sub S (.name x)=rd v:=by rw[sub,eg];rfl
     cases hv with
     |num=>exact leaf hc nofun rfl e1 rfl (by decide) (by rw[es];rfl) (by rw[es];rfl)
     |@fn q q' y e ds aF ar cq hb r=>have z:=hn.1;unfold Rw.Bd at z;have z2:=Zb (.fn y e);simp only[T.parts,Op,Oy,OI,List.sum_nil]at z2;refine cN (ns:=[y]) (ρ':=(y,M)::ra ar) hc nofun rfl e1 (.inl rfl) cq hb (.nm y (Eu.of r hn.2)) (by simp[names,r.len];lia) (by rw[es,rd];rfl) ?_;rw[es,rd,sub,Zb];simp[T.parts]
     |@rcc q q' f y e ds aF ar cq hb r=>have z:=hn.1;unfold Rw.Bd at z;have z2:=Zb (.rcc f y e);simp only[T.parts,Op,Oy,OI,List.sum_nil]at z2;refine cN (ns:=[y,f]) (ρ':=(y,M)::(f,M)::ra ar) hc nofun rfl e1 (.inr rfl) cq hb (.nm y (.nm f (Eu.of r hn.2))) (by simp[names,r.len];lia) (by rw[es,rd,sub,Zcy];rfl) ?_;rw[es,rd,sub,Zb,Zcy];simp[T.parts]
  |@fn _ _ _ q q' y e hc cq hb=>have z2:=Zb (.fn y e);simp only[T.parts,Op,Oy,OI,List.sum_nil]at z2;refine cN (ns:=[y]) (ρ':=(y,M)::S) hc nofun rfl rfl (.inl rfl) cq hb (.nm y eu) (by simp[names];lia) rfl ?_;rw[sub,Zb];simp[T.parts]
  |@rcc _ _ _ q q' f y e hc cq hb=>have z2:=Zb (.rcc f y e);simp only[T.parts,Op,Oy,OI,List.sum_nil]at z2;refine cN (ns:=[y,f]) (ρ':=(y,M)::(f,M)::S) hc nofun rfl rfl (.inr rfl) cq hb (.nm y (.nm f eu)) (by simp[names];lia) (by rw[sub,Zcy];rfl) ?_;rw[sub,Zb,Zcy];simp[T.parts]
  |@call _ _ _ p1 p2 f a c1 c2 hc=>have z2:=Zb (.call f a);have z3:=Zb (.call (sub S f) (sub S a));simp[T.parts]at z2 z3;exact two c1 c2 rfl rfl z3 z2 ⟨_,hc,by cases l<;>nofun,λsq iE=>Zgu H n (by cases l;exact .inl rfl;exact .inr rfl) sq iE (by lia)⟩
  |@op _ _ _ p1 p2 w f a c1 c2 hc=>have z2:=Zb (.op w f a);have z3:=Zb (.op w (sub S f) (sub S a));simp[T.parts]at z2 z3;exact two c1 c2 rfl rfl z3 z2 ⟨_,hc,nofun,λsq iE=>Zgt H n sq iE (by lia)⟩
  |@iff _ _ _ p1 p2 p3 x y z c1 R c2 h2 c3=>have z2:=Zb (.iff x y z);have z3:=Zb (.iff (sub S x) (sub S y) (sub S z));simp[T.parts]at z2 z3;have l1:=ZbK c1;have l2:=ZbK c2;have l3:=ZbK c3;have sx:=Zk (sub S x);have sy:=Zk (sub S y);have sz:=Zk (sub S z);rw[show(sub S (.iff x y z))=.iff (sub S x) (sub S y) (sub S z)from rfl]at hz ⊢;refine(ih x (by lia) c1 eu (by lia) s hu hd jN hL (nb.sub (Oq _) (by lia))).bind (B2:=4*((sub S y).size+(sub S z).size)-3) (X2:=4*(121-(u+(sub S x).size))+3) (λmT s1 ay=>?_) (by lia) (by lia) (by lia) (λq=>by lia);refine(Pc.turn K s1 (cond R nofun) (ZN H n s1 (nb.at (by lia) (by lia)) R λsq=>ZkC H n sq ay h2 (by lia))).bind (B2:=4*((sub S y).size+(sub S z).size)-4) (X2:=4*(121-(u+(sub S x).size))+2) (λjc s2 bV=>?_) (by lia) (by lia) (by lia) (λq=>by lia);refine(ih y (by lia) c2 eu (by lia) s2 bV (by simp;lia) (by simp;lia) (.inr ZdI) (λj q=>by rw[ZhH]at q;cases q;lia)).bind (B2:=4*(sub S z).size-1) (X2:=4*(121-(u+(sub S x).size+(sub S y).size))+2) (λge s3 iD=>?_) (by lia) (by lia) (by lia) (λq=>by lia);have oj:=ZN H n s3 (by rw[ZhH];intro q;cases q;lia) h2 λsq=>ZhO H n sq iD;rw[ZhH]at oj;refine(Pc.turn K s3 (.inl ZdI) oj).bind (B2:=4*(sub S z).size-2) (X2:=4*(121-(u+(sub S x).size+(sub S y).size))+1) (λmS s4 iC=>?_) (by lia) (by lia) (by lia) (λq=>by lia);refine(ih z (by lia) c3 eu (by lia) s4 iC (by simp;lia) (by simp;lia) (.inr ZdI) (λj q=>by rw[ZhH]at q;cases q;lia)).bind (B2:=1) (X2:=1) (λmR s5 iB=>?_) (by lia) (by lia) (by lia) (λq=>by lia);rw[Oz,Oz]at s5;have o:=Znp H n s5 iB (by lia);rw[z3,show u+(1+((sub S x).size+((sub S y).size+(sub S z).size)))=u+(sub S x).size+(sub S y).size+(sub S z).size+1 by lia];exact Pc.turn K s5 (.inl ZdI) o
end
end
end Cr
namespace Cr
open PySem L2 IV
open Rw (Th Ar Wt ThN WtN rd ra fw rnd)
open Cs (Vr Er Cx Dx Hp Ls ZbK)
open Ce (fr Z2 ZY Cd psh)
open Tm (sub get Zb Zk)
section
variable {P:Pg}{h0 h:Hd}{C:List Ce.Rw}{k c pk bk n N:Nat}{W:Nat->Hd->qe (Fl×Ev)}
noncomputable def vs1:Wt->List Th
 |.fn V=>[V]
 |.left _ V=>[V]
 |_=>[]
def tv(ws:List Wt):List Th:=ws.reverse.flatMap vs1
def Zal(w:Wt)(ws:List Wt):tv (w::ws)=tv ws++vs1 w:=by simp[tv]
def ZlG(a b:List Wt):tv (a++b)=tv b++tv a:=by simp[tv]
inductive Sv(C:List Ce.Rw):List D->List Th->Prop
 |nil:Sv C [] []
 |cons {S_:List D}{vs:List Th}{d:D}{v:Th} (h:Vr C d v) (s:Sv C S_ vs):Sv C (d::S_) (v::vs)
def Sv.app(a:Sv C S_ vs)(b:Sv C S' vs'):Sv C (S_++S') (vs++vs'):=by
 induction a with
 |nil=>exact b
 |cons h s ih=>exact .cons h ih
def Cx.sv(x:Cx C b sc ar p S_ ws):Sv C S_ (tv ws):=by
 induction x with
 |fin _=>exact .nil
 |back _=>exact .nil
 |jmp _ _ _ ih=>exact ih
 |app _ _ v _ ih=>rw[Zal];exact ih.app (.cons v .nil)
 |arg _ _ _ _ ih=>rw[Zal];simpa[vs1]using ih
 |work _ v _ ih=>rw[Zal];exact ih.app (.cons v .nil)
 |right _ _ _ ih=>rw[Zal];simpa[vs1]using ih
 |cho _ _ _ _ _ _ ih=>rw[Zal];simpa[vs1]using ih
theorem Dx.sv(x:Dx C b pl S_ vs):Sv C S_ (tv vs):=by
 induction x with
 |nil=>exact .nil
 |cons r kx hw hc x ih=>rw[ZlG];exact ih.app (Cx.sv kx)
def dns(vs:List Th):List D:=vs.map λv=>(rd v).d
def szs(vs:List Th):Nat:=(vs.map λv=>(rd v).size).sum
def ZeT(a b:List Th):dns (a++b)=dns a++dns b:=by simp[dns]
def ZaX(a b:List Th):szs (a++b)=szs a+szs b:=by simp[szs]
def ZaF(a:List Th):(dns a).length<=szs a:=by
 induction a with
 |nil=>exact Oq _
 |cons v a ih=>have:=Zk (rd v);simp[dns,szs]at *;lia
inductive Fo(C:List Ce.Rw)(k c pk bk:Nat)(h0:Hd)(W:Nat->Hd->qe (Fl×Ev))(h:Hd)(t:T)(B_:Nat):Prop
 |ok {h':Hd}{m p:Nat}{A:List D} (le:t.size<=120) (hm:m<=B_) (hc:C[p]?=J .fin) (s:Ds C k c pk bk h0 h' p A [] [t.d] [] t.size) (e:∀f,W (m+f) h=W f h'):Fo C k c pk bk h0 W h t B_
 |ex {g:Hd}{m:Nat} (lt:120<t.size) (hm:m<=B_) (e:∀f,W (m+f) h=.exc (O "Wide") (h0++g)):Fo C k c pk bk h0 W h t B_
def Fo.bind(a:Pc C k c pk bk h0 W h p A pl dn bg u B1 X1)(b:∀R,Ds C k c pk bk h0 R p A pl dn bg u->u<=120->Fo C k c pk bk h0 W R t B2)(hu:u<=t.size)(hX:X1<=B_)(hB:u<=120->B1+B2<=B_):Fo C k c pk bk h0 W h t B_:=by
 cases a with
 |ex lt hm e=>exact .ex (by lia) (by lia) e
 |@ok h' m le hm s e=>
  have:=hB le;cases b h' s le with
  |@ok h2 m2 p2 A2 le2 hm2 hc s2 e2=>exact .ok le2 (m:=m+m2) (by lia) hc s2 λf=>by rw[Nat.add_assoc,e,e2]
  |@ex g m2 lt hm2 e2=>exact .ex lt (m:=m+m2) (by lia) λf=>by rw[Nat.add_assoc,e,e2]
noncomputable def mx(G p l u:Nat):Nat:=4*(121-u)+8+3*(G-p)+l*(3*G+3)
def Zg3(e:C[p]?=J r):p<C.length:=(Ob.mp e).1
def Zac(ws:List Wt)(t:T):t.size+szs (tv ws)<=(rnd ws t).size:=by
 induction ws generalizing t with
 |nil=>simp[tv,szs,rnd]
 |cons w ws ih=>
  have q:=ih (fw w t);rw[Zal,ZaX,show rnd (w::ws) t=rnd ws (fw w t)from rfl];have:t.size+szs (vs1 w)<=(fw w t).size:=by
   cases w with
   |arg A ar=>rw[fw,Zb (.call _ _)];simp[T.parts,vs1,szs];lia
   |fn V=>rw[fw,Zb (.call _ _)];simp[T.parts,vs1,szs];lia
   |iff a b ar=>rw[fw,Zb (.iff _ _ _)];simp[T.parts,vs1,szs];lia
   |right w F ar=>rw[fw,Zb (.op _ _ _)];simp[T.parts,vs1,szs];lia
   |left w V=>rw[fw,Zb (.op _ _ _)];simp[T.parts,vs1,szs];lia
  lia
section
variable (H:Dec P)(K:Lpk P n C k c pk bk h0 Wx W)(hN:2*N<=40000)
include H K hN
theorem ctx(kx:Cx C b sc ar p S_ ws):∀{E:List D}{pl:List (Nat×List D)}{vs:List Wt}{t:T}{h:Hd},Er C E sc ar->(∀w∈ws,WtN N w)->(∀{t:T}{h:Hd}{p':Nat}{A:List D},(b=Wx->C[p']?=J .back)->(b=Wy->C[p']?=J .fin)->Ds C k c pk bk h0 h p' A pl (dns (tv vs)++[t.d]) [] (szs (tv vs)+t.size)->szs (tv vs)+t.size<=120->Fo C k c pk bk h0 W h (rnd vs t) (mx C.length C.length pl.length (szs (tv vs)+t.size))) ->
 Ds C k c pk bk h0 h p E pl (dns (tv vs)++dns (tv ws)++[t.d]) [] (szs (tv vs)+szs (tv ws)+t.size)->szs (tv vs)+szs (tv ws)+t.size<=120->Fo C k c pk bk h0 W h (rnd vs (rnd ws t)) (mx C.length p pl.length (szs (tv vs)+szs (tv ws)+t.size)):=by
 have nt:∀q,tp ([]:List Bg)≠J q:=nofun
 have mono:∀{h:Hd}{t:T}{B_ B':Nat},Fo C k c pk bk h0 W h t B_->B_<=B'->Fo C k c pk bk h0 W h t B':=λf hb=>by
  cases f with
  |ok le hm hc s e=>exact .ok le (by lia) hc s e
  |ex lt hm e=>exact .ex lt (by lia) e
 induction kx with
 |fin hc=>intro E pl vs t h er hw fin s hu;rw[show dns (tv ([]:List Wt))=[]from rfl,Ys]at s;rw[show szs (tv ([]:List Wt))=0 from rfl,Nat.add_zero]at s hu ⊢;show Fo C k c pk bk h0 W h (rnd vs t) _;exact mono (fin nofun (λ_=>hc) s hu) (by simp only[mx];lia)
 |back hc=>intro E pl vs t h er hw fin s hu;rw[show dns (tv ([]:List Wt))=[]from rfl,Ys]at s;rw[show szs (tv ([]:List Wt))=0 from rfl,Nat.add_zero]at s hu ⊢;show Fo C k c pk bk h0 W h (rnd vs t) _;exact mono (fin (λ_=>hc) nofun s hu) (by simp only[mx];lia)
 |@jmp b sc ar p q S_ ws hc hq kx ih=>intro E pl vs t h er hw fin s hu;have lp:=Zg3 hc;have o:=ZN H n s (nt _) hc λsq=>ZhO H n sq hu;exact Fo.bind (Pc.turn K s (.inr ⟨rfl,_,hc,nofun⟩) o) (λR s1 ay=>ih er hw fin s1 ay) (by have:=Zac vs (rnd ws t);have:=Zac ws t;lia) (by simp only[mx];lia) (λz=>by simp only[mx];lia)
 |@app b sc ar p S_ ws r d V hc hr v kx ih=>
  intro E pl vs t h er hw fin s hu;have lp:=Zg3 hc;have zc:=Zb (.call (rd V) t);simp[T.parts]at zc;have e1:dns (tv (.fn V::ws))=dns (tv ws)++[(rd V).d]:=by rw[Zal,ZeT];rfl
  have e2:szs (tv (.fn V::ws))=szs (tv ws)+(rd V).size:=by rw[Zal,ZaX];simp[vs1,szs]
  rw[e1]at s;rw[e2]at s hu ⊢;rw[<-Oz,Oz _ [(rd V).d]]at s;have l1:=ZaF (tv vs);have l2:=ZaF (tv ws);have dC:r=.call\/r=.hop:=hr.elim (λz=>.inl z.1) (λz=>.inr z.1);have o:=ZN H n s (nt _) hc λsq=>Zgu H n dC sq hu (by simp;lia);have nf:r≠.fin:=by rcases dC with rfl|rfl<;>nofun
  rw[show szs (tv vs)+(szs (tv ws)+(rd V).size)+t.size+1=szs (tv vs)+szs (tv ws)+(T.call (rd V) t).size by lia]at o;have zr:=Zac ws (.call (rd V) t);have zq:=Zac vs (rnd ws (.call (rd V) t));exact Fo.bind (Pc.turn K s (.inr ⟨rfl,_,hc,nf⟩) o) (λR s1 ay=>ih (t:=.call (rd V) t) er (λw cy=>hw w (Oh _ cy)) fin s1 ay) (by show _<=(rnd vs (rnd ws (.call (rd V) t))).size;lia) (by simp only[mx];lia) (λz=>by simp only[mx];lia)
 |@work b sc ar p S_ ws w d V hc v kx ih=>
  intro E pl vs t h er hw fin s hu;have lp:=Zg3 hc;have zc:=Zb (.op w (rd V) t);simp[T.parts]at zc;have e1:dns (tv (.left w V::ws))=dns (tv ws)++[(rd V).d]:=by rw[Zal,ZeT];rfl
  have e2:szs (tv (.left w V::ws))=szs (tv ws)+(rd V).size:=by rw[Zal,ZaX];simp[vs1,szs]
  rw[e1]at s;rw[e2]at s hu ⊢;rw[<-Oz,Oz _ [(rd V).d]]at s;have l1:=ZaF (tv vs);have l2:=ZaF (tv ws);have o:=ZN H n s (nt _) hc λsq=>Zgt H n sq hu (by simp;lia);rw[show szs (tv vs)+(szs (tv ws)+(rd V).size)+t.size+1=szs (tv vs)+szs (tv ws)+(T.op w (rd V) t).size by lia]at o;have zr:=Zac ws (.op w (rd V) t);have zq:=Zac vs (rnd ws (.op w (rd V) t));exact Fo.bind (Pc.turn K s (.inr ⟨rfl,_,hc,nofun⟩) o) (λR s1 ay=>ih (t:=.op w (rd V) t) er (λw cy=>hw w (Oh _ cy)) fin s1 ay) (by show _<=(rnd vs (rnd ws (.op w (rd V) t))).size;lia) (by simp only[mx];lia) (λz=>by simp only[mx];lia)
 |@arg b sc ar p p1 S_ ws r A cd hc hr kx ih=>
  intro E pl vs t h er hw fin s hu;have lp:=Zg3 hc;have lc:=ZbK cd;have wn:=hw _ Oi;have bd:=wn.1;unfold Rw.Bd at bd;have sa:=Zk (sub (ra ar) A);have zc:=Zb (.call t (sub (ra ar) A));simp[T.parts]at zc;have e1:tv (.arg A ar::ws)=tv ws:=by rw[Zal];simp[vs1]
  rw[e1]at s hu ⊢;have l1:=ZaF (tv vs);have l2:=ZaF (tv ws);have dC:r=.call\/r=.hop:=hr.elim (λz=>.inl z.1) (λz=>.inr z.1);have nf:r≠.fin:=by rcases dC with rfl|rfl<;>nofun
  have zr:=Zac ws (.call t (sub (ra ar) A));have zq:=Zac vs (rnd ws (.call t (sub (ra ar) A)));have st:=Zk t;refine Fo.bind (dec H K hN _ A (Oq _) cd (Eu.of er wn.2) (by rw[er.len];lia) s hu (by simp;lia) (by simp) (.inl rfl) nofun) (B2:=1+mx C.length (p1+1) pl.length (szs (tv vs)+szs (tv ws)+(T.call t (sub (ra ar) A)).size)) (λR s1 ay=>?_) (by show _<=(rnd vs (rnd ws (.call t (sub (ra ar) A)))).size;lia) (by simp only[mx];lia) (λz=>by simp only[mx];lia);rw[Oz _ [t.d]]at s1;have o:=ZN H n s1 (nt _) hc λsq=>Zgu H n dC sq ay (by simp;lia);rw[show szs (tv vs)+szs (tv ws)+t.size+(sub (ra ar) A).size+1=szs (tv vs)+szs (tv ws)+(T.call t (sub (ra ar) A)).size by lia]at o;exact Fo.bind (Pc.turn K s1 (.inr ⟨rfl,_,hc,nf⟩) o) (λh2 s2 bV=>ih (t:=.call t (sub (ra ar) A)) er (λw cy=>hw w (Oh _ cy)) fin s2 bV) (by show _<=(rnd vs (rnd ws (.call t (sub (ra ar) A)))).size;lia) (by lia) (λz=>by lia)
 |@right b sc ar p p1 S_ ws w A cd hc kx ih=>
  intro E pl vs t h er hw fin s hu;have lp:=Zg3 hc;have lc:=ZbK cd;have wn:=hw _ Oi;have bd:=wn.1;unfold Rw.Bd at bd;have sa:=Zk (sub (ra ar) A);have zc:=Zb (.op w t (sub (ra ar) A));simp[T.parts]at zc;have e1:tv (.right w A ar::ws)=tv ws:=by rw[Zal];simp[vs1]
  rw[e1]at s hu ⊢;have l1:=ZaF (tv vs);have l2:=ZaF (tv ws);have zr:=Zac ws (.op w t (sub (ra ar) A));have zq:=Zac vs (rnd ws (.op w t (sub (ra ar) A)));have st:=Zk t;refine Fo.bind (dec H K hN _ A (Oq _) cd (Eu.of er wn.2) (by rw[er.len];lia) s hu (by simp;lia) (by simp) (.inl rfl) nofun) (B2:=1+mx C.length (p1+1) pl.length (szs (tv vs)+szs (tv ws)+(T.op w t (sub (ra ar) A)).size)) (λR s1 ay=>?_) (by show _<=(rnd vs (rnd ws (.op w t (sub (ra ar) A)))).size;lia) (by simp only[mx];lia) (λz=>by simp only[mx];lia);rw[Oz _ [t.d]]at s1;have o:=ZN H n s1 (nt _) hc λsq=>Zgt H n sq ay (by simp;lia);rw[show szs (tv vs)+szs (tv ws)+t.size+(sub (ra ar) A).size+1=szs (tv vs)+szs (tv ws)+(T.op w t (sub (ra ar) A)).size by lia]at o;exact Fo.bind (Pc.turn K s1 (.inr ⟨rfl,_,hc,nofun⟩) o) (λh2 s2 bV=>ih (t:=.op w t (sub (ra ar) A)) er (λw cy=>hw w (Oh _ cy)) fin s2 bV) (by show _<=(rnd vs (rnd ws (.op w t (sub (ra ar) A)))).size;lia) (by lia) (λz=>by lia)
 |@cho b l sc ar p p2 p3 S_ ws x y hc ct hj ce hl kx ih=>
  intro E pl vs t h er hw fin s hu;have lp:=Zg3 hc;have lj:=Zg3 hj;have lc:=ZbK ct;have le:=ZbK ce;have wn:=hw _ Oi;have bx:=wn.1.1;have mf:=wn.1.2;unfold Rw.Bd at bx mf;have sx:=Zk (sub (ra ar) x);have sy:=Zk (sub (ra ar) y);have st:=Zk t;have zc:=Zb (.iff t (sub (ra ar) x) (sub (ra ar) y));simp[T.parts]at zc;have e1:tv (.iff x y ar::ws)=tv ws:=by rw[Zal];simp[vs1]
  rw[e1]at s hu ⊢;have l1:=ZaF (tv vs);have l2:=ZaF (tv ws);generalize hq:T.iff t (sub (ra ar) x) (sub (ra ar) y)=q at *;have zr:=Zac ws q;have zq:=Zac vs (rnd ws q);have zz:(rnd vs (rnd (.iff x y ar::ws) t))=rnd vs (rnd ws q):=by rw[<-hq];rfl
  rw[zz];have jw:∀{a b':Nat},b'<=p3->Nb ([]++[.iff p3]) a b':=λhb j z=>by rw[ZhH]at z;cases z;exact .inr hb
  generalize hM:mx C.length p3 pl.length (szs (tv vs)+szs (tv ws)+q.size)=qd at ih;have lP:szs (tv vs)+szs (tv ws)+q.size<=121->4*(1+((sub (ra ar) x).size+(sub (ra ar) y).size))+qd+3<=mx C.length p pl.length (szs (tv vs)+szs (tv ws)+t.size):=λz=>by rw[<-hM];simp only[mx];lia
  have mP:4*(121-(szs (tv vs)+szs (tv ws)+t.size))+8+3<=mx C.length p pl.length (szs (tv vs)+szs (tv ws)+t.size):=by simp only[mx];lia
  generalize mx C.length p pl.length (szs (tv vs)+szs (tv ws)+t.size)=G at *;have a1:=Pc.turn K s (.inr ⟨rfl,_,hc,nofun⟩) (ZN H n s (nt _) hc λsq=>ZkC H n sq hu hj (by simp));have a2:Pc C k c pk bk h0 W h p3 E pl (dns (tv vs)++dns (tv ws)++[q.d]) [] (szs (tv vs)+szs (tv ws)+q.size) (4*(1+((sub (ra ar) x).size+(sub (ra ar) y).size))+3) (4*(121-(szs (tv vs)+szs (tv ws)+t.size))+8):=by
   refine a1.bind (B2:=4*(1+((sub (ra ar) x).size+(sub (ra ar) y).size))+2) (X2:=4*(121-(szs (tv vs)+szs (tv ws)+t.size))+7) (λR s1 ay=>?_) (by lia) (by lia) (by lia) (λz=>by lia);refine(dec H K hN _ x (Oq _) ct (Eu.of er wn.2) (by rw[er.len];lia) s1 ay (by simp;lia) (by simp;lia) (.inl rfl) (jw (by lia))).bind (B2:=4*(1+(sub (ra ar) y).size)+2) (X2:=4*(121-(szs (tv vs)+szs (tv ws)+t.size+(sub (ra ar) x).size))+7) (λh2 s2 bV=>?_) (by lia) (by lia) (by lia) (λz=>by lia);have oj:=ZN H n s2 (by rw[ZhH];intro q;cases q;lia) hj λsq=>ZhO H n sq bV;rw[ZhH]at oj;refine(Pc.turn K s2 (.inl ZdI) oj).bind (B2:=4*(1+(sub (ra ar) y).size)+1) (X2:=4*(121-(szs (tv vs)+szs (tv ws)+t.size+(sub (ra ar) x).size))+6) (λh3 s3 iD=>?_) (by lia) (by lia) (by lia) (λz=>by lia);refine(dec H K hN _ y (Oq _) ce (Eu.of er wn.2) (by rw[er.len];lia) s3 iD (by simp;lia) (by simp;lia) (.inl rfl) (jw (Oq _))).bind (B2:=1) (X2:=1) (λh4 s4 iC=>?_) (by lia) (by lia) (by lia) (λz=>by lia);rw[Oz _ [t.d],Oz _ _ [(sub (ra ar) y).d]]at s4;have o:=Znp H n s4 iC (by simp;lia);rw[show szs (tv vs)+szs (tv ws)+t.size+(sub (ra ar) x).size+(sub (ra ar) y).size+1=szs (tv vs)+szs (tv ws)+q.size by lia]at o;have ed:q.d=.tup [.str (O "if"),t.d,(sub (ra ar) x).d,(sub (ra ar) y).d]:=by rw[<-hq];rfl
   rw[ed];exact Pc.turn K s4 (.inl ZdI) o
  exact Fo.bind (B2:=qd) a2 (λh5 s5 iB=>by rw[<-hM];exact ih (t:=q) er (λw cy=>hw w (Oh _ cy)) fin s5 iB) (by lia) (by lia) (λz=>by have:=lP (by lia);lia)
end
end
end Cr
namespace Cr
open PySem L2 IV
open Rw (Th Ar Wt ThN WtN StN rd ra fw rnd read Sta)
open Cs (Vr Er Cx Dx Rc ZbK)
open Ce (fr Z2 ZY Cd psh Ma Zaj keep ZbT)
open Tm (sub get Zb Zk Zbj grown)
section
variable {P:Pg}{h0 h:Hd}{C:List Ce.Rw}{k c pk bk n N p u:Nat}{A dn:List D}{pl:List (Nat×List D)}
def wW(P:Pg)(n c:Nat)(d:D)(f:Nat)(h:Hd):qe (Fl×Ev):=Z4 (tst (P.tbl (n+5)) Zbm) (xs2 (P.tbl (n+5)) Zbl) f (vt c d) h
def wA(P:Pg)(n c:Nat)(f:Nat)(h:Hd):qe (Fl×Ev):=Z4 (tst (P.tbl (n+5)) Z6) (xs2 (P.tbl (n+5)) Zcn) f [J (.ref c)] h
def ZfB(hρ:(S[0]?).join=J (.ref c))(s:Ds C k c pk bk h0 h p A pl dn bg u):tst U (.ex (.att [O "Decoder"] (.var 0) (O "begun"))) S h=.ok (!bg.isEmpty) h:=by obtain⟨dk,s⟩:=s;refine Zh (ZgO (g_a hρ s.o Zae rfl) s.b) ?_;cases bg<;>rfl
def Zvn(h:bg≠[]):(!bg.isEmpty)=Wx:=by cases bg;exact absurd rfl h;rfl
def kW:Lpk P n C k c pk bk h0 Wy (wW P n c d):=by
 constructor
 . intro f h h' p A pl dn bg u s hc e;obtain⟨dk,s'⟩:=id s;have hb:bg≠[]:=hc.elim id (λz=>by cases z.1);exact Zdn (Zh (ZfB rfl s) (Zvn hb)) ((Za (ZX (ZB rfl s'.o rfl ZJ e))).trans rfl)
 . intro f h h' w p A pl dn bg u s hc e;obtain⟨dk,s'⟩:=id s;have hb:bg≠[]:=hc.elim id (λz=>by cases z.1);exact ZmM (Zh (ZfB rfl s) (Zvn hb)) (Zc6 (Zil (ZB rfl s'.o rfl ZJ e)))
def ZtL(s:Ds C k c pk bk h0 h p A pl dn bg u)(hb:bg=[])(hc:C[p]?=J r):tst (P.tbl (n+5)) Z6 [J (.ref c)] h=.ok (!Wz (Ce.wd r="end")) h:=by subst hb;have t1:=ZfB (U:=P.tbl (n+5)) (S:=[J (.ref c)]) rfl s;obtain⟨dk,s⟩:=s;refine ZhU t1 ?_;obtain⟨ds,ed⟩:=Ce.Zlf r;have e1:ev (P.tbl (n+5)) (.ix (.ix (.att [O "Decoder"] (.var 0) (O "code")) (.att [O "Decoder"] (.var 0) (O "at"))) (.ci 0)) [J (.ref c)] h=.ok (.str (Str.ofString (Ce.wd r))) h:=(Zm (x:=r.d) ((Zm (g_a rfl s.o Zae rfl) (g_a (d:=.int (p:Int)) rfl s.o Zae rfl)).trans (ZbT s.kc hc)) rfl).trans (by rw[ed];simp);refine Zb9 ((Zp e1 rfl).trans ?_);rw[Zl5,Zck];simp
def kA:Lpk P n C k c pk bk h0 Wx (wA P n c):=by
 have tt:∀{h:Hd}{p:Nat}{A:List D}{pl:List (Nat×List D)}{dn:List D}{bg:List Bg}{u:Nat},Ds C k c pk bk h0 h p A pl dn bg u->(bg≠[]\/(Wx=Wx/\∃r,C[p]?=J r/\r≠.fin))->tst (P.tbl (n+5)) Z6 [J (.ref c)] h=.ok Wx h:=λ{h p A pl dn bg u} s hc=>by
  by_cases hb:bg=[]
  . obtain⟨_,r,e,nf⟩:=hc.elim (λz=>absurd hb z) id;refine Zh (ZtL s hb e) ?_;cases r<;>first|exact absurd rfl nf|simp[Ce.wd]
  . exact Zqp (Zh (ZfB rfl s) (Zvn hb))
 constructor
 . intro f h h' p A pl dn bg u s hc e;obtain⟨dk,s'⟩:=id s;exact Zdn (tt s hc) ((Za (ZX (ZB rfl s'.o rfl ZJ e))).trans rfl)
 . intro f h h' w p A pl dn bg u s hc e;obtain⟨dk,s'⟩:=id s;exact ZmM (tt s hc) (Zc6 (Zil (ZB rfl s'.o rfl ZJ e)))
def ZrZ(H:Dec P)(hN:2*N<=40000)(hv:Vr C d v)(hn:ThN N v)(s:Ds C k c pk bk h0 h p A pl dn [] u)(hu:u<=120)(hd:dn.length<=u):On C k c pk bk h0 p A pl (dn++[(rd v).d]) [] (u+(rd v).size) (run P (n+6) (mnm (O "Decoder") (O "put_whole")) [.ref c,d] h):=by
 have hL:1000000<=P.L:=H.c.big;obtain⟨dk,s⟩:=s;rw[Zz H.n_Decoder_put_whole H.Decoder_put_whole (by rfl)];show On C k c pk bk h0 p A pl (dn++[(rd v).d]) [] (u+(rd v).size) (Ze (xs2 (P.tbl (n+5)) (.cons Zx (.cons Zn .nil)) (vt c d) h));have fin:∀{R h2:Hd}{m:Nat},m<=900000->(∀f,wW P n c d (m+f) R=wW P n c d f h2)->Ds C k c pk bk h0 h2 p A pl (dn++[(rd v).d]) [] (u+(rd v).size)->u+(rd v).size<=120->On C k c pk bk h0 p A pl (dn++[(rd v).d]) [] (u+(rd v).size) (Ze (xs2 (P.tbl (n+5)) (.cons Zn .nil) (vt c d) R)):=λ{R h2 m} hm e s2 le=>by
  obtain⟨f,hf⟩:∃f,P.L=m+(f+1):=⟨P.L-m-1,by lia⟩
  have q:xs1 (P.tbl (n+5)) Zn (vt c d) R=.ok (.nx,vt c d) h2:=by show wW P n c d P.L R=_;rw[hf,e];exact Zfz (ZfB rfl s2)
  rw[Za q];exact .ok le s2
 have o1:∀{p' u':Nat}{A' aH:List D}{a7:List Bg},On C k c pk bk h0 p' A' pl aH a7 u' (run P (n+5) (mnm (O "Decoder") (O "put_on")) [.ref c,d] h)->(120<u'->120<u+(rd v).size)->(∀R,Ds C k c pk bk h0 R p' A' pl aH a7 u'->u'<=120->On C k c pk bk h0 p A pl (dn++[(rd v).d]) [] (u+(rd v).size) (Ze (xs2 (P.tbl (n+5)) (.cons Zn .nil) (vt c d) R)))->On C k c pk bk h0 p A pl (dn++[(rd v).d]) [] (u+(rd v).size) (Ze (xs2 (P.tbl (n+5)) (.cons Zx (.cons Zn .nil)) (vt c d) h)):=λ{p' u' A' aH a7} o hx hk=>by
  generalize hr:run P (n+5) (mnm (O "Decoder") (O "put_on")) [.ref c,d] h=r at o;cases o with
  |@ok R le s1=>have x:xs1 (P.tbl (n+5)) Zx (vt c d) h=.ok (.nx,vt c d) R:=ZX (ZB rfl s.o rfl (Zc rfl rfl) hr);rw[Za x];exact hk _ s1 le
  |@ex g lt=>have x:xs1 (P.tbl (n+5)) Zx (vt c d) h=.exc (O "Wide") (h0++g):=Zil (ZB rfl s.o rfl (Zc rfl rfl) hr);rw[Zc6 x];exact .ex (hx lt)
 have fn:∀{q q':Nat}{ns sc:List Str}{ds:List D}{e:T}{S:List (Str×Option T)},d=Z2 q ns ds->(ns.length=1\/ns.length=2)->Cd C sc Wx q e q'->C[q']?=J .back->Eu C N (names ns++ds) sc S->(names ns++ds).length+2*e.size<=50000->rd v=fnT ns (sub S e)->(rd v).size=1+(sub S e).size->On C k c pk bk h0 p A pl (dn++[(rd v).d]) [] (u+(rd v).size) (Ze (xs2 (P.tbl (n+5)) (.cons Zx (.cons Zn .nil)) (vt c d) h)):=λ{q q' ns sc ds e S} ed hl cq hb eu hz e1 e2=>by
  have fS:(names ns).length=ns.length:=by simp[names]
  have eT:=hz;rw[OA,fS]at eT;refine o1 (by rw[ed];exact Zm6 H (n+3) s hu (by lia) (by lia) (by simp)) (by lia) λR s1 ay=>?_;have sp:=Zk (sub S e);have pc:=Zrd H (kW (P:=P) (n:=n) (d:=d)) s1 hb hl ay hd e1 e2 (dec H kW hN _ e (Oq _) cq eu hz s1 ay (by lia) (by simp;lia) (.inr ZdI) (λj z=>by rw[Zpz]at z;cases z));cases pc with
  |ok le hm s2 e'=>exact fin (by lia) e' s2 le
  |@ex g m lt hm e'=>
   obtain⟨f,hf⟩:∃f,P.L=m+f:=⟨P.L-m,by lia⟩
   have q:xs1 (P.tbl (n+5)) Zn (vt c d) R=.exc (O "Wide") (h0++g):=by show wW P n c d P.L R=_;rw[hf,e']
   rw[Zc6 q];exact .ex lt
 cases hv with
 |@num z=>exact o1 (Zm5 H (n+3) s hu rfl (by decide) (by lia)) (λz=>z) λR s1 ay=>fin (m:=0) (by lia) (λf=>by rw[Nat.zero_add]) s1 ay
 |@fn q q' y e ds aF ar cq hb r=>have z:=hn.1;unfold Rw.Bd at z;have z2:=Zb (.fn y e);simp only[T.parts,Op,Oy,OI,List.sum_nil]at z2;refine fn (ns:=[y]) (S:=(y,M)::ra ar) rfl (.inl rfl) cq hb (.nm y (Eu.of r hn.2)) (by simp[names,r.len];lia) (by rw[rd];rfl) ?_;rw[rd,sub,Zb];simp[T.parts]
 |@rcc q q' f y e ds aF ar cq hb r=>have z:=hn.1;unfold Rw.Bd at z;have z2:=Zb (.rcc f y e);simp only[T.parts,Op,Oy,OI,List.sum_nil]at z2;refine fn (ns:=[y,f]) (S:=(y,M)::(f,M)::ra ar) rfl (.inr rfl) cq hb (.nm y (.nm f (Eu.of r hn.2))) (by simp[names,r.len];lia) (by rw[rd,sub,Zcy];rfl) ?_;rw[rd,sub,Zb,Zcy];simp[T.parts]
inductive Of'(C:List Ce.Rw)(k c pk bk:Nat)(h0:Hd)(p:Nat)(A:List D)(pl:List (Nat×List D))(dn:List D)(u:Nat)(S:Option D->Ev):qe (Fl×Ev)->Prop
 |ok {h':Hd}{o:Option D} (le:u<=120) (s:Ds C k c pk bk h0 h' p A pl dn [] u):Of' C k c pk bk h0 p A pl dn u S (.ok (.nx,S o) h')
 |ex {g:Hd} (lt:120<u):Of' C k c pk bk h0 p A pl dn u S (.exc (O "Wide") (h0++g))
noncomputable def vc(kk:Nat)(sd:D)(c:Nat)(o:Option D):Ev:=[J (.ref kk),J sd,J (.ref c),o]
theorem Znu(H:Dec P)(hN:2*N<=40000):∀{S_:List D}{vs:List Th},Sv C S_ vs->(∀v∈vs,ThN N v)->∀{h:Hd}{dn:List D}{u:Nat}{o:Option D},Ds C k c pk bk h0 h p A pl dn [] u->u<=120->dn.length<=u->Of' C k c pk bk h0 p A pl (dn++dns vs) (u+szs vs) (vc kk sd c) (ZQ M (.nm 3) (xs2 (P.tbl (n+6)) Zab) S_ (vc kk sd c o) h)
 |_,_,.nil,_,h,dn,u,o,s,hu,hd=>by rw[show dns ([]:List Th)=[]from rfl,show szs ([]:List Th)=0 from rfl,Ys];exact .ok hu s
 |_,_,.cons (d:=d) (v:=v) (S_:=S_) (vs:=vs) hv sv,hn,h,dn,u,o,s,hu,hd=>by
  have q:=ZrZ H (n:=n) hN hv (hn v Oi) s hu hd;have sp:=Zk (rd v);obtain⟨dk,s'⟩:=id s;rw[show dns (v::vs)=[(rd v).d]++dns vs from rfl,show szs (v::vs)=(rd v).size+szs vs by simp[szs],<-Oz,<-Nat.add_assoc];generalize hr:run P (n+6) (mnm (O "Decoder") (O "put_whole")) [.ref c,d] h=r at q;cases q with
  |@ok R le s1=>have x:xs2 (P.tbl (n+6)) Zab (vc kk sd c (J d)) h=.ok (.nx,vc kk sd c (J d)) R:=(Za (ZX (ZB rfl s'.o rfl (Zc rfl rfl) hr))).trans rfl;rw[ZjX rfl x];exact Znu H hN sv (λw hw=>hn w (Oh _ hw)) s1 le (by simp;lia)
  |@ex g lt=>have x:xs2 (P.tbl (n+6)) Zab (vc kk sd c (J d)) h=.exc (O "Wide") (h0++g):=Zc6 (Zil (ZB rfl s'.o rfl (Zc rfl rfl) hr));rw[ZxV rfl x];exact .ex (by lia)
end
section
variable {P:Pg}{h0 h:Hd}{C:List Ce.Rw}{k c pk bk n N p:Nat}{A:List D}
def ZjA(a b:List Wt)(t:T):rnd (a++b) t=rnd b (rnd a t):=List.foldl_append
def Zxe(H:Dec P)(hN:2*N<=40000)(x:Dx C b pl S0 vs):(∀w∈vs,WtN N w)->∀{t:T}{h:Hd}{p':Nat}{A:List D},(b=Wx->C[p']?=J .back)->(b=Wy->C[p']?=J .fin)->Ds C k c pk bk h0 h p' A pl (dns (tv vs)++[t.d]) [] (szs (tv vs)+t.size)->szs (tv vs)+t.size<=120->Fo C k c pk bk h0 (wA P n c) h (rnd vs t) (mx C.length C.length pl.length (szs (tv vs)+t.size)):=by
 induction x with
 |nil=>intro hw t h p' A hb hf s hu;have e0:szs (tv ([]:List Wt))+t.size=t.size:=Nat.zero_add _;rw[e0]at s hu;exact .ok (m:=0) hu (Yw _) (hf rfl) s (λf=>by rw[Nat.zero_add])
 |@cons b sc ar p E S_ S0 ws vs pl r kx cy gM x ih=>
  intro hw t h p' A hb hf s hu;rw[ZlG,ZeT,ZaX]at s;rw[ZlG,ZaX]at hu ⊢;rw[ZjA];have hc:=hb rfl;have lp:=Zg3 hc;have o:=ZN H n s nofun hc λsq=>Zi1 H n sq (Zor H (n+1) sq hu);have zr:=Zac ws t;have zq:=Zac vs (rnd ws t);refine Fo.bind (Pc.turn kA s (.inr ⟨rfl,_,hc,nofun⟩) o) (λR s1 ay=>ctx H kA hN kx r (λw z=>hw w (Yr _ z)) (ih (λw z=>hw w (Ov _ z))) s1 ay) (by lia) (by simp only[mx,Os];lia) (λz=>?_);simp only[mx,Os,Nat.add_mul,Nat.one_mul]
  lia
inductive Rd(h0:Hd)(t:T):qe D->Prop
 |ok {g:Hd} (le:t.size<=120):Rd h0 t (.ok t.d (h0++g))
 |ex {g:Hd} (lt:120<t.size):Rd h0 t (.exc (O "Wide") (h0++g))
def ZuJ(H:Dec P)(s0:Dq C k c pk bk h0 h dk p0 A0 pl dn0 bg u0)(f:Fo C k c pk bk h0 (wA P n c) h t B_)(hB:B_<=900000):Rd h0 t (run P (n+6) (mnm (O "Decoder") (O "do_all")) [.ref c] h):=by
 have hL:1000000<=P.L:=H.c.big;rw[Zz H.n_Decoder_do_all H.Decoder_do_all (by rfl)];show Rd h0 t (Ze (xs2 (P.tbl (n+5)) (.cons Zaa (.cons ZaO .nil)) [J (.ref c)] h));cases f with
 |@ok h' m p A le hm hc s e=>
  obtain⟨f,hf⟩:∃f,P.L=m+(f+1):=⟨P.L-m-1,by lia⟩
  have q:xs1 (P.tbl (n+5)) Zaa [J (.ref c)] h=.ok (.nx,[J (.ref c)]) h':=by show wA P n c P.L h=_;rw[hf,e];exact Zfz (Zh (ZtL s rfl hc) rfl)
  obtain⟨dk,s⟩:=s;have x2:xs1 (P.tbl (n+5)) ZaO [J (.ref c)] h'=.ok (.rt t.d,[J (.ref c)]) h':=Zu ((Zm (g_a rfl s.o Zae rfl) rfl).trans (by rw[Z0 s.d,Zjv];rfl));rw[Za q,Zd x2];obtain⟨g,rfl⟩:=s.gone;exact .ok le
 |@ex g m lt hm e=>
  obtain⟨f,hf⟩:∃f,P.L=m+f:=⟨P.L-m,by lia⟩
  have q:xs1 (P.tbl (n+5)) Zaa [J (.ref c)] h=.exc (O "Wide") (h0++g):=by show wA P n c P.L h=_;rw[hf,e]
  rw[Zc6 q];exact .ex lt
def Zoq(H:Dec P)(n:Nat){k:Nat}{s:Ma}(h:Hd):Zg5 (run P (n+2)) (O "Decoder") [.ref k,s.d] h=.ok (.ref h.length) (h++[Zf0 k s.p s.E s.pl (h.length+1) (h.length+2) (h.length+3),Zbj (.int 120) 0,.lst [],.lst []]):=by
 have kr:∀fs:List (Str×D),ev (P.tbl (n+1)) (.mk (O "Pen") (.cons (.glo (O "WIDEST")) .nil)) [J (.ref h.length),J (.ref k),J s.d] (h++[.ins (O "Decoder") fs])=.ok (.ref (h.length+1)) (h++[.ins (O "Decoder") fs,Zbj (.int 120) 0]):=λfs=>by rw[Ce.Zvp (Zc (show ev (P.tbl (n+1)) (.glo (O "WIDEST")) _ _=.ok (.int 120) _ by rw[Zik,show(P.tbl (n+1)).G _=_ from H.p.gw];rfl) rfl) (Tm.ZwZ H.p.t n (.int 120) _)];simp
 have st:∀{Cs f e d g g' fs} (C:O "Decoder" ∈ Cs) (q:ev (P.tbl (n+1)) e [J (.ref h.length),J (.ref k),J s.d] (h++.ins (O "Decoder") fs::g)=.ok d (h++.ins (O "Decoder") fs::g')) (z:fs.length<1000),xs1 (P.tbl (n+1)) (.seta Cs (.var 0) f e) [J (.ref h.length),J (.ref k),J s.d] (h++.ins (O "Decoder") fs::g)=.ok (.nx,[J (.ref h.length),J (.ref k),J s.d]) (h++.ins (O "Decoder") (ZhQ f d fs)::g'):=λC q z=>(s_a q rfl ZaU C z).trans (by rw[ZkG]);have w:xs2 (P.tbl (n+1)) Zcw [J (.ref h.length),J (.ref k),J s.d] (h++[.ins (O "Decoder") []])=.ok (.nx,[J (.ref h.length),J (.ref k),J s.d]) (h++[Zf0 k s.p s.E s.pl (h.length+1) (h.length+2) (h.length+3),Zbj (.int 120) 0,.lst [],.lst []]):=(Za (st Zae rfl (by decide))).trans ((Za (st (fs:=[_]) Zae rfl (show 1<1000 by decide))).trans ((Za (st (fs:=[_,_]) cls2 rfl (show 2<1000 by decide))).trans ((Za (st (fs:=[_,_,_]) Zae rfl (show 3<1000 by decide))).trans ((Za (st (fs:=[_,_,_,_]) Zae (kr _) (show 4<1000 by decide))).trans ((Za (st (fs:=[_,_,_,_,_]) (d:=.ref (h.length+2)) (g':=[Zbj (.int 120) 0,.lst []]) Zae ((Zij (xs:=[]) rfl (by decide)).trans (by simp)) (show 5<1000 by decide))).trans ((Za (st (fs:=[_,_,_,_,_,_]) (d:=.ref (h.length+3)) (g':=[Zbj (.int 120) 0,.lst [],.lst []]) Zae ((Zij (xs:=[]) rfl (by decide)).trans (by simp)) (show 6<1000 by decide))).trans rfl))))))
 unfold Zg5;rw[Zz H.n_Decoder___init__ H.Decoder___init__ rfl];exact congrArg (λr=>(Ze r).bind _) w
def ZrK(hw:∀w∈ws,WtN N w):∀v∈tv ws,ThN N v:=λv hv=>by
 obtain⟨w,R,h2⟩:=List.mem_flatMap.mp hv;have q:=hw w (List.mem_reverse.mp R);cases w with
 |fn V=>rw[vs1,Ox]at h2;subst h2;exact q
 |left w V=>rw[vs1,Ox]at h2;subst h2;exact q
 |_=>cases h2
def rest(H:Dec P)(hN:2*N<=40000)(r:Rc C s Z)(on:StN N Z):∃vs:List Th,Sv C s.S_ vs/\(∀v∈vs,ThN N v)/\szs vs<=(read Z).size/\∀{h:Hd},Ds C k c pk bk h0 h s.p s.E s.pl (dns vs) [] (szs vs)->szs vs<=120->Fo C k c pk bk h0 (wA P n c) h (read Z) (484+mx C.length 0 s.pl.length 0):=by
 cases r with
 |@go b l sc ar p p' E S_ S0 ws vs pl t r cd hl kx x=>have dz:∀w∈ws,WtN N w:=λw z=>on.2.2 w (Yr _ z);have dw:∀w∈vs,WtN N w:=λw z=>on.2.2 w (Ov _ z);have bd:=on.1;unfold Rw.Bd at bd;have zr:=Zac ws (sub (ra ar) t);have zq:=Zac vs (rnd ws (sub (ra ar) t));have e:read (.go t ar (ws++vs))=rnd vs (rnd ws (sub (ra ar) t)):=ZjA _ _ _;refine⟨tv vs++tv ws,(Dx.sv x).app (Cx.sv kx),λv hv=>(OD.mp hv).elim (ZrK dw v) (ZrK dz v),by rw[e,ZaX];lia,λ{h} s hu=>?_⟩;rw[ZeT]at s;rw[ZaX]at s hu;rw[e];have sp:=Zk (sub (ra ar) t);have l1:=ZaF (tv vs);have l2:=ZaF (tv ws);exact Fo.bind (dec H kA hN _ t (Oq _) cd (Eu.of r on.2.1) (by rw[r.len];lia) s hu (by simp;lia) (by simp) (.inl rfl) nofun) (λR s1 ay=>ctx H kA hN kx r dz (Zxe H hN x dw) s1 ay) (by lia) (by simp only[mx];lia) (λz=>by simp only[mx];lia)
 |@back b sc ar p E S_ S0 ws vs pl d V r v kx x=>
  have dz:∀w∈ws,WtN N w:=λw z=>on.2 w (Yr _ z);have dw:∀w∈vs,WtN N w:=λw z=>on.2 w (Ov _ z);have zr:=Zac ws (rd V);have zq:=Zac vs (rnd ws (rd V));have e:read (.back V (ws++vs))=rnd vs (rnd ws (rd V)):=ZjA _ _ _;have eV:szs [V]=(rd V).size:=by simp[szs]
  refine⟨tv vs++tv ws++[V],((Dx.sv x).app (Cx.sv kx)).app (.cons v .nil),λw hv=>?_,by rw[e,ZaX,ZaX,eV];lia,λ{h} s hu=>?_⟩
  . rcases OD.mp hv with q|q
    . exact(OD.mp q).elim (ZrK dw w) (ZrK dz w)
    . rw[Ox]at q;subst q;exact on.1
  . rw[ZeT,ZeT]at s;rw[ZaX,ZaX,eV]at s hu;rw[e];have f:=ctx H kA hN kx r dz (Zxe (n:=n) H hN x dw) (t:=rd V) s hu;cases f with
    |ok le hm hc s e=>exact .ok le (by simp only[mx]at *;lia) hc s e
    |ex lt hm e=>exact .ex lt (by simp only[mx]at *;lia) e
theorem ZuF (H:Dec P) (n:Nat) (hN:2*N<=40000) {s:Ma} (r:Rc C s Z) (on:StN N Z) (hG:C.length<=500) (hp:s.pl.length<=500) {k:Nat} (h:Hd) (hk:h[k]?=J (.lst (C.map Ce.Rw.d))):Rd h (read Z) (run P (n+7) (O "code_read") [.ref k,s.d] h):=by
 obtain⟨vs,sv,hn,hz,fo⟩:=rest (k:=k) (c:=h.length) (pk:=h.length+1) (bk:=h.length+3) (h0:=h) (n:=n) H hN r on;rw [Zg H.code_read (by rfl)];have s0:Dq C k h.length (h.length+1) (h.length+3) h (h++[Zf0 k s.p s.E s.pl (h.length+1) (h.length+2) (h.length+3),Zbj (.int 120) 0,.lst [],.lst []]) (h.length+2) s.p s.E s.pl [] [] 0 :=
   ⟨by simp,by simp,by simp,by simp,keep hk,by lia,Zaj hk,by lia,by lia,by lia,by lia,by simp,λi hi=>by rw [Oe hi]⟩
 have x1:xs1 (P.tbl (n+6)) ZcY [J (.ref k),J s.d,M,M] h=.ok (.nx,vc k s.d h.length M) _:=Zl (by rw [Zt3,Zc rfl (Zc rfl rfl)];exact Zoq H (n+4) h);have ls:=Znu (n:=n) H hN (kk:=k) (sd:=s.d) sv hn (o:=M) ⟨_,s0⟩ (by decide) (by simp);rw [OB,Nat.zero_add] at ls;generalize (h++[Zf0 k s.p s.E s.pl (h.length+1) (h.length+2) (h.length+3),Zbj (.int 120) 0,.lst [],.lst []])=R at *;show Rd h (read Z) (Ze (xs2 (P.tbl (n+6)) (.cons ZcY (.cons ZcX (.cons ZbG .nil))) [J (.ref k),J s.d,M,M] h));rw [Za x1];have x2:xs1 (P.tbl (n+6)) ZcX (vc k s.d h.length M) R=ZQ M (.nm 3) (xs2 (P.tbl (n+6)) Zab) s.S_ (vc k s.d h.length M) R:=Zdv (w:=⟨M,s.S_⟩) (Zms rfl);generalize ZQ M (.nm 3) (xs2 (P.tbl (n+6)) Zab) s.S_ (vc k s.d h.length M) R=rr at *;cases ls with
 |@ok h2 o le s2 =>
   rw [Za x2];have f:=fo s2 le;obtain⟨dk,s2⟩:=s2;have q:=ZuJ H s2 f (by
     have:s.pl.length*(3*C.length+3)<=500*1503:=Nat.mul_le_mul hp (by lia);simp only [mx]
     lia)
   generalize hr:run P (n+6) (mnm (O "Decoder") (O "do_all")) [.ref h.length] h2=r2 at q;cases q with
   |@ok g le2 =>
     have x3:xs1 (P.tbl (n+6)) ZbG (vc k s.d h.length o) h2=.ok (.rt (read Z).d,vc k s.d h.length o) (h++g):=Zu (ZB rfl s2.o rfl ZJ hr);rw [Zd x3];exact .ok le2
   |@ex g lt =>
     have x3:xs1 (P.tbl (n+6)) ZbG (vc k s.d h.length o) h2=.exc (O "Wide") (h++g):=ZwU (ZB rfl s2.o rfl ZJ hr);rw [Zc6 x3];exact .ex lt
 |@ex g lt =>
   rw [Zc6 x2];exact .ex (by lia)
end
end Cr
namespace Cs
open PySem IV Gn
open Rw (Th Ar Wt Sta Zhw ArOk ZiR ZiB StN WtN ThN read rnd rd ra wts)
open Ce (Cd Ma Z2 ZY ent psh Stp)
section
variable {P:Pg}{C:List Ce.Rw}{N:Nat}{h:Hd}
structure Ci(C:List Ce.Rw)(N:Nat)(s:Ma)(Z:Sta):Prop where
 r:Rc C s Z
 ok:ZiB Z
 on:StN N Z
def Qs.keeps(q:Qs Z σ'):ZiB Z->StN N Z->ZiB σ'/\StN N σ'/\read σ'=read Z:=by
 induction q with
 |refl=>exact λa b=>⟨a,b,rfl⟩
 |@step s s' t e _ ih=>intro a b;have i:=Rw.Zku a b (.inl e);have m:=Rw.ZfE s a;rw[e]at m;obtain⟨R,h2,h3⟩:=ih i.1 i.2;exact⟨R,h2,h3.trans m⟩
inductive Sp(C:List Ce.Rw)(N:Nat)(t:T):Ce.Ans->Prop
 |quiet {s:Ma}{Z:Sta} (d:Ci C N s Z) (e:read Z=t):Sp C N t (.quiet s)
 |loud {s:Ma}{Z:Sta} (d:Ci C N s Z) (nv:Tm.isV t=Wy) (e:Tm.next t=J (read Z)):Sp C N t (.loud s)
 |value (v:Tm.isV t=Wx):Sp C N t .value
 |stuck (nv:Tm.isV t=Wy) (e:Tm.next t=M):Sp C N t .stuck
def Sc.sp(d:Ci C N s Z)(h:Sc C s Z a):Sp C N (read Z) a:=by
 cases h with
 |quiet e r q=>obtain⟨R,h2,h3⟩:=q.keeps d.ok d.on;exact .quiet ⟨r,R,h2⟩ h3
 |@loud s' σ0 σ1 σ' e q0 hs r q=>obtain⟨R,h2,h3⟩:=q0.keeps d.ok d.on;have i:=Rw.Zku R h2 (.inr hs);have m:=Rw.ZfE σ0 R;rw[hs]at m;obtain⟨g1,g2,g3⟩:=q.keeps i.1 i.2;have m1:=m.1.1;have m2:=m.2;rw[h3]at m1 m2;exact .loud ⟨r,g1,g2⟩ m1 (by rw[m2,g3])
 |@value σ0 e q hs=>obtain⟨R,h2,h3⟩:=q.keeps d.ok d.on;have m:=Rw.ZfE σ0 R;rw[hs]at m;obtain⟨V,_,m⟩:=m;rw[h3]at m;exact .value m
 |@stuck σ0 e q hs=>obtain⟨R,h2,h3⟩:=q.keeps d.ok d.on;have m:=Rw.ZfE σ0 R;rw[hs]at m;have m1:=m.1.1;have m2:=m.2;rw[h3]at m1 m2;exact .stuck m1 m2
def ZpS(H:Ce.Cod P)(n:Nat)(w:Wd){A B_:D}(va:Vr C A W)(vb:Vr C B_ V)(hn:¬ ∃a b,A=ZY a/\B_=ZY b):run P (n+1) (O "worked") [.str w.s,A,B_] h=.ok .non h:=by
 rw[Zg H.worked rfl];have no:∀{z:Int}{q:Nat}{ns:List Str}{ds:List D},A=Z2 q ns ds\/A=ZY z/\B_=Z2 q ns ds->Ze (xs2 (P.tbl n) Ce.ZH [J (.str w.s),J A,J B_] h)=.ok .non h:=by
  rintro z q ns ds (rfl|⟨rfl,rfl⟩)
  . exact congrArg Ze (Zd ((Zi (Zqp rfl)).trans rfl))
  . exact congrArg Ze (Zd ((Zi (ZhU rfl rfl)).trans rfl))
 cases va with
 |num=>
  cases vb with
  |num=>exact absurd ⟨_,_,rfl,rfl⟩ hn
  |fn _ _ _=>exact no (.inr ⟨rfl,rfl⟩)
  |rcc _ _ _=>exact no (.inr ⟨rfl,rfl⟩)
 |fn _ _ _=>exact no (z:=0) (.inl rfl)
 |rcc _ _ _=>exact no (z:=0) (.inl rfl)
def ZwY(H:Ce.Cod P)(n:Nat){k:Nat}(hk:h[k]?=J (.lst (C.map Ce.Rw.d)))(q:Stk C s):run P (n+4) (O "code_step") [.ref k,s.d] h=.ok Ce.Ans.stuck.d h:=by
 cases q with
 |@app p r z V S_ E pl hc hr hp=>
  have e:=Ce.Zot H n (h:=h) z S_ V;rcases hr with rfl|rfl
  . exact Ce.Z3 H n _ hk hc rfl (.inl ⟨rfl,rfl⟩) (Ce.Zi0 H n ⟨p,S_++[ZY z,V],E,pl⟩ hp (e _))
  . exact Ce.Z3 H n _ hk hc rfl (.inl ⟨rfl,rfl⟩) (Ce.ZkB H n ⟨p,S_++[ZY z,V],E,pl⟩ (e _))
 |unl hc=>exact Ce.Z3 H n _ hk hc rfl (.inl ⟨rfl,rfl⟩) (Ce.ZkA H n _ _ (Ce.ZlW H n _ _ _ _ _ _ _ _))
 |@work p w A B_ S_ E pl V W hc va vb hn=>refine Ce.Z3 H n _ hk hc rfl (.inl ⟨rfl,rfl⟩) (Ce.ZiZ H n _ _ ?_);rw[Zg H.reckoned (by rfl)];have e1:=Ce.Zrz (l:=S_) (a:=A) (b:=B_);have e2:=Ce.Zn2 (l:=S_) (a:=A) (b:=B_);have e4:=ZpS H n (h:=h) w va vb hn;simp[Ma.d,Ce.Zfm,Ce.Ziu,ZF,e1,e2,e4,YC]
def Zuv(q:Stp C s ld s'):s'.pl.length<=s.pl.length+1:=by
 cases q with
 |back hc=>exact OE (Nat.le_succ _) (Nat.le_succ _)
 |call hc hd hp=>exact Oq _
 |_=>exact Nat.le_succ _
theorem Sc.run(sc:Sc C s Z a)(H:Ce.Cod P)(n:Nat)(hk:h[k]?=J (.lst (C.map Ce.Rw.d))):run P (n+4) (O "code_step") [.ref k,s.d] h=.ok a.d h:=by
 cases sc with
 |quiet e r q=>exact Ce.ZtV H n hk e
 |loud e q0 hs r q=>exact Ce.ZtV H n hk e
 |value e q hs=>exact Ce.ZlR H (n+3) s hk e
 |stuck e q hs=>exact ZwY H n hk e
def Ci.begin(t:T)(c:Gn.Cl [] t):Ci (Ce.code t) t.size ⟨0,[],[],[]⟩ (.go t .nil []):=by
 obtain⟨cd,hf⟩:=Ce.Ztp t c;refine⟨Rc.go (b:=false) (S_:=[]) (S0:=[]) (ws:=[]) (vs:=[]) .nil cd ⟨nofun,nofun⟩ (.fin hf) .nil,⟨c,trivial,nofun⟩,?_,trivial,nofun⟩;unfold Rw.Bd;rw[Ar.len]
 lia
def Zph(Z:Sta):(wts Z).length+1<=(read Z).size:=by
 cases Z with
 |go E ar ws=>have:=Rw.ZfG ws (Tm.sub (ra ar) E);have:=Tm.Zk (Tm.sub (ra ar) E);exact OE (by simp only[wts];lia) (Rw.ZfG ws (Tm.sub (ra ar) E))
 |back V ws=>have:=Tm.Zk (rd V);exact OE (by simp only[wts];lia) (Rw.ZfG ws (rd V))
end
end Cs
namespace Gn
open PySem L2 IV
inductive Sl(rd:Nat->Option PyData)(ds:List D)(n k:Nat):Prop
 |mk (p:List PyData) (e:D.pys rd ds=J p) (s:PyData.showableAll p=Wx) (i:PyData.intsShortAll 13 p=Wx) (w:PyData.weightAll p<=70*n+21*k) (d:PyData.depthAll p<=n)
inductive Sh(rd:Nat->Option PyData)(x:D)(n:Nat):Prop
 |mk (p:List PyData) (e:D.py rd x=J (.tuple p)) (s:PyData.showableAll p=Wx) (i:PyData.intsShortAll 13 p=Wx) (w:PyData.weightAll p<70*n) (d:PyData.depthAll p<n)
def Sl.nl:Sl rd [] 0 0:=⟨[],rfl,rfl,rfl,Oq _,Oq _⟩
def Sl.st(h:x.cps.size<=20):Sl rd ds n k->Sl rd (.str x::ds) n (k+1)
 |⟨p,e,s,i,w,d⟩=>⟨.str x::p,by simp[D.pys,D.py,e],by simp[PyData.showableAll,PyData.showable,s],by simp[PyData.intsShortAll,PyData.intsShort,i],by simp only[PyData.weightAll,PyData.weight];lia,by simp only[PyData.depthAll,PyData.depth];lia⟩
def Sl.cn(q:Sh rd x a):Sl rd ds n k->Sl rd (x::ds) (a+n) k
 |⟨p,e,s,i,w,d⟩=>by obtain⟨p',e',s',i',w',d'⟩:=q;exact⟨.tuple p'::p,by simp[D.pys,e,e'],by simp[PyData.showableAll,PyData.showable,s,s'],by simp[PyData.intsShortAll,PyData.intsShort,i,i'],by simp only[PyData.weightAll,PyData.weight];lia,by simp only[PyData.depthAll,PyData.depth];lia⟩
def Sl.it(h:0<=z/\z<1000000):Sl rd [.int z] 0 1:=by
 obtain⟨h0,R⟩:=h;have hl:z.natAbs.log2<20:=by
  by_cases e:z.natAbs=0
  . rw[e];decide
  . exact(Nat.log2_lt e).mpr (by lia)
 have ht:(toString z).length<=7:=int_text_length_le10 (k:=6) (by decide) (by lia);have q:(PyData.shown (.int z)).length<=13:=by show(Str.ofString (toString z)).length<=13;rw[ofString_length];lia
 refine⟨[.int z],rfl,?_,?_,?_,Oq _⟩
 . simp only[PyData.showable,PyData.showableAll,Bool.and_true,decide_eq_true_eq];lia
 . simp only[PyData.intsShort,PyData.intsShortAll,Bool.and_true];exact decide_eq_true q
 . simp only[PyData.weight,PyData.weightAll];split<;>lia
def Sl.tp(hk:k<=3):Sl rd ds n k->Sh rd (.tup ds) (n+1)
 |⟨p,e,s,i,w,d⟩=>⟨p,by simp[D.py,e],s,i,by lia,by lia⟩
theorem ZiE:∀(t:T) (sc:List Str),(∀y∈sc,Wl 20 y)->Cl sc t->Sh rd t.d t.size
 |.num n,sc,hs,c=>((Sl.it c).st (by decide)).tp (by decide)
 |.name x,sc,hs,c=>((Sl.nl.st (hs x c).2).st (by decide)).tp (by decide)
 |.fn x e,sc,hs,c=>by rw[Tm.zf,YW];exact(((Sl.nl.cn (ZiE e (x::sc) (List.forall_mem_cons.mpr ⟨c.2,hs⟩) c.1)).st c.2.2).st (by decide)).tp (by decide)
 |.rcc f x e,sc,hs,c=>by rw[Tm.zr,YW];exact((((Sl.nl.cn (ZiE e (x::f::sc) (List.forall_mem_cons.mpr ⟨c.2.2.2,List.forall_mem_cons.mpr ⟨c.2.2.1,hs⟩⟩) c.1)).st c.2.2.2.2).st c.2.2.1.2).st (by decide)).tp (by decide)
 |.call f a,sc,hs,c=>by rw[Tm.zc,YW];exact(((Sl.nl.cn (ZiE a sc hs c.2)).cn (ZiE f sc hs c.1)).st (by decide)).tp (by decide)
 |.op w f a,sc,hs,c=>by rw[Tm.zo,YW];exact(((Sl.nl.cn (ZiE a sc hs c.2)).cn (ZiE f sc hs c.1)).st (by cases w<;>decide)).tp (by decide)
 |.iff p f a,sc,hs,c=>by rw[Tm.zi,YW];exact((((Sl.nl.cn (ZiE a sc hs c.2.2)).cn (ZiE f sc hs c.2.1)).cn (ZiE p sc hs c.1)).st (by decide)).tp (by decide)
def ZwS(c:Cl [] t)(hz:t.size<=500)(h:Hd):∃x,shD t.d h=.ok x h:=by
 obtain⟨p,e,s,i,w,d⟩:=ZiE (rd:=ZiF h 4) t [] nofun c;refine⟨PyData.shown (.tuple p),?_⟩;have ok:L2.Zog (.tuple p)=Wx:=by simp only[L2.Zog,Oa,decide_eq_true_eq];exact⟨rfl,s,i,by simp only[PyData.weight];lia,by simp only[PyData.depth];lia⟩
 unfold shD ZiG;rw[e];simp only[ok,if_true]
end Gn
namespace K55L
open PySem L2 IV
def Zlp:Tx:=.q (.ix V0 K0) (.Ci_ "name")
def Zix:Sx:=.ret (.ix (.lstl (.w V0 V2)) (.blt .int (.o (.cmp .Eq (.ix V0 K1) V1))))
def ZkW:Sxs:=.o Zix
def ZgZ:Sx:=.iff Zlp ZkW .n
def ZcJ:Tx:=.ands (.c (.x .In (.ix V0 K0) (.tupl (.w (.Ci_ "fn") (.Ci_ "rec")))) (.one (.x .In V1 (.sl V0 (J K1) (J (.neg K1))))))
def Ziw:Sx:=.ret V0
def ZkV:Sxs:=.o Ziw
def Zls:Sx:=.iff ZcJ ZkV .n
def Zlr:Sx:=.ret (.blt .tup (.o (.comp [O "_law_part",O "_law_name",O "_law_handed"] [M,J 1,J 2] (.pl V0) (.nm 0) M (.ite (.ex (.blt .isi (.w V0 (.cst (.ty "tuple"))))) (.f "_law_put" (.u V0 V1 V2)) V0))))
def ZgH:Sxs:=.u ZgZ Zls Zlr
def Zjd:Fd:=fd_ 3 ["_law_told","_law_name","_law_handed"] ZgH
def Zf4:Tx:=.q (.ix V0 K0) (.Ci_ "call")
def Zhp:Sx:=.s 1 (.ix V0 K1)
def ZdP:Tx:=.q (.ix V1 K0) (.Ci_ "num")
def Zfs:Sx:=.ret (.cst .non)
def Zg9:Sxs:=.o Zfs
def Zho:Sx:=.iff ZdP Zg9 .n
def Zb0:Sx:=.s 2 (.f "_law_put" (.u (.ix V1 (.neg K1)) (.ix V1 (.neg K2)) (.ix V0 K2)))
def ZdO:Tx:=.q (.ix V1 K0) (.Ci_ "rec")
def Zcu:Sx:=.s 2 (.f "_law_put" (.u V2 (.ix V1 K1) V1))
def Zg8:Sxs:=.o Zcu
def Zhn:Sx:=.iff ZdO Zg8 .n
def Zhm:Sx:=.ret V2
def ZjO:Sxs:=.y Zhp Zho Zb0 Zhn Zhm
def ZdC:Sx:=.iff Zf4 ZjO .n
def Zdy:Tx:=.nq (.ix (.ix V0 K1) K0) (.Ci_ "num")
def Zhl:Sx:=.ret (.cst .non)
def ZjN:Sxs:=.o Zhl
def Zge:Sx:=.iff Zdy ZjN .n
def Zj7:Tx:=.q (.ix V0 K0) (.Ci_ "if")
def Zhk:Sx:=.ret (.ix (.lstl (.w (.ix V0 K2) (.ix V0 K3))) (.blt .int (.o (.cmp .Eq (.ix (.ix V0 K1) K1) K0))))
def ZjM:Sxs:=.o Zhk
def Zgd:Sx:=.iff Zj7 ZjM .n
def Zf3:Tx:=.nq (.ix (.ix V0 K2) K0) (.Ci_ "num")
def Zhj:Sx:=.ret (.cst .non)
def ZjL:Sxs:=.o Zhj
def Zgc:Sx:=.iff Zf3 ZjL .n
def Zke:Sx:=.s 3 (.ix (.ix V0 K1) K1)
def Zkd:Sx:=.s 4 (.ix (.ix V0 K2) K1)
def Zgb:Sx:=.s 5 (.dictl (.c (.Ci_ "+") (.c (.bin .Add V3 V4) (.c (.Ci_ "-") (.y (.bin .Sub V3 V4) (.Ci_ "*") (.bin .Mult V3 V4) (.Ci_ "<") (.blt .int (.o (.cmp .Lt V3 V4))))))))
def Zga:Sx:=.ret (.tupl (.w (.Ci_ "num") (.bin .Mod (.ix V5 (.ix V0 K0)) (.ci 1000000))))
def ZdD:Sxs:=.c ZdC (.c Zge (.c Zgd (.y Zgc Zke Zkd Zgb Zga)))
def Zif:Fd:=fd_ 1 ["_law_told","_law_fun","_law_inner","_law_one","_law_other","_law_numbers"] ZdD
def Zhd:Tx:=.x .In (.ix V0 K0) (.tupl (.u (.Ci_ "num") (.Ci_ "fn") (.Ci_ "rec")))
def Zfq:Sx:=.ret (.tupl (.o (.Ci_ "value")))
def Zg7:Sxs:=.o Zfq
def ZdR:Sx:=.iff Zhd Zg7 .n
def ZbV:Ix:=.pl (.sl (.lstl (.w K1 K2)) M (J (.bin .Add K1 (.blt .int (.o (.cmp .NotEq (.ix V0 K0) (.Ci_ "if")))))))
def ZcI:Tx:=.x .NotIn (.ix (.ix V0 V1) K0) (.tupl (.u (.Ci_ "num") (.Ci_ "fn") (.Ci_ "rec")))
def ZbM:Sx:=.s 2 (.f "_law_stepped" (.o (.ix V0 V1)))
def Zeq:Tx:=.nq (.ix V2 K0) (.Ci_ "loud")
def Zdk:Sx:=.ret V2
def Zee:Sxs:=.o Zdk
def Zet:Sx:=.iff Zeq Zee .n
def Zes:Sx:=.ret (.tupl (.w (.Ci_ "loud") (.bin .Add (.bin .Add (.sl V0 M (J V1)) (.tupl (.o (.ix V2 K1)))) (.sl V0 (J (.bin .Add V1 K1)) M))))
def ZfO:Sxs:=.u ZbM Zet Zes
def Zf9:Sx:=.iff ZcI ZfO .n
def ZbU:Sxs:=.o Zf9
def ZbX:Sx:=.forr (.nm 1) ZbV ZbU
def ZdQ:Sx:=.s 3 (.f "_law_done" (.o V0))
def Zhc:Tx:=.x .Is V3 (.cst .non)
def Zfp:Sx:=.ret (.tupl (.o (.Ci_ "stuck")))
def Zg6:Sxs:=.o Zfp
def Zhi:Sx:=.iff Zhc Zg6 .n
def Zhh:Sx:=.ret (.tupl (.w (.Ci_ "loud") V3))
def ZaA:Sxs:=.y ZdR ZbX ZdQ Zhi Zhh
def Zfb:Fd:=fd_ 1 ["_law_told","_law_k","_law_answer","_law_behind"] ZaA
def Zkc:Sx:=.s 2 (.cst .non)
def ZdA:Sx:=.trs 2 (O "code_read") (.w V0 V1) (O "Wide")
def Zkb:Sx:=.ret V2
def ZmB:Sxs:=.u Zkc ZdA Zkb
def Zid:Fd:=fd_ 2 ["_law_code","_law_state","_law_told"] ZmB
def Zn0:Sx:=.s 1 (.f "_law_program" (.w V0 K1))
def ZnZ:Sx:=.s 2 (.f "code_of" (.o V1))
def ZnY:Sx:=.s 3 (.f "code_begun" (.o V2))
def ZnX:Sx:=.s 4 K0
def ZhC:Tx:=.x .Lt V4 (.bin .Add K1 (.bin .Mod (.f "_law_mixed" (.w (.f "_law_cell_at" (.w V0 K0)) K1)) (.ci 59)))
def Zjs:Sx:=.s 5 (.f "code_step" (.w V2 V3))
def Zo3:Tx:=.ors (.c (.q (.ix V5 K0) (.Ci_ "value")) (.one (.q (.ix V5 K0) (.Ci_ "stuck"))))
def Zki:Sx:=.ret (.cmp .Eq (.f "_law_stepped" (.o V1)) V5)
def ZoQ:Sxs:=.o Zki
def Zo6:Sx:=.iff Zo3 ZoQ .n
def Zo5:Sx:=.s 3 (.ix V5 K1)
def Zo2:Tx:=.q (.ix V5 K0) (.Ci_ "loud")
def Zkh:Sx:=.s 4 (.bin .Add V4 K1)
def Zkg:Sx:=.s 6 (.f "_law_stepped" (.o V1))
def Zkf:Sx:=.s 7 (.f "_law_read" (.w V2 V3))
def Zf6:Tx:=.ors (.c (.nq (.ix V6 K0) (.Ci_ "loud")) (.one (.ands (.c (.x .Is V7 (.cst .non)) (.one (.x .LtE (.f "_law_width" (.o (.ix V6 K1))) (.ci 120)))))))
def Zhs:Sx:=.ret (.cst (.bl Wy))
def ZjR:Sxs:=.o Zhs
def Zgi:Sx:=.iff Zf6 ZjR .n
def Zj8:Tx:=.x .Is V7 (.cst .non)
def Zhr:Sx:=.ret (.cst (.bl Wx))
def ZjQ:Sxs:=.o Zhr
def Zgh:Sx:=.iff Zj8 ZjQ .n
def Zf5:Tx:=.ors (.c (.ex (.rpn V7 (.ix V6 K1))) (.one (.x .Gt (.f "_law_width" (.o V7)) (.ci 120))))
def Zhq:Sx:=.ret (.cst (.bl Wy))
def ZjP:Sxs:=.o Zhq
def Zgg:Sx:=.iff Zf5 ZjP .n
def Zgf:Sx:=.s 1 V7
def ZoP:Sxs:=.c Zkh (.c Zkg (.y Zkf Zgi Zgh Zgg Zgf))
def ZgI:Sx:=.iff Zo2 ZoP .n
def ZjS:Sxs:=.z Zjs Zo6 Zo5 ZgI
def Zkj:Sx:=.whl ZhC ZjS
def ZnW:Sx:=.ret (.cst (.bl Wx))
def Zyb:Sxs:=.c Zn0 (.y ZnZ ZnY ZnX Zkj ZnW)
def Zk8:Fd:=fd_ 1 ["_law_script","_law_told","_law_code","_law_state","_law_loud","_law_answer","_law_due","_law_found"] Zyb
structure Lw(P:Pg):Prop where
 m:Gn.Mkr P
 d:Cr.Dec P
 cell:P.tb.lookup (O "_law_cell_at")=J Gn.Zax
 law_put:P.tb.lookup (O "_law_put")=J Zjd
 law_done:P.tb.lookup (O "_law_done")=J Zif
 law_stepped:P.tb.lookup (O "_law_stepped")=J Zfb
 law_read:P.tb.lookup (O "_law_read")=J Zid
 law:P.tb.lookup (O "law")=J Zk8
end K55L
namespace K55L
open PySem L2 IV
open Tm (sub isV next Ar)
open Gn (Cl ZcC Zlg Zdi)
section
variable {P:Pg}{h:Hd}{y:Str}{V:T}
theorem ZC:∀(t:T) {a b:Ar},(∀x,Tm.get a x=Tm.get b x)->sub a t=sub b t
 |.num _,_,_,_=>rfl
 |.name x,_,_,q=>by rw[sub,sub,q x]
 |.fn x e,a,b,q=>by rw[sub,sub,ZC e (a:=(x,M)::a) (b:=(x,M)::b) (λy=>by simp only[Tm.get,q])]
 |.rcc f x e,a,b,q=>by rw[sub,sub,ZC e (a:=(f,M)::(x,M)::a) (b:=(f,M)::(x,M)::b) (λy=>by simp only[Tm.get,q])]
 |.call f a,_,_,q=>by rw[sub,sub,ZC f q,ZC a q]
 |.iff c t e,_,_,q=>by rw[sub,sub,ZC c q,ZC t q,ZC e q]
 |.op w a b,_,_,q=>by rw[sub,sub,ZC a q,ZC b q]
def eP:Ex:=.ite (.ex (.blt .isi (.w V0 (.cst (.ty "tuple"))))) (.f "_law_put" (.u V0 V1 V2)) V0
noncomputable def vP(y:Str)(V:T):Ev:=[M,J (.str y),J V.d]
def ZxM(e:tst U c S h=.ok Wx R):ev U (.ite c a b) S h=ev U a S R:=by show qe.bind (tst U c S h) _=_;rw[e];rfl
def ZxN(e:tst U c S h=.ok Wy R):ev U (.ite c a b) S h=ev U b S R:=by show qe.bind (tst U c S h) _=_;rw[e];rfl
def Zrk(hz:ag.length<1000)(e:ev U el (S.set 0 (J d)) h=.ok x R):ZG M (.nm 0) (tsto U M) (ev U el) (d::ds) S ag h=ZG M (.nm 0) (tsto U M) (ev U el) ds S (ag++[x]) R:=by rw[ZG,if_pos ⟨rfl,Ot hz (by decide)⟩];show qe.bind (ev U el (S.set 0 (J d)) h) _=_;rw[e];rfl
def flt(d:D):Prop:=(∃s,d=.str s)\/∃z,d=.int z
theorem Zrr:∀(xs ag rest:List D),(∀d∈xs,flt d)->ag.length+xs.length<=100->ZG M (.nm 0) (tsto U M) (ev U eP) (xs++rest) (vP y V) ag h=ZG M (.nm 0) (tsto U M) (ev U eP) rest (vP y V) (ag++xs) h
 |[],ag,rest,_,_=>by rw[Ys];rfl
 |d::xs,ag,rest,hf,hz=>by
  rw[Os]at hz;have e:ev U eP [J d,J (.str y),J V.d] h=.ok d h:=by refine(ZxN ?_).trans rfl;rcases hf d Oi with⟨s,rfl⟩|⟨z,rfl⟩<;>exact Zb9 ((ZeZ (Zc rfl (Zc rfl rfl)) rfl))
  refine(Zrk (by lia) e).trans ((Zrr xs (ag++[d]) rest (λz q=>hf z (Oh _ q)) (by simp;lia)).trans ?_);rw[Oz];rfl
theorem Zrq{F:T->T}:∀(ts:List T) (ag:List D) (h:Hd),(∀t∈ts,∀h,∃g,U.C (O "_law_put") [t.d,.str y,V.d] h=.ok (F t).d (h++g))->ag.length+ts.length<=100->∃g,ZG M (.nm 0) (tsto U M) (ev U eP) (ts.map T.d) (vP y V) ag h=.ok (ag++ts.map λt=>(F t).d) (h++g)
 |[],ag,h,_,_=>⟨[],by rw[Ys h,Oy,Oy,Ys];rfl⟩
 |t::ts,ag,h,ih,hz=>by
  rw[Os]at hz;obtain⟨g,e⟩:=ih t Oi h;have e1:ev U eP [J t.d,J (.str y),J V.d] h=.ok (F t).d (h++g):=by refine(ZxM (R:=h) ?_).trans (Zv e rfl);rw[Zlg];exact Zb9 ((ZeZ (Zc rfl (Zc rfl rfl)) rfl))
  obtain⟨g2,e2⟩:=Zrq ts (ag++[(F t).d]) (h++g) (λz q=>ih z (Oh _ q)) (by simp;lia);refine⟨g++g2,(Zrk (by lia) e1).trans (e2.trans ?_)⟩;rw[Oz,Oz];rfl
noncomputable def Zhf:T->List Str
 |.fn x _=>[x]
 |.rcc f x _=>[f,x]
 |_=>[]
def ZvR(t:T):∀d∈ZcC t,flt d:=by cases t<;>simp[ZcC,flt]
def Zy6(x:Str):Tm.get [(y,J V)] x=if x=y then J V else M:=by
 unfold Tm.get;by_cases e:x=y
 . rw[if_pos e,if_pos e.symm]
 . rw[if_neg e,if_neg (λz=>e z.symm)];rfl
def Zoc(nn:∀x,t≠.name x)(hy:y ∉ Zhf t):(sub [(y,J V)] t).d=.tup (ZcC t++t.parts.map λe=>(sub [(y,J V)] e).d):=by
 cases t with
 |name x=>exact absurd rfl (nn x)
 |fn x e=>
  rw[sub,ZC e (a:=(x,M)::[(y,J V)]) (b:=[(y,J V)]) λz=>?_]
  . rfl
  . have ne:x≠y:=λq=>hy (by simp[Zhf,q]);simp only[Tm.get];by_cases e1:x=z
    . subst e1;rw[if_pos rfl,if_neg (λq=>ne q.symm)]
    . rw[if_neg e1]
 |rcc f x e=>
  rw[sub,ZC e (a:=(f,M)::(x,M)::[(y,J V)]) (b:=[(y,J V)]) λz=>?_]
  . rfl
  . have n1:x≠y:=λq=>hy (by simp[Zhf,q]);have n2:f≠y:=λq=>hy (by simp[Zhf,q]);simp only[Tm.get];by_cases e1:f=z
    . subst e1;rw[if_pos rfl,if_neg (λq=>n2 q.symm)]
    . rw[if_neg e1];by_cases e2:x=z
      . subst e2;rw[if_pos rfl,if_neg (λq=>n1 q.symm)]
      . rw[if_neg e2]
 |_=>rfl
def ZrS(hy:y∈Zhf t):sub [(y,J V)] t=t:=by
 cases t with
 |fn x e=>
  obtain rfl:y=x:=by simpa[Zhf]using hy
  rw[sub,Tm.ZbS e λz=>by simp only[Tm.get];split<;>rfl]
 |rcc f x e=>
  rw[sub,Tm.ZbS e λz=>?_];simp only[Tm.get];have q:y=f\/y=x:=by simpa[Zhf]using hy
  split
  . rfl
  . split
    . rfl
    . split
      . rename_i a b c;rcases q with rfl|rfl;exact absurd c a;exact absurd c b
      . rfl
 |_=>simp[Zhf]at hy
def ZqT{ss:List Str}(p:ev U a S h=.ok (.str x) R)(q:ev U b S R=.ok (.tup (ss.map .str)) h2):tst U (.ex (.cmp .In a b)) S h=.ok (Wz (x∈ss)) h2:=Zb9 ((Zp p q).trans ZaZ)
noncomputable def kw:T->Str
 |.num _=>O "num"
 |.name _=>O "name"
 |.fn _ _=>O "fn"
 |.rcc _ _ _=>O "rec"
 |.call _ _=>O "call"
 |.iff _ _ _=>O "if"
 |.op w _ _=>w.s
def ZaP(p:ev U e S h=.ok (T.d t) R):ev U (.ix e (.ci 0)) S h=.ok (.str (kw t)) R:=(Zm p rfl).trans (by cases t<;>rfl)
noncomputable def vt(t:T)(y:Str)(V:T):Ev:=[J t.d,J (.str y),J V.d]
theorem Zm7(H:Lw P):∀(d n:Nat) (t:T) (h:Hd),Gn.dep t<d->∃g,run P (n+d) (O "_law_put") [t.d,.str y,V.d] h=.ok (sub [(y,J V)] t).d (h++g)
 |0,_,_,_,hd=>by cases hd
 |d+1,n,t,h,hd=>by
  rw[<-Nat.add_assoc,Zg H.law_put (by rfl)];show ∃g,Ze (xs2 (P.tbl (n+d)) ZgH (vt t y V) h)=_;have t2:kw t=O "fn" \/ kw t=O "rec" -> ev (P.tbl (n+d)) (.sl (.var 0) (J (.ci 1)) (J (.neg (.ci 1)))) (vt t y V) h=.ok (.tup ((Zhf t).map .str)) h->tst (P.tbl (n+d)) ZcJ (vt t y V) h=.ok (Wz (y∈Zhf t)) h:=λq e=>Zn4 (Zh (ZqT (ss:=[O "fn",O "rec"]) (ZaP rfl) rfl) (decide_eq_true (by simpa using q))) (ZqT rfl e)
  have t3:¬(kw t=O "fn" \/ kw t=O "rec")->tst (P.tbl (n+d)) ZcJ (vt t y V) h=.ok Wy h:=λq=>ZrD (Zh (ZqT (ss:=[O "fn",O "rec"]) (ZaP rfl) rfl) (decide_eq_false (by simpa using q)))
  have fin:kw t≠O "name" -> (∀x,t≠.name x)->tst (P.tbl (n+d)) ZcJ (vt t y V) h=.ok (Wz (y∈Zhf t)) h->∃g,Ze (xs2 (P.tbl (n+d)) ZgH (vt t y V) h)=.ok (sub [(y,J V)] t).d (h++g):=by
   intro n1 nn e2;have x1:xs1 (P.tbl (n+d)) ZgZ (vt t y V) h=.ok (.nx,vt t y V) h:=(Zf (Zh (Zad (ZaP rfl) rfl) (decide_eq_false n1))).trans rfl;by_cases hy:y∈Zhf t
   . refine⟨[],?_⟩;rw[ZrS hy,Ys];exact congrArg Ze ((Za x1).trans (Zd ((Zi (Zh e2 (decide_eq_true hy))).trans (Zd rfl))))
   . have hp:t.parts.length<=3:=by cases t<;>simp[T.parts]
     have hr:(ZcC t).length<=3:=by cases t<;>simp[ZcC]
     obtain⟨g,e⟩:=Zrq (U:=P.tbl (n+d)) (y:=y) (V:=V) (F:=sub [(y,J V)]) t.parts ([]++ZcC t) h (λs hs h=>Zm7 H d n s h (by have:=Zdi hs;lia)) (by simp;lia);refine⟨g++[.lst (([]++ZcC t)++t.parts.map λe=>(sub [(y,J V)] e).d)],?_⟩;rw[Zoc nn hy,<-Oz];have ei:evi (P.tbl (n+d)) (.pl (.var 0)) (vt t y V) h=.ok ⟨M,ZcC t++t.parts.map T.d⟩ h:=Zms (by rw[<-Zlg];rfl);exact congrArg Ze ((Za x1).trans ((Za ((Zf (Zh e2 (decide_eq_false hy))).trans rfl)).trans (Zd (Zu (ZeZ (Zc (Zlc ei ((Zrr (ZcC t) [] _ (ZvR t) (by simp;lia)).trans e)) rfl) (Zpx ZaU))))))
  cases t with
  |name x=>
   refine⟨[.lst [(T.name x).d,V.d]],?_⟩;rw[sub,Zy6];have q:ev (P.tbl (n+d)) (.cmp .Eq (.ix (.var 0) (.ci 1)) (.var 1)) (vt (.name x) y V) (h++[.lst [(T.name x).d,V.d]])=.ok (.bl (Wz (x=y))) (h++[.lst [(T.name x).d,V.d]]):=(Zp rfl rfl).trans (by rw[Zea,Zck];rfl);refine congrArg Ze (Zd ((Zi (Zh (Zad (ZaP rfl) rfl) rfl)).trans (Zd (Zu (Zit (z:=if x=y then 1 else 0) ?_ (Zc rfl (Zc rfl rfl)) (ZeZ (Zc q rfl) ?_) (show 2<=1000 by decide))))))
   . by_cases e:x=y<;>simp[e]
   . by_cases e:x=y<;>simp[e]<;>rfl
  |fn x e=>exact fin (by simp[kw]) nofun (t2 (.inl rfl) rfl)
  |rcc f x e=>exact fin (by simp[kw]) nofun (t2 (.inr rfl) rfl)
  |op w a b=>exact fin (by cases w<;>simp[kw,Wd.s]) nofun (t3 (by cases w<;>simp[kw,Wd.s]))
  |_=>exact fin (by simp[kw]) nofun (t3 (by simp[kw]))
end
end K55L
namespace K55L
open PySem L2 IV
open Tm (sub isV next bec oT)
open Gn (Cl dep)
section
variable {P:Pg}{h:Hd}
def ZoL(p:ev U a S h=.ok (.str x) R)(q:ev U b S R=.ok (.str y) h2):tst U (.ex (.cmp .NotEq a b)) S h=.ok (!Wz (x=y)) h2:=Zb9 ((Zp p q).trans (by rw[Zl5,Zck];rfl))
noncomputable def vd(t:T)(a b c d e:Option D):Ev:=[J t.d,a,b,c,d,e]
def vz(t:T):Ev:=vd t M M M M M
def vo(w:Wd)(x y:Int)(o:Option D):Ev:=vd (.op w (.num x) (.num y)) M M (J (.int x)) (J (.int y)) o
def vc(F A:T)(o:Option D):Ev:=vd (.call F A) (J F.d) o M M M
def Zcy{f x:Str}(ne:f≠x){F A:T}(c:Cl [] A):sub [(f,J F)] (sub [(x,J A)] e)=sub [(f,J F),(x,J A)] e:=by
 refine Rw.ZaD e λy=>?_;simp only[Tm.get];by_cases q:f=y
 . subst q;rw[if_neg (YL ne)];exact .inr ⟨rfl,rfl⟩
 . rw[if_neg q,if_neg q];by_cases q2:x=y
   . rw[if_pos q2];exact .inl ⟨A,rfl,rfl,c⟩
   . rw[if_neg q2];exact .inr ⟨rfl,rfl⟩
theorem Zv6 (H:Lw P) (n m:Nat) {F A:T} (vf:isV F=Wx) (c:Cl [] (.call F A)) (hm:2*dep (.call F A)<=m) (h:Hd):∃ g,run P (n+m+1) (O "_law_done") [(T.call F A).d] h=.ok (oT (bec (.call F A))) (h++g):=by
 rw [Zg H.law_done (by rfl)];show ∃ g,Ze (xs2 (P.tbl (n+m)) ZdD (vz (.call F A)) h)=_;have hd:dep (.call F A)=max (dep F) (dep A)+1:=rfl;have t1:∀ h,tst (P.tbl (n+m)) Zf4 (vz (.call F A)) h=.ok Wx h:=λh=>Zh (Zad (ZaP rfl) rfl) rfl;have t2:∀ h,tst (P.tbl (n+m)) ZdP (vc F A M) h=.ok (Wz (kw F=O "num")) h:=λh=>Zad (ZaP rfl) rfl;have t4:∀ o h,tst (P.tbl (n+m)) ZdO (vc F A (J o)) h=.ok (Wz (kw F=O "rec")) h:=λo h=>Zad (ZaP rfl) rfl;cases F with
 |num z=>exact⟨[],by rw [Ys];exact congrArg Ze (Zd ((Zi (t1 h)).trans ((Za rfl).trans (Zd ((Zi (t2 h)).trans (Zd rfl))))))⟩
 |fn x e =>
   have hf:dep (.fn x e)=dep e+1:=rfl;obtain⟨g,e1⟩:=Zm7 (y:=x) (V:=A) H m n e h (by lia);have x3:xs1 (P.tbl (n+m)) Zb0 (vc (.fn x e) A M) h=.ok (.nx,vc (.fn x e) A (J (sub [(x,J A)] e).d)) (h++g):=Zl (Zv e1 rfl);exact⟨g,congrArg Ze (Zd ((Zi (t1 h)).trans ((Za rfl).trans ((Za ((Zf (t2 h)).trans rfl)).trans ((Za x3).trans ((Za ((Zf (t4 _ _)).trans rfl)).trans (Zd rfl)))))))⟩
 |rcc f x e =>
   have hf:dep (.rcc f x e)=dep e+1:=rfl;obtain⟨g,e1⟩:=Zm7 (y:=x) (V:=A) H m n e h (by lia);have ds:=Tm.ZaG (qd:=dep A) e [(x,J A)] (λy V q=>by
     rw [Tm.get] at q;split at q
     . cases q;exact Oq _
     . cases q)
   obtain⟨g2,e2⟩:=Zm7 (y:=f) (V:=.rcc f x e) H m n (sub [(x,J A)] e) (h++g) (by lia);rw [Zcy c.1.2.1 c.2] at e2;have x3:xs1 (P.tbl (n+m)) Zb0 (vc (.rcc f x e) A M) h=.ok (.nx,vc (.rcc f x e) A (J (sub [(x,J A)] e).d)) (h++g):=Zl (Zv e1 rfl);have x4:xs1 (P.tbl (n+m)) Zcu (vc (.rcc f x e) A (J (sub [(x,J A)] e).d)) (h++g)=.ok (.nx,vc (.rcc f x e) A (J (sub [(f,J (.rcc f x e)),(x,J A)] e).d)) (h++g++g2):=Zl (Zv e2 rfl);refine⟨g++g2,?_⟩;show _=qe.ok (sub (Tm.Fil.ar (Tm.Zeh f (.rcc f x e) x A)) e).d _;rw [Tm.Zeh,if_neg c.1.2.1,<-Oz];exact congrArg Ze (Zd ((Zi (t1 h)).trans ((Za rfl).trans ((Za ((Zf (t2 h)).trans rfl)).trans ((Za x3).trans ((Za ((Zi (t4 _ _)).trans ((Za x4).trans rfl))).trans (Zd rfl)))))))
 |_=>cases vf
def Zmi:kw t=O "num" ↔ ∃z,t=.num z:=by
 cases t with
 |num z=>exact⟨λ_=>⟨z,rfl⟩,λ_=>rfl⟩
 |op w a b=>cases w<;>simp[kw,Wd.s]
 |_=>simp[kw]
def Zv5(H:Lw P)(n:Nat){p a b:T}(h:Hd):∃g,run P (n+1) (O "_law_done") [(T.iff p a b).d] h=.ok (oT (bec (.iff p a b))) (h++g):=by
 rw[Zg H.law_done (by rfl)];show ∃g,Ze (xs2 (P.tbl n) ZdD (vz (.iff p a b)) h)=_;have x1:xs1 (P.tbl n) ZdC (vz (.iff p a b)) h=.ok (.nx,vz (.iff p a b)) h:=(Zf (Zh (Zad (ZaP rfl) rfl) rfl)).trans rfl;have t2:tst (P.tbl n) Zdy (vz (.iff p a b)) h=.ok (!Wz (kw p=O "num")) h:=ZoL (ZaP rfl) rfl;by_cases q:kw p=O "num"
 . obtain⟨z,rfl⟩:=Zmi.mp q;refine⟨[.lst [a.d,b.d]],?_⟩;have e:ev (P.tbl n) (.cmp .Eq (.ix (.ix (.var 0) (.ci 1)) (.ci 1)) (.ci 0)) (vz (.iff (.num z) a b)) (h++[.lst [a.d,b.d]])=.ok (.bl (Wz (z=0))) (h++[.lst [a.d,b.d]]):=(Zp rfl rfl).trans (by rw[Zea,ZhV];rfl);refine congrArg Ze ((Za x1).trans ((Za ((Zf t2).trans rfl)).trans (Zd ((Zi (Zh (Zad (ZaP rfl) rfl) rfl)).trans (Zd (Zu (Zit (z:=if z=0 then 1 else 0) ?_ (Zc rfl (Zc rfl rfl)) (ZeZ (Zc e rfl) ?_) (show 2<=1000 by decide))))))))
   . show _=J (T.d (if z=0 then b else a));by_cases e:z=0<;>simp[e]
   . by_cases e:z=0<;>simp[e]<;>rfl
 . refine⟨[],?_⟩;have:bec (.iff p a b)=M:=by
    cases p with
    |num z=>exact absurd rfl q
    |_=>rfl
   rw[this,Ys];exact congrArg Ze ((Za x1).trans (Zd ((Zi (Zh t2 (by rw[decide_eq_false q];rfl))).trans (Zd rfl))))
noncomputable def dcs(x y:Int):DO:=.dic [(.inr (O "+"),.int (x+y)),(.inr (O "-"),.int (x-y)),(.inr (O "*"),.int (x*y)),(.inr (O "<"),.int (if x<y then 1 else 0))]
noncomputable def wv(x y:Int):Wd->Int
 |.add=>x+y
 |.sub=>x-y
 |.mul=>x*y
 |.lt=>if x<y then 1 else 0
def Zv4(H:Lw P)(n:Nat){a b:T}(ca:Cl [] a)(cb:Cl [] b)(h:Hd):∃g,run P (n+1) (O "_law_done") [(T.op w a b).d] h=.ok (oT (bec (.op w a b))) (h++g):=by
 rw[Zg H.law_done (by rfl)];show ∃g,Ze (xs2 (P.tbl n) ZdD (vz (.op w a b)) h)=_;have kc:kw (.op w a b)≠O "call" := show w.s≠_ by cases w<;>decide
 have ki:kw (.op w a b)≠O "if" := show w.s≠_ by cases w<;>decide
 have x1:xs1 (P.tbl n) ZdC (vz (.op w a b)) h=.ok (.nx,vz (.op w a b)) h:=(Zf (Zh (Zad (ZaP rfl) rfl) (decide_eq_false kc))).trans rfl;have x3:xs1 (P.tbl n) Zgd (vz (.op w a b)) h=.ok (.nx,vz (.op w a b)) h:=(Zf (Zh (Zad (ZaP rfl) rfl) (decide_eq_false ki))).trans rfl;have t2:tst (P.tbl n) Zdy (vz (.op w a b)) h=.ok (!Wz (kw a=O "num")) h:=ZoL (ZaP rfl) rfl;have t4:tst (P.tbl n) Zf3 (vz (.op w a b)) h=.ok (!Wz (kw b=O "num")) h:=ZoL (ZaP rfl) rfl;by_cases q:kw a=O "num"
 . have x2:xs1 (P.tbl n) Zge (vz (.op w a b)) h=.ok (.nx,vz (.op w a b)) h:=(Zf (Zh t2 (by rw[decide_eq_true q];rfl))).trans rfl;obtain⟨x,rfl⟩:=Zmi.mp q;by_cases q:kw b=O "num"
   . have x4:xs1 (P.tbl n) Zgc (vz (.op w (.num x) b)) h=.ok (.nx,vz (.op w (.num x) b)) h:=(Zf (Zh t4 (by rw[decide_eq_true q];rfl))).trans rfl;obtain⟨y,rfl⟩:=Zmi.mp q;obtain⟨a1,a2⟩:=ca;obtain⟨b1,b2⟩:=cb;have m2:∀h,opB .Mult (.int x) (.int y) h=.ok (.int (x*y)) h:=λh=>ZeO ⟨Gn.ZL (by lia) (by lia),Gn.ZL (by lia) (by lia)⟩;have el:∀S h,ev (P.tbl n) (.blt .int (.cons (.cmp .Lt (.var 3) (.var 4)) .nil)) (vo w x y S) h=.ok (.int (if x<y then 1 else 0)) h:=λS h=>by refine ZeZ (xs:=[.bl (Wz (x<y))]) (R:=h) rfl ?_;by_cases e:x<y<;>simp[e]<;>rfl
     have x7:xs1 (P.tbl n) Zgb (vo w x y M) h=.ok (.nx,vo w x y (J (.ref h.length))) (h++[dcs x y]):=by refine Zl ?_;rw[Zq5,Zc rfl (Zc rfl (Zc rfl (Zc rfl (Zc rfl (Zc ((Zj rfl rfl).trans (m2 _)) (Zc rfl (Zc (el M _) rfl)))))))];rfl
     have x8:xs1 (P.tbl n) Zga (vo w x y (J (.ref h.length))) (h++[dcs x y])=.ok (.rt (T.num (Rw.wk w x y)).d,vo w x y (J (.ref h.length))) (h++[dcs x y]):=by
      have ei:ev (P.tbl n) (.ix (.var 5) (.ix (.var 0) (.ci 0))) (vo w x y (J (.ref h.length))) (h++[dcs x y])=.ok (.int (wv x y w)) (h++[dcs x y]):=by refine(Zm rfl (ZaP rfl)).trans ?_;cases w<;>simp[kw,Wd.s,Zbq,dicOf,Zbp,dcs,wv]
      refine Zu ((Zan (xs:=[_,_]) (Zc rfl (Zc ((Zj ei rfl).trans (ZM (by decide))) rfl)) (show 2<=1000 by decide)).trans ?_);cases w with
      |lt=>by_cases e:x<y<;>simp[Rw.wk,wv,e]<;>rfl
      |_=>rfl
     exact⟨_,congrArg Ze ((Za x1).trans ((Za x2).trans ((Za x3).trans ((Za x4).trans ((Za rfl).trans ((Za rfl).trans ((Za x7).trans (Zd x8))))))))⟩
   . refine⟨[],?_⟩;have:bec (.op w (.num x) b)=M:=by
      cases b with
      |num z=>exact absurd rfl q
      |_=>rfl
     rw[this,Ys];exact congrArg Ze ((Za x1).trans ((Za x2).trans ((Za x3).trans (Zd ((Zi (Zh t4 (by rw[decide_eq_false q];rfl))).trans (Zd rfl))))))
 . refine⟨[],?_⟩;have:bec (.op w a b)=M:=by
    cases a with
    |num z=>exact absurd rfl q
    |_=>rfl
   rw[this,Ys];exact congrArg Ze ((Za x1).trans (Zd ((Zi (Zh t2 (by rw[decide_eq_false q];rfl))).trans (Zd rfl))))
end
end K55L
namespace K55L
open PySem L2 IV
open Tm (sub isV next bec oT Zbk)
open Gn (Cl dep)
section
variable {P:Pg}{h:Hd}
noncomputable def stu:D:=.tup [.str (O "stuck")]
noncomputable def lou(t:T):D:=.tup [.str (O "loud"),t.d]
def sto:Option T->D
 |none=>stu
 |some u=>lou u
def stp(t:T):D:=if isV t then .tup [.str (O "value")]else sto (next t)
def eS:Ex:=.bin .Add (.bin .Add (.sl V0 M (J V1)) (.tupl (.o (.ix V2 K1)))) (.sl V0 (J (.bin .Add V1 K1)) M)
noncomputable def vls:List Str:=[O "num",O "fn",O "rec"]
def ZsY:Wz (kw t∈vls)=isV t:=by
 cases t with
 |op w a b=>cases w<;>rfl
 |_=>rfl
def ZtX{ss:List Str}(p:ev U a S h=.ok (.str x) R)(q:ev U b S R=.ok (.tup (ss.map .str)) h2):tst U (.ex (.cmp .NotIn a b)) S h=.ok (!Wz (x∈ss)) h2:=Zb9 ((Zp p q).trans Zg4)
noncomputable def vs(t:T)(a b c:Option D):Ev:=[J t.d,a,b,c]
def ZnV(ek:ev U (.ix (.var 0) (.var 1)) (vs t (J (.int k)) o2 o3) h=.ok (T.d s) h)(v:isV s=Wx):xs2 U ZbU (vs t (J (.int k)) o2 o3) h=.ok (.nx,vs t (J (.int k)) o2 o3) h:=(Za ((Zf (Zh (ZtX (ss:=vls) (ZaP ek) rfl) (by rw[ZsY,v];rfl))).trans rfl)).trans rfl
def Zru{G:T->T}(ek:ev U (.ix (.var 0) (.var 1)) (vs t (J (.int k)) o2 o3) h=.ok (T.d s) h)(v:isV s=Wy)(e:U.C (O "_law_stepped") [s.d] h=.ok (stp s) R)
 (sl:∀u,ev U eS (vs t (J (.int k)) (J (lou u)) o3) R=.ok (G u).d R):∃S,xs2 U ZbU (vs t (J (.int k)) o2 o3) h=.ok (.rt (sto ((next s).map G)),S) R:=by
 rw[stp,v,if_neg Ow]at e;have t1:tst U ZcI (vs t (J (.int k)) o2 o3) h=.ok Wx h:=Zh (ZtX (ss:=vls) (ZaP ek) rfl) (by rw[ZsY,v];rfl);have x1:xs1 U ZbM (vs t (J (.int k)) o2 o3) h=.ok (.nx,vs t (J (.int k)) (J (sto (next s))) o3) R:=Zl (Zv e (Zc ek rfl));cases q:next s with
 |none=>rw[q]at x1;exact⟨_,Zd ((Zi t1).trans ((Za x1).trans (Zd ((Zi (Zh (ZoL (x:=O "stuck") rfl rfl) rfl)).trans (Zd rfl)))))⟩
 |some u=>rw[q]at x1;exact⟨_,Zd ((Zi t1).trans ((Za x1).trans ((Za ((Zf (Zh (ZoL (x:=O "loud") rfl rfl) rfl)).trans rfl)).trans (Zd (Zu (Zan (xs:=[_,_]) (Zc rfl (Zc (sl u) rfl)) (show 2<=1000 by decide)))))))⟩
noncomputable def ks(b:Bool):List D:=if b then [.int 1]else [.int 1,.int 2]
def walk(U:Tb)(e:Wz (kw t=O "if")=b)(h:Hd):∃j g,evi U ZbV (vs t M M M) h=.ok ⟨J (j,ks b),ks b⟩ (h++g)/\(h++g)[j]?=J (.lst (ks b)):=by
 have en:ev U (.cmp .NotEq (.ix (.var 0) (.ci 0)) (.Ci_ "if")) (vs t M M M) (h++[.lst [.int 1,.int 2]])=.ok (.bl (!b)) (h++[.lst [.int 1,.int 2]]):=(Zp (ZaP rfl) rfl).trans (by rw[Zl5,Zck,<-e];rfl);have es:ev U (.sl (.lstl (.cons (.ci 1) (.cons (.ci 2) .nil))) M (J (.bin .Add (.ci 1) (.blt .int (.cons (.cmp .NotEq (.ix (.var 0) (.ci 0)) (.Ci_ "if")) .nil))))) (vs t M M M) h=.ok (.ref (h++[DO.lst [.int 1,.int 2]]).length) (h++[.lst [.int 1,.int 2]]++[.lst (ks b)]):=by have e1:ev U (.bin .Add (.ci 1) (.blt .int (.cons (.cmp .NotEq (.ix (.var 0) (.ci 0)) (.Ci_ "if")) .nil))) (vs t M M M) (h++[.lst [.int 1,.int 2]])=.ok (.int (if b then 1 else 2)) (h++[.lst [.int 1,.int 2]]):=(Zj rfl (ZeZ (Zc en rfl) (show _=qe.ok (.int (if b then 0 else 1)) _ by cases b<;>rfl))).trans (by cases b<;>rfl);rw[Zlb,Zij (xs:=[.int 1,.int 2]) (Zc rfl (Zc rfl rfl)) (show 2<=1000 by decide),Zq];show qe.bnd (evo U (J _) _ _) _=_;rw[evo,e1];show ZfK (.ref h.length) M (J (if b then 1 else 2)) _=_;unfold ZfK;simp only[lstOf,ZaU];cases b<;>rfl
 refine⟨_,[.lst [.int 1,.int 2]]++[.lst (ks b)],?_,Oz ..▸ZaU⟩;rw[ZbV,Zmu,es,Zq,<-Oz];simp only[ZaV,ZaU];rfl
def st1(v:isV t=Wy):xs1 U ZdR (vs t M M M) h=.ok (.nx,vs t M M M) h:=(Zf (Zh (ZqT (ss:=vls) (ZaP rfl) rfl) (ZsY.trans v))).trans rfl
def Zt4(e:xs1 U ZbX (vs t M M M) h=.ok (.nx,vs t (J k) M M) R)(v:isV t=Wy)(d:U.C (O "_law_done") [t.d] R=.ok (oT (bec t)) h2):Ze (xs2 U ZaA (vs t M M M) h)=.ok (sto (bec t)) h2:=by
 have x3:xs1 U ZdQ (vs t (J k) M M) R=.ok (.nx,vs t (J k) M (J (oT (bec t)))) h2:=Zl (Zv d rfl);cases q:bec t with
 |none=>rw[q]at x3;exact congrArg Ze ((Za (st1 v)).trans ((Za e).trans ((Za x3).trans (Zd ((Zi (ZqR rfl)).trans (Zd rfl))))))
 |some u=>rw[q]at x3;exact congrArg Ze ((Za (st1 v)).trans ((Za e).trans ((Za x3).trans ((Za ((Zf (ZqS (x:=u.d) rfl (by cases u<;>nofun))).trans rfl)).trans (Zd rfl)))))
def Zpn{S:Ev}(e:xs1 U ZbX (vs t M M M) h=.ok (.rt d,S) R)(v:isV t=Wy):Ze (xs2 U ZaA (vs t M M M) h)=.ok d R:=by exact congrArg Ze ((Za (st1 v)).trans (Zd e))
def Zmo(e:h[j]?=J (.lst L))(b:ZbL g d S=J ρ1)(q:body ρ1 h=.ok (.rt x,ρ2) h2):ZQ (J (j,L)) g body (d::ds) S h=.ok (.rt x,ρ2) h2:=by rw[ZQ,if_pos (show Wk.stays (J (j,L)) h=Wx by simp[Wk.stays,e]),b];simp only;rw[q];rfl
def ZhX{v:Option T}(p:List (T×Nat)):v.map (Tm.ZaJ ((t,k)::p))=(v.map (Tm.ZaJ p)).map (Zbk t k):=by cases v<;>rfl
def two(H:Lw P)(n m:Nat){t f a:T}(vt:isV t=Wy)(nk:kw t≠O "if")(k1:∀o h,ev (P.tbl (n+m+1)) (.ix (.var 0) (.var 1)) (vs t (J (.int 1)) o M) h=.ok f.d h)(k2:∀o h,ev (P.tbl (n+m+1)) (.ix (.var 0) (.var 1)) (vs t (J (.int 2)) o M) h=.ok a.d h)
 (s1:∀u h,ev (P.tbl (n+m+1)) eS (vs t (J (.int 1)) (J (lou u)) M) h=.ok (Zbk t 1 u).d h)
 (s2:∀u h,ev (P.tbl (n+m+1)) eS (vs t (J (.int 2)) (J (lou u)) M) h=.ok (Zbk t 2 u).d h)
 (p1:Tm.pth t=if isV f then(if isV a then []else(t,2)::Tm.pth a)else(t,1)::Tm.pth f) (b1:Tm.bot t=if isV f then(if isV a then t else Tm.bot a)else Tm.bot f)
 (r1:∀h,∃g,run P (n+m+1) (O "_law_stepped") [f.d] h=.ok (stp f) (h++g)) (r2:∀h,∃g,run P (n+m+1) (O "_law_stepped") [a.d] h=.ok (stp a) (h++g))
 (dn:isV f=Wx->∀h,∃g,run P (n+m+1) (O "_law_done") [t.d] h=.ok (oT (bec t)) (h++g)) (h:Hd):∃g,run P (n+m+2) (O "_law_stepped") [t.d] h=.ok (stp t) (h++g):=by
 rw[Zg H.law_stepped (by rfl)];show ∃g,Ze (xs2 (P.tbl (n+m+1)) ZaA (vs t M M M) h)=_;obtain⟨j,g0,ei,hk⟩:=walk (P.tbl (n+m+1)) (t:=t) (decide_eq_false nk) h;have es:stp t=sto (next t):=by rw[stp,vt];rfl
 rw[es,next,p1,b1];cases vf:isV f with
 |false=>obtain⟨g,e⟩:=r1 (h++g0);obtain⟨S,w⟩:=Zru (G:=Zbk t 1) (k1 M _) vf e (λu=>s1 u _);refine⟨g0++g,?_⟩;rw[<-Oz];refine(Zpn ((Zdv ei).trans (Zmo hk rfl w)) vt).trans ?_;rw[if_neg Ow,if_neg Ow,ZhX];rfl
 |true=>
  rw[if_pos rfl,if_pos rfl];cases va:isV a with
  |false=>obtain⟨g,e⟩:=r2 (h++g0);obtain⟨S,w⟩:=Zru (G:=Zbk t 2) (k2 M _) va e (λu=>s2 u _);refine⟨g0++g,?_⟩;rw[<-Oz];refine(Zpn ((Zdv ei).trans ((Tm.Zdd hk rfl (ZnV (k1 M _) vf)).trans (Zmo hk rfl w))) vt).trans ?_;rw[if_neg Ow,if_neg Ow,ZhX];rfl
  |true=>obtain⟨g,e⟩:=dn vf (h++g0);refine⟨g0++g,?_⟩;rw[<-Oz];refine(Zt4 ((Zdv ei).trans ((Tm.Zdd hk rfl (ZnV (k1 M _) vf)).trans ((Tm.Zdd hk rfl (ZnV (k2 M _) va)).trans (Tm.Zeg hk)))) vt e).trans ?_;rw[if_pos rfl,if_pos rfl];cases bec t<;>rfl
theorem Zch(H:Lw P):∀(d n:Nat) (t:T) (h:Hd),Cl [] t->2*dep t+2<=d->∃g,run P (n+d) (O "_law_stepped") [t.d] h=.ok (stp t) (h++g)
 |0,_,_,_,_,hd=>by cases hd
 |1,_,_,_,_,hd=>by lia
 |m+2,n,t,h,c,hd=>by
  have val:isV t=Wx->∃g,run P (n+(m+2)) (O "_law_stepped") [t.d] h=.ok (stp t) (h++g):=λv=>by refine⟨[],?_⟩;rw[Ys,stp,v,<-Nat.add_assoc,Zg H.law_stepped (by rfl)];exact congrArg Ze (Zd (S:=vs t M M M) ((Zi (Zh (ZqT (ss:=vls) (ZaP rfl) rfl) (ZsY.trans v))).trans (Zd rfl)))
  cases t with
  |num z=>exact val rfl
  |fn x e=>exact val rfl
  |rcc f x e=>exact val rfl
  |name x=>cases c
  |call f a=>have hp:dep (.call f a)=max (dep f) (dep a)+1:=rfl;exact two H n m rfl (by simp[kw]) (λ_ _=>rfl) (λ_ _=>rfl) (λ_ _=>rfl) (λ_ _=>rfl) rfl rfl (λh=>Zch H (m+1) n f h c.1 (by lia)) (λh=>Zch H (m+1) n a h c.2 (by lia)) (λv h=>Zv6 H n m v c (by lia) h) h
  |op w f a=>have hp:dep (.op w f a)=max (dep f) (dep a)+1:=rfl;exact two H n m rfl (by cases w<;>simp[kw,Wd.s]) (λ_ _=>rfl) (λ_ _=>rfl) (λ_ _=>rfl) (λ_ _=>rfl) rfl rfl (λh=>Zch H (m+1) n f h c.1 (by lia)) (λh=>Zch H (m+1) n a h c.2 (by lia)) (λ_ h=>Zv4 H (n+m) c.1 c.2 h) h
  |iff p a b=>
   have hp:dep (.iff p a b)=max (dep p) (max (dep a) (dep b))+1:=rfl;rw[<-Nat.add_assoc,Zg H.law_stepped (by rfl)];show ∃g,Ze (xs2 (P.tbl (n+m+1)) ZaA (vs (.iff p a b) M M M) h)=.ok (sto (next (.iff p a b))) _;obtain⟨j,g0,ei,hk⟩:=walk (P.tbl (n+m+1)) (t:=.iff p a b) rfl h;rw[next,Tm.pth,Tm.bot];cases vp:isV p with
   |false=>obtain⟨g,e⟩:=Zch H (m+1) n p (h++g0) c.1 (by lia);obtain⟨S,w⟩:=Zru (U:=P.tbl (n+m+1)) (t:=.iff p a b) (k:=1) (o2:=M) (o3:=M) (G:=Zbk (.iff p a b) 1) rfl vp e (λu=>rfl);refine⟨g0++g,?_⟩;rw[<-Oz];refine(Zpn ((Zdv ei).trans (Zmo hk rfl w)) rfl).trans ?_;rw[if_neg Ow,if_neg Ow,ZhX];rfl
   |true=>obtain⟨g,e⟩:=Zv5 H (n+m) (p:=p) (a:=a) (b:=b) (h++g0);refine⟨g0++g,?_⟩;rw[<-Oz];refine(Zt4 ((Zdv ei).trans ((Tm.Zdd hk rfl (ZnV rfl vp)).trans (Tm.Zeg hk))) rfl e).trans ?_;rw[if_pos rfl,if_pos rfl];cases bec (.iff p a b)<;>rfl
end
end K55L
namespace Cs
open PySem IV Gn
open Rw (Sta StN read wts)
open Ce (Cd Ma Stp)
section
variable {C:List Ce.Rw}
noncomputable def left(C:List Ce.Rw)(s:Ma):Nat:=(C.length-s.p)+(s.pl.map λf=>C.length-f.1).sum
def Zrm(c:Cd C sc l p t p'):C[p]?≠J (.jmp q):=by
 induction c with
 |num hc=>rw[hc];nofun
 |name hc _=>rw[hc];nofun
 |fn hc _ _ _=>rw[hc];nofun
 |rcc hc _ _ _=>rw[hc];nofun
 |call _ _ _ ih _=>exact ih
 |op _ _ _ ih _=>exact ih
 |iff _ _ _ _ _ ih _ _=>exact ih
def Zv8(k:Cx C b sc ar p S_ ws)(hc:C[p]?=J (.jmp ((q:Nat):Int))):p<q:=by
 cases k with
 |fin h=>rw[h]at hc;cases hc
 |back h=>rw[h]at hc;cases hc
 |jmp h hq _=>rw[h]at hc;injection hc with hc;injection hc with hc;lia
 |app h hr _ _=>rw[h]at hc;rcases hr with⟨rfl,_⟩|⟨rfl,_⟩<;>cases hc
 |arg c _ _ _=>exact absurd hc (Zrm c)
 |work h _ _=>rw[h]at hc;cases hc
 |right c _ _=>exact absurd hc (Zrm c)
 |cho h _ _ _ _ _=>rw[h]at hc;cases hc
def ZuC(r:Rc C s Z)(hc:C[s.p]?=J (.jmp ((q:Nat):Int))):s.p<q:=by
 cases r with
 |go r c hl k x=>exact absurd hc (Zrm c)
 |back r v k x=>exact Zv8 k hc
def ZsW(r:Rc C s Z)(e:Stp C s Wy s'):left C s'<left C s:=by
 have lt:∀{p:Nat}{r:Ce.Rw},C[p]?=J r->p<C.length:=λe=>(Ob.mp e).1;cases e with
 |push hc _ _=>have:=lt hc;simp only[left];lia
 |jmp hc=>have:=lt hc;have:=ZuC r hc;simp only[left]at *;lia
 |back hc=>have:=lt hc;simp only[left,Op,OI];lia
def ZsX(e:Stp C s ld s'):left C s'<=left C s+C.length:=by
 have lt:∀{p:Nat}{r:Ce.Rw},C[p]?=J r->p<C.length:=λe=>(Ob.mp e).1;cases e with
 |call hc _ _=>have:=lt hc;simp only[left,Op,OI];lia
 |back hc=>simp only[left,Op,OI];lia
 |_=>simp only[left];lia
end
end Cs
namespace K55L
open PySem L2 IV
open Rw (Sta StN read wts)
open Cs (Ci Sp Sc left)
open Ce (Ma keep)
open Tm (isV next)
open Gn (Cl)
section
variable {P:Pg}{h:Hd}{C:List Ce.Rw}{N k:Nat}
def rdo(t:T):D:=if t.size<=120 then t.d else .non
def Zr3(H:Lw P)(n:Nat)(hN:N<=5000)(d:Ci C N s Z)(hG:C.length<=500)(hp:s.pl.length<=500)(hk:h[k]?=J (.lst (C.map Ce.Rw.d))):∃g,run P (n+8) (O "_law_read") [.ref k,s.d] h=.ok (rdo (read Z)) (h++g):=by
 have q:=Cr.ZuF H.d n (by lia) d.r d.on hG hp h hk;rw[Zg H.law_read (by rfl)];generalize hr:run P (n+7) (O "code_read") [.ref k,s.d] h=r at q;cases q with
 |@ok g le=>have x2:xs1 (P.tbl (n+7)) ZdA [J (.ref k),J s.d,J .non] h=.ok (.nx,[J (.ref k),J s.d,J (read Z).d]) (h++g):=Zun rfl hr;exact⟨g,by rw[rdo,if_pos le];exact congrArg Ze ((Za rfl).trans ((Za x2).trans (Zd rfl)))⟩
 |@ex g lt=>have x2:xs1 (P.tbl (n+7)) ZdA [J (.ref k),J s.d,J .non] h=.ok (.nx,[J (.ref k),J s.d,J .non]) (h++g):=Zwz rfl hr;exact⟨g,by rw[rdo,if_neg (by lia)];exact congrArg Ze ((Za rfl).trans ((Za x2).trans (Zd rfl)))⟩
noncomputable def vl(ro td:D)(k:Nat)(sd:D)(l:Nat)(a b c:Option D):Ev:=[J ro,J td,J (.ref k),J sd,J (.int (l:Int)),a,b,c]
def Zxd(d:Ci C N s Z)(hz:(read Z).size<=120):s.pl.length<=120:=by
 have:=d.r.lens;have:=Cs.Zph Z
 lia
def vu(ro td:D)(k:Nat)(s:Ma)(l:Nat)(u:T)(o:D):Ev:=vl ro td k s.d (l+1) (J (Ce.Ans.loud s).d) (J (lou u)) (J o)
def good(f:Fl):Prop:=f=.nx\/f=.rt (.bl Wx)
def Zy3(p:ev U a S h=.ok (.int x) R)(q:ev U b S R=.ok (.int y) h2):tst U (.ex (.cmp .LtE a b)) S h=.ok (Wz (x<=y)) h2:=Zb9 (Zp p q)
def Zq8:opC GD .Eq (.tup [.str w]) (.tup [.str w]) h=.ok (.bl Wx) h:=(Zea (x:=.tup [.str w])).trans (ZoI (n:=false) (d:=.tup [.str w]) rfl (by simp[D.dp,D.dps]))
section
variable {ro:D}{qd:Nat}
theorem ZqL(H:Lw P)(n:Nat)(hN:N<=5000)(hG:C.length<=500)(ht:∀ td sd l a b c h,tst (P.tbl (n+250)) ZhC (vl ro td k sd l a b c) h=.ok (Wz (l<qd)) h):∀ (m:Nat) (s:Ma) (Z:Sta) (t:T) (l:Nat) (h:Hd) (a b c:Option D),read Z=t->left C s+(qd-l)*(C.length+1)<m->Ci C N s Z->t.size<=120->Cl [] t->h[k]?=J (.lst (C.map Ce.Rw.d)) ->
   ∃ f S g,Z4 (tst (P.tbl (n+250)) ZhC) (xs2 (P.tbl (n+250)) ZjS) m (vl ro t.d k s.d l a b c) h=.ok (f,S) (h++g)/\good f
 |0,_,_,_,_,_,_,_,_,_,hl,_,_,_,_=>by cases hl
 |m+1,s,Z,t,l,h,a,b,c,rt,hl,d,hz,ct,hk=>by
   by_cases lm:l<qd
   . have hw:=Cs.Zph Z;have hp:=Zxd d (rt▸hz);obtain⟨an,sc⟩:=Cs.sim d.r (by rw [rt] at hw;lia) hN d.ok d.on;have sp:=sc.sp d;rw [rt] at sp;obtain⟨g1,e3⟩:=Zch H 240 (n+10) t h ct (by have:=Tm.Zcp t;lia);have te:=Zh (ht t.d s.d l a b c h) (decide_eq_true lm);have x1:xs1 (P.tbl (n+250)) Zjs (vl ro t.d k s.d l a b c) h=.ok (.nx,vl ro t.d k s.d l (J an.d) b c) h:=Zl (Zv (sc.run H.d.c (n+246) hk) rfl);have q5:∀ {w:Str}{s':Ma},an.d=.tup [.str w,s'.d]->w≠O "value" -> w≠O "stuck" -> xs2 (P.tbl (n+250)) ZjS (vl ro t.d k s.d l a b c) h=xs2 (P.tbl (n+250)) (.cons ZgI .nil) (vl ro t.d k s'.d l (J an.d) b c) h:=λe n1 n2=>by
       rw [e] at x1 ⊢;exact(Za x1).trans ((Za ((Zf (ZhU (Zh (Zad rfl rfl) (decide_eq_false n1)) (Zh (Zad rfl rfl) (decide_eq_false n2)))).trans rfl)).trans (Za rfl))
     cases sp with
     |value v =>
       rw [stp,v,if_pos rfl] at e3;exact⟨_,_,g1,ZhF te ((Za x1).trans (Zd ((Zi (Zqp (Zh (Zad (x:=O "value") rfl rfl) rfl))).trans (Zd (Zu ((Zp (Zv e3 rfl) rfl).trans Zq8)))))),.inr rfl⟩
     |stuck nv er =>
       rw [stp,nv,er] at e3;exact⟨_,_,g1,ZhF te ((Za x1).trans (Zd ((Zi (ZhU (Zh (Zad (x:=O "stuck") rfl rfl) rfl) (Zh (Zad (x:=O "stuck") rfl rfl) rfl))).trans (Zd (Zu ((Zp (Zv e3 rfl) rfl).trans Zq8)))))),.inr rfl⟩
     |@quiet s' σ' d' er =>
       have ll:left C s'<left C s:=by
         cases sc with
         |quiet e r q=>exact Cs.ZsW d.r e
       obtain⟨f,S,g,e,q⟩:=ZqL H n hN hG ht m s' σ' t l h _ b c er (by lia) d' hz ct hk;exact⟨f,S,g,(Zdn te ((q5 rfl (by decide) (by decide)).trans ((Za ((Zf (Zh (Zad (x:=O "quiet") rfl rfl) rfl)).trans rfl)).trans rfl))).trans e,q⟩
     |@loud s' σ' d' nv er =>
       have ll:left C s'<=left C s+C.length/\s'.pl.length<=500:=by
         cases sc with
         |loud e q0 hs r q=>have:=Cs.Zuv e;exact⟨Cs.ZsX e,by lia⟩
       obtain⟨cu,_,du⟩:=Tm.ZsL nv ct hz er;rw [stp,nv,er,if_neg Ow] at e3;obtain⟨g2,e4⟩:=Zr3 H (n+242) hN d' hG ll.2 (keep (g:=g1) hk);generalize ru:read σ'=u at *;obtain⟨g3,e5⟩:=Gn.Zm3 H.m 240 (n+9) u (h++g1++g2) du;have hb:=q5 (w:=O "loud") rfl (by decide) (by decide);have x4:xs1 (P.tbl (n+250)) ZgI (vl ro t.d k s'.d l (J (Ce.Ans.loud s').d) b c) h=xs2 (P.tbl (n+250)) (.cons Zgi (.cons Zgh (.cons Zgg (.cons Zgf .nil)))) (vu ro t.d k s' l u (rdo u)) (h++g1++g2) :=
         (Zi (Zh (Zad (x:=O "loud") rfl rfl) rfl)).trans ((Za (ρ1:=vl ro t.d k s'.d (l+1) (J (Ce.Ans.loud s').d) b c) (R:=h) rfl).trans ((Za (Zl (Zv e3 rfl))).trans (Za (Zl (Zv e4 rfl)))))
       have w1:∀ o h,tst (P.tbl (n+250)) (.ex (.cmp .NotEq (.ix (.var 6) (.ci 0)) (.Ci_ "loud"))) (vu ro t.d k s' l u o) h=.ok Wy h:=λo h=>Zh (ZoL (x:=O "loud") rfl rfl) rfl;by_cases hu:u.size<=120
       . rw [rdo,if_pos hu] at x4;have jA:=ZqS (U:=P.tbl (n+250)) (e:=.var 7) (S:=vu ro t.d k s' l u u.d) (h:=h++g1++g2) (x:=u.d) rfl (by cases u<;>nofun);obtain⟨_,sh⟩:=Gn.ZwS cu (by lia) (h++g1++g2);have t6:tst (P.tbl (n+250)) Zf5 (vu ro t.d k s' l u u.d) (h++g1++g2)=.ok Wy (h++g1++g2++g3):=by
           refine ZhU (R:=h++g1++g2) (Zb9 (b:=false) ?_) (Zh (ZvP (Zv e5 rfl) rfl) (decide_eq_false (by lia)));rw [ZvV];show qe.bnd (.ok u.d _) _=_;rw [Zq,sh,Zq];show qe.bnd (.ok u.d _) _=_;rw [Zq,sh,Zq,decide_eq_true rfl];rfl
         have w:=Zdn (n:=m) te (hb.trans ((Za (x4.trans ((Za ((Zf (ZhU (w1 _ _) (ZrD jA))).trans rfl)).trans ((Za ((Zf jA).trans rfl)).trans ((Za ((Zf t6).trans rfl)).trans ((Za (ρ1:=vu ro u.d k s' l u u.d) (R:=h++g1++g2++g3) rfl).trans rfl)))))).trans rfl));obtain⟨f,S,g,e,q⟩:=ZqL H n hN hG ht m s' σ' u (l+1) (h++g1++g2++g3) (J (Ce.Ans.loud s').d) (J (lou u)) (J u.d) ru (by
           obtain⟨M',rfl⟩:∃ M',qd=l+1+M':=⟨qd-(l+1),by lia⟩
           rw [show l+1+M'-l=M'+1 by lia,Nat.add_mul] at hl;rw [show l+1+M'-(l+1)=M' by lia]
           lia) d' hu cu (keep (keep (keep hk)))
         refine⟨f,S,g1++g2++g3++g,w.trans (e.trans ?_),q⟩;simp only [Oz]
       . rw [rdo,if_neg hu] at x4;have t4:tst (P.tbl (n+250)) Zf6 (vu ro t.d k s' l u .non) (h++g1++g2)=.ok Wy (h++g1++g2++g3):=ZhU (w1 _ _) (Zn4 (ZqR rfl) (Zh (Zy3 (Zv e5 rfl) rfl) (decide_eq_false (by lia))));have w:=ZhF (n:=m) te (hb.trans (Zd (x4.trans ((Za ((Zf t4).trans rfl)).trans (Zd ((Zi (ZqR rfl)).trans (Zd rfl)))))));simp only [Oz] at w;exact⟨_,_,_,w,.inr rfl⟩
   . exact⟨_,_,[],by rw [Ys];exact Zfz (Zh (ht _ _ _ _ _ _ _) (decide_eq_false lm)),.inl rfl⟩
end
def ZuL(hc:P.tb.lookup (O "_law_cell_at")=J Gn.Zax)(n:Nat)(zs:List Int):∃v,∀h,run P (n+1) (O "_law_cell_at") [.ro (zs.map .int),.int 0] h=.ok (.int v) h:=by
 cases zs with
 |nil=>exact⟨0,λh=>by rw[Zg hc rfl];simp[Gn.Zax,Gn.ZcW,ZF,ZcV,ZmF,seqOf,lstOf]⟩
 |cons z zs=>
  refine⟨z,λh=>?_⟩;have:(0:Int)<(zs.length:Int)+1:=by lia
  rw[Zg hc rfl];simp[Gn.Zax,Gn.ZcW,ZF,ZcV,ZmF,seqOf,lstOf,this]
theorem Zk5(F:List Nat):∀(L:List (List Ce.Rw)) (a:Nat),(Ce.flat F a L).length=(L.map List.length).sum
 |[],_=>rfl
 |r::L,a=>by rw[Ce.flat,OA,Yt,Zk5 F L];simp
def Zrl(t:T):(Ce.code t).length<=3*t.size+1:=by
 have:=Ce.ZaY t [] Wy 0 1;rw[Ce.code,Zk5,Ce.units];simp only[Op,OI,OA,Os,List.length_nil]
 lia
theorem Zw1 (H:Lw P) (zs:List Int) (hz:zs.length<=63):∃ h',run P (250+1) (O "law") [.ro (zs.map .int)] []=.ok (.bl Wx) h':=by
 obtain⟨t,R,e1,ct,st,dt,_,_⟩:=Gn.Zom H.m (N:=249) (by lia) zs 1 [] (by lia);obtain⟨v,e2⟩:=ZuL H.cell 249 zs;obtain⟨qd,hM⟩:∃ qd:Nat,Gn.mixed v 1%59=(qd:Int):=⟨(Gn.mixed v 1%59).toNat,by have:=Int.emod_nonneg (Gn.mixed v 1) (b:=59) (by decide);lia⟩
 have mQ:qd<=59:=by have:=Int.emod_lt_of_pos (Gn.mixed v 1) (b:=59) (by decide);lia
 obtain⟨h2,k,e5,hk,_,_,old⟩:=Ce.ZuK H.d.c 244 t ct (by lia) R;have d:=Ci.begin t ct;have cl:=Zrl t;have rt:read (Sta.go t .nil [])=t:=Tm.ZbS t (λx=>rfl);have e6:run P 250 (O "code_begun") [.ref k] h2=.ok (Ma.d ⟨0,[],[],[]⟩) h2:=by
   rw [Zg H.d.c.code_begun (by rfl)];exact rfl
 generalize D.ro (zs.map .int)=ro at *;have ht:∀ td sd l a b c h,tst (P.tbl (0+250)) ZhC (vl ro td k sd l a b c) h=.ok (Wz (l<1+qd)) h:=λtd sd l a b c h =>
   Zh (Zvt (x:=(l:Int)) (y:=1+(qd:Int)) rfl ((Zj (x:=.int 1) rfl ((Zj (Zv (Gn.ZjC H.m 249 v 1 h (by decide)) (Zc (Zv (e2 h) rfl) rfl)) rfl).trans (by rw [ZM,hM];decide))).trans rfl)) (decide_eq_decide.mpr (by lia))
 have hL:1000000<=P.L:=H.d.c.big;obtain⟨f,S,g,e7,gd⟩:=ZqL H 0 (by lia) (by lia) ht P.L _ _ t 0 h2 M M M rt (by
   have:(1+qd-0)*((Ce.code t).length+1)<=60*302:=Nat.mul_le_mul (by lia) (by lia);simp only [left,Oy,List.sum_nil]
   lia) d (by lia) ct hk
 have x1:xs1 (P.tbl 250) Zn0 [J ro,M,M,M,M,M,M,M] []=.ok (.nx,[J ro,J t.d,M,M,M,M,M,M]) R:=Zl (Zv e1 rfl);have x2:xs1 (P.tbl 250) ZnZ [J ro,J t.d,M,M,M,M,M,M] R=.ok (.nx,[J ro,J t.d,J (.ref k),M,M,M,M,M]) h2:=Zl (Zv e5 rfl);have x3:xs1 (P.tbl 250) ZnY [J ro,J t.d,J (.ref k),M,M,M,M,M] h2=.ok (.nx,[J ro,J t.d,J (.ref k),J (Ma.d ⟨0,[],[],[]⟩),M,M,M,M]) h2:=Zl (Zv e6 rfl);have x5:xs1 (P.tbl 250) Zkj (vl ro t.d k (Ma.d ⟨0,[],[],[]⟩) 0 M M M) h2=.ok (f,S) (h2++g):=e7;rw [Zg H.law (by rfl)];have w:=(Za x1).trans ((Za x2).trans ((Za x3).trans (Za (r:=.cons Zkj (.cons ZnW .nil)) (s:=ZnX) (ρ1:=vl ro t.d k (Ma.d ⟨0,[],[],[]⟩) 0 M M M) (R:=h2) rfl)));rcases gd with rfl|rfl
 . exact⟨_,congrArg Ze (w.trans ((Za x5).trans (Zd rfl)))⟩
 . exact⟨_,congrArg Ze (w.trans (Zd x5))⟩
end
end K55L
section
set_option maxHeartbeats 4000000
namespace K55
open PySem L2 IV PyProof.Rows
def ZgJ:Sxs:=.w (.iff (.q (.a "Pen" V0 "used") (.a "Pen" V0 "most")) (.o (.rai (O "Wide") (.Ci_ "more places than an expression that is told may have"))) .n) (.auga [O "Pen"] V0 (O "used") K1)
def ZgE:Fd:=fd_ 1 ["self"] ZgJ
noncomputable def cG:List (Str×D):=[(O "WIDEST",.int 120),(O "BEYOND",.int 1000000),(O "CALLS",(.tup [(.str (O "call")),(.str (O "hop"))])),(O "LOUD",(.tup [(.str (O "call")),(.str (O "hop")),(.str (O "unless")),(.str (O "work"))])),(O "LEADING",(.tup [(.str (O "unless")),(.str (O "jump"))])),(O "FORMS",.kd (O "FORMS"))]
noncomputable def cD:List (Str×List (Key×D)):=[(O "FORMS",[(.inr (O "fn"),(.tup [.int 1,.int 1])),(.inr (O "rec"),(.tup [.int 2,.int 1])),(.inr (O "call"),(.tup [.int 0,.int 2])),(.inr (O "if"),(.tup [.int 0,.int 3])),(.inr (O "+"),(.tup [.int 0,.int 2])),(.inr (O "-"),(.tup [.int 0,.int 2])),(.inr (O "*"),(.tup [.int 0,.int 2])),(.inr (O "<"),(.tup [.int 0,.int 2]))])]
noncomputable def dl:List (Str×Fd×Nat):=[(O "bound_names",Ce.ZbE,6),(O "parts_of",Ce.Zdw,7),(O "front_of",Tm.Zig,8),(O "count_parts",Tm.Zfe,9),(O "built",Tm.ZnE,10),(O "bound_to",Tm.Zih,12),(O "loud_or_stuck",Ce.ZdL,13),(O "opened",Tm.Zk7,14),(O "meant_by",Tm.Zic,15),(O "within",Tm.Zk6,16),(O "chosen",Ce.Zk9,20),(O "worked",Ce.ZfR,21),(O "code_begun",Ce.ZfW,25),(O "thing_of",Ce.Zia,26),(O "quiet_state",Ce.Zfa,27),(O "entered",Ce.Zjf,28),(O "applied",Ce.Zjh,29),(O "gone_on",Ce.Zje,30),(O "reckoned",Ce.Zfm,31),(O "loud_state",Ce.ZfS,32),(O "code_step",Ce.ZgV,33),(O "function_of",Cr.Zfd,34),(O "code_read",Cr.ZgW,36),(O "count_rows",Ce.ZfV,39),(O "pieces_of",Ce.ZgT,40),(O "first_rows",Ce.ZfU,43),(O "numbered",Ce.Zib,44),(O "code_of",Ce.Zjg,45),(O "_law_cell_at",Gn.Zax,47),(O "_law_mixed",Gn.Zek,48),(O "_law_next",Gn.Zie,49),(O "_law_names",Gn.Zej,50),(O "_law_there",Gn.Zei,51),(O "_law_plain",Gn.ZgU,52),(O "_law_function",Gn.Zel,53),(O "_law_number",Gn.ZfT,54),(O "_law_any",Gn.ZeS,55),(O "_law_width",Gn.ZcD,56),(O "_law_deep",Gn.Zdx,57),(O "_law_program",Gn.Zfc,58),(O "_law_put",K55L.Zjd,59),(O "_law_done",K55L.Zif,60),(O "_law_stepped",K55L.Zfb,61),(O "_law_read",K55L.Zid,62),(O "law",K55L.Zk8,63)]
noncomputable def tb:List (Str×Fd):=dl.map λp=>(p.1,p.2.1)
noncomputable def mo1:List Ml:=[(O "take_place",O "Pen.take_place",ZgE,17,1),(O "joined",O "Pen.joined",Pw.ZfX,17,2),(O "filled",O "Pen.filled",Tm.ZfY,17,3),(O "told",O "Pen.told",Pw.Zii,17,4)]
noncomputable def mo2:List Ml:=[(O "put_on",O "Decoder.put_on",Cr.Zde,35,1),(O "put_together",O "Decoder.put_together",Cr.Za4,35,2),(O "is_within_if",O "Decoder.is_within_if",Cr.Za5,35,3),(O "is_behind_if",O "Decoder.is_behind_if",Cr.Za6,35,4),(O "jump",O "Decoder.jump",Cr.Zem,35,5),(O "go_back",O "Decoder.go_back",Cr.ZcE,35,6),(O "do_row",O "Decoder.do_row",Cr.Zdf,35,7),(O "do_next",O "Decoder.do_next",Cr.ZcF,35,8),(O "put_whole",O "Decoder.put_whole",Cr.Zb4,35,9),(O "do_all",O "Decoder.do_all",Cr.Zdg,35,10)]
noncomputable def mo3:List Ml:=[(O "add_row",O "Unit.add_row",Ce.Za2,41,1)]
noncomputable def mo4:List Ml:=[(O "wait_for",O "Coder.wait_for",Ce.Zdh,42,1),(O "begin_unit",O "Coder.begin_unit",Ce.Zco,42,2),(O "begin_function",O "Coder.begin_function",Ce.Za7,42,3),(O "do_part",O "Coder.do_part",Ce.ZdM,42,4),(O "do_all",O "Coder.do_all",Ce.Zen,42,5)]
def ms:List (Str×Fd):=[(mnm (O "Pen") (O "__init__"),Tm.Za3),(mnm (O "Decoder") (O "__init__"),Cr.ZaK),(mnm (O "Unit") (O "__init__"),Ce.ZaE),(mnm (O "Coder") (O "__init__"),Ce.Zam)]++mo1.map (λp=>(mnm (O "Pen") p.1,p.2.2.1))++mo2.map (λp=>(mnm (O "Decoder") p.1,p.2.2.1))++mo3.map (λp=>(mnm (O "Unit") p.1,p.2.2.1))++mo4.map (λp=>(mnm (O "Coder") p.1,p.2.2.1))
def pg:Pg:=⟨tb,λx=>cG.lookup x,λx=>cD.lookup x,1000000,ms⟩
noncomputable def kl:Kl:=⟨[O "Pen",O "Decoder",O "Unit",O "Coder"],[O "around",O "at",O "begun",O "code",O "done",O "most",O "pen",O "pile",O "rows",O "units",O "used",O "waiting"],mo1.map (λp=>(O "Pen",p.1))++mo2.map (λp=>(O "Decoder",p.1))++mo3.map (λp=>(O "Unit",p.1))++mo4.map (λp=>(O "Coder",p.1)),[O "Pen",O "Decoder",O "Unit",O "Coder"],[O "Wide"]⟩
abbrev Zk8:Fd:=K55L.Zk8
noncomputable def top(i:Nat):Stmt:=PySem.Challenge.pw_samestride_k55_code_loud.main.body.getD i (.Pass ⟨0,0,0,0⟩)
def mt(i j:Nat):Stmt:=inClass (top i) j
noncomputable def fs:List Str:=tb.map (·.1)
local macro_rules|`(tactic| wtm_at "al")=>`(tactic| repeat' first|exact trivial|refine' And.intro ?_ ?_)
local macro_rules|`(tactic| wtm_at "chk")=>`(tactic| exact⟨by constructor<;>decide +kernel,λ_ _ _ _ _ _ us hl=>by
 first
 |(have e:=Zwv (show us.length=0 from hl);subst e;rfl)
 |(obtain⟨a0,e⟩:=Zwu (show us.length=1 from hl);subst e;rfl)
 |(obtain⟨a0,a1,e⟩:=Zwt (show us.length=2 from hl);subst e;rfl)
 |(obtain⟨a0,a1,a2,e⟩:=Zws (show us.length=3 from hl);subst e;rfl)
 |(obtain⟨a0,a1,a2,a3,e⟩:=Zwr (show us.length=4 from hl);subst e;rfl)
 |(obtain⟨a0,a1,a2,a3,a4,e⟩:=Zwq (show us.length=5 from hl);subst e;rfl)
 |(obtain⟨a0,a1,a2,a3,a4,a5,e⟩:=Zyr (show us.length=6 from hl);subst e;rfl)
 |(obtain⟨a0,a1,a2,a3,a4,a5,a6,e⟩:=us_7 (show us.length=7 from hl);subst e;rfl),by decide +kernel⟩)
def kd:All (λp:Str×Fd×Nat=>Chk kl fs p.1 p.1 p.2.1 (top p.2.2)) dl:=by
 wtm_at "al"
 all_goals wtm_at "chk"
def km1:All (λp:Ml=>Chk kl fs p.1 p.2.1 p.2.2.1 (mt p.2.2.2.1 p.2.2.2.2)) mo1:=by
 wtm_at "al"
 all_goals wtm_at "chk"
def kk1:All (λp:Ml=>pg.look (mnm (O "Pen") p.1)=J p.2.2.1) mo1:=by
 wtm_at "al"
 all_goals kernel_rfl
def ki1:Chk kl fs (O "__init__") (O "Pen.__init__") Tm.Za3 (mt 17 0):=by wtm_at "chk"
def km2:All (λp:Ml=>Chk kl fs p.1 p.2.1 p.2.2.1 (mt p.2.2.2.1 p.2.2.2.2)) mo2:=by
 wtm_at "al"
 all_goals wtm_at "chk"
def kk2:All (λp:Ml=>pg.look (mnm (O "Decoder") p.1)=J p.2.2.1) mo2:=by
 wtm_at "al"
 all_goals kernel_rfl
def ki2:Chk kl fs (O "__init__") (O "Decoder.__init__") Cr.ZaK (mt 35 0):=by wtm_at "chk"
def km3:All (λp:Ml=>Chk kl fs p.1 p.2.1 p.2.2.1 (mt p.2.2.2.1 p.2.2.2.2)) mo3:=by
 wtm_at "al"
 all_goals wtm_at "chk"
def kk3:All (λp:Ml=>pg.look (mnm (O "Unit") p.1)=J p.2.2.1) mo3:=by
 wtm_at "al"
 all_goals kernel_rfl
def ki3:Chk kl fs (O "__init__") (O "Unit.__init__") Ce.ZaE (mt 41 0):=by wtm_at "chk"
def km4:All (λp:Ml=>Chk kl fs p.1 p.2.1 p.2.2.1 (mt p.2.2.2.1 p.2.2.2.2)) mo4:=by
 wtm_at "al"
 all_goals wtm_at "chk"
def kk4:All (λp:Ml=>pg.look (mnm (O "Coder") p.1)=J p.2.2.1) mo4:=by
 wtm_at "al"
 all_goals kernel_rfl
def ki4:Chk kl fs (O "__init__") (O "Coder.__init__") Ce.Zam (mt 42 0):=by wtm_at "chk"
end K55
end
namespace K55
open PySem L2 IV
def ZvC:pg.tb.lookup (O "law")=J Zk8:=by kernel_rfl
def mkr:Gn.Mkr pg:=⟨by kernel_rfl,by kernel_rfl,by kernel_rfl,by kernel_rfl,by kernel_rfl,.same (by kernel_rfl),.same (by kernel_rfl),.same (by kernel_rfl),by kernel_rfl,by kernel_rfl,.same (by kernel_rfl)⟩
def tre:Gn.Tre pg:=by
 constructor
 all_goals (first|kernel_rfl|decide)
def wid:Tm.Wid pg:=⟨.str (O "more places than an expression that is told may have"),by kernel_rfl⟩
def trb:Tm.Trb pg:=by
 constructor
 case toTre=>exact tre
 case tk=>obtain⟨m,e⟩:=wid;exact⟨_,e⟩
 all_goals kernel_rfl
def pnw:Pw.Pnw pg:=by
 constructor;exact trb;exact wid
 all_goals kernel_rfl
def cod:Ce.Cod pg:=by
 constructor
 all_goals (first|kernel_rfl|decide)
def dec:Cr.Dec pg:=by
 constructor;exact cod;exact pnw
 all_goals kernel_rfl
def lw:K55L.Lw pg:=by
 constructor;exact mkr;exact dec
 all_goals kernel_rfl
def runs:∀ns:List Int,ns.length<=63->∃h',run pg (250+1) (O "law") [.ro (ns.map .int)] []=.ok (.bl Wx) h':=λns hl=>K55L.Zw1 lw ns hl
end K55
section
set_option maxHeartbeats 4000000
namespace K55
open PySem L2 IV PyProof.Rows
def tp2{K:Yk}(h:K.lookup a=J ⟨.type "tuple",od,.seq #[.int x t,.int y u] n,sl⟩):RD ⟨K,mg⟩ H B (.tup [.int x,.int y]) (.ref a):=.tup (ZmY (vs:=[.int x,.int y]) h (by show 2<=sizeLine;decide) (.cons ZfI (.cons ZfI .nil))) (.cons (.int _) (.cons (.int _) .nil))
theorem md{Pr:Yh}{w:Yg}{K:Yk}{h:YG}{mg:Str->Option Yj}(X:K.In h)(G:h.Ns Yd mg)
   (hZ:Zc7 K=Wx)
   (dd:All (λp:Str×Fd×Nat=>Zwj K p.1 (top p.2.2)) dl)
   (fh:Yl K Yd (O "Pen")=J (J (.ref ca1))) (gt:Cls K ca1)
   (n1:All (λf=>YJ K (.ref ca1) f=J M) kl.ats)
   (g6:PySem.W.makesIn K ca1=Wx) (g7:Wg K (.ref ca1)=Wx)
   (i1:ZiC K ca1 (O "__init__") (O "Pen.__init__") (mt 17 0))
   (u1:All (λp:Ml=>ZiC K ca1 p.1 p.2.1 (mt p.2.2.2.1 p.2.2.2.2)) mo1)
   (fg:Yl K Yd (O "Decoder")=J (J (.ref ca2))) (gr:Cls K ca2)
   (n2:All (λf=>YJ K (.ref ca2) f=J M) kl.ats)
   (gZ:PySem.W.makesIn K ca2=Wx) (g5:Wg K (.ref ca2)=Wx)
   (i2:ZiC K ca2 (O "__init__") (O "Decoder.__init__") (mt 35 0))
   (u2:All (λp:Ml=>ZiC K ca2 p.1 p.2.1 (mt p.2.2.2.1 p.2.2.2.2)) mo2)
   (fc:Yl K Yd (O "Unit")=J (J (.ref ca3))) (gq:Cls K ca3)
   (n3:All (λf=>YJ K (.ref ca3) f=J M) kl.ats)
   (gX:PySem.W.makesIn K ca3=Wx) (gY:Wg K (.ref ca3)=Wx)
   (i3:ZiC K ca3 (O "__init__") (O "Unit.__init__") (mt 41 0))
   (u3:All (λp:Ml=>ZiC K ca3 p.1 p.2.1 (mt p.2.2.2.1 p.2.2.2.2)) mo3)
   (fb:Yl K Yd (O "Coder")=J (J (.ref ca4))) (gn:Cls K ca4)
   (n4:All (λf=>YJ K (.ref ca4) f=J M) kl.ats)
   (gV:PySem.W.makesIn K ca4=Wx) (gW:Wg K (.ref ca4)=Wx)
   (i4:ZiC K ca4 (O "__init__") (O "Coder.__init__") (mt 42 0))
   (u4:All (λp:Ml=>ZiC K ca4 p.1 p.2.1 (mt p.2.2.2.1 p.2.2.2.2)) mo4)
   (io:Yl K Yd (O "Wide")=J (J (.ref xa1))) (ij:PySem.W.typeIn K (.ref xa1)=J (.type "type")) (ii:PySem.W.isClsIn K xa1=Wx) (ig:YV K (.ref xa1) (.type "BaseException")=J Wx) (ie:PySem.W.excIn K xa1 [.type "ValueError",.type "Exception",.type "BaseException",.type "object"] "ValueError.__new__"=Wx) (ic:YV K (.ref xa1) (.ref xa1)=J Wx)
   (zz:All (λx:Str=>Yl K Yd x=J M) ZnU)
   (eN:Yl K Yd (O "WIDEST")=J (J (.int 120 t101)))
   (eM:Yl K Yd (O "BEYOND")=J (J (.int 1000000 t103)))
   (eI:K.lookup q105=J ⟨.type "tuple",r106,.seq #[.str (O "call") t110,.str (O "hop") t111] n107,v108⟩)
   (eL:Yl K Yd (O "CALLS")=J (J (.ref q105)))
   (eG:K.lookup q113=J ⟨.type "tuple",r114,.seq #[.str (O "call") t118,.str (O "hop") t119,.str (O "unless") t120,.str (O "work") t121] n115,v116⟩)
   (eK:Yl K Yd (O "LOUD")=J (J (.ref q113)))
   (eF:K.lookup q123=J ⟨.type "tuple",r124,.seq #[.str (O "unless") t128,.str (O "jump") t129] n125,v126⟩)
   (eJ:Yl K Yd (O "LEADING")=J (J (.ref q123)))
   (eB:K.lookup q138=J ⟨.type "tuple",r139,.seq #[.int 1 t143,.int 1 t144] n140,v141⟩)
   (eA:K.lookup q147=J ⟨.type "tuple",r148,.seq #[.int 2 t152,.int 1 t153] n149,v150⟩)
   (ez:K.lookup q156=J ⟨.type "tuple",r157,.seq #[.int 0 t161,.int 2 t162] n158,v159⟩)
   (ee:K.lookup q165=J ⟨.type "tuple",r166,.seq #[.int 0 t170,.int 3 t171] n167,v168⟩)
   (d9:K.lookup q174=J ⟨.type "tuple",r175,.seq #[.int 0 t179,.int 2 t180] n176,v177⟩)
   (d7:K.lookup q183=J ⟨.type "tuple",r184,.seq #[.int 0 t188,.int 2 t189] n185,v186⟩)
   (dZ:K.lookup q192=J ⟨.type "tuple",r193,.seq #[.int 0 t197,.int 2 t198] n194,v195⟩)
   (dY:K.lookup q201=J ⟨.type "tuple",r202,.seq #[.int 0 t206,.int 2 t207] n203,v204⟩)
   (cm:Yl K Yd (O "FORMS")=J (J (.ref q131)))
   (eE:K.lookup q131=J ⟨.type "dict",M,.dict #[⟨j136,.str (O "fn") t137,.ref q138⟩,⟨j145,.str (O "rec") t146,.ref q147⟩,⟨j154,.str (O "call") t155,.ref q156⟩,⟨j163,.str (O "if") t164,.ref q165⟩,⟨j172,.str (O "+") t173,.ref q174⟩,⟨j181,.str (O "-") t182,.ref q183⟩,⟨j190,.str (O "*") t191,.ref q192⟩,⟨j199,.str (O "<") t200,.ref q201⟩] e132,#[]⟩)
   (df:j136=hashStr w (O "fn"))
   (de:j145=hashStr w (O "rec"))
   (db:j154=hashStr w (O "call"))
   (c9:j163=hashStr w (O "if"))
   (c8:j172=hashStr w (O "+"))
   (cZ:j181=hashStr w (O "-"))
   (cY:j190=hashStr w (O "*"))
   (cX:j199=hashStr w (O "<"))
   (dg:(q131==Ye)=Wy):Md Pr w K mg pg kl:=by
 have cO:∃ a aj,mg (O "FORMS")=J (.ref a)/\DkK Pr w K a aj/\∀ H B,RKs ⟨K,mg⟩ H B (cD.lookup (O "FORMS") |>.getD []) aj:=by
   refine⟨q131,[(YE (O "fn"),.ref q138),(YE (O "rec"),.ref q147),(YE (O "call"),.ref q156),(YE (O "if"),.ref q165),(YE (O "+"),.ref q174),(YE (O "-"),.ref q183),(YE (O "*"),.ref q192),(YE (O "<"),.ref q201)],YO X G cm,⟨_,_,_,[(YE (O "fn"),.ref q138),(YE (O "rec"),.ref q147),(YE (O "call"),.ref q156),(YE (O "if"),.ref q165),(YE (O "+"),.ref q174),(YE (O "-"),.ref q183),(YE (O "*"),.ref q192),(YE (O "<"),.ref q201)],eE,⟨rfl,rfl,rfl⟩,rfl,?_,(.cons (Zy _ t137) rfl (.cons (Zy _ t146) rfl (.cons (Zy _ t155) rfl (.cons (Zy _ t164) rfl (.cons (Zy _ t173) rfl (.cons (Zy _ t182) rfl (.cons (Zy _ t191) rfl (.cons (Zy _ t200) rfl .nil)))))))),(by show ([YE (O "fn"),YE (O "rec"),YE (O "call"),YE (O "if"),YE (O "+"),YE (O "-"),YE (O "*"),YE (O "<")]:List Key).Nodup;decide +kernel),(.cons ⟨rfl,Zai⟩ (.cons ⟨rfl,Zai⟩ (.cons ⟨rfl,Zai⟩ (.cons ⟨rfl,Zai⟩ (.cons ⟨rfl,Zai⟩ (.cons ⟨rfl,Zai⟩ (.cons ⟨rfl,Zai⟩ (.cons ⟨rfl,Zai⟩ .nil)))))))),(by show 8<=sizeLine;decide),dg⟩,λ_ _=>(.cons (tp2 eB) (.cons (tp2 eA) (.cons (tp2 ez) (.cons (tp2 ee) (.cons (tp2 d9) (.cons (tp2 d7) (.cons (tp2 dZ) (.cons (tp2 dY) .nil))))))))⟩;exact(by
       intro e he;simp only [List.mem_toArray,O3,List.not_mem_nil,or_false] at he;rcases he with rfl|rfl|rfl|rfl|rfl|rfl|rfl|rfl
       . exact⟨YE (O "fn"),Zy (O "fn") t137,df⟩
       . exact⟨YE (O "rec"),Zy (O "rec") t146,de⟩
       . exact⟨YE (O "call"),Zy (O "call") t155,db⟩
       . exact⟨YE (O "if"),Zy (O "if") t164,c9⟩
       . exact⟨YE (O "+"),Zy (O "+") t173,c8⟩
       . exact⟨YE (O "-"),Zy (O "-") t182,cZ⟩
       . exact⟨YE (O "*"),Zy (O "*") t191,cY⟩
       . exact⟨YE (O "<"),Zy (O "<") t200,cX⟩
     )
 refine⟨hZ,λx kvs hx=>?_,λx d hx=>?_,?_,λx fd hx=>?_,?_,?_,?_,?_⟩
 . have hm:(x,kvs)∈cD:=lookup_mem hx;have e:(x,kvs)=(O "FORMS",(cD.lookup (O "FORMS") |>.getD [])):=by
     simp only [cD,O3,List.not_mem_nil,or_false] at hm;exact hm
   cases e;exact cO
 . have hm:(x,d)∈cG:=lookup_mem hx;have all:All (λp:Str×D=>∃ v u,mg p.1=J u/\RelV v u/\∀ H B,RD ⟨K,mg⟩ H B p.2 v) cG:=⟨⟨.int 120,_,YO X G eN,ZfI,λ_ _=>(.int _)⟩,⟨.int 1000000,_,YO X G eM,ZfI,λ_ _=>(.int _)⟩,⟨.ref q105,_,YO X G eL,Zai,λ_ _=>(.tup (ZmY (vs:=[(.str (O "call")),(.str (O "hop"))]) eI (by show 2<=sizeLine;decide) (.cons ZbI (.cons ZbI .nil))) (.cons (.str _ (by decide +kernel)) (.cons (.str _ (by decide +kernel)) .nil)))⟩,⟨.ref q113,_,YO X G eK,Zai,λ_ _=>(.tup (ZmY (vs:=[(.str (O "call")),(.str (O "hop")),(.str (O "unless")),(.str (O "work"))]) eG (by show 4<=sizeLine;decide) (.cons ZbI (.cons ZbI (.cons ZbI (.cons ZbI .nil))))) (.cons (.str _ (by decide +kernel)) (.cons (.str _ (by decide +kernel)) (.cons (.str _ (by decide +kernel)) (.cons (.str _ (by decide +kernel)) .nil)))))⟩,⟨.ref q123,_,YO X G eJ,Zai,λ_ _=>(.tup (ZmY (vs:=[(.str (O "unless")),(.str (O "jump"))]) eF (by show 2<=sizeLine;decide) (.cons ZbI (.cons ZbI .nil))) (.cons (.str _ (by decide +kernel)) (.cons (.str _ (by decide +kernel)) .nil)))⟩,⟨.ref q131,_,YO X G cm,rfl,λ_ _=>.kd (YO X G cm)⟩,trivial⟩;exact all.mem _ hm
 . exact(ZkO X G zz).mem
 . exact(ZnK X G dd kd).mem _ (lookup_mem hx)
 . have all:All (λC=>∃ a,mg C=J (.ref a)/\Cls K a/\∀ f∈kl.ats,ZbD K a f) kl.cs:=⟨⟨ca1,YO X G fh,gt,n1.mem⟩,⟨ca2,YO X G fg,gr,n2.mem⟩,⟨ca3,YO X G fc,gq,n3.mem⟩,⟨ca4,YO X G fb,gn,n4.mem⟩,trivial⟩
   exact all.mem
 . exact(show All _ kl.ms from((((ZfN (P:=pg) X G fh gt u1 km1 kk1).app (ZfN (P:=pg) X G fg gr u2 km2 kk2)).app (ZfN (P:=pg) X G fc gq u3 km3 kk3)).app (ZfN (P:=pg) X G fb gn u4 km4 kk4))).mem
 . have all:All (λC:Str=>∃ a f al fd st q,mg C=J (.ref a)/\Mk K a f/\pg.look (mnm C (O "__init__"))=J fd/\BodyOk K kl (pg.tb.map (·.1)) (O "__init__") q fd st f al) kl.is:=⟨ZjJ X G fh g6 g7 i1 ki1 (by kernel_rfl),ZjJ X G fg gZ g5 i2 ki2 (by kernel_rfl),ZjJ X G fc gX gY i3 ki3 (by kernel_rfl),ZjJ X G fb gV gW i4 ki4 (by kernel_rfl),trivial⟩
   exact all.mem
 . have all:All (λC:Str=>∃ a,mg C=J (.ref a)/\XOk K a) kl.xs:=⟨⟨xa1,YO X G io,⟨⟨ij,L2.isSome_of ii,ig⟩,ie,ic⟩⟩,trivial⟩
   exact all.mem
end K55
end
section
set_option maxHeartbeats 4000000
open PySem PySem.W PyProof.Rows
local macro_rules|`(tactic| wtm_at "al")=>`(tactic| repeat' first|exact trivial|refine' And.intro ?_ ?_)
local macro_rules|`(tactic| wtm_at "dg")=>`(tactic| (refine' ⟨_,_,?na,L2.ZqY ?l ?c ?k⟩;(case na=>k_is);(case l=>k_is);(case c=>k_is);(case k=>k_is)))
local macro_rules|`(tactic| wtm_at "mg")=>`(tactic| (refine' ⟨_,_,?na,?f,?k,L2.ZqY ?l ?c ?kk⟩;(case na=>k_is);(case f=>k_is);(case l=>k_is);(case c=>k_is);(case k=>k_is);(case kk=>k_is)))
set_option maxRecDepth 100000 in
set_option maxHeartbeats 0 in
theorem PySem.Challenge.cw_samestride_k55_code_loud_holds : PySem.Challenge.rw_samestride_k55_code_loud.Holds := by
 refine K55hd ?_
 k_fill
 refine IV.Zwp (l:=PySem.Challenge.rw_samestride_k55_code_loud) (P:=K55.pg) 250 rfl rfl rfl ⟨rfl,by decide,by decide,rfl⟩ (kl:=K55.kl) (λw h Y=>PySem.W.kIn_of Y) K55.ZvC rfl K55.runs ?MM0
 case MM0=>
  intro w mg h KX G;refine' K55.md KX G ?hZ ?dd ?fh ?gt ?n1 ?g6 ?g7 ?i1 ?u1 ?fg ?gr ?n2 ?gZ ?g5 ?i2 ?u2 ?fc ?gq ?n3 ?gX ?gY ?i3 ?u3 ?fb ?gn ?n4 ?gV ?gW ?i4 ?u4 ?io ?ij ?ii ?ig ?ie ?ic ?zz ?eN ?eM ?eI ?eL ?eG ?eK ?eF ?eJ ?eB ?eA ?ez ?ee ?d9 ?d7 ?dZ ?dY ?cm ?eE ?df ?de ?db ?c9 ?c8 ?cZ ?cY ?cX ?dg
  (case hZ=>(first|k_is|kernel_rfl|decide +kernel))
  (case fh=>k_is)
  (case gt=>(refine⟨?_,?_,?_,?_⟩<;>k_is))
  (case n1=>(wtm_at "al";all_goals (dsimp only;k_is)))
  (case g6|g7=>k_is)
  (case i1=>wtm_at "mg")
  (case u1=>(wtm_at "al";all_goals wtm_at "mg"))
  (case fg=>k_is)
  (case gr=>(refine⟨?_,?_,?_,?_⟩<;>k_is))
  (case n2=>(wtm_at "al";all_goals (dsimp only;k_is)))
  (case gZ|g5=>k_is)
  (case i2=>wtm_at "mg")
  (case u2=>(wtm_at "al";all_goals wtm_at "mg"))
  (case fc=>k_is)
  (case gq=>(refine⟨?_,?_,?_,?_⟩<;>k_is))
  (case n3=>(wtm_at "al";all_goals (dsimp only;k_is)))
  (case gX|gY=>k_is)
  (case i3=>wtm_at "mg")
  (case u3=>(wtm_at "al";all_goals wtm_at "mg"))
  (case fb=>k_is)
  (case gn=>(refine⟨?_,?_,?_,?_⟩<;>k_is))
  (case n4=>(wtm_at "al";all_goals (dsimp only;k_is)))
  (case gV|gW=>k_is)
  (case i4=>wtm_at "mg")
  (case u4=>(wtm_at "al";all_goals wtm_at "mg"))
  (case io|ij=>k_is)
  (case ii|ig=>k_is)
  (case ie=>k_exc)
  (case ic=>k_is)
  (case dd=>(wtm_at "al";all_goals wtm_at "dg"))
  (case zz=>(wtm_at "al";all_goals (dsimp only;k_is)))
  (case eN|eM=>k_is)
  (case eL|eI=>k_is)
  (case eK|eG=>k_is)
  (case eJ|eF=>k_is)
  (case cm|eE=>k_is)
  (case eB|eA=>k_is)
  (case ez|ee=>k_is)
  (case d9|d7=>k_is)
  (case dZ|dY=>k_is)
  (case df=>(first|rfl|k_is|fail))
  (case de=>(first|rfl|k_is|fail))
  (case db=>(first|rfl|k_is|fail))
  (case c9=>(first|rfl|k_is|fail))
  (case c8=>(first|rfl|k_is|fail))
  (case cZ=>(first|rfl|k_is|fail))
  (case cY=>(first|rfl|k_is|fail))
  (case cX=>(first|rfl|k_is|fail))
  (case dg=>rfl)
end
